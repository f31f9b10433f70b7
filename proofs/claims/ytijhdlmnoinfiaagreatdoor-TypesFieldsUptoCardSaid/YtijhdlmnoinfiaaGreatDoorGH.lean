/-
  The walk of the law TypesOf.
-/
import Derived.Test.YtijhdlmnoinfiaaGreatDoorGA
import Derived.Test.YtijhdlmnoinfiaaGreatDoorHC
import Derived.Test.YtijhdlmnoinfiaaGreatDoorCD
set_option linter.all false
namespace Go.Proofs.YtijhdlmnoinfiaaGreatDoor
open Go.RowKit T T.Fo Ty
/-- What holds of every node of a tree holds of the listed ones. -/
theorem pre_all (F : Fo) (hF : F.AllH numIx) : ∀ x ∈ F.pre, numIx x.1 ∧ x.2.AllH numIx ∧ x.2.cnt < F.cnt := by
  induction F with
  | nil => intro x hx; cases hx
  | cons h k r ihk ihr =>
    obtain ⟨h1, h2, h3⟩ := hF
    intro x hx
    simp only [Fo.pre, List.mem_cons, List.mem_append] at hx
    simp only [Fo.cnt]
    rcases hx with rfl | hx | hx
    · exact ⟨h1, h2, by show k.cnt < _; omega⟩
    · obtain ⟨a, b, c⟩ := ihk h2 x hx; exact ⟨a, b, by omega⟩
    · obtain ⟨a, b, c⟩ := ihr h3 x hx; exact ⟨a, b, by omega⟩
theorem preT_all (h : Hd) (F : Fo) (hn : numIx h) (hF : F.AllH numIx) : ∀ x ∈ preT h F, numIx x.1 ∧ x.2.AllH numIx ∧ x.2.cnt ≤ F.cnt := by
  intro x hx
  simp only [preT, List.mem_cons] at hx
  rcases hx with rfl | hx
  · exact ⟨hn, hF, Nat.le_refl _⟩
  · obtain ⟨a, b, c⟩ := pre_all F hF x hx; exact ⟨a, b, by omega⟩
theorem ecells_at : ∀ (E : List El) (i : Nat) (e : El), E[i]? = some e → ∀ (c : Nat) (v : Value), e.cells[c]? = some v → (ecells E)[i * 9 + c]? = some v := by
  intro E
  induction E with
  | nil => intro i e he; simp at he
  | cons a l ih =>
    intro i e he c v hv
    have ha : a.cells.length = 9 := rfl
    have e0 : ecells (a :: l) = a.cells ++ ecells l := rfl
    cases i with
    | zero =>
      obtain rfl : a = e := by simpa using he
      have hc : c < a.cells.length := (List.getElem?_eq_some_iff.1 hv).1
      rw [e0, Nat.zero_mul, Nat.zero_add, List.getElem?_append_left hc, hv]
    | succ j =>
      have := ih j e (by simpa using he) c v hv
      rw [e0, List.getElem?_append_right (by rw [ha]; omega), ha, show (j + 1) * 9 + c - 9 = j * 9 + c by omega]
      exact this
theorem el_at {w : World} {base g n cap : Nat} {E : List El} (HO : w.ownsRow base 26 9 (.slice (some ⟨g, 0, none⟩) n cap) n (ecells E)) (i : Nat) (e : El) (he : E[i]? = some e) : At9 w g (i * 9) e.h e.A e.k.len e.cap := by
  have k := fun c v hv => own_cells HO (i * 9 + c) v (ecells_at E i e he c v hv)
  exact ⟨k 0 _ rfl, k 1 _ rfl, k 2 _ rfl, k 3 _ rfl, k 4 _ rfl, k 5 _ rfl, k 6 _ rfl, k 7 _ rfl, k 8 _ rfl⟩
set_option maxRecDepth 100000 in
set_option maxHeartbeats 8000000 in
theorem of_law (h : Hd) (F : Fo) (A : Option Addr) (cap : Nat) (w : World) (hG : Glot w) (hk : Kids (Lt w.heap.size) w A F) (hcap : F.len ≤ cap) (hn : numIx h) (hF : F.AllH numIx) (hc : F.cnt + 1 ≤ 1048576) :
    Calls Tryz.prog 3 #[nv h A F.len cap] w fun e w' => e = .returned (.bool true) ∧ Below w.heap.size w w' := by
  obtain ⟨m, hm⟩ : ∃ m, F.cnt + 1 = m := ⟨_, rfl⟩
  have HA : Hid (∀ V, Below w.heap.size w V → Calls Tryz.prog 10 #[] V fun e w' => e = .returned (.bool true) ∧ Below V.heap.size V w') := Lib.hid fun V hV => awake_any V (hG.below hV)
  have HC : Hid (∀ V, Below w.heap.size w V → Calls Tryz.prog 11 #[nv h A F.len cap] V fun e w' => e = .returned (.int .i64 (m : Int)) ∧ Below V.heap.size V w') := Lib.hid fun V hV => count_any h F A cap V m ((hk.below hV (Nat.le_refl _)).mono hV.size) hm (by unfold maxLen; omega)
  have HL : Hid (∀ V, Below w.heap.size w V → Calls Tryz.prog 12 #[nv h A F.len cap] V (Listed V w.heap.size (preT h F))) := Lib.hid fun V hV => list_any h F A cap V w.heap.size hV.size (hk.below hV (Nat.le_refl _)) hcap (by omega)
  have HP : Hid (∀ x ∈ preT h F, numIx x.1 ∧ x.2.AllH numIx ∧ x.2.cnt ≤ 1000000 ∧ x.2.cnt + 1 ≤ 1048576) ∨ 100 < m := by
    by_cases h100 : m ≤ 100
    · exact .inl (Lib.hid fun x hx => by obtain ⟨a, b, c⟩ := preT_all h F hn hF x hx; exact ⟨a, b, by omega, by omega⟩)
    · exact .inr (by omega)
  have HLN : Hid ((preT h F).length = m) := Lib.hid (by rw [preT_len]; omega)
  have HGw := Lib.hid hG
  obtain ⟨n0, hn0⟩ : ∃ n, F.len = n := ⟨_, rfl⟩
  rw [hn0] at HC HL ⊢
  have HB0 : Hid (Below w.heap.size w (w.alloc (.cells (nc h A n0 cap) 26))) := Lib.hid (b1 w _)
  have HN0 : Hid (Nb (w.alloc (.cells (nc h A n0 cap) 26)) w.heap.size h A n0 cap) := Lib.hid (Nb.new w h A n0 cap)
  have hmb : m ≤ 1048576 := by omega
  clear hG hk hcap hn hF hc hm hn0
  by_cases h100 : 100 < m
  · clear HP
    go_enter Tryz.func3, Tryz.ntmps3
    go_wp2_with fail
    refine (HA.out _ HB0.out).mono ?_
    rintro e w1 ⟨rfl, hb⟩
    have B1 := Lib.hid (HB0.out.trans (hb.mono (by simp)))
    obtain ⟨p0, p1, p2, p3, p4, p5, p6, p7, p8⟩ := (HN0.out.below hb).cells
    clear hb
    go_wp2_with fail
    refine (HC.out _ B1.out).mono ?_
    rintro e w2 ⟨rfl, hb⟩
    have B2 := Lib.hid (B1.out.trans (hb.mono B1.out.size))
    clear hb p0 p1 p2 p3 p4 p5 p6 p7 p8
    go_wp2
    go_ret
    exact ⟨rfl, B2.out⟩
  · have HP2 := HP.resolve_right h100
    clear HP
    go_enter Tryz.func3, Tryz.ntmps3
    go_wp2_with fail
    refine (HA.out _ HB0.out).mono ?_
    rintro e w1 ⟨rfl, hb⟩
    have B1 := Lib.hid (HB0.out.trans (hb.mono (by simp)))
    have HN1 := Lib.hid (HN0.out.below hb)
    obtain ⟨p0, p1, p2, p3, p4, p5, p6, p7, p8⟩ := HN1.out.cells
    clear hb
    go_wp2_with fail
    refine (HC.out _ B1.out).mono ?_
    rintro e w2 ⟨rfl, hb⟩
    have B2 := Lib.hid (B1.out.trans (hb.mono B1.out.size))
    have HN2 := Lib.hid (HN1.out.below hb)
    clear hb p0 p1 p2 p3 p4 p5 p6 p7 p8
    obtain ⟨p0, p1, p2, p3, p4, p5, p6, p7, p8⟩ := HN2.out.cells
    go_wp2_with fail
    refine (HL.out _ B2.out).mono ?_
    rintro e w3 ⟨g, lc, E, rfl, hown, hels, hEm, hb3, hE0⟩
    obtain ⟨n, hn⟩ : ∃ n, E.length = n := ⟨_, rfl⟩
    have hnm : n = m := by rw [← hn, ← HLN.out, ← hEm, List.length_map]
    rw [hn] at hown ⊢
    have HO := Lib.hid hown
    have HE := Lib.hid hels
    have HM := Lib.hid hEm
    have HEN := Lib.hid hn
    have B3 := Lib.hid (B2.out.trans (hb3.mono B2.out.size))
    have hg3 : g < w3.heap.size := (hown.lt g rfl).2
    have hn100 : n ≤ 100 := by omega
    clear hown hels hEm hb3 hE0 hn hnm p0 p1 p2 p3 p4 p5 p6 p7 p8 h100 hmb
    go_wp2
    go_loopw [4] (fun ix wr => ∃ i : Nat, ix = .int .i64 (i : Int) ∧ i ≤ n ∧ Below w3.heap.size w3 wr) (fun ix _ => n - (intOf ix).toNat)
    case atStart => exact ⟨0, rfl, Nat.zero_le _, Below.refl _ _⟩
    case round =>
      obtain ⟨i, rfl, hi, hbr⟩ := hrel
      have HBR := Lib.hid hbr
      by_cases hlt : i < n
      · have hiE : i < E.length := by rw [HEN.out]; exact hlt
        obtain ⟨x, hx⟩ : ∃ x, E[i]? = some x := ⟨E[i], by simp [hiE]⟩
        have hmem : (x.h, x.k) ∈ preT h F := by
          rw [← HM.out]
          exact List.mem_map.2 ⟨x, List.mem_of_getElem? hx, rfl⟩
        obtain ⟨q1, q2, q3, q4⟩ := HP2.out _ hmem
        obtain ⟨q5, q6⟩ := HE.out x (List.mem_of_getElem? hx)
        have HAT := Lib.hid (el_at HO.out i x hx)
        obtain ⟨eh, ek, eA, ec⟩ := x
        have BB : ∀ V, Below w3.heap.size w3 V → Below w.heap.size w V := fun V hV => B3.out.trans (hV.mono B3.out.size)
        have HCP : Hid (∀ V, Below w3.heap.size w3 V → Calls Tryz.prog 14 #[nv eh eA ek.len ec] V fun e w' => ∃ A c, e = .returned (nv eh A ek.len c) ∧ (ek.len ≤ c ∧ Kids (Lt w'.heap.size) w' A ek) ∧ Below V.heap.size V w') := Lib.hid fun V hV => (copy_any eh ek eA ec V ((q6.carry fun b hS => ⟨hS, hV.block b (Nat.lt_of_lt_of_le hS B3.out.size)⟩).mono (Nat.le_trans B3.out.size hV.size)) q4).mono fun e w' hq => by
          obtain ⟨A, c, he, h1, hk, hb⟩ := hq
          exact ⟨A, c, he, ⟨h1, hk.carry fun b hb => ⟨hb.2, rfl⟩⟩, hb⟩
        have HY : Hid (∀ V A c, Below w3.heap.size w3 V → (ek.len ≤ c ∧ Kids (Lt V.heap.size) V A ek) → Calls Tryz.prog 13 #[nv eh A ek.len c] V (Res V (ofK eh ek.len) (ofN eh ek.len) (ofB eh ek.len))) := Lib.hid fun V A c hV hk => yOf_any eh ek A c V (HGw.out.below (BB V hV)) hk.2 hk.1 q1 q2 q3
        have HR : Hid (∀ V, Calls Tryz.prog 15 #[nv eh eA ek.len ec] V (Res V (ofK eh ek.len) (ofN eh ek.len) (ofB eh ek.len))) := Lib.hid fun V => rOf_any eh ek eA ec V q1
        have HAT2 : Hid (∀ V, Below w3.heap.size w3 V → At9 V g (i * 9) eh eA ek.len ec) := Lib.hid fun V hV => HAT.out.carry (hV.block g hg3)
        obtain ⟨K, hK⟩ : ∃ K, ofK eh ek.len = K := ⟨_, rfl⟩
        obtain ⟨S, hS⟩ : ∃ S, ofN eh ek.len = S := ⟨_, rfl⟩
        obtain ⟨b, hb⟩ : ∃ b, ofB eh ek.len = b := ⟨_, rfl⟩
        obtain ⟨l, hl⟩ : ∃ l, ek.len = l := ⟨_, rfl⟩
        rw [hK, hS, hb, hl] at HY
        rw [hK, hS, hb, hl] at HR
        rw [hl] at HCP HAT2
        have eK : (K != K) = false := by simp
        have eS : (S.toList != S.toList) = false := by simp
        have eb : (b != b) = false := by simp
        clear hK hS hb hl q1 q2 q3 q4 q5 q6 hmem hx HAT hiE BB
        have hi0 : (0 : Int) ≤ i := by omega
        have hi1 : (i : Int) < n := by omega
        have hgr : g < wr.heap.size := Nat.lt_of_lt_of_le hg3 hbr.size
        obtain ⟨c0, c1, c2, c3, c4, c5, c6, c7, c8⟩ := HAT2.out wr hbr
        clear hbr
        go_wp2_with fail
        refine (HCP.out _ HBR.out).mono ?_
        rintro e v1 ⟨A1, d1, rfl, hk1, hb⟩
        have B4 := Lib.hid (HBR.out.trans (hb.mono HBR.out.size))
        have HK1 := Lib.hid hk1
        clear hb hk1 c0 c1 c2 c3 c4 c5 c6 c7 c8 hgr
        go_wp2_with fail
        refine (HY.out _ _ _ B4.out HK1.out).mono ?_
        rintro e v2 ⟨rfl, hb⟩
        have hb5 := B4.out.trans (hb.mono B4.out.size)
        have B5 := Lib.hid hb5
        obtain ⟨c0, c1, c2, c3, c4, c5, c6, c7, c8⟩ := HAT2.out _ hb5
        have hgr : g < v2.heap.size := Nat.lt_of_lt_of_le hg3 hb5.size
        clear hb hb5
        go_wp2_with fail
        refine (HR.out _).mono ?_
        rintro e v3 ⟨rfl, hb⟩
        obtain ⟨r0, r1, _⟩ := box2 ((hb.block v2.heap.size (by simp)).trans (heap_alloc_new v2 (.cells #[.int .i64 K, .string S] 24)))
        have rz : v2.heap.size < v3.heap.size := by have := hb.size; simp at this; omega
        have n1 : ¬ v2.heap.size = v3.heap.size := by omega
        have B6 := Lib.hid ((B5.out.trans (b1 v2 (.cells #[.int .i64 K, .string S] 24) |>.mono B5.out.size)).trans (hb.mono (Nat.le_trans B5.out.size (by simp))))
        clear hb c0 c1 c2 c3 c4 c5 c6 c7 c8 hgr
        go_wp2
        go_roundw
        case rel => exact ⟨i + 1, by go_num, by omega, (B6.out).trans (b1 v3 _ |>.mono B6.out.size)⟩
        case measure => simp [intOf]; omega
      · obtain rfl : i = n := by omega
        go_wp2
        go_ret
        exact ⟨rfl, B3.out.trans (HBR.out.mono B3.out.size)⟩
end Go.Proofs.YtijhdlmnoinfiaaGreatDoor
