/-
  The walks of SameFields and of the law TypesFields.
-/
import Derived.Test.YtijhdlmnoinfiaaGreatDoorGH
import Derived.Test.YtijhdlmnoinfiaaGreatDoorHF
set_option linter.all false
namespace Go.Proofs.YtijhdlmnoinfiaaGreatDoor
open Go.RowKit T T.Fo Ty
theorem fls_len : ∀ (F : Fo) (l : List Fl), fls F = some l → l.length = F.len := by
  intro F
  induction F with
  | nil => intro l h; cases h; rfl
  | cons h k r _ ih =>
    intro l e
    have e' : ((fl1 h k).bind fun x => (fls r).map (x :: ·)) = some l := e
    cases h1 : fl1 h k with
    | none => rw [h1] at e'; cases e'
    | some x =>
      rw [h1] at e'
      cases h2 : fls r with
      | none => rw [h2] at e'; cases e'
      | some l' =>
        rw [h2] at e'
        obtain rfl : x :: l' = l := Option.some.inj e'
        simp only [List.length_cons, Fo.len, ih l' h2]
        try omega
theorem flds_len (nm : ByteArray) : ∀ (F : Fo) (l : List Fl), flds nm F = some l → l.length ≤ F.cnt := by
  intro F
  induction F with
  | nil => intro l h; cases h
  | cons h k r _ ih =>
    intro l e
    have e' : (if decide (h.kind = 2) && decide (h.text.toList = nm.toList) then fls k else flds nm r) = some l := e
    simp only [Fo.cnt]
    by_cases hc : (decide (h.kind = 2) && decide (h.text.toList = nm.toList)) = true
    · rw [if_pos hc] at e'
      have := fls_len k l e'
      have := k.len_le_cnt
      omega
    · rw [if_neg hc] at e'
      have := ih l e'
      omega
/-- The cells of a row of fields. -/
def FCells (w : World) (a : Nat) (l : List Fl) : Prop := ∀ (i : Nat) (x : Fl), l[i]? = some x → w.cell? ⟨a, i * 3, none⟩ = some (.string x.n) ∧ w.cell? ⟨a, i * 3 + 1, none⟩ = some (.int .i64 x.k) ∧ w.cell? ⟨a, i * 3 + 2, none⟩ = some (.string x.s)
theorem fcells_of {w : World} {base a n cap : Nat} {l : List Fl} (h : w.ownsRow base 56 3 (.slice (some ⟨a, 0, none⟩) n cap) n (fcells l)) : FCells w a l := fun i x hx =>
  have k := fun c v hv => own_cells h (i * 3 + c) v (fcells_at l i x hx c v hv)
  ⟨k 0 _ rfl, k 1 _ rfl, k 2 _ rfl⟩
set_option maxRecDepth 100000 in
theorem samef0 (A B : Option Addr) (ca cb : Nat) (w : World) : Calls Tryz.prog 32 #[.slice A 0 ca, .slice B 0 cb] w fun e w' => e = .returned (.bool true) ∧ Below w.heap.size w w' := by
  go_enter Tryz.func32, Tryz.ntmps32
  go_wp2
  go_loop [5] (fun i => i = .int .i64 0) (fun _ => 0)
  case atStart => rfl
  case round =>
    obtain rfl := hrel
    go_wp2
    go_ret
    exact ⟨rfl, Below.refl _ _⟩
set_option maxRecDepth 100000 in
set_option maxHeartbeats 2000000 in
theorem samef_n (a b ca cb : Nat) (l : List Fl) (w : World) (hl : l.length ≤ 1000000) (ha : FCells w a l) (hb : FCells w b l) : Calls Tryz.prog 32 #[.slice (some ⟨a, 0, none⟩) l.length ca, .slice (some ⟨b, 0, none⟩) l.length cb] w fun e w' => e = .returned (.bool true) ∧ Below w.heap.size w w' := by
  have HA := Lib.hid ha
  have HB := Lib.hid hb
  obtain ⟨n, hn⟩ : ∃ n, l.length = n := ⟨_, rfl⟩
  have HN := Lib.hid hn
  rw [hn] at hl ⊢
  clear ha hb hn
  go_enter Tryz.func32, Tryz.ntmps32
  go_wp2
  go_loopw [5] (fun ix wr => ∃ i : Nat, ix = .int .i64 (i : Int) ∧ i ≤ n ∧ ∃ d, wr = w.drewN d) (fun ix _ => n - (intOf ix).toNat)
  case atStart => exact ⟨0, rfl, Nat.zero_le _, 0, rfl⟩
  case round =>
    obtain ⟨i, rfl, hi, d, rfl⟩ := hrel
    by_cases hlt : i < n
    · have hi' : i < l.length := by rw [HN.out]; exact hlt
      obtain ⟨x, hx⟩ : ∃ x, l[i]? = some x := ⟨l[i], by simp [hi']⟩
      obtain ⟨a0, a1, a2⟩ := HA.out i x hx
      obtain ⟨b0, b1', b2⟩ := HB.out i x hx
      obtain ⟨xn, xk, xs⟩ := x
      have q0 : (xn.toList != xn.toList) = false := by simp
      have q1 : (xk != xk) = false := by simp
      have q2 : (xs.toList != xs.toList) = false := by simp
      clear hx hi'
      have y1 : (0 : Int) ≤ i := by omega
      have y2 : (i : Int) < n := by omega
      go_wp2
      go_quiet (fail)
      go_wp2
      go_roundw
      case rel => exact ⟨i + 1, by go_num, by omega, d + nq, rfl⟩
      case measure => simp [intOf]; omega
    · obtain rfl : i = n := by omega
      go_wp2
      go_ret
      exact ⟨rfl, below_draws _ _ _⟩
theorem samef_rows {base base' ca cb n : Nat} {A B : Option Addr} {l : List Fl} {V : World} (hl : l.length ≤ 1000000) (hn : l.length = n) (hA : V.ownsRow base 56 3 (.slice A n ca) n (fcells l)) (hB : V.ownsRow base' 56 3 (.slice B n cb) n (fcells l)) :
    Calls Tryz.prog 32 #[.slice A n ca, .slice B n cb] V fun e w' => e = .returned (.bool true) ∧ Below V.heap.size V w' := by
  subst hn
  have hA' := hA
  have hB' := hB
  rcases hA.2 with ⟨hv, h0⟩ | ⟨g, c, cur, hv, _⟩
  · rw [h0]; exact samef0 A B ca cb V
  · injection hv with e1 e2 e3
    subst e1
    rcases hB.2 with ⟨hv, h0⟩ | ⟨g', c', cur', hv, _⟩
    · rw [h0]; exact samef0 _ B ca cb V
    · injection hv with e4 e5 e6
      subst e4
      exact samef_n g g' ca cb l V hl (fcells_of hA') (fcells_of hB')
set_option maxRecDepth 100000 in
set_option maxHeartbeats 8000000 in
theorem fields_law (h : Hd) (F : Fo) (A : Option Addr) (cap : Nat) (s : ByteArray) (w : World) (hG : Glot w) (hk : Kids (Lt w.heap.size) w A F) (hF : F.AllH numIx) (hc : F.cnt + 1 ≤ 1048576) :
    Calls Tryz.prog 8 #[nv h A F.len cap, .string s] w fun e w' => e = .returned (.bool true) ∧ Below w.heap.size w w' := by
  obtain ⟨m, hm⟩ : ∃ m, F.cnt + 1 = m := ⟨_, rfl⟩
  have HA : Hid (∀ V, Below w.heap.size w V → Calls Tryz.prog 10 #[] V fun e w' => e = .returned (.bool true) ∧ Below V.heap.size V w') := Lib.hid fun V hV => awake_any V (hG.below hV)
  have HC : Hid (∀ V, Below w.heap.size w V → Calls Tryz.prog 11 #[nv h A F.len cap] V fun e w' => e = .returned (.int .i64 (m : Int)) ∧ Below V.heap.size V w') := Lib.hid fun V hV => count_any h F A cap V m ((hk.below hV (Nat.le_refl _)).mono hV.size) hm (by unfold maxLen; omega)
  have HCP : Hid (∀ V, Below w.heap.size w V → Calls Tryz.prog 14 #[nv h A F.len cap] V fun e w' => ∃ A c, e = .returned (nv h A F.len c) ∧ Kids (Lt w'.heap.size) w' A F ∧ Below V.heap.size V w') := Lib.hid fun V hV => (copy_any h F A cap V ((hk.below hV (Nat.le_refl _)).mono hV.size) hc).mono fun e w' hq => by
    obtain ⟨A, c, he, h1, hk, hb⟩ := hq
    exact ⟨A, c, he, hk.carry fun b hb => ⟨hb.2, rfl⟩, hb⟩
  have HK := Lib.hid hk
  have HF := Lib.hid hF
  have HGw := Lib.hid hG
  have HLE : Hid (∀ l, flds s F = some l → l.length ≤ 1000000 ∨ 150 < m) := Lib.hid fun l hl => by
    have := flds_len s F l hl
    by_cases h150 : m ≤ 150
    · exact .inl (by omega)
    · exact .inr (by omega)
  have HY : Hid (∀ V A c, Below w.heap.size w V → Kids (Lt V.heap.size) V A F → F.cnt ≤ 1000000 → Calls Tryz.prog 30 #[nv h A F.len c, .string s] V (FPost V (flds s F))) := Lib.hid fun V A c hV hk hm => yfields_any h F A c s V (HGw.out.below hV) hk HF.out hm
  have HR : Hid (∀ V, Below w.heap.size w V → F.cnt ≤ 1000000 → Calls Tryz.prog 31 #[nv h A F.len cap, .string s] V (FPost V (flds s F))) := Lib.hid fun V hV hm => rfields_any h F A cap s V ((HK.out.below hV (Nat.le_refl _)).mono hV.size) HF.out hm
  have HMC : Hid (F.cnt + 1 = m) := Lib.hid hm
  obtain ⟨o, ho⟩ : ∃ o, flds s F = o := ⟨_, rfl⟩
  rw [ho] at HLE HY HR
  obtain ⟨n0, hn0⟩ : ∃ n, F.len = n := ⟨_, rfl⟩
  rw [hn0] at HC HCP HY HR ⊢
  have HB0 : Hid (Below w.heap.size w (w.alloc (.cells (nc h A n0 cap) 26))) := Lib.hid (b1 w _)
  have HN0 : Hid (Nb (w.alloc (.cells (nc h A n0 cap) 26)) w.heap.size h A n0 cap) := Lib.hid (Nb.new w h A n0 cap)
  have hmb : m ≤ 1048576 := by omega
  clear hG hk hF hc hm hn0 ho HK HF HGw
  by_cases h150 : 150 < m
  · go_enter Tryz.func8, Tryz.ntmps8
    go_wp2_with fail
    refine (HA.out _ HB0.out).mono ?_
    rintro e w1 ⟨rfl, hb⟩
    have B1 := Lib.hid (HB0.out.trans (hb.mono (by simp)))
    obtain ⟨p0, p1, p2, p3, p4, p5, p6, p7, p8⟩ := (HN0.out.below hb).cells
    clear hb
    go_wp2_with fail
    refine (HC.out _ B1.out).mono ?_
    rintro e w2 ⟨rfl, hb⟩
    have B2 := Lib.hid (B1.out.trans (hb.mono B1.out.size))
    clear hb p0 p1 p2 p3 p4 p5 p6 p7 p8
    go_wp2
    go_ret
    exact ⟨rfl, B2.out⟩
  · have HM : Hid (F.cnt ≤ 1000000) := Lib.hid (by have := HMC.out; omega)
    have HY2 : Hid ((o = none ∧ (∀ V A c, Below w.heap.size w V → Kids (Lt V.heap.size) V A F → Calls Tryz.prog 30 #[nv h A n0 c, .string s] V (FNo V)) ∧ (∀ V, Below w.heap.size w V → Calls Tryz.prog 31 #[nv h A n0 cap, .string s] V (FNo V))) ∨ (∃ l, l.length ≤ 1000000 ∧ (∀ V A c, Below w.heap.size w V → Kids (Lt V.heap.size) V A F → Calls Tryz.prog 30 #[nv h A n0 c, .string s] V (FYes V l)) ∧ (∀ V, Below w.heap.size w V → Calls Tryz.prog 31 #[nv h A n0 cap, .string s] V (FYes V l)))) := Lib.hid (by
      cases o with
      | none => exact .inl ⟨rfl, fun V A c hV hk => (HY.out V A c hV hk HM.out).mono fun e w' q => q.1 rfl, fun V hV => (HR.out V hV HM.out).mono fun e w' q => q.1 rfl⟩
      | some l => exact .inr ⟨l, (HLE.out l rfl).resolve_right h150, fun V A c hV hk => (HY.out V A c hV hk HM.out).mono fun e w' q => q.2 l rfl, fun V hV => (HR.out V hV HM.out).mono fun e w' q => q.2 l rfl⟩)
    clear HY HR HLE HMC HM
    go_enter Tryz.func8, Tryz.ntmps8
    go_wp2_with fail
    refine (HA.out _ HB0.out).mono ?_
    rintro e w1 ⟨rfl, hb⟩
    have B1 := Lib.hid (HB0.out.trans (hb.mono (by simp)))
    have HN1 := Lib.hid (HN0.out.below hb)
    obtain ⟨p0, p1, p2, p3, p4, p5, p6, p7, p8⟩ := HN1.out.cells
    clear hb
    go_wp2_with fail
    refine (HC.out _ B1.out).mono ?_
    rintro e w2 ⟨rfl, hb⟩
    have B2 := Lib.hid (B1.out.trans (hb.mono B1.out.size))
    have HN2 := Lib.hid (HN1.out.below hb)
    clear hb p0 p1 p2 p3 p4 p5 p6 p7 p8
    obtain ⟨p0, p1, p2, p3, p4, p5, p6, p7, p8⟩ := HN2.out.cells
    go_wp2_with fail
    refine (HCP.out _ B2.out).mono ?_
    rintro e w3 ⟨A1, c1, rfl, hk1, hb⟩
    have B3 := Lib.hid (B2.out.trans (hb.mono B2.out.size))
    have HN3 := Lib.hid (HN2.out.below hb)
    have HK1 := Lib.hid hk1
    clear hb hk1 p0 p1 p2 p3 p4 p5 p6 p7 p8
    rcases HY2.out with ⟨rfl, hy, hr⟩ | ⟨l, hl, hy, hr⟩
    · have HY := Lib.hid hy
      have HR := Lib.hid hr
      clear hy hr HY2
      go_wp2_with fail
      refine (HY.out _ _ _ B3.out HK1.out).mono ?_
      rintro e w4 ⟨rfl, hb⟩
      have B4 := Lib.hid (B3.out.trans (hb.mono B3.out.size))
      have HN4 := Lib.hid (HN3.out.below hb)
      clear hb
      obtain ⟨p0, p1, p2, p3, p4, p5, p6, p7, p8⟩ := HN4.out.cells
      go_wp2_with fail
      refine (HR.out _ B4.out).mono ?_
      rintro e w5 ⟨rfl, hb⟩
      have B5 := Lib.hid (B4.out.trans (hb.mono B4.out.size))
      clear hb p0 p1 p2 p3 p4 p5 p6 p7 p8
      go_wp2_with fail
      refine (samef0 _ _ _ _ _).mono ?_
      rintro e w6 ⟨rfl, hb⟩
      have B6 := Lib.hid (B5.out.trans (hb.mono B5.out.size))
      clear hb
      go_wp2
      go_ret
      exact ⟨rfl, B6.out⟩
    · have HY := Lib.hid hy
      have HR := Lib.hid hr
      have HS : Hid (∀ (V : World) (A B : Option Addr) (base base' ca cb : Nat), V.ownsRow base 56 3 (.slice A l.length ca) l.length (fcells l) → V.ownsRow base' 56 3 (.slice B l.length cb) l.length (fcells l) → Calls Tryz.prog 32 #[.slice A l.length ca, .slice B l.length cb] V fun e w' => e = .returned (.bool true) ∧ Below V.heap.size V w') := Lib.hid fun V A B base base' ca cb h1 h2 => samef_rows hl rfl h1 h2
      clear hy hr HY2 hl
      go_wp2_with fail
      refine (HY.out _ _ _ B3.out HK1.out).mono ?_
      rintro e w4 ⟨B, cB, rfl, hown, hb⟩
      have B4 := Lib.hid (B3.out.trans (hb.mono B3.out.size))
      have HN4 := Lib.hid (HN3.out.below hb)
      have HO1 := Lib.hid hown
      clear hb hown
      obtain ⟨p0, p1, p2, p3, p4, p5, p6, p7, p8⟩ := HN4.out.cells
      go_wp2_with fail
      refine (HR.out _ B4.out).mono ?_
      rintro e w5 ⟨C, cC, rfl, hown, hb⟩
      have B5 := Lib.hid (B4.out.trans (hb.mono B4.out.size))
      have HO2 := Lib.hid hown
      have HO3 := Lib.hid (ownf_kept HO1.out hb)
      clear hb hown p0 p1 p2 p3 p4 p5 p6 p7 p8
      go_wp2_with fail
      refine (HS.out _ _ _ _ _ _ _ HO3.out HO2.out).mono ?_
      rintro e w6 ⟨rfl, hb⟩
      have B6 := Lib.hid (B5.out.trans (hb.mono B5.out.size))
      clear hb
      go_wp2
      go_ret
      exact ⟨rfl, B6.out⟩
end Go.Proofs.YtijhdlmnoinfiaaGreatDoor
