/-
  The walk of the law ScanConcatenation: where both texts are accepted.
-/
import Derived.Test.YtaalgkcbknlccaaDoorL4
namespace Go.Proofs.YtaalgkcbknlccaaDoor
open Go.RowKit M

theorem scan_cat {x y : Bs} (hx : x.getLast? = some 10) (hl : x.length + y.length ≤ 20000) (e1 : scanE x = 0) (e2 : scanE y = 0) :
    scanL (x ++ y) = scanL x ++ (scanL y).map (shift x.length) ∧ scanE (x ++ y) = 0 := by
  have r1 : scanR x = toks x 0 false := by unfold scanR; rw [if_neg (by omega), scanAll_eq]
  have r2 : scanR y = toks y 0 false := by unfold scanR; rw [if_neg (by omega), scanAll_eq]
  have r3 : scanR (x ++ y) = toks (x ++ y) 0 false := by unfold scanR; rw [if_neg (by rw [List.length_append]; omega), scanAll_eq]
  unfold scanE at e1 e2
  have h := toks_app y x 0 false (.inr hx) (by rw [← r1]; exact e1)
  rw [ite_self] at h
  obtain ⟨s1, s2⟩ := toks_shift x.length y 0 false
  have he : (scanR (x ++ y)).2.2 = 0 := by rw [r3, h, s2, ← r2]; exact e2
  refine ⟨?_, he⟩
  unfold scanL
  rw [if_pos he, if_pos e1, if_pos e2, r3, h, r1, r2, s1, List.filter_append, List.filter_map]
  rfl
theorem plc_le {l : Bs} {L : List Tok} : ∀ {m : Nat}, Plc l m L → ∀ t ∈ L, t.a ≤ l.length := by
  induction L with
  | nil => intro m _ t ht; cases ht
  | cons u r ih =>
    intro m h t ht
    rcases List.mem_cons.1 ht with rfl | ht
    · have := h.2.2.1; omega
    · exact ih h.2.2.2.2 t ht

/-- The list behind k rounds. -/
def curK (L1 M : List Tok) (n k : Nat) : List Tok := L1 ++ (M.take k).map (shift n)
theorem curK_zero (L1 M : List Tok) (n : Nat) : curK L1 M n 0 = L1 := by simp [curK]
theorem curK_all (L1 M : List Tok) (n : Nat) : curK L1 M n M.length = L1 ++ M.map (shift n) := by simp [curK]
theorem curK_succ (L1 M : List Tok) (n k : Nat) (h : k < M.length) : curK L1 M n (k + 1) = curK L1 M n k ++ [shift n M[k]] := by
  unfold curK
  rw [List.take_succ_eq_append_getElem h, List.map_append, List.append_assoc]
  rfl
theorem curK_len (L1 M : List Tok) (n k : Nat) : (curK L1 M n k).length ≤ L1.length + M.length := by
  unfold curK
  rw [List.length_append, List.length_map, List.length_take]; omega

structure CInv (w : World) (cur M all : List Tok) (A A2 A3 : Option Addr) (c c2 c3 : Nat) (wr : World) : Prop where
  o1 : wr.ownsRow w.heap.size 33 3 (.slice A cur.length c) cur.length (cells cur)
  o2 : wr.ownsRow w.heap.size 33 3 (.slice A2 M.length c2) M.length (cells M)
  o3 : wr.ownsRow w.heap.size 33 3 (.slice A3 all.length c3) all.length (cells all)
  n2 : (Value.slice A2 M.length c2).ownBlock = none ∨ (Value.slice A2 M.length c2).ownBlock ≠ (Value.slice A cur.length c).ownBlock
  n3 : (Value.slice A3 all.length c3).ownBlock = none ∨ (Value.slice A3 all.length c3).ownBlock ≠ (Value.slice A cur.length c).ownBlock
  b : Below w.heap.size w wr
theorem own_below {w w' : World} {base n : Nat} {v : Value} {xs : List Value} (h : w.ownsRow base 33 3 v n xs) (hb : Below w.heap.size w w') : w'.ownsRow base 33 3 v n xs :=
  h.kept (row := none) ⟨hb.os, hb.tape, hb.output, hb.size, fun k hk _ => hb.block k hk⟩ (by cases hv : v.ownBlock <;> simp)
theorem own_mono {w : World} {b b' n : Nat} {v : Value} {xs : List Value} (h : w.ownsRow b 33 3 v n xs) (hb : b' ≤ b) : w.ownsRow b' 33 3 v n xs := by
  obtain ⟨h1, h2⟩ := h
  refine ⟨h1, ?_⟩
  rcases h2 with h2 | ⟨g, c, cur, hv, hg, r⟩
  · exact .inl h2
  · exact .inr ⟨g, c, cur, hv, by omega, r⟩
theorem blocks_ne {w : World} {b n : Nat} {v v' : Value} {xs : List Value} (h : w.ownsRow b 33 3 v n xs) (h' : ∀ k, v'.ownBlock = some k → k < b) : v.ownBlock = none ∨ v.ownBlock ≠ v'.ownBlock := by
  cases hv : v.ownBlock with
  | none => exact .inl rfl
  | some k =>
    right
    intro e
    have := (h.lt k hv).1
    have := h' k e.symm
    omega
theorem CInv.keep {w wr w2 : World} {cur M all : List Tok} {A A2 A3 : Option Addr} {c c2 c3 : Nat} (h : CInv w cur M all A A2 A3 c c2 c3 wr) (hb : Below wr.heap.size wr w2) : CInv w cur M all A A2 A3 c c2 c3 w2 :=
  ⟨own_below h.o1 hb, own_below h.o2 hb, own_below h.o3 hb, h.n2, h.n3, h.b.trans (hb.mono h.b.size)⟩
theorem CInv.push {w wr w4 : World} {cur M all : List Tok} {A A2 A3 : Option Addr} {c c2 c3 g c' H : Nat} {t : Tok} (h : CInv w cur M all A A2 A3 c c2 c3 wr)
    (hown : w4.ownsRow w.heap.size 33 3 (.slice (some ⟨g, 0, none⟩) (cur.length + 1) c') (cur.length + 1) (cells cur ++ cell1 t))
    (hgr : wr.grownBy w4 (Value.slice A cur.length c).ownBlock) (hat : (Value.slice A cur.length c).ownBlock = some g ∨ g = H) (hH : wr.heap.size = H) : CInv w (cur ++ [t]) M all (some ⟨g, 0, none⟩) A2 A3 c' c2 c3 w4 := by
  have hl : (cur ++ [t]).length = cur.length + 1 := by simp
  have key : ∀ (v : Value) (n : Nat) (xs : List Value), wr.ownsRow w.heap.size 33 3 v n xs → (v.ownBlock = none ∨ v.ownBlock ≠ (Value.slice A cur.length c).ownBlock) → v.ownBlock = none ∨ v.ownBlock ≠ some g := by
    intro v n xs ho hn
    rcases hat with e | e
    · rw [← e]; exact hn
    · right
      intro e2
      have := (ho.lt g e2).2
      omega
  exact ⟨by rw [hl, cells_snoc]; exact hown, h.o2.kept hgr h.n2, h.o3.kept hgr h.n3, key _ _ _ h.o2 h.n2, key _ _ _ h.o3 h.n3, h.b.grown hgr h.b.size (fun k hk => (h.o1.lt k hk).1)⟩

set_option maxRecDepth 100000 in
set_option maxHeartbeats 2000000 in
theorem concat_ok (a b : ByteArray) (w : World) (hG : Glob w) (ha : a.size ≤ 300) (hb : b.size ≤ 300) (h1 : scanE (a ++ ⟨#[10]⟩ : ByteArray).data.toList = 0) (h2 : scanE b.data.toList = 0) : Calls Tryd.prog 10 #[.string a, .string b] w fun e w' => e = .returned (.bool true) ∧ Below w.heap.size w w' := by
  have HG := Lib.hid hG
  clear hG
  have hd0 : decide ((300 : Int) < (a.size : Int)) = false := by simp; omega
  have hd : decide ((300 : Int) < (b.size : Int)) = false := by simp; omega
  have hsz : (a ++ ⟨#[10]⟩ : ByteArray).size ≤ 301 := by rw [ByteArray.size_append]; show a.size + 1 ≤ _; omega
  have hlast : Hid ((a ++ ⟨#[10]⟩ : ByteArray).data.toList.getLast? = some 10) := Lib.hid (by simp)
  have H1 := Lib.hid h1
  have H2 := Lib.hid h2
  have HM2 : Hid (b.size ≤ maxLen) := Lib.hid (by unfold maxLen; omega)
  clear h1 h2
  go_enter Tryd.func10, Tryd.ntmps10
  go_wp2_with fail
  refine (awake_any _ HG.out).mono ?_
  rintro e w1 ⟨rfl, hb1⟩
  have G1 := Lib.hid (HG.out.below hb1)
  have B1 := Lib.hid hb1
  clear hb1
  go_wp2_with fail
  generalize (a ++ ⟨#[10]⟩ : ByteArray) = aa at *
  have HM1 : Hid (aa.size ≤ maxLen) := Lib.hid (by unfold maxLen; omega)
  have HC := Lib.hid (scan_cat hlast.out (by rw [← size_list, ← size_list]; omega) H1.out H2.out)
  have HPM := Lib.hid (plc_le (plc_scan (by rw [← size_list]; omega) H2.out))
  have HLN := Lib.hid (And.intro (scanL_len aa.data.toList) (scanL_len b.data.toList))
  obtain ⟨L1, hL1⟩ : ∃ L, scanL aa.data.toList = L := ⟨_, rfl⟩
  obtain ⟨M, hM⟩ : ∃ L, scanL b.data.toList = L := ⟨_, rfl⟩
  rw [hL1, hM] at HC HLN
  rw [hM] at HPM
  have HL1 := Lib.hid hL1
  have HMM := Lib.hid hM
  clear hL1 hM
  refine (scan_at aa w1 HM1.out G1.out H1.out HL1.out).mono ?_
  rintro e w2 ⟨A1, c1, rfl, ho1, hb2⟩
  have O1 := Lib.hid ho1
  have G2 := Lib.hid (G1.out.below hb2)
  have B2 := Lib.hid hb2
  clear ho1 hb2
  go_wp2_with fail
  refine (scan_at b w2 HM2.out G2.out H2.out HMM.out).mono ?_
  rintro e w3 ⟨A2, c2, rfl, ho2, hb3⟩
  have O2 := Lib.hid ho2
  have G3 := Lib.hid (G2.out.below hb3)
  have B3 := Lib.hid hb3
  clear ho2 hb3
  go_wp2_with fail
  have hsz2 : (aa ++ b).size ≤ 601 := by rw [ByteArray.size_append]; omega
  have HM3 : Hid ((aa ++ b).size ≤ maxLen) := Lib.hid (by unfold maxLen; omega)
  have hdata : (aa ++ b).data.toList = aa.data.toList ++ b.data.toList := by simp
  have H3 : Hid (scanE (aa ++ b).data.toList = 0) := Lib.hid (by rw [hdata]; exact HC.out.2)
  have HALL : Hid (scanL (aa ++ b).data.toList = curK L1 M aa.size M.length) := Lib.hid (by rw [hdata, curK_all, HC.out.1, size_list])
  have HLK := Lib.hid (curK_len L1 M aa.size)
  clear hdata hsz2 HC
  generalize (aa ++ b : ByteArray) = ab at *
  refine (scan_at ab w3 HM3.out G3.out H3.out HALL.out).mono ?_
  rintro e w4 ⟨A3, c3, rfl, ho3, hb4⟩
  have z1 := B1.out.size
  have z2 := B2.out.size
  have z3 := B3.out.size
  have C0 : Hid (CInv w (curK L1 M aa.size 0) M (curK L1 M aa.size M.length) A1 A2 A3 c1 c2 c3 w4) := by
    rw [curK_zero]
    have k1 : ∀ k, (Value.slice A1 L1.length c1).ownBlock = some k → k < w2.heap.size := fun k hk => (O1.out.lt k hk).2
    refine ⟨own_below (own_below (own_mono O1.out z1) B3.out) hb4, own_below (own_mono O2.out (by omega)) hb4, own_mono ho3 (by omega), ?_, ?_, ((B1.out.trans (B2.out.mono z1)).trans (B3.out.mono (by omega))).trans (hb4.mono (by omega))⟩
    · exact blocks_ne O2.out k1
    · exact blocks_ne ho3 (fun k hk => by have := k1 k hk; omega)
  clear ho3 hb4 z1 z2 z3 O1 O2 G1 G2 G3 B1 B2 B3
  obtain ⟨i0, hi, hz0, hz1, hz2⟩ := info_parts info33
  have e0 : L1.length = (curK L1 M aa.size 0).length := by rw [curK_zero]
  rw [e0]
  clear e0
  go_wp2_with fail
  go_loopw [5, 14] (fun v i wr => ∃ (k : Nat) (A : Option Addr) (c : Nat), k ≤ M.length ∧ v = .slice A (curK L1 M aa.size k).length c ∧ i = .int .i64 k ∧ CInv w (curK L1 M aa.size k) M (curK L1 M aa.size M.length) A A2 A3 c c2 c3 wr) (fun _ i _ => M.length - (intOf i).toNat)
  case atStart => exact ⟨0, A1, c1, Nat.zero_le _, rfl, rfl, C0.out⟩
  case round =>
    obtain ⟨k, A, c, hk, rfl, rfl, hc⟩ := hrel
    have CI := Lib.hid hc
    have hMl : M.length ≤ 20000 := HLN.out.2
    have hLl : (curK L1 M aa.size k).length ≤ 40000 := by have := HLK.out k; have := HLN.out.1; omega
    clear hc C0
    by_cases hkl : k < M.length
    · obtain ⟨g2, cp, hv, _, hg2⟩ := CI.out.o2.form (by omega)
      injection hv with e1 e2 e3
      subst e1 e3
      obtain ⟨d0, d1, d2⟩ := lies_of CI.out.o2 k hkl
      have hta : M[k].a ≤ 300 := by have := HPM.out M[k] (List.getElem_mem hkl); rw [← size_list] at this; omega
      have HS := Lib.hid (curK_succ L1 M aa.size k hkl)
      generalize M[k] = t at *
      have hk1 : (k : Int) < (M.length : Int) := by omega
      have hzb := CI.out.b.size
      go_wp2_with (at_builtin; refine wpList_append_lies _ rfl _ _ _ rfl w.heap.size 33 i0 _ 3 32 Tryd.underlying23 hi hz0 hz1 hz2 rfl (by omega) (.slice A (curK L1 M aa.size k).length c) (curK L1 M aa.size k).length (cells (curK L1 M aa.size k)) rfl ((CI.out.o1.alloc _).alloc _) ⟨wr.heap.size + 1, 0, none⟩ 1 1 (cell1 (shift aa.size t)) rfl rfl (World.news_of_block (cs := #[.int .i64 (t.k : Int), .string ⟨t.t.toArray⟩, .int .i64 ((t.a : Int) + (aa.size : Int))]) (t := 33) (fr := (0, 0)) (heap_alloc2_new wr _ _)) (by simp [Value.oneCell', cell1]) (by omega) (by unfold maxLen; omega) (by omega) (by simp; omega) (wr.heap.size + 2) (by simp) ?_; intro g1 cap1 w5 hown1 hgrow1 hat1 hlt1)
      have R := Lib.hid (CInv.push ((CI.out.keep ((Below.refl _ _).alloc (Nat.le_refl _) _)).keep ((Below.refl _ _).alloc (Nat.le_refl _) _)) hown1 hgrow1 hat1 (by simp))
      clear hown1 hgrow1 hat1
      rw [← HS.out] at R
      go_roundw
      case rel => exact ⟨k + 1, some ⟨g1, 0, none⟩, cap1, by omega, by rw [HS.out, List.length_append]; rfl, by go_num, R.out⟩
      case measure => simp [intOf]; omega
    · obtain rfl : k = M.length := by omega
      have hd3 : decide ((M.length : Int) < (M.length : Int)) = false := by simp
      go_wp2_with fail
      refine (same_any A3 A c3 c _ wr (by omega) (rd_of CI.out.o3) (rd_of CI.out.o1)).mono ?_
      rintro e w6 ⟨rfl, hdr⟩
      have B6 : Hid (Below w.heap.size w w6) := by obtain ⟨n, rfl⟩ := hdr; exact CI.out.b.trans (below_draws _ _ _)
      clear hdr
      go_wp2
      go_ret
      exact ⟨rfl, B6.out⟩
end Go.Proofs.YtaalgkcbknlccaaDoor
