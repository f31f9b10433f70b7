/-
  The walk of next.
-/
import Derived.Test.YtaalgkcbknlccaaDoorW8
import Derived.Test.YtaalgkcbknlccaaDoorW9
namespace Go.Proofs.YtaalgkcbknlccaaDoor
open Go.RowKit M

theorem quiet_add_left {P : Program} {f : FuncId} {args : Array Value} {w : World} {a n : Nat} {v : Value}
    (h : Calls P f args (w.drewN (a + n)) fun e w' => e = .returned v ∧ w.drewN (a + n) = w') :
    Calls P f args (w.drewN (a + n)) fun e w'' => e = .returned v ∧ ∃ m, w'' = w.drewN (a + m) :=
  h.mono fun _ _ ⟨he, hm⟩ => ⟨he, n, hm.symm⟩
theorem ends_box {w w2 : World} {C a1 a' err k : Nat} {s t : ByteArray} {ins : Bool} (hC : C < w.heap.size) (h2 : Sc w2 C s a' ins) (g2 : (w.alloc box0).grownBy w2 (some C)) :
    (∃ x0 x1 x2, w2.cell? ⟨w.heap.size, 0, none⟩ = some x0 ∧ w2.cell? ⟨w.heap.size, 1, none⟩ = some x1 ∧ w2.cell? ⟨w.heap.size, 2, none⟩ = some x2) ∧
    (w2.frozen? ⟨w.heap.size, 0, none⟩ = false ∧ w2.frozen? ⟨w.heap.size, 1, none⟩ = false ∧ w2.frozen? ⟨w.heap.size, 2, none⟩ = false) ∧
    (((((w2.setCell ⟨w.heap.size, 0, none⟩ (.int .i64 (k : Int))).setCell ⟨w.heap.size, 1, none⟩ (.string t)).setCell ⟨w.heap.size, 2, none⟩ (.int .i64 (a1 : Int))).cell? ⟨w.heap.size, 0, none⟩ = some (.int .i64 (k : Int)) ∧
    (((w2.setCell ⟨w.heap.size, 0, none⟩ (.int .i64 (k : Int))).setCell ⟨w.heap.size, 1, none⟩ (.string t)).setCell ⟨w.heap.size, 2, none⟩ (.int .i64 (a1 : Int))).cell? ⟨w.heap.size, 1, none⟩ = some (.string t) ∧
    (((w2.setCell ⟨w.heap.size, 0, none⟩ (.int .i64 (k : Int))).setCell ⟨w.heap.size, 1, none⟩ (.string t)).setCell ⟨w.heap.size, 2, none⟩ (.int .i64 (a1 : Int))).cell? ⟨w.heap.size, 2, none⟩ = some (.int .i64 (a1 : Int))) ∧
    Ends w C s k t a1 err a' ins (.returned (.tuple #[tv k t a1, .int .i64 (err : Int)])) (((w2.setCell ⟨w.heap.size, 0, none⟩ (.int .i64 (k : Int))).setCell ⟨w.heap.size, 1, none⟩ (.string t)).setCell ⟨w.heap.size, 2, none⟩ (.int .i64 (a1 : Int)))) := by
  obtain ⟨q, g, l1, l2⟩ := box_behind hC g2
  obtain ⟨⟨x0, c0⟩, ⟨x1, c1⟩, ⟨x2, c2⟩, f0, f1, f2⟩ := box_facts q
  obtain ⟨A, r0, r1, r2⟩ := box_done (.int .i64 (k : Int)) (.string t) (.int .i64 (a1 : Int)) h2 g q (Nat.le_refl _) (by omega)
  exact ⟨⟨x0, x1, x2, c0, c1, c2⟩, ⟨f0, f1, f2⟩, ⟨r0, r1, r2⟩, rfl, A⟩

set_option maxRecDepth 100000 in
set_option maxHeartbeats 1000000 in
theorem next_name (C a b : Nat) (s : ByteArray) (ins : Bool) (w : World) (h : Sc w C s a ins) (ha : a < s.size) (hG : Glob w) (hC2 : 2 < C) (hb : s[a].toNat = b) (h10 : ((b : Int) == 10) = false) (hL : isL b = true)
    (k a1 err a' : Nat) (t : ByteArray) (ins' : Bool) (hm : ∀ W, Sc W C s a ins → Glob W → Calls Tryd.prog 39 #[.pointer (some ⟨C, 0, none⟩)] W (Ends W C s k t a1 err a' ins')) :
    Calls Tryd.prog 31 #[.pointer (some ⟨C, 0, none⟩)] w (Ends w C s k t a1 err a' ins') := by
  have HS := Lib.hid h
  have HM := Lib.hid hm
  have hC := h.lt
  have HG := Lib.hid hG
  clear hm hG
  have hb0 : (0 : Int) ≤ (a : Int) := by omega
  have hb1 : (a : Int) < (s.size : Int) := by omega
  have hb2 : (a : Int) ≤ (s.size : Int) := by omega
  obtain ⟨c0, c1, c2, f0, f1, f2, hlt⟩ := (h.alloc box0).cells
  clear h
  go_enter Tryd.func31, Tryd.ntmps31
  go_wp2_with fail
  go_quiet (fail)
  go_wp2_with (first | (go_at_call 38; refine (letter_any _ _).mono ?_; rintro e w' ⟨rfl, rfl⟩) | (go_at_call 40; refine (digit_any _ _).mono ?_; rintro e w' ⟨rfl, rfl⟩))
  refine (HM.out _ (Sc.drewN (HS.out.alloc box0) _) (HG.out.keep (only_drewN (only_alloc (only_refl w C) box0) _) hC2)).mono ?_
  rintro e w2 ⟨rfl, h2, g2⟩
  obtain ⟨⟨x0, x1, x2, d0, d1, d2⟩, ⟨e0, e1, e2⟩, ⟨r0, r1, r2⟩, A⟩ := ends_box (err := err) (k := k) (a1 := a1) (t := t) hC h2 (only_trans (only_drewN (only_refl (w.alloc box0) C) _) g2)
  have HA := Lib.hid A
  clear A h2 g2
  go_wp2
  exact bodyPost_ret (v := .tuple #[tv k t a1, .int .i64 (err : Int)]) (by simp [results, Tryd.results31, go_sem, r0, r1, r2]) rfl HA.out

set_option maxRecDepth 100000 in
set_option maxHeartbeats 1000000 in
theorem next_int (C a b : Nat) (s : ByteArray) (ins : Bool) (w : World) (h : Sc w C s a ins) (ha : a < s.size) (hG : Glob w) (hC2 : 2 < C) (hb : s[a].toNat = b) (h10 : ((b : Int) == 10) = false) (hL : isL b = false) (hD : isD b = true)
    (k a1 err a' : Nat) (t : ByteArray) (ins' : Bool) (hm : ∀ W, Sc W C s a ins → Glob W → Calls Tryd.prog 41 #[.pointer (some ⟨C, 0, none⟩)] W (Ends W C s k t a1 err a' ins')) :
    Calls Tryd.prog 31 #[.pointer (some ⟨C, 0, none⟩)] w (Ends w C s k t a1 err a' ins') := by
  have HS := Lib.hid h
  have HM := Lib.hid hm
  have hC := h.lt
  have HG := Lib.hid hG
  clear hm hG
  have hb0 : (0 : Int) ≤ (a : Int) := by omega
  have hb1 : (a : Int) < (s.size : Int) := by omega
  have hb2 : (a : Int) ≤ (s.size : Int) := by omega
  obtain ⟨c0, c1, c2, f0, f1, f2, hlt⟩ := (h.alloc box0).cells
  clear h
  go_enter Tryd.func31, Tryd.ntmps31
  go_wp2_with fail
  go_quiet (fail)
  go_wp2_with (first | (go_at_call 38; refine (letter_any _ _).mono ?_; rintro e w' ⟨rfl, rfl⟩) | (go_at_call 40; refine (digit_any _ _).mono ?_; rintro e w' ⟨rfl, rfl⟩))
  refine (HM.out _ (Sc.drewN (HS.out.alloc box0) _) (HG.out.keep (only_drewN (only_alloc (only_refl w C) box0) _) hC2)).mono ?_
  rintro e w2 ⟨rfl, h2, g2⟩
  obtain ⟨⟨x0, x1, x2, d0, d1, d2⟩, ⟨e0, e1, e2⟩, ⟨r0, r1, r2⟩, A⟩ := ends_box (err := err) (k := k) (a1 := a1) (t := t) hC h2 (only_trans (only_drewN (only_refl (w.alloc box0) C) _) g2)
  have HA := Lib.hid A
  clear A h2 g2
  go_wp2
  exact bodyPost_ret (v := .tuple #[tv k t a1, .int .i64 (err : Int)]) (by simp [results, Tryd.results31, go_sem, r0, r1, r2]) rfl HA.out

set_option maxRecDepth 100000 in
set_option maxHeartbeats 1000000 in
theorem next_op (C a b : Nat) (s : ByteArray) (ins : Bool) (w : World) (h : Sc w C s a ins) (ha : a < s.size) (hG : Glob w) (hC2 : 2 < C) (hb : s[a].toNat = b) (h10 : ((b : Int) == 10) = false) (hL : isL b = false) (hD : isD b = false) (hP : Lib.hasPrefix (s.extract a s.size).data.toList [47, 47] = false)
    (k a1 err a' : Nat) (t : ByteArray) (ins' : Bool) (hm : ∀ W, Sc W C s a ins → Glob W → Calls Tryd.prog 44 #[.pointer (some ⟨C, 0, none⟩)] W (Ends W C s k t a1 err a' ins')) :
    Calls Tryd.prog 31 #[.pointer (some ⟨C, 0, none⟩)] w (Ends w C s k t a1 err a' ins') := by
  have HS := Lib.hid h
  have HM := Lib.hid hm
  have hC := h.lt
  have HG := Lib.hid hG
  clear hm hG
  have hb0 : (0 : Int) ≤ (a : Int) := by omega
  have hb1 : (a : Int) < (s.size : Int) := by omega
  have hb2 : (a : Int) ≤ (s.size : Int) := by omega
  obtain ⟨c0, c1, c2, f0, f1, f2, hlt⟩ := (h.alloc box0).cells
  clear h
  go_enter Tryd.func31, Tryd.ntmps31
  go_wp2_with fail
  go_quiet (fail)
  have HP := Lib.hid hP
  clear hP
  go_wp2_with (first | (go_at_call 38; refine (letter_any _ _).mono ?_; rintro e w' ⟨rfl, rfl⟩) | (go_at_call 40; refine (digit_any _ _).mono ?_; rintro e w' ⟨rfl, rfl⟩))
  go_quiet ((go_at_call 42; exact quiet_add_left (prefix_v (p := ⟨#[47, 47]⟩) HP.out _)))
  go_wp2_with fail
  refine (HM.out _ (Sc.drewN (HS.out.alloc box0) _) (HG.out.keep (only_drewN (only_alloc (only_refl w C) box0) _) hC2)).mono ?_
  rintro e w2 ⟨rfl, h2, g2⟩
  obtain ⟨⟨x0, x1, x2, d0, d1, d2⟩, ⟨e0, e1, e2⟩, ⟨r0, r1, r2⟩, A⟩ := ends_box (err := err) (k := k) (a1 := a1) (t := t) hC h2 (only_trans (only_drewN (only_refl (w.alloc box0) C) _) g2)
  have HA := Lib.hid A
  clear A h2 g2
  go_wp2
  exact bodyPost_ret (v := .tuple #[tv k t a1, .int .i64 (err : Int)]) (by simp [results, Tryd.results31, go_sem, r0, r1, r2]) rfl HA.out

set_option maxRecDepth 100000 in
set_option maxHeartbeats 1000000 in
theorem next_feed (C a b : Nat) (s : ByteArray) (ins : Bool) (w : World) (h : Sc w C s a ins) (ha : a < s.size) (hG : Glob w) (hC2 : 2 < C) (hb : s[a].toNat = b) (h10 : ((b : Int) == 10) = true)
    (k a1 a' : Nat) (t : ByteArray) (ins' : Bool) (hm : ∀ W, Sc W C s a ins → Glob W → Calls Tryd.prog 37 #[.pointer (some ⟨C, 0, none⟩)] W fun e w' => e = .returned (tv k t a1) ∧ Sc w' C s a' ins' ∧ W.grownBy w' (some C)) :
    Calls Tryd.prog 31 #[.pointer (some ⟨C, 0, none⟩)] w (Ends w C s k t a1 0 a' ins') := by
  have HS := Lib.hid h
  have HM := Lib.hid hm
  have hC := h.lt
  have HG := Lib.hid hG
  clear hm hG
  have hb0 : (0 : Int) ≤ (a : Int) := by omega
  have hb1 : (a : Int) < (s.size : Int) := by omega
  have hb2 : (a : Int) ≤ (s.size : Int) := by omega
  obtain ⟨c0, c1, c2, f0, f1, f2, hlt⟩ := (h.alloc box0).cells
  clear h
  go_enter Tryd.func31, Tryd.ntmps31
  go_wp2_with fail
  go_quiet (fail)
  go_wp2_with (first | (go_at_call 38; refine (letter_any _ _).mono ?_; rintro e w' ⟨rfl, rfl⟩) | (go_at_call 40; refine (digit_any _ _).mono ?_; rintro e w' ⟨rfl, rfl⟩))
  refine (HM.out _ (Sc.drewN (HS.out.alloc box0) _) (HG.out.keep (only_drewN (only_alloc (only_refl w C) box0) _) hC2)).mono ?_
  rintro e w2 ⟨rfl, h2, g2⟩
  obtain ⟨⟨x0, x1, x2, d0, d1, d2⟩, ⟨e0, e1, e2⟩, ⟨r0, r1, r2⟩, A⟩ := ends_box (err := 0) (k := k) (a1 := a1) (t := t) hC h2 (only_trans (only_drewN (only_refl (w.alloc box0) C) _) g2)
  have HA := Lib.hid A
  clear A h2 g2
  go_wp2
  exact bodyPost_ret (v := .tuple #[tv k t a1, .int .i64 0]) (by simp [results, Tryd.results31, go_sem, r0, r1, r2]) rfl HA.out

set_option maxRecDepth 100000 in
set_option maxHeartbeats 1000000 in
theorem next_comment (C a b : Nat) (s : ByteArray) (ins : Bool) (w : World) (h : Sc w C s a ins) (ha : a < s.size) (hG : Glob w) (hC2 : 2 < C) (hb : s[a].toNat = b) (h10 : ((b : Int) == 10) = false) (hL : isL b = false) (hD : isD b = false) (hP : Lib.hasPrefix (s.extract a s.size).data.toList [47, 47] = true)
    (k a1 a' : Nat) (t : ByteArray) (ins' : Bool) (hm : ∀ W, Sc W C s a ins → Glob W → Calls Tryd.prog 43 #[.pointer (some ⟨C, 0, none⟩)] W fun e w' => e = .returned (tv k t a1) ∧ Sc w' C s a' ins' ∧ W.grownBy w' (some C)) :
    Calls Tryd.prog 31 #[.pointer (some ⟨C, 0, none⟩)] w (Ends w C s k t a1 0 a' ins') := by
  have HS := Lib.hid h
  have HM := Lib.hid hm
  have hC := h.lt
  have HG := Lib.hid hG
  clear hm hG
  have hb0 : (0 : Int) ≤ (a : Int) := by omega
  have hb1 : (a : Int) < (s.size : Int) := by omega
  have hb2 : (a : Int) ≤ (s.size : Int) := by omega
  obtain ⟨c0, c1, c2, f0, f1, f2, hlt⟩ := (h.alloc box0).cells
  clear h
  go_enter Tryd.func31, Tryd.ntmps31
  go_wp2_with fail
  go_quiet (fail)
  have HP := Lib.hid hP
  clear hP
  go_wp2_with (first | (go_at_call 38; refine (letter_any _ _).mono ?_; rintro e w' ⟨rfl, rfl⟩) | (go_at_call 40; refine (digit_any _ _).mono ?_; rintro e w' ⟨rfl, rfl⟩))
  go_quiet ((go_at_call 42; exact quiet_add_left (prefix_v (p := ⟨#[47, 47]⟩) HP.out _)))
  go_wp2_with fail
  refine (HM.out _ (Sc.drewN (HS.out.alloc box0) _) (HG.out.keep (only_drewN (only_alloc (only_refl w C) box0) _) hC2)).mono ?_
  rintro e w2 ⟨rfl, h2, g2⟩
  obtain ⟨⟨x0, x1, x2, d0, d1, d2⟩, ⟨e0, e1, e2⟩, ⟨r0, r1, r2⟩, A⟩ := ends_box (err := 0) (k := k) (a1 := a1) (t := t) hC h2 (only_trans (only_drewN (only_refl (w.alloc box0) C) _) g2)
  have HA := Lib.hid A
  clear A h2 g2
  go_wp2
  exact bodyPost_ret (v := .tuple #[tv k t a1, .int .i64 0]) (by simp [results, Tryd.results31, go_sem, r0, r1, r2]) rfl HA.out

end Go.Proofs.YtaalgkcbknlccaaDoor
