/-
  The walks of the program's Value and of the specification's boolean, arithmetic, logic (package fold).
-/
import Derived.Test.YtnknphchjmnkcaaGreatDoorFE
import Derived.WalkLawsBesides
set_option linter.all false
namespace Go.Proofs.YtnknphchjmnkcaaGreatDoor
open Go.RowKit T T.Fo
def RetV (v : Int) (b : Bool) (w : World) (e : Ending) (w' : World) : Prop := e = .returned (.tuple #[.int .i64 v, .bool b]) ∧ Below w.heap.size w w'
set_option maxRecDepth 100000
set_option maxHeartbeats 1000000 in
theorem value_w (h : Hd) (A : Option Addr) (n cap : Nat) (w : World) (c : Cv) (b : Bool) (hb : (c.k != 0) = b) (HK : Hid (EvA h A n cap w 65536 c)) : Calls Tryz.prog 14 #[nv h A n cap] w (RetV c.v b w) := by
  have HB0 : Hid (Below w.heap.size w (w.alloc (.cells (nc h A n cap) 26))) := Lib.hid (fb1 w _)
  have HBb := Lib.hid hb
  clear hb
  go_enter Tryz.func14, Tryz.ntmps14
  go_wp2_with fail
  refine (HK.out _ HB0.out).mono ?_
  rintro e w1 ⟨rfl, hb1⟩
  have HB1 := Lib.hid (HB0.out.trans (hb1.mono (by simp)))
  have HB2 : Hid (∀ n, Below w.heap.size w ((w1.alloc (.cells #[.int .i64 c.k, .int .i64 c.v] 49)).drewN n)) := Lib.hid fun n => (HB1.out.trans ((fb1 w1 _).mono (by have := HB1.out.size; omega))).trans (below_draws _ _ _)
  clear hb1
  go_wp2
  go_quiet (fail)
  go_wp2
  go_ret2
  exact ⟨by rw [← HBb.out]; rfl, HB2.out _⟩
theorem value_any (h : Hd) (F : Fo) (A : Option Addr) (cap : Nat) (w : World) (hk : Kids (Lt w.heap.size) w A F) (hd : F.dep + 1 ≤ 65536) : Calls Tryz.prog 14 #[nv h A F.len cap] w (RetV (evT h F).v ((evT h F).k != 0) w) :=
  value_w h A F.len cap w _ _ rfl (Lib.hid ((evaluate_any h F).at_ hk (by omega) (by omega)))
/-- Two and three answers, nothing written. -/
def Ret2 (v : Int) (b : Bool) (w : World) (e : Ending) (w' : World) : Prop := e = .returned (.tuple #[.int .i64 v, .bool b]) ∧ w = w'
def Ret3 (v : Int) (b ok : Bool) (w : World) (e : Ending) (w' : World) : Prop := e = .returned (.tuple #[.int .i64 v, .bool b, .bool ok]) ∧ w = w'
theorem Ret3.of {v v' : Int} {b b' ok ok' : Bool} {w w' : World} {e : Ending} (h : v = v') (h1 : b = b') (h2 : ok = ok') (H : Ret3 v b ok w e w') : Ret3 v' b' ok' w e w' := by subst h h1 h2; exact H
theorem Ret2.of {v v' : Int} {b b' : Bool} {w w' : World} {e : Ending} (h : v = v') (h1 : b = b') (H : Ret2 v b w e w') : Ret2 v' b' w e w' := by subst h h1; exact H
/-- The number of a truth value. -/
def bi (b : Bool) : Int := if b then 1 else 0
theorem rboolean_any (b : Bool) (w : World) : Calls Tryz.prog 91 #[.bool b] w fun e w' => e = .returned (.int .i64 (bi b)) ∧ w = w' := by
  cases b
  all_goals
    go_enter Tryz.func91, Tryz.ntmps91
    go_wp2
    go_ret
    exact ⟨rfl, rfl⟩

theorem rar_43 (a b : Int) (w : World) : Calls Tryz.prog 64 #[.string ⟨#[43]⟩, .int .i64 a, .int .i64 b] w (Ret3 (wrap64 (a + b)) false true w) := by
  go_enter Tryz.func64, Tryz.ntmps64
  go_wp2
  go_ret3
  exact ⟨rfl, rfl⟩

theorem rar_45 (a b : Int) (w : World) : Calls Tryz.prog 64 #[.string ⟨#[45]⟩, .int .i64 a, .int .i64 b] w (Ret3 (wrap64 (a - b)) false true w) := by
  go_enter Tryz.func64, Tryz.ntmps64
  go_wp2
  go_ret3
  exact ⟨rfl, rfl⟩

theorem rar_42 (a b : Int) (w : World) : Calls Tryz.prog 64 #[.string ⟨#[42]⟩, .int .i64 a, .int .i64 b] w (Ret3 (wrap64 (a * b)) false true w) := by
  go_enter Tryz.func64, Tryz.ntmps64
  go_wp2
  go_ret3
  exact ⟨rfl, rfl⟩

theorem rar_47 (a b : Int) (w : World) (h0 : ¬ b = 0) (h1 : (b == 0) = false) (h2 : (b != 0) = true) : Calls Tryz.prog 64 #[.string ⟨#[47]⟩, .int .i64 a, .int .i64 b] w (Ret3 (wrap64 (a.tdiv b)) false true w) := by
  go_enter Tryz.func64, Tryz.ntmps64
  go_wp2
  go_ret3
  exact ⟨rfl, rfl⟩

theorem rar_37 (a b : Int) (w : World) (h0 : ¬ b = 0) (h1 : (b == 0) = false) (h2 : (b != 0) = true) : Calls Tryz.prog 64 #[.string ⟨#[37]⟩, .int .i64 a, .int .i64 b] w (Ret3 (a.tmod b) false true w) := by
  go_enter Tryz.func64, Tryz.ntmps64
  go_wp2
  go_ret3
  exact ⟨rfl, rfl⟩

theorem rar_470 (a : Int) (w : World) : Calls Tryz.prog 64 #[.string ⟨#[47]⟩, .int .i64 a, .int .i64 0] w (Ret3 0 false false w) := by
  go_enter Tryz.func64, Tryz.ntmps64
  go_wp2
  go_ret3
  exact ⟨rfl, rfl⟩

theorem rar_370 (a : Int) (w : World) : Calls Tryz.prog 64 #[.string ⟨#[37]⟩, .int .i64 a, .int .i64 0] w (Ret3 0 false false w) := by
  go_enter Tryz.func64, Tryz.ntmps64
  go_wp2
  go_ret3
  exact ⟨rfl, rfl⟩

theorem rar_60 (a b : Int) (w : World) : Calls Tryz.prog 64 #[.string ⟨#[60]⟩, .int .i64 a, .int .i64 b] w (Ret3 (bi (decide (a < b))) true true w) := by
  go_enter Tryz.func64, Tryz.ntmps64
  go_wp2_with (go_at_call 91; (with_reducible refine (rboolean_any _ _).mono ?_); rintro e w' ⟨rfl, rfl⟩)
  go_ret3
  exact ⟨rfl, rfl⟩

theorem rar_6061 (a b : Int) (w : World) : Calls Tryz.prog 64 #[.string ⟨#[60, 61]⟩, .int .i64 a, .int .i64 b] w (Ret3 (bi (decide (a ≤ b))) true true w) := by
  go_enter Tryz.func64, Tryz.ntmps64
  go_wp2_with (go_at_call 91; (with_reducible refine (rboolean_any _ _).mono ?_); rintro e w' ⟨rfl, rfl⟩)
  go_ret3
  exact ⟨rfl, rfl⟩

theorem rar_62 (a b : Int) (w : World) : Calls Tryz.prog 64 #[.string ⟨#[62]⟩, .int .i64 a, .int .i64 b] w (Ret3 (bi (decide (b < a))) true true w) := by
  go_enter Tryz.func64, Tryz.ntmps64
  go_wp2_with (go_at_call 91; (with_reducible refine (rboolean_any _ _).mono ?_); rintro e w' ⟨rfl, rfl⟩)
  go_ret3
  exact ⟨rfl, rfl⟩

theorem rar_6261 (a b : Int) (w : World) : Calls Tryz.prog 64 #[.string ⟨#[62, 61]⟩, .int .i64 a, .int .i64 b] w (Ret3 (bi (decide (b ≤ a))) true true w) := by
  go_enter Tryz.func64, Tryz.ntmps64
  go_wp2_with (go_at_call 91; (with_reducible refine (rboolean_any _ _).mono ?_); rintro e w' ⟨rfl, rfl⟩)
  go_ret3
  exact ⟨rfl, rfl⟩

theorem rar_6161 (a b : Int) (w : World) : Calls Tryz.prog 64 #[.string ⟨#[61, 61]⟩, .int .i64 a, .int .i64 b] w (Ret3 (bi (a == b)) true true w) := by
  go_enter Tryz.func64, Tryz.ntmps64
  go_wp2_with (go_at_call 91; (with_reducible refine (rboolean_any _ _).mono ?_); rintro e w' ⟨rfl, rfl⟩)
  go_ret3
  exact ⟨rfl, rfl⟩

theorem rar_3361 (a b : Int) (w : World) : Calls Tryz.prog 64 #[.string ⟨#[33, 61]⟩, .int .i64 a, .int .i64 b] w (Ret3 (bi (a != b)) true true w) := by
  go_enter Tryz.func64, Tryz.ntmps64
  go_wp2_with (go_at_call 91; (with_reducible refine (rboolean_any _ _).mono ?_); rintro e w' ⟨rfl, rfl⟩)
  go_ret3
  exact ⟨rfl, rfl⟩

theorem rar_o (t : ByteArray) (a b : Int) (w : World) (h43 : (t.toList == [43]) = false) (h45 : (t.toList == [45]) = false) (h42 : (t.toList == [42]) = false) (h47 : (t.toList == [47]) = false) (h37 : (t.toList == [37]) = false) (h60 : (t.toList == [60]) = false) (h6061 : (t.toList == [60, 61]) = false) (h62 : (t.toList == [62]) = false) (h6261 : (t.toList == [62, 61]) = false) (h6161 : (t.toList == [61, 61]) = false) (h3361 : (t.toList == [33, 61]) = false) : Calls Tryz.prog 64 #[.string t, .int .i64 a, .int .i64 b] w (Ret3 0 false false w) := by
  go_enter Tryz.func64, Tryz.ntmps64
  go_wp2
  go_ret3
  exact ⟨rfl, rfl⟩

theorem rar_any (t : ByteArray) (a b : Int) (w : World) (c : Cv) (hc : binL t.toList ⟨24, a⟩ ⟨24, b⟩ = c) : Calls Tryz.prog 64 #[.string t, .int .i64 a, .int .i64 b] w (Ret3 c.v (c.k == 25) (c.k != 0) w) := by
  subst hc
  by_cases h43 : t.toList = [43]
  · obtain rfl : t = ⟨#[43]⟩ := ba_of (h43.trans (by rw [ByteArray.toList_eq]))
    rw [h43]
    exact (rar_43 a b w).mono fun e w' H => H.of (by simp [binL, intsL, ofB, ofI, no, bi]) (by simp [binL, intsL, ofB, ofI, no, bi]) (by simp [binL, intsL, ofB, ofI, no, bi])
  by_cases h45 : t.toList = [45]
  · obtain rfl : t = ⟨#[45]⟩ := ba_of (h45.trans (by rw [ByteArray.toList_eq]))
    rw [h45]
    exact (rar_45 a b w).mono fun e w' H => H.of (by simp [binL, intsL, ofB, ofI, no, bi]) (by simp [binL, intsL, ofB, ofI, no, bi]) (by simp [binL, intsL, ofB, ofI, no, bi])
  by_cases h42 : t.toList = [42]
  · obtain rfl : t = ⟨#[42]⟩ := ba_of (h42.trans (by rw [ByteArray.toList_eq]))
    rw [h42]
    exact (rar_42 a b w).mono fun e w' H => H.of (by simp [binL, intsL, ofB, ofI, no, bi]) (by simp [binL, intsL, ofB, ofI, no, bi]) (by simp [binL, intsL, ofB, ofI, no, bi])
  by_cases h47 : t.toList = [47]
  · obtain rfl : t = ⟨#[47]⟩ := ba_of (h47.trans (by rw [ByteArray.toList_eq]))
    rw [h47]
    by_cases h0 : b = 0
    · subst h0
      exact (rar_470 a w).mono fun e w' H => H.of (by simp [binL, intsL, ofB, ofI, no, bi]) (by simp [binL, intsL, ofB, ofI, no, bi]) (by simp [binL, intsL, ofB, ofI, no, bi])
    · exact (rar_47 a b w h0 (by simpa using h0) (by simpa using h0)).mono fun e w' H => H.of (by simp [binL, intsL, ofB, ofI, no, bi, h0]) (by simp [binL, intsL, ofB, ofI, no, bi, h0]) (by simp [binL, intsL, ofB, ofI, no, bi, h0])
  by_cases h37 : t.toList = [37]
  · obtain rfl : t = ⟨#[37]⟩ := ba_of (h37.trans (by rw [ByteArray.toList_eq]))
    rw [h37]
    by_cases h0 : b = 0
    · subst h0
      exact (rar_370 a w).mono fun e w' H => H.of (by simp [binL, intsL, ofB, ofI, no, bi]) (by simp [binL, intsL, ofB, ofI, no, bi]) (by simp [binL, intsL, ofB, ofI, no, bi])
    · exact (rar_37 a b w h0 (by simpa using h0) (by simpa using h0)).mono fun e w' H => H.of (by simp [binL, intsL, ofB, ofI, no, bi, h0]) (by simp [binL, intsL, ofB, ofI, no, bi, h0]) (by simp [binL, intsL, ofB, ofI, no, bi, h0])
  by_cases h60 : t.toList = [60]
  · obtain rfl : t = ⟨#[60]⟩ := ba_of (h60.trans (by rw [ByteArray.toList_eq]))
    rw [h60]
    exact (rar_60 a b w).mono fun e w' H => H.of (by simp [binL, intsL, ofB, ofI, no, bi]) (by simp [binL, intsL, ofB, ofI, no, bi]) (by simp [binL, intsL, ofB, ofI, no, bi])
  by_cases h6061 : t.toList = [60, 61]
  · obtain rfl : t = ⟨#[60, 61]⟩ := ba_of (h6061.trans (by rw [ByteArray.toList_eq]))
    rw [h6061]
    exact (rar_6061 a b w).mono fun e w' H => H.of (by simp [binL, intsL, ofB, ofI, no, bi]) (by simp [binL, intsL, ofB, ofI, no, bi]) (by simp [binL, intsL, ofB, ofI, no, bi])
  by_cases h62 : t.toList = [62]
  · obtain rfl : t = ⟨#[62]⟩ := ba_of (h62.trans (by rw [ByteArray.toList_eq]))
    rw [h62]
    exact (rar_62 a b w).mono fun e w' H => H.of (by simp [binL, intsL, ofB, ofI, no, bi]) (by simp [binL, intsL, ofB, ofI, no, bi]) (by simp [binL, intsL, ofB, ofI, no, bi])
  by_cases h6261 : t.toList = [62, 61]
  · obtain rfl : t = ⟨#[62, 61]⟩ := ba_of (h6261.trans (by rw [ByteArray.toList_eq]))
    rw [h6261]
    exact (rar_6261 a b w).mono fun e w' H => H.of (by simp [binL, intsL, ofB, ofI, no, bi]) (by simp [binL, intsL, ofB, ofI, no, bi]) (by simp [binL, intsL, ofB, ofI, no, bi])
  by_cases h6161 : t.toList = [61, 61]
  · obtain rfl : t = ⟨#[61, 61]⟩ := ba_of (h6161.trans (by rw [ByteArray.toList_eq]))
    rw [h6161]
    exact (rar_6161 a b w).mono fun e w' H => H.of (by simp [binL, intsL, ofB, ofI, no, bi]) (by simp [binL, intsL, ofB, ofI, no, bi]) (by simp [binL, intsL, ofB, ofI, no, bi])
  by_cases h3361 : t.toList = [33, 61]
  · obtain rfl : t = ⟨#[33, 61]⟩ := ba_of (h3361.trans (by rw [ByteArray.toList_eq]))
    rw [h3361]
    exact (rar_3361 a b w).mono fun e w' H => H.of (by simp [binL, intsL, ofB, ofI, no, bi]) (by simp [binL, intsL, ofB, ofI, no, bi]) (by simp [binL, intsL, ofB, ofI, no, bi])
  exact (rar_o t a b w (by simpa using h43) (by simpa using h45) (by simpa using h42) (by simpa using h47) (by simpa using h37) (by simpa using h60) (by simpa using h6061) (by simpa using h62) (by simpa using h6261) (by simpa using h6161) (by simpa using h3361)).mono fun e w' H => H.of (by simp [binL, intsL, ofB, ofI, no, bi, h43, h45, h42, h47, h37, h60, h6061, h62, h6261, h6161, h3361]) (by simp [binL, intsL, ofB, ofI, no, bi, h43, h45, h42, h47, h37, h60, h6061, h62, h6261, h6161, h3361]) (by simp [binL, intsL, ofB, ofI, no, bi, h43, h45, h42, h47, h37, h60, h6061, h62, h6261, h6161, h3361])

theorem rlo_3838_00 (w : World) : Calls Tryz.prog 63 #[.string ⟨#[38, 38]⟩, .int .i64 0, .int .i64 0] w (Ret2 0 true w) := by
  go_enter Tryz.func63, Tryz.ntmps63
  go_wp2
  go_ret2
  exact ⟨rfl, rfl⟩

theorem rlo_3838_01 (w : World) : Calls Tryz.prog 63 #[.string ⟨#[38, 38]⟩, .int .i64 0, .int .i64 1] w (Ret2 0 true w) := by
  go_enter Tryz.func63, Tryz.ntmps63
  go_wp2
  go_ret2
  exact ⟨rfl, rfl⟩

theorem rlo_3838_10 (w : World) : Calls Tryz.prog 63 #[.string ⟨#[38, 38]⟩, .int .i64 1, .int .i64 0] w (Ret2 0 true w) := by
  go_enter Tryz.func63, Tryz.ntmps63
  go_wp2
  go_ret2
  exact ⟨rfl, rfl⟩

theorem rlo_3838_11 (w : World) : Calls Tryz.prog 63 #[.string ⟨#[38, 38]⟩, .int .i64 1, .int .i64 1] w (Ret2 1 true w) := by
  go_enter Tryz.func63, Tryz.ntmps63
  go_wp2
  go_ret2
  exact ⟨rfl, rfl⟩

theorem rlo_124124_00 (w : World) : Calls Tryz.prog 63 #[.string ⟨#[124, 124]⟩, .int .i64 0, .int .i64 0] w (Ret2 0 true w) := by
  go_enter Tryz.func63, Tryz.ntmps63
  go_wp2
  go_ret2
  exact ⟨rfl, rfl⟩

theorem rlo_124124_01 (w : World) : Calls Tryz.prog 63 #[.string ⟨#[124, 124]⟩, .int .i64 0, .int .i64 1] w (Ret2 1 true w) := by
  go_enter Tryz.func63, Tryz.ntmps63
  go_wp2
  go_ret2
  exact ⟨rfl, rfl⟩

theorem rlo_124124_10 (w : World) : Calls Tryz.prog 63 #[.string ⟨#[124, 124]⟩, .int .i64 1, .int .i64 0] w (Ret2 1 true w) := by
  go_enter Tryz.func63, Tryz.ntmps63
  go_wp2
  go_ret2
  exact ⟨rfl, rfl⟩

theorem rlo_124124_11 (w : World) : Calls Tryz.prog 63 #[.string ⟨#[124, 124]⟩, .int .i64 1, .int .i64 1] w (Ret2 1 true w) := by
  go_enter Tryz.func63, Tryz.ntmps63
  go_wp2
  go_ret2
  exact ⟨rfl, rfl⟩

theorem rlo_6161_00 (w : World) : Calls Tryz.prog 63 #[.string ⟨#[61, 61]⟩, .int .i64 0, .int .i64 0] w (Ret2 1 true w) := by
  go_enter Tryz.func63, Tryz.ntmps63
  go_wp2_with (go_at_call 91; (with_reducible refine (rboolean_any _ _).mono ?_); rintro e w' ⟨rfl, rfl⟩)
  go_ret2
  exact ⟨rfl, rfl⟩

theorem rlo_6161_01 (w : World) : Calls Tryz.prog 63 #[.string ⟨#[61, 61]⟩, .int .i64 0, .int .i64 1] w (Ret2 0 true w) := by
  go_enter Tryz.func63, Tryz.ntmps63
  go_wp2_with (go_at_call 91; (with_reducible refine (rboolean_any _ _).mono ?_); rintro e w' ⟨rfl, rfl⟩)
  go_ret2
  exact ⟨rfl, rfl⟩

theorem rlo_6161_10 (w : World) : Calls Tryz.prog 63 #[.string ⟨#[61, 61]⟩, .int .i64 1, .int .i64 0] w (Ret2 0 true w) := by
  go_enter Tryz.func63, Tryz.ntmps63
  go_wp2_with (go_at_call 91; (with_reducible refine (rboolean_any _ _).mono ?_); rintro e w' ⟨rfl, rfl⟩)
  go_ret2
  exact ⟨rfl, rfl⟩

theorem rlo_6161_11 (w : World) : Calls Tryz.prog 63 #[.string ⟨#[61, 61]⟩, .int .i64 1, .int .i64 1] w (Ret2 1 true w) := by
  go_enter Tryz.func63, Tryz.ntmps63
  go_wp2_with (go_at_call 91; (with_reducible refine (rboolean_any _ _).mono ?_); rintro e w' ⟨rfl, rfl⟩)
  go_ret2
  exact ⟨rfl, rfl⟩

theorem rlo_3361_00 (w : World) : Calls Tryz.prog 63 #[.string ⟨#[33, 61]⟩, .int .i64 0, .int .i64 0] w (Ret2 0 true w) := by
  go_enter Tryz.func63, Tryz.ntmps63
  go_wp2_with (go_at_call 91; (with_reducible refine (rboolean_any _ _).mono ?_); rintro e w' ⟨rfl, rfl⟩)
  go_ret2
  exact ⟨rfl, rfl⟩

theorem rlo_3361_01 (w : World) : Calls Tryz.prog 63 #[.string ⟨#[33, 61]⟩, .int .i64 0, .int .i64 1] w (Ret2 1 true w) := by
  go_enter Tryz.func63, Tryz.ntmps63
  go_wp2_with (go_at_call 91; (with_reducible refine (rboolean_any _ _).mono ?_); rintro e w' ⟨rfl, rfl⟩)
  go_ret2
  exact ⟨rfl, rfl⟩

theorem rlo_3361_10 (w : World) : Calls Tryz.prog 63 #[.string ⟨#[33, 61]⟩, .int .i64 1, .int .i64 0] w (Ret2 1 true w) := by
  go_enter Tryz.func63, Tryz.ntmps63
  go_wp2_with (go_at_call 91; (with_reducible refine (rboolean_any _ _).mono ?_); rintro e w' ⟨rfl, rfl⟩)
  go_ret2
  exact ⟨rfl, rfl⟩

theorem rlo_3361_11 (w : World) : Calls Tryz.prog 63 #[.string ⟨#[33, 61]⟩, .int .i64 1, .int .i64 1] w (Ret2 0 true w) := by
  go_enter Tryz.func63, Tryz.ntmps63
  go_wp2_with (go_at_call 91; (with_reducible refine (rboolean_any _ _).mono ?_); rintro e w' ⟨rfl, rfl⟩)
  go_ret2
  exact ⟨rfl, rfl⟩

theorem rlo_o (t : ByteArray) (a b : Int) (w : World) (h3838 : (t.toList == [38, 38]) = false) (h124124 : (t.toList == [124, 124]) = false) (h6161 : (t.toList == [61, 61]) = false) (h3361 : (t.toList == [33, 61]) = false) : Calls Tryz.prog 63 #[.string t, .int .i64 a, .int .i64 b] w (Ret2 0 false w) := by
  go_enter Tryz.func63, Tryz.ntmps63
  go_wp2
  go_ret2
  exact ⟨rfl, rfl⟩

theorem rlo_any (t : ByteArray) (a b : Int) (w : World) (c : Cv) (ha : a = 0 ∨ a = 1) (hb : b = 0 ∨ b = 1) (hc : binL t.toList ⟨25, a⟩ ⟨25, b⟩ = c) : Calls Tryz.prog 63 #[.string t, .int .i64 a, .int .i64 b] w (Ret2 c.v (c.k != 0) w) := by
  subst hc
  by_cases h3838 : t.toList = [38, 38]
  · obtain rfl : t = ⟨#[38, 38]⟩ := ba_of (h3838.trans (by rw [ByteArray.toList_eq]))
    rw [h3838]
    rcases ha with rfl | rfl <;> rcases hb with rfl | rfl
    · exact (rlo_3838_00 w).mono fun e w' H => H.of (by simp [binL, boolsL, ofB, no]) (by simp [binL, boolsL, ofB, no])
    · exact (rlo_3838_01 w).mono fun e w' H => H.of (by simp [binL, boolsL, ofB, no]) (by simp [binL, boolsL, ofB, no])
    · exact (rlo_3838_10 w).mono fun e w' H => H.of (by simp [binL, boolsL, ofB, no]) (by simp [binL, boolsL, ofB, no])
    · exact (rlo_3838_11 w).mono fun e w' H => H.of (by simp [binL, boolsL, ofB, no]) (by simp [binL, boolsL, ofB, no])
  by_cases h124124 : t.toList = [124, 124]
  · obtain rfl : t = ⟨#[124, 124]⟩ := ba_of (h124124.trans (by rw [ByteArray.toList_eq]))
    rw [h124124]
    rcases ha with rfl | rfl <;> rcases hb with rfl | rfl
    · exact (rlo_124124_00 w).mono fun e w' H => H.of (by simp [binL, boolsL, ofB, no]) (by simp [binL, boolsL, ofB, no])
    · exact (rlo_124124_01 w).mono fun e w' H => H.of (by simp [binL, boolsL, ofB, no]) (by simp [binL, boolsL, ofB, no])
    · exact (rlo_124124_10 w).mono fun e w' H => H.of (by simp [binL, boolsL, ofB, no]) (by simp [binL, boolsL, ofB, no])
    · exact (rlo_124124_11 w).mono fun e w' H => H.of (by simp [binL, boolsL, ofB, no]) (by simp [binL, boolsL, ofB, no])
  by_cases h6161 : t.toList = [61, 61]
  · obtain rfl : t = ⟨#[61, 61]⟩ := ba_of (h6161.trans (by rw [ByteArray.toList_eq]))
    rw [h6161]
    rcases ha with rfl | rfl <;> rcases hb with rfl | rfl
    · exact (rlo_6161_00 w).mono fun e w' H => H.of (by simp [binL, boolsL, ofB, no]) (by simp [binL, boolsL, ofB, no])
    · exact (rlo_6161_01 w).mono fun e w' H => H.of (by simp [binL, boolsL, ofB, no]) (by simp [binL, boolsL, ofB, no])
    · exact (rlo_6161_10 w).mono fun e w' H => H.of (by simp [binL, boolsL, ofB, no]) (by simp [binL, boolsL, ofB, no])
    · exact (rlo_6161_11 w).mono fun e w' H => H.of (by simp [binL, boolsL, ofB, no]) (by simp [binL, boolsL, ofB, no])
  by_cases h3361 : t.toList = [33, 61]
  · obtain rfl : t = ⟨#[33, 61]⟩ := ba_of (h3361.trans (by rw [ByteArray.toList_eq]))
    rw [h3361]
    rcases ha with rfl | rfl <;> rcases hb with rfl | rfl
    · exact (rlo_3361_00 w).mono fun e w' H => H.of (by simp [binL, boolsL, ofB, no]) (by simp [binL, boolsL, ofB, no])
    · exact (rlo_3361_01 w).mono fun e w' H => H.of (by simp [binL, boolsL, ofB, no]) (by simp [binL, boolsL, ofB, no])
    · exact (rlo_3361_10 w).mono fun e w' H => H.of (by simp [binL, boolsL, ofB, no]) (by simp [binL, boolsL, ofB, no])
    · exact (rlo_3361_11 w).mono fun e w' H => H.of (by simp [binL, boolsL, ofB, no]) (by simp [binL, boolsL, ofB, no])
  exact (rlo_o t a b w (by simpa using h3838) (by simpa using h124124) (by simpa using h6161) (by simpa using h3361)).mono fun e w' H => H.of (by simp [binL, boolsL, ofB, no, h3838, h124124, h6161, h3361]) (by simp [binL, boolsL, ofB, no, h3838, h124124, h6161, h3361])

end Go.Proofs.YtnknphchjmnkcaaGreatDoor
