/-
  The walks of the laws LinesSpan, LinesOffset and LinesPosition.
-/
import Derived.Test.YtlnobjdlcnpjeaaL1
import Derived.Test.YtlnobjdlcnpjeaaW10
import Derived.Test.YtlnobjdlcnpjeaaW11
import Derived.Test.YtlnobjdlcnpjeaaW12
namespace Go.Proofs.Ytlnobjdlcnpjeaa
open Go.RowKit M

set_option maxRecDepth 100000 in
set_option maxHeartbeats 400000 in
theorem lawSpan_long (ao : Option Addr) (n cap : Nat) (size l : Int) (w : World) (hn : 1000 < n) (hm : (n : Int) ≤ 9223372036854775807) :
    Calls Try.prog 7 #[.agg #[.slice ao n cap, .int .i64 size], .int .i64 l] w fun e w' => e = .returned (.bool true) ∧ Below w.heap.size w w' := by
  have hd : decide ((1000 : Int) < (n : Int)) = true := by simp; omega
  go_enter Try.func7, Try.ntmps7
  go_wp2_with (go_at_call 10; refine (awake_any _).mono ?_; rintro e w' ⟨rfl, hb1⟩; obtain ⟨hc, hf⟩ := bcell hb1)
  go_ret
  exact ⟨rfl, below_box hb1⟩

set_option maxRecDepth 100000 in
set_option maxHeartbeats 1600000 in
theorem lawSpan_short (ao : Option Addr) (n cap : Nat) (zs : List Int) (size l : Int) (v : Bool) (w : World) (hn : n ≤ 1000) (h : Row w ao n zs) (hv : Tells v zs size) :
    Calls Try.prog 7 #[.agg #[.slice ao n cap, .int .i64 size], .int .i64 l] w fun e w' => e = .returned (.bool true) ∧ Below w.heap.size w w' := by
  have hd : decide ((1000 : Int) < (n : Int)) = false := by simp; omega
  have HH := Lib.hid h
  have HV := Lib.hid hv
  have HN := Lib.hid hn
  clear h hv hn
  go_enter Try.func7, Try.ntmps7
  go_wp2_with fail
  refine (awake_any _).mono ?_
  rintro e w1 ⟨rfl, hb1⟩
  have s0 : w1.cell? ⟨w.heap.size, 0, none⟩ = some (.slice ao n cap) := ((bcell hb1).1 w.heap.size 0 (by simp)).trans (by simp)
  have s1 : w1.cell? ⟨w.heap.size, 1, none⟩ = some (.int .i64 size) := ((bcell hb1).1 w.heap.size 1 (by simp)).trans (by simp)
  have l1 : w.heap.size < w1.heap.size := by have := hb1.size; simp at this; omega
  have R1 := Lib.hid ((HH.out.alloc _).below hb1)
  have B1 := Lib.hid (below_box hb1)
  clear hb1
  go_wp2_with fail
  refine (copied_any _ _ _ zs _ _ R1.out).mono ?_
  rintro e w2 ⟨ao1, cap1, rfl, hr1, hb2⟩
  obtain ⟨t0, t1, l2, r2, b2⟩ := keep_held s0 s1 l1 R1.out B1.out hb2
  have R2 := Lib.hid r2
  have B2 := Lib.hid b2
  have O2 := Lib.hid hr1
  clear hb2 r2 b2 s0 s1 hr1
  go_wp2_with fail
  refine (span_any _ _ _ zs _ _ v _ O2.out HV.out).mono ?_
  rintro e w3 ⟨rfl, hb3⟩
  obtain ⟨s0, s1, l3, r3, b3⟩ := keep_held t0 t1 l2 R2.out B2.out hb3
  have R3 := Lib.hid r3
  have B3 := Lib.hid b3
  clear hb3 r3 b3 t0 t1
  go_wp2_with fail
  refine (rspan_any _ _ _ zs _ _ v _ R3.out HV.out).mono ?_
  rintro e w4 ⟨rfl, hb4⟩
  have B4 := Lib.hid (keep_held s0 s1 l3 R3.out B3.out hb4).2.2.2.2
  clear hb4
  go_wp2
  go_ret
  exact ⟨ret_bool (by simp), B4.out⟩
set_option maxRecDepth 100000 in
set_option maxHeartbeats 400000 in
theorem lawOff_long (ao : Option Addr) (n cap : Nat) (size l c : Int) (w : World) (hn : 1000 < n) (hm : (n : Int) ≤ 9223372036854775807) :
    Calls Try.prog 6 #[.agg #[.slice ao n cap, .int .i64 size], .int .i64 l, .int .i64 c] w fun e w' => e = .returned (.bool true) ∧ Below w.heap.size w w' := by
  have hd : decide ((1000 : Int) < (n : Int)) = true := by simp; omega
  go_enter Try.func6, Try.ntmps6
  go_wp2_with (go_at_call 10; refine (awake_any _).mono ?_; rintro e w' ⟨rfl, hb1⟩; obtain ⟨hc, hf⟩ := bcell hb1)
  go_ret
  exact ⟨rfl, below_box hb1⟩

set_option maxRecDepth 100000 in
set_option maxHeartbeats 1600000 in
theorem lawOff_short (ao : Option Addr) (n cap : Nat) (zs : List Int) (size l c : Int) (v : Bool) (w : World) (hn : n ≤ 1000) (h : Row w ao n zs) (hv : Tells v zs size) :
    Calls Try.prog 6 #[.agg #[.slice ao n cap, .int .i64 size], .int .i64 l, .int .i64 c] w fun e w' => e = .returned (.bool true) ∧ Below w.heap.size w w' := by
  have hd : decide ((1000 : Int) < (n : Int)) = false := by simp; omega
  have HH := Lib.hid h
  have HV := Lib.hid hv
  have HN := Lib.hid hn
  clear h hv hn
  go_enter Try.func6, Try.ntmps6
  go_wp2_with fail
  refine (awake_any _).mono ?_
  rintro e w1 ⟨rfl, hb1⟩
  have s0 : w1.cell? ⟨w.heap.size, 0, none⟩ = some (.slice ao n cap) := ((bcell hb1).1 w.heap.size 0 (by simp)).trans (by simp)
  have s1 : w1.cell? ⟨w.heap.size, 1, none⟩ = some (.int .i64 size) := ((bcell hb1).1 w.heap.size 1 (by simp)).trans (by simp)
  have l1 : w.heap.size < w1.heap.size := by have := hb1.size; simp at this; omega
  have R1 := Lib.hid ((HH.out.alloc _).below hb1)
  have B1 := Lib.hid (below_box hb1)
  clear hb1
  go_wp2_with fail
  refine (copied_any _ _ _ zs _ _ R1.out).mono ?_
  rintro e w2 ⟨ao1, cap1, rfl, hr1, hb2⟩
  obtain ⟨t0, t1, l2, r2, b2⟩ := keep_held s0 s1 l1 R1.out B1.out hb2
  have R2 := Lib.hid r2
  have B2 := Lib.hid b2
  have O2 := Lib.hid hr1
  clear hb2 r2 b2 s0 s1 hr1
  go_wp2_with fail
  refine (off_any _ _ _ zs _ _ _ v _ O2.out HV.out).mono ?_
  rintro e w3 ⟨rfl, hb3⟩
  obtain ⟨s0, s1, l3, r3, b3⟩ := keep_held t0 t1 l2 R2.out B2.out hb3
  have R3 := Lib.hid r3
  have B3 := Lib.hid b3
  clear hb3 r3 b3 t0 t1
  go_wp2_with fail
  refine (roff_any _ _ _ zs _ _ _ v _ R3.out HV.out).mono ?_
  rintro e w4 ⟨rfl, hb4⟩
  have B4 := Lib.hid (keep_held s0 s1 l3 R3.out B3.out hb4).2.2.2.2
  clear hb4
  go_wp2
  go_ret
  exact ⟨ret_bool (by simp), B4.out⟩
theorem below_le_refl {B : Nat} (w : World) (_h : B < w.heap.size) : Below B w w := Below.refl _ _

set_option maxRecDepth 100000 in
set_option maxHeartbeats 400000 in
theorem lawPos_long (ao : Option Addr) (n cap : Nat) (size a : Int) (w : World) (hn : 1000 < n) (hm : (n : Int) ≤ 9223372036854775807) :
    Calls Try.prog 5 #[.agg #[.slice ao n cap, .int .i64 size], .int .i64 a] w fun e w' => e = .returned (.bool true) ∧ Below w.heap.size w w' := by
  have hd : decide ((1000 : Int) < (n : Int)) = true := by simp; omega
  go_enter Try.func5, Try.ntmps5
  go_wp2_with (go_at_call 10; refine (awake_any _).mono ?_; rintro e w' ⟨rfl, hb1⟩; obtain ⟨hc, hf⟩ := bcell hb1)
  go_ret
  exact ⟨rfl, below_box hb1⟩

set_option maxRecDepth 100000 in
set_option maxHeartbeats 1600000 in
theorem lawPos_short (ao : Option Addr) (n cap : Nat) (zs : List Int) (size a : Int) (v : Bool) (w : World) (hn : n ≤ 1000) (h : Row w ao n zs) (hv : Tells v zs size) :
    Calls Try.prog 5 #[.agg #[.slice ao n cap, .int .i64 size], .int .i64 a] w fun e w' => e = .returned (.bool true) ∧ Below w.heap.size w w' := by
  have hd : decide ((1000 : Int) < (n : Int)) = false := by simp; omega
  have HH := Lib.hid h
  have HV := Lib.hid hv
  have HN := Lib.hid hn
  clear h hv hn
  go_enter Try.func5, Try.ntmps5
  go_wp2_with fail
  refine (awake_any _).mono ?_
  rintro e w1 ⟨rfl, hb1⟩
  have s0 : w1.cell? ⟨w.heap.size, 0, none⟩ = some (.slice ao n cap) := ((bcell hb1).1 w.heap.size 0 (by simp)).trans (by simp)
  have s1 : w1.cell? ⟨w.heap.size, 1, none⟩ = some (.int .i64 size) := ((bcell hb1).1 w.heap.size 1 (by simp)).trans (by simp)
  have l1 : w.heap.size < w1.heap.size := by have := hb1.size; simp at this; omega
  have R1 := Lib.hid ((HH.out.alloc _).below hb1)
  have B1 := Lib.hid (below_box hb1)
  clear hb1
  go_wp2_with fail
  refine (copied_any _ _ _ zs _ _ R1.out).mono ?_
  rintro e w2 ⟨ao1, cap1, rfl, hr1, hb2⟩
  obtain ⟨t0, t1, l2, r2, b2⟩ := keep_held s0 s1 l1 R1.out B1.out hb2
  have R2 := Lib.hid r2
  have B2 := Lib.hid b2
  have O2 := Lib.hid hr1
  clear hb2 r2 b2 s0 s1 hr1
  go_wp2_with fail
  refine (pos_any _ _ _ zs _ _ v _ (O2.out.alloc _) HV.out).mono ?_
  rintro e w3 ⟨rfl, hb3⟩
  obtain ⟨s0, s1, l3, r3, b3⟩ := keep_held t0 t1 l2 R2.out B2.out (below_box hb3)
  obtain ⟨u0, u1, l4, r4, b4⟩ := keep_held (w := w2) (B := w2.heap.size) (ao := ao1) (n := n) (cap := cap1) (zs := zs) (size := size) (by simp) (by simp) (by simp) (O2.out.alloc _) ((Below.refl _ _).alloc (Nat.le_refl _) _) hb3
  have R3 := Lib.hid r3
  have B3 := Lib.hid b3
  have O3 := Lib.hid r4
  clear hb3 r3 b3 t0 t1 r4 b4
  go_wp2_with fail
  refine (rpos_any _ _ _ zs _ _ v _ R3.out HV.out).mono ?_
  rintro e w4 ⟨rfl, hb4⟩
  obtain ⟨t0, t1, l5, r5, b5⟩ := keep_held s0 s1 l3 R3.out B3.out hb4
  obtain ⟨q0, q1, l6, r6, b6⟩ := keep_held (w := w3) u0 u1 l4 O3.out (below_le_refl _ l4) hb4
  have R4 := Lib.hid r5
  have B4 := Lib.hid b5
  have O4 := Lib.hid r6
  clear hb4 r5 b5 r6 b6 s0 s1 u0 u1
  go_wp2_with fail
  refine (same_any _ _ _ _ _ zs _ _ O4.out R4.out).mono ?_
  rintro e w5 ⟨rfl, hb5⟩
  have B5 := Lib.hid (keep_held t0 t1 l5 R4.out B4.out hb5).2.2.2.2
  clear hb5
  go_wp2
  go_ret
  exact ⟨rfl, B5.out⟩

end Go.Proofs.Ytlnobjdlcnpjeaa
