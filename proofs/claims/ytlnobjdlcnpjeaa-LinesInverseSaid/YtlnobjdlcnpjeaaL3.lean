/-
  The walk of the law LinesInverse.
-/
import Derived.Test.YtlnobjdlcnpjeaaL2
import Derived.Test.YtlnobjdlcnpjeaaMath2
namespace Go.Proofs.Ytlnobjdlcnpjeaa
open Go.RowKit M

set_option maxRecDepth 100000 in
set_option maxHeartbeats 400000 in
theorem lawInv_long (ao : Option Addr) (n cap : Nat) (size a b : Int) (w : World) (hn : 1000 < n) (hm : (n : Int) ≤ 9223372036854775807) :
    Calls Try.prog 8 #[.agg #[.slice ao n cap, .int .i64 size], .int .i64 a, .int .i64 b] w fun e w' => e = .returned (.bool true) ∧ Below w.heap.size w w' := by
  have hd : decide ((1000 : Int) < (n : Int)) = true := by simp; omega
  go_enter Try.func8, Try.ntmps8
  go_wp2_with (go_at_call 10; refine (awake_any _).mono ?_; rintro e w' ⟨rfl, hb1⟩; obtain ⟨hc, hf⟩ := bcell hb1)
  go_ret
  exact ⟨rfl, below_box hb1⟩

set_option maxRecDepth 100000 in
set_option maxHeartbeats 1600000 in
theorem lawInv_yy (ao : Option Addr) (n cap : Nat) (zs : List Int) (size a b : Int) (v : Bool) (w : World) (hn : n ≤ 1000) (h : Row w ao n zs) (hv : Tells v zs size) (hp : pErr v size a = 0) (ho : oErr v zs size a b = 0) :
    Calls Try.prog 8 #[.agg #[.slice ao n cap, .int .i64 size], .int .i64 a, .int .i64 b] w fun e w' => e = .returned (.bool true) ∧ Below w.heap.size w w' := by
  have hd : decide ((1000 : Int) < (n : Int)) = false := by simp; omega
  have q1 : (pErr v size a == 0) = true := by simpa using hp
  have q2 : (oErr v zs size (pLine v zs size a) (pCol v zs size a) != 0) = false := by simpa using (there hv hp).1
  have q3 : (oAt v zs size (pLine v zs size a) (pCol v zs size a) != a) = false := by simpa using (there hv hp).2
  have o1 : (oErr v zs size a b != 0) = false := by simpa using ho
  have o2 : (pErr v size (oAt v zs size a b) == 0) = true := by simpa using (back hv ho).1
  have o3 : (pLine v zs size (oAt v zs size a b) == a) = true := by simpa using (back hv ho).2.1
  have o4 : (pCol v zs size (oAt v zs size a b) == b) = true := by simpa using (back hv ho).2.2
  have HH := Lib.hid h
  have HV := Lib.hid hv
  clear h hv hn hp ho
  go_enter Try.func8, Try.ntmps8
  go_wp2_with fail
  refine (awake_any _).mono ?_
  rintro e w1 ⟨rfl, hb1⟩
  have s0 : w1.cell? ⟨w.heap.size, 0, none⟩ = some (.slice ao n cap) := ((bcell hb1).1 w.heap.size 0 (by simp)).trans (by simp)
  have s1 : w1.cell? ⟨w.heap.size, 1, none⟩ = some (.int .i64 size) := ((bcell hb1).1 w.heap.size 1 (by simp)).trans (by simp)
  have l0 : w.heap.size < w1.heap.size := by have := hb1.size; simp at this; omega
  have R := Lib.hid ((HH.out.alloc _).below hb1)
  have B := Lib.hid (below_box hb1)
  clear hb1
  go_wp2_with fail
  refine (copied_any _ _ _ zs _ _ R.out).mono ?_
  rintro e x1 ⟨ao1, cap1, rfl, hr, hb⟩
  obtain ⟨t0, t1, k0, r, b0⟩ := keep_held s0 s1 l0 R.out B.out hb
  have O := Lib.hid hr
  have R' := Lib.hid r
  have B' := Lib.hid b0
  clear hb r b0 s0 s1 hr l0 R B
  go_wp2_with fail
  refine (pos_any _ _ _ zs _ _ v _ O.out HV.out).mono ?_
  rintro e y1 ⟨rfl, hb⟩
  obtain ⟨s0, s1, l0, r, b0⟩ := keep_held t0 t1 k0 R'.out B'.out hb
  have R := Lib.hid r
  have B := Lib.hid b0
  clear hb r b0 t0 t1 k0 R' B' O
  go_wp2_with fail
  refine (copied_any _ _ _ zs _ _ R.out).mono ?_
  rintro e x2 ⟨ao2, cap2, rfl, hr, hb⟩
  obtain ⟨t0, t1, k0, r, b0⟩ := keep_held s0 s1 l0 R.out B.out hb
  have O := Lib.hid hr
  have R' := Lib.hid r
  have B' := Lib.hid b0
  clear hb r b0 s0 s1 hr l0 R B
  go_wp2_with fail
  refine (off_any _ _ _ zs _ _ _ v _ O.out HV.out).mono ?_
  rintro e y2 ⟨rfl, hb⟩
  obtain ⟨s0, s1, l0, r, b0⟩ := keep_held t0 t1 k0 R'.out B'.out hb
  have R := Lib.hid r
  have B := Lib.hid b0
  clear hb r b0 t0 t1 k0 R' B' O
  go_wp2_with fail
  refine (copied_any _ _ _ zs _ _ R.out).mono ?_
  rintro e x3 ⟨ao3, cap3, rfl, hr, hb⟩
  obtain ⟨t0, t1, k0, r, b0⟩ := keep_held s0 s1 l0 R.out B.out hb
  have O := Lib.hid hr
  have R' := Lib.hid r
  have B' := Lib.hid b0
  clear hb r b0 s0 s1 hr l0 R B
  go_wp2_with fail
  refine (off_any _ _ _ zs _ _ _ v _ O.out HV.out).mono ?_
  rintro e y3 ⟨rfl, hb⟩
  obtain ⟨s0, s1, l0, r, b0⟩ := keep_held t0 t1 k0 R'.out B'.out hb
  have R := Lib.hid r
  have B := Lib.hid b0
  clear hb r b0 t0 t1 k0 R' B' O
  go_wp2_with fail
  refine (copied_any _ _ _ zs _ _ R.out).mono ?_
  rintro e x4 ⟨ao4, cap4, rfl, hr, hb⟩
  obtain ⟨t0, t1, k0, r, b0⟩ := keep_held s0 s1 l0 R.out B.out hb
  have O := Lib.hid hr
  have R' := Lib.hid r
  have B' := Lib.hid b0
  clear hb r b0 s0 s1 hr l0 R B
  go_wp2_with fail
  refine (pos_any _ _ _ zs _ _ v _ O.out HV.out).mono ?_
  rintro e y4 ⟨rfl, hb⟩
  obtain ⟨s0, s1, l0, r, b0⟩ := keep_held t0 t1 k0 R'.out B'.out hb
  have R := Lib.hid r
  have B := Lib.hid b0
  clear hb r b0 t0 t1 k0 R' B' O
  go_wp2
  go_ret
  exact ⟨ret_bool (by simp), B.out⟩

set_option maxRecDepth 100000 in
set_option maxHeartbeats 1600000 in
theorem lawInv_yn (ao : Option Addr) (n cap : Nat) (zs : List Int) (size a b : Int) (v : Bool) (w : World) (hn : n ≤ 1000) (h : Row w ao n zs) (hv : Tells v zs size) (hp : pErr v size a = 0) (ho : oErr v zs size a b ≠ 0) :
    Calls Try.prog 8 #[.agg #[.slice ao n cap, .int .i64 size], .int .i64 a, .int .i64 b] w fun e w' => e = .returned (.bool true) ∧ Below w.heap.size w w' := by
  have hd : decide ((1000 : Int) < (n : Int)) = false := by simp; omega
  have q1 : (pErr v size a == 0) = true := by simpa using hp
  have q2 : (oErr v zs size (pLine v zs size a) (pCol v zs size a) != 0) = false := by simpa using (there hv hp).1
  have q3 : (oAt v zs size (pLine v zs size a) (pCol v zs size a) != a) = false := by simpa using (there hv hp).2
  have o1 : (oErr v zs size a b != 0) = true := by simpa using ho
  have o2 : (oAt v zs size a b == 0) = true := by simpa using off_zero ho
  have HH := Lib.hid h
  have HV := Lib.hid hv
  clear h hv hn hp ho
  go_enter Try.func8, Try.ntmps8
  go_wp2_with fail
  refine (awake_any _).mono ?_
  rintro e w1 ⟨rfl, hb1⟩
  have s0 : w1.cell? ⟨w.heap.size, 0, none⟩ = some (.slice ao n cap) := ((bcell hb1).1 w.heap.size 0 (by simp)).trans (by simp)
  have s1 : w1.cell? ⟨w.heap.size, 1, none⟩ = some (.int .i64 size) := ((bcell hb1).1 w.heap.size 1 (by simp)).trans (by simp)
  have l0 : w.heap.size < w1.heap.size := by have := hb1.size; simp at this; omega
  have R := Lib.hid ((HH.out.alloc _).below hb1)
  have B := Lib.hid (below_box hb1)
  clear hb1
  go_wp2_with fail
  refine (copied_any _ _ _ zs _ _ R.out).mono ?_
  rintro e x1 ⟨ao1, cap1, rfl, hr, hb⟩
  obtain ⟨t0, t1, k0, r, b0⟩ := keep_held s0 s1 l0 R.out B.out hb
  have O := Lib.hid hr
  have R' := Lib.hid r
  have B' := Lib.hid b0
  clear hb r b0 s0 s1 hr l0 R B
  go_wp2_with fail
  refine (pos_any _ _ _ zs _ _ v _ O.out HV.out).mono ?_
  rintro e y1 ⟨rfl, hb⟩
  obtain ⟨s0, s1, l0, r, b0⟩ := keep_held t0 t1 k0 R'.out B'.out hb
  have R := Lib.hid r
  have B := Lib.hid b0
  clear hb r b0 t0 t1 k0 R' B' O
  go_wp2_with fail
  refine (copied_any _ _ _ zs _ _ R.out).mono ?_
  rintro e x2 ⟨ao2, cap2, rfl, hr, hb⟩
  obtain ⟨t0, t1, k0, r, b0⟩ := keep_held s0 s1 l0 R.out B.out hb
  have O := Lib.hid hr
  have R' := Lib.hid r
  have B' := Lib.hid b0
  clear hb r b0 s0 s1 hr l0 R B
  go_wp2_with fail
  refine (off_any _ _ _ zs _ _ _ v _ O.out HV.out).mono ?_
  rintro e y2 ⟨rfl, hb⟩
  obtain ⟨s0, s1, l0, r, b0⟩ := keep_held t0 t1 k0 R'.out B'.out hb
  have R := Lib.hid r
  have B := Lib.hid b0
  clear hb r b0 t0 t1 k0 R' B' O
  go_wp2_with fail
  refine (copied_any _ _ _ zs _ _ R.out).mono ?_
  rintro e x3 ⟨ao3, cap3, rfl, hr, hb⟩
  obtain ⟨t0, t1, k0, r, b0⟩ := keep_held s0 s1 l0 R.out B.out hb
  have O := Lib.hid hr
  have R' := Lib.hid r
  have B' := Lib.hid b0
  clear hb r b0 s0 s1 hr l0 R B
  go_wp2_with fail
  refine (off_any _ _ _ zs _ _ _ v _ O.out HV.out).mono ?_
  rintro e y3 ⟨rfl, hb⟩
  obtain ⟨s0, s1, l0, r, b0⟩ := keep_held t0 t1 k0 R'.out B'.out hb
  have R := Lib.hid r
  have B := Lib.hid b0
  clear hb r b0 t0 t1 k0 R' B' O
  go_wp2
  go_ret
  exact ⟨ret_bool (by simp), B.out⟩

set_option maxRecDepth 100000 in
set_option maxHeartbeats 1600000 in
theorem lawInv_ny (ao : Option Addr) (n cap : Nat) (zs : List Int) (size a b : Int) (v : Bool) (w : World) (hn : n ≤ 1000) (h : Row w ao n zs) (hv : Tells v zs size) (hp : pErr v size a ≠ 0) (ho : oErr v zs size a b = 0) :
    Calls Try.prog 8 #[.agg #[.slice ao n cap, .int .i64 size], .int .i64 a, .int .i64 b] w fun e w' => e = .returned (.bool true) ∧ Below w.heap.size w w' := by
  have hd : decide ((1000 : Int) < (n : Int)) = false := by simp; omega
  have q1 : (pErr v size a == 0) = false := by simpa using hp
  have o1 : (oErr v zs size a b != 0) = false := by simpa using ho
  have o2 : (pErr v size (oAt v zs size a b) == 0) = true := by simpa using (back hv ho).1
  have o3 : (pLine v zs size (oAt v zs size a b) == a) = true := by simpa using (back hv ho).2.1
  have o4 : (pCol v zs size (oAt v zs size a b) == b) = true := by simpa using (back hv ho).2.2
  have HH := Lib.hid h
  have HV := Lib.hid hv
  clear h hv hn hp ho
  go_enter Try.func8, Try.ntmps8
  go_wp2_with fail
  refine (awake_any _).mono ?_
  rintro e w1 ⟨rfl, hb1⟩
  have s0 : w1.cell? ⟨w.heap.size, 0, none⟩ = some (.slice ao n cap) := ((bcell hb1).1 w.heap.size 0 (by simp)).trans (by simp)
  have s1 : w1.cell? ⟨w.heap.size, 1, none⟩ = some (.int .i64 size) := ((bcell hb1).1 w.heap.size 1 (by simp)).trans (by simp)
  have l0 : w.heap.size < w1.heap.size := by have := hb1.size; simp at this; omega
  have R := Lib.hid ((HH.out.alloc _).below hb1)
  have B := Lib.hid (below_box hb1)
  clear hb1
  go_wp2_with fail
  refine (copied_any _ _ _ zs _ _ R.out).mono ?_
  rintro e x1 ⟨ao1, cap1, rfl, hr, hb⟩
  obtain ⟨t0, t1, k0, r, b0⟩ := keep_held s0 s1 l0 R.out B.out hb
  have O := Lib.hid hr
  have R' := Lib.hid r
  have B' := Lib.hid b0
  clear hb r b0 s0 s1 hr l0 R B
  go_wp2_with fail
  refine (pos_any _ _ _ zs _ _ v _ O.out HV.out).mono ?_
  rintro e y1 ⟨rfl, hb⟩
  obtain ⟨s0, s1, l0, r, b0⟩ := keep_held t0 t1 k0 R'.out B'.out hb
  have R := Lib.hid r
  have B := Lib.hid b0
  clear hb r b0 t0 t1 k0 R' B' O
  go_wp2_with fail
  refine (copied_any _ _ _ zs _ _ R.out).mono ?_
  rintro e x3 ⟨ao3, cap3, rfl, hr, hb⟩
  obtain ⟨t0, t1, k0, r, b0⟩ := keep_held s0 s1 l0 R.out B.out hb
  have O := Lib.hid hr
  have R' := Lib.hid r
  have B' := Lib.hid b0
  clear hb r b0 s0 s1 hr l0 R B
  go_wp2_with fail
  refine (off_any _ _ _ zs _ _ _ v _ O.out HV.out).mono ?_
  rintro e y3 ⟨rfl, hb⟩
  obtain ⟨s0, s1, l0, r, b0⟩ := keep_held t0 t1 k0 R'.out B'.out hb
  have R := Lib.hid r
  have B := Lib.hid b0
  clear hb r b0 t0 t1 k0 R' B' O
  go_wp2_with fail
  refine (copied_any _ _ _ zs _ _ R.out).mono ?_
  rintro e x4 ⟨ao4, cap4, rfl, hr, hb⟩
  obtain ⟨t0, t1, k0, r, b0⟩ := keep_held s0 s1 l0 R.out B.out hb
  have O := Lib.hid hr
  have R' := Lib.hid r
  have B' := Lib.hid b0
  clear hb r b0 s0 s1 hr l0 R B
  go_wp2_with fail
  refine (pos_any _ _ _ zs _ _ v _ O.out HV.out).mono ?_
  rintro e y4 ⟨rfl, hb⟩
  obtain ⟨s0, s1, l0, r, b0⟩ := keep_held t0 t1 k0 R'.out B'.out hb
  have R := Lib.hid r
  have B := Lib.hid b0
  clear hb r b0 t0 t1 k0 R' B' O
  go_wp2
  go_ret
  exact ⟨ret_bool (by simp), B.out⟩

set_option maxRecDepth 100000 in
set_option maxHeartbeats 1600000 in
theorem lawInv_nn (ao : Option Addr) (n cap : Nat) (zs : List Int) (size a b : Int) (v : Bool) (w : World) (hn : n ≤ 1000) (h : Row w ao n zs) (hv : Tells v zs size) (hp : pErr v size a ≠ 0) (ho : oErr v zs size a b ≠ 0) :
    Calls Try.prog 8 #[.agg #[.slice ao n cap, .int .i64 size], .int .i64 a, .int .i64 b] w fun e w' => e = .returned (.bool true) ∧ Below w.heap.size w w' := by
  have hd : decide ((1000 : Int) < (n : Int)) = false := by simp; omega
  have q1 : (pErr v size a == 0) = false := by simpa using hp
  have o1 : (oErr v zs size a b != 0) = true := by simpa using ho
  have o2 : (oAt v zs size a b == 0) = true := by simpa using off_zero ho
  have HH := Lib.hid h
  have HV := Lib.hid hv
  clear h hv hn hp ho
  go_enter Try.func8, Try.ntmps8
  go_wp2_with fail
  refine (awake_any _).mono ?_
  rintro e w1 ⟨rfl, hb1⟩
  have s0 : w1.cell? ⟨w.heap.size, 0, none⟩ = some (.slice ao n cap) := ((bcell hb1).1 w.heap.size 0 (by simp)).trans (by simp)
  have s1 : w1.cell? ⟨w.heap.size, 1, none⟩ = some (.int .i64 size) := ((bcell hb1).1 w.heap.size 1 (by simp)).trans (by simp)
  have l0 : w.heap.size < w1.heap.size := by have := hb1.size; simp at this; omega
  have R := Lib.hid ((HH.out.alloc _).below hb1)
  have B := Lib.hid (below_box hb1)
  clear hb1
  go_wp2_with fail
  refine (copied_any _ _ _ zs _ _ R.out).mono ?_
  rintro e x1 ⟨ao1, cap1, rfl, hr, hb⟩
  obtain ⟨t0, t1, k0, r, b0⟩ := keep_held s0 s1 l0 R.out B.out hb
  have O := Lib.hid hr
  have R' := Lib.hid r
  have B' := Lib.hid b0
  clear hb r b0 s0 s1 hr l0 R B
  go_wp2_with fail
  refine (pos_any _ _ _ zs _ _ v _ O.out HV.out).mono ?_
  rintro e y1 ⟨rfl, hb⟩
  obtain ⟨s0, s1, l0, r, b0⟩ := keep_held t0 t1 k0 R'.out B'.out hb
  have R := Lib.hid r
  have B := Lib.hid b0
  clear hb r b0 t0 t1 k0 R' B' O
  go_wp2_with fail
  refine (copied_any _ _ _ zs _ _ R.out).mono ?_
  rintro e x3 ⟨ao3, cap3, rfl, hr, hb⟩
  obtain ⟨t0, t1, k0, r, b0⟩ := keep_held s0 s1 l0 R.out B.out hb
  have O := Lib.hid hr
  have R' := Lib.hid r
  have B' := Lib.hid b0
  clear hb r b0 s0 s1 hr l0 R B
  go_wp2_with fail
  refine (off_any _ _ _ zs _ _ _ v _ O.out HV.out).mono ?_
  rintro e y3 ⟨rfl, hb⟩
  obtain ⟨s0, s1, l0, r, b0⟩ := keep_held t0 t1 k0 R'.out B'.out hb
  have R := Lib.hid r
  have B := Lib.hid b0
  clear hb r b0 t0 t1 k0 R' B' O
  go_wp2
  go_ret
  exact ⟨ret_bool (by simp), B.out⟩

theorem lawInv_short (ao : Option Addr) (n cap : Nat) (zs : List Int) (size a b : Int) (v : Bool) (w : World) (hn : n ≤ 1000) (h : Row w ao n zs) (hv : Tells v zs size) :
    Calls Try.prog 8 #[.agg #[.slice ao n cap, .int .i64 size], .int .i64 a, .int .i64 b] w fun e w' => e = .returned (.bool true) ∧ Below w.heap.size w w' := by
  by_cases hp : pErr v size a = 0
  · by_cases ho : oErr v zs size a b = 0
    · exact lawInv_yy ao n cap zs size a b v w hn h hv hp ho
    · exact lawInv_yn ao n cap zs size a b v w hn h hv hp ho
  · by_cases ho : oErr v zs size a b = 0
    · exact lawInv_ny ao n cap zs size a b v w hn h hv hp ho
    · exact lawInv_nn ao n cap zs size a b v w hn h hv hp ho
end Go.Proofs.Ytlnobjdlcnpjeaa
