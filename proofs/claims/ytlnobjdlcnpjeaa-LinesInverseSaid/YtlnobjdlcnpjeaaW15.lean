/-
  The walk of 'awake': the document's example holds.
-/
import Derived.Test.YtlnobjdlcnpjeaaW9
import Derived.Test.YtlnobjdlcnpjeaaW13
namespace Go.Proofs.Ytlnobjdlcnpjeaa
open Go.RowKit M

/-- The example's text. -/
def sample : ByteArray := ⟨#[97, 98, 10, 10, 99]⟩
theorem sample_size : sample.size = 5 := rfl
theorem sample_st : st sample 5 = [0, 3, 4] := by decide
theorem sample_ok : Ok [0, 3, 4] 5 := by
  refine ⟨by decide, rfl, fun i hi => ?_, by decide, by decide⟩
  match i, hi with
  | 0, _ => decide
  | 1, _ => decide
theorem sample_tells : Tells true [0, 3, 4] 5 := by simp [Tells, sample_ok]

set_option maxRecDepth 100000 in
set_option maxHeartbeats 800000 in
theorem of_sample (w : World) : Calls Try.prog 11 #[.string sample] w fun e w' => ∃ ao cap, e = .returned (.agg #[.slice ao 3 cap, .int .i64 5]) ∧ Row w' ao 3 [0, 3, 4] ∧ Below w.heap.size w w' :=
  (of_any sample w (by decide)).mono fun e w' h => by
    obtain ⟨ao, cap, he, hr, hb⟩ := h
    rw [sample_size, sample_st] at he hr
    exact ⟨ao, cap, he, hr, hb⟩

theorem pos_sample (ao : Option Addr) (cap : Nat) (w : World) (h : Row w ao 3 [0, 3, 4]) :
    Calls Try.prog 19 #[.agg #[.slice ao 3 cap, .int .i64 5], .int .i64 4] w fun e w' => e = .returned (.tuple #[.int .i64 3, .int .i64 1, .int .i64 0]) ∧ Below w.heap.size w w' :=
  pos_any ao 3 cap [0, 3, 4] 5 4 true w h sample_tells
theorem off_sample (ao : Option Addr) (cap : Nat) (w : World) (h : Row w ao 3 [0, 3, 4]) :
    Calls Try.prog 21 #[.agg #[.slice ao 3 cap, .int .i64 5], .int .i64 3, .int .i64 2] w fun e w' => e = .returned (.tuple #[.int .i64 5, .int .i64 0]) ∧ Below w.heap.size w w' :=
  off_any ao 3 cap [0, 3, 4] 5 3 2 true w h sample_tells
theorem span_sample (ao : Option Addr) (cap : Nat) (w : World) (h : Row w ao 3 [0, 3, 4]) :
    Calls Try.prog 23 #[.agg #[.slice ao 3 cap, .int .i64 5], .int .i64 1] w fun e w' => e = .returned (.tuple #[.int .i64 0, .int .i64 3, .int .i64 0]) ∧ Below w.heap.size w w' :=
  span_any ao 3 cap [0, 3, 4] 5 1 true w h sample_tells

theorem count_sample (ao : Option Addr) (cap : Nat) (w : World) (h : Row w ao 3 [0, 3, 4]) :
    Calls Try.prog 15 #[.agg #[.slice ao 3 cap, .int .i64 5]] w fun e w' => e = .returned (.int .i64 3) ∧ Below w.heap.size w w' :=
  count_any ao 3 cap [0, 3, 4] 5 true w h sample_tells

set_option maxRecDepth 100000 in
set_option maxHeartbeats 800000 in
theorem awake_any (w : World) : Calls Try.prog 10 #[] w fun e w' => e = .returned (.bool true) ∧ Below w.heap.size w w' := by
  go_enter Try.func10, Try.ntmps10
  go_wp2_with fail
  refine (of_sample _).mono ?_
  rintro e w1 ⟨ao, cap, rfl, hr, hb1⟩
  have HB1 := Lib.hid hb1
  have HR := Lib.hid (hr.alloc (.cells #[.slice ao 3 cap, .int .i64 5] 25))
  clear hr hb1
  go_wp2_with fail
  refine (pos_sample ao cap _ HR.out).mono ?_
  rintro e w2 ⟨rfl, hb2⟩
  obtain ⟨hc2, hf2⟩ := bcell hb2
  have HB2 := Lib.hid hb2
  have HR2 := Lib.hid (HR.out.below hb2)
  clear hb2
  go_wp2_with fail
  refine (off_sample ao cap _ HR2.out).mono ?_
  rintro e w3 ⟨rfl, hb3⟩
  have hl2 : w1.heap.size < w2.heap.size := by have := HB2.out.size; simp at this; omega
  obtain ⟨hc3, hf3⟩ := bcell hb3
  have HB3 := Lib.hid hb3
  have HR3 := Lib.hid (HR2.out.below hb3)
  clear hb3
  go_wp2_with fail
  refine (span_sample ao cap _ HR3.out).mono ?_
  rintro e w4 ⟨rfl, hb4⟩
  have hl3 : w1.heap.size < w3.heap.size := by have := HB3.out.size; omega
  obtain ⟨hc4, hf4⟩ := bcell hb4
  have HB4 := Lib.hid hb4
  have HR4 := Lib.hid (HR3.out.below hb4)
  clear hb4
  go_wp2_with fail
  refine (valid_any ao 3 cap [0, 3, 4] 5 true _ HR4.out sample_tells).mono ?_
  rintro e w5 ⟨rfl, hb5⟩
  have hl4 : w1.heap.size < w4.heap.size := by have := HB4.out.size; omega
  obtain ⟨hc5, hf5⟩ := bcell hb5
  have HB5 := Lib.hid hb5
  have HR5 := Lib.hid (HR4.out.below hb5)
  clear hb5
  go_wp2_with fail
  refine (count_sample ao cap _ HR5.out).mono ?_
  rintro e w6 ⟨rfl, hb6⟩
  have HB6 := Lib.hid hb6
  clear hb6
  go_wp2_with fail
  go_ret
  refine ⟨rfl, HB1.out.trans ?_⟩
  have b2 := (below_box HB2.out).mono (HB1.out.size)
  have m2 := b2.size
  have b3 := HB3.out.mono (B' := w.heap.size) (by have := HB1.out.size; have := HB2.out.size; simp at this; omega)
  have b4 := HB4.out.mono (B' := w.heap.size) (by have := HB1.out.size; omega)
  have b5 := HB5.out.mono (B' := w.heap.size) (by have := HB1.out.size; omega)
  have b6 := HB6.out.mono (B' := w.heap.size) (by have := HB1.out.size; have := HB5.out.size; omega)
  exact ((((b2.trans b3).trans b4).trans b5).trans b6)
end Go.Proofs.Ytlnobjdlcnpjeaa
