/-
  The walk of the law LinesValid.
-/
import Derived.Test.YtlnobjdlcnpjeaaW15
namespace Go.Proofs.Ytlnobjdlcnpjeaa
open Go.RowKit M

/-- What stays while a law calls functions: the boxed table's cells in block B, the table's row, the old world. -/
theorem keep_held {w W W' : World} {ao : Option Addr} {n cap : Nat} {zs : List Int} {size : Int} {B : Nat} (h0 : W.cell? ⟨B, 0, none⟩ = some (.slice ao n cap)) (h1 : W.cell? ⟨B, 1, none⟩ = some (.int .i64 size))
    (h2 : B < W.heap.size) (h3 : Row W ao n zs) (h4 : Below B w W) (hb : Below W.heap.size W W') :
    W'.cell? ⟨B, 0, none⟩ = some (.slice ao n cap) ∧ W'.cell? ⟨B, 1, none⟩ = some (.int .i64 size) ∧ B < W'.heap.size ∧ Row W' ao n zs ∧ Below B w W' :=
  ⟨(hb.cell (by exact h2)).trans h0, (hb.cell (by exact h2)).trans h1, by have := hb.size; omega, h3.below hb, h4.trans (hb.mono (by omega))⟩

set_option maxRecDepth 100000 in
set_option maxHeartbeats 400000 in
theorem lawValid_long (ao : Option Addr) (n cap : Nat) (size : Int) (w : World) (hn : 1000 < n) (hm : (n : Int) ≤ 9223372036854775807) :
    Calls Try.prog 4 #[.agg #[.slice ao n cap, .int .i64 size]] w fun e w' => e = .returned (.bool true) ∧ Below w.heap.size w w' := by
  have hd : decide ((1000 : Int) < (n : Int)) = true := by simp; omega
  go_enter Try.func4, Try.ntmps4
  go_wp2_with (go_at_call 10; refine (awake_any _).mono ?_; rintro e w' ⟨rfl, hb1⟩; obtain ⟨hc, hf⟩ := bcell hb1)
  go_ret
  exact ⟨rfl, below_box hb1⟩

set_option maxRecDepth 100000 in
set_option maxHeartbeats 1600000 in
theorem lawValid_short (ao : Option Addr) (n cap : Nat) (zs : List Int) (size : Int) (v : Bool) (w : World) (hn : n ≤ 1000) (h : Row w ao n zs) (hv : Tells v zs size) :
    Calls Try.prog 4 #[.agg #[.slice ao n cap, .int .i64 size]] w fun e w' => e = .returned (.bool true) ∧ Below w.heap.size w w' := by
  have hd : decide ((1000 : Int) < (n : Int)) = false := by simp; omega
  have HH := Lib.hid h
  have HV := Lib.hid hv
  clear h hv
  go_enter Try.func4, Try.ntmps4
  go_wp2_with (go_at_call 10; refine (awake_any _).mono ?_; rintro e w' ⟨rfl, hb1⟩; obtain ⟨hc, hf⟩ := bcell hb1)
  have s0 : w'.cell? ⟨w.heap.size, 0, none⟩ = some (.slice ao n cap) := (hc w.heap.size 0 (by simp)).trans (by simp)
  have s1 : w'.cell? ⟨w.heap.size, 1, none⟩ = some (.int .i64 size) := (hc w.heap.size 1 (by simp)).trans (by simp)
  have s2 : w.heap.size < w'.heap.size := by have := hb1.size; simp at this; omega
  have s3 : Row w' ao n zs := (HH.out.alloc _).below hb1
  have s4 : Below w.heap.size w w' := below_box hb1
  clear hc hf hb1
  go_region_held3 (fun w' => w'.cell? ⟨w.heap.size, 0, none⟩ = some (.slice ao n cap) ∧ w'.cell? ⟨w.heap.size, 1, none⟩ = some (.int .i64 size) ∧ w.heap.size < w'.heap.size ∧ Row w' ao n zs ∧ Below w.heap.size w w')
    (first
      | (go_split_ands; exact keep_held (by assumption) (by assumption) (by assumption) (by assumption) (by assumption) hb)
      | (exact ⟨s0, s1, s2, s3, s4.drew⟩))
    (first
      | (go_at_call 16; refine (copied_any _ _ _ zs _ _ ?_).mono ?_; (go_split_ands; assumption); rintro e w' ⟨ao1, cap1, rfl, hr1, hb⟩)
      | (go_at_call 14; refine (valid_any _ _ _ zs _ v _ ?_ HV.out).mono ?_; (first | exact hr1 | exact hr1.below hb); rintro e w' ⟨rfl, hb⟩)
      | (go_at_call 17; refine (rvalid_any _ _ _ zs _ v _ ?_ HV.out).mono ?_; (go_split_ands; assumption); rintro e w' ⟨rfl, hb⟩)
      | (go_at_call 15; refine (count_any _ _ _ zs _ v _ ?_ HV.out).mono ?_; (first | exact hr1 | exact hr1.below hb); rintro e w' ⟨rfl, hb⟩)
      | (go_at_call 18; refine (rcount_any _ _ _ zs _ v _ ?_ HV.out).mono ?_; (go_split_ands; assumption); rintro e w' ⟨rfl, hb⟩))
  all_goals go_split_ands
  all_goals go_wp2
  all_goals go_goals
  all_goals go_ret
  all_goals exact ⟨ret_bool (by simp), by assumption⟩
end Go.Proofs.Ytlnobjdlcnpjeaa
