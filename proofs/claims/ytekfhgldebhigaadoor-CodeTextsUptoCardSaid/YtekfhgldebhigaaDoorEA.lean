/-
  The walks of Visible and Access, of the program and of the specification.
-/
import Derived.Test.YtekfhgldebhigaaDoorRH
set_option linter.all false
namespace Go.Proofs.YtekfhgldebhigaaDoor
open Go.RowKit C
def visB (op : Int) : Bool := decide (op = 31 ∨ op = 32 ∨ (33 ≤ op ∧ op ≤ 50) ∨ op = 52)
def accB (op : Int) : Bool := decide (op = 33 ∨ op = 34)
set_option maxRecDepth 100000 in
set_option maxHeartbeats 4000000 in
theorem cvisible_any (op : Int) (w : World) : Calls Tryd.prog 16 #[.int .i64 op] w fun e w' => e = .returned (.bool (visB op)) ∧ w = w' := by
  go_enter Tryd.func16, Tryd.ntmps16
  go_wp2
  all_goals
    go_ret
    exact ⟨retb (by unfold visB; first | (simp_all; done) | (rw [Bool.eq_iff_iff]; simp; done) | (rw [Bool.eq_iff_iff]; simp; omega) | (simp_all; omega) | (symm; rw [decide_eq_false_iff_not]; omega)), rfl⟩
end Go.Proofs.YtekfhgldebhigaaDoor
