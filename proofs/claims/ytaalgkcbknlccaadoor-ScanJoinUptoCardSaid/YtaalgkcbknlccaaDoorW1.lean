/-
  The walks of the small predicates: letters, digits, comments, keywords, what ends a line.
-/
import Derived.Test.YtaalgkcbknlccaaDoorRows
import Derived.Test.YtaalgkcbknlccaaDoorMath
import Derived.WalkKit
import Derived.WalkSpells
import Derived.WalkLawsBesides
import Derived.Deep.QuietTactic
import Derived.BigQuiet
import Derived.Lib.Hide
import Derived.Outline
namespace Go.Proofs.YtaalgkcbknlccaaDoor
open Go.RowKit M

theorem ret_bool {a b : Bool} (h : a = b) : Ending.returned (.bool a) = .returned (.bool b) := by rw [h]
theorem ret_int {k : IntKind} {a b : Int} (h : a = b) : Ending.returned (.int k a) = .returned (.int k b) := by rw [h]

theorem isL_of {b : Nat} {v : Bool} (h : v = true ↔ (97 ≤ (b : Int) ∧ (b : Int) ≤ 122 ∨ 65 ≤ (b : Int) ∧ (b : Int) ≤ 90 ∨ (b : Int) = 95)) : v = isL b := by
  unfold isL
  rw [Bool.eq_iff_iff, h, decide_eq_true_iff]
  omega
theorem isD_of {b : Nat} {v : Bool} (h : v = true ↔ (48 ≤ (b : Int) ∧ (b : Int) ≤ 57)) : v = isD b := by
  unfold isD
  rw [Bool.eq_iff_iff, h, decide_eq_true_iff]
  omega

set_option maxRecDepth 100000 in
theorem letter_any (b : Nat) (w : World) : Calls Tryd.prog 38 #[.int .u8 (b : Int)] w fun e w' => e = .returned (.bool (isL b)) ∧ w = w' := by
  go_enter Tryd.func38, Tryd.ntmps38
  go_wp2
  all_goals go_ret
  all_goals exact ⟨ret_bool (isL_of (by simp; omega)), rfl⟩
set_option maxRecDepth 100000 in
theorem rletter_any (b : Nat) (w : World) : Calls Tryd.prog 45 #[.int .u8 (b : Int)] w fun e w' => e = .returned (.bool (isL b)) ∧ w = w' := by
  go_enter Tryd.func45, Tryd.ntmps45
  go_wp2
  all_goals go_ret
  all_goals exact ⟨ret_bool (isL_of (by simp; omega)), rfl⟩
set_option maxRecDepth 100000 in
theorem digit_any (b : Nat) (w : World) : Calls Tryd.prog 40 #[.int .u8 (b : Int)] w fun e w' => e = .returned (.bool (isD b)) ∧ w = w' := by
  go_enter Tryd.func40, Tryd.ntmps40
  go_wp2
  all_goals go_ret
  all_goals exact ⟨ret_bool (isD_of (by simp; omega)), rfl⟩
set_option maxRecDepth 100000 in
theorem rdigit_any (b : Nat) (w : World) : Calls Tryd.prog 46 #[.int .u8 (b : Int)] w fun e w' => e = .returned (.bool (isD b)) ∧ w = w' := by
  go_enter Tryd.func46, Tryd.ntmps46
  go_wp2
  all_goals go_ret
  all_goals exact ⟨ret_bool (isD_of (by simp; omega)), rfl⟩
set_option maxRecDepth 100000 in
theorem ld_any (b : Nat) (w : World) : Calls Tryd.prog 52 #[.int .u8 (b : Int)] w fun e w' => e = .returned (.bool (isLD b)) ∧ w = w' := by
  cases hb : isL b
  · go_enter Tryd.func52, Tryd.ntmps52
    go_wp2_with (first | (go_at_call 38; refine (letter_any _ _).mono ?_; rintro e w' ⟨rfl, rfl⟩) | (go_at_call 40; refine (digit_any _ _).mono ?_; rintro e w' ⟨rfl, rfl⟩))
    go_ret
    exact ⟨ret_bool (by simp [isLD, hb]), rfl⟩
  · go_enter Tryd.func52, Tryd.ntmps52
    go_wp2_with (first | (go_at_call 38; refine (letter_any _ _).mono ?_; rintro e w' ⟨rfl, rfl⟩) | (go_at_call 40; refine (digit_any _ _).mono ?_; rintro e w' ⟨rfl, rfl⟩))
    go_ret
    exact ⟨ret_bool (by simp [isLD, hb]), rfl⟩
set_option maxRecDepth 100000 in
theorem feed_any (b : Nat) (w : World) : Calls Tryd.prog 55 #[.int .u8 (b : Int)] w fun e w' => e = .returned (.bool (notFeed b)) ∧ w = w' := by
  go_enter Tryd.func55, Tryd.ntmps55
  go_wp2
  go_ret
  exact ⟨ret_bool (by unfold notFeed; rw [Bool.eq_iff_iff]; simp; omega), rfl⟩

theorem kw_yes {s : List UInt8} {t : Bs} (h : (s == t) = true) (ht : kwList.contains t = true) : true = kw s := by
  rw [beq_iff_eq] at h; subst h; exact ht.symm
set_option maxRecDepth 100000 in
set_option maxHeartbeats 1000000 in
theorem keyword_any (s : ByteArray) (w : World) : Calls Tryd.prog 17 #[.string s] w fun e w' => e = .returned (.bool (kw s.toList)) ∧ w = w' := by
  go_enter Tryd.func17, Tryd.ntmps17
  go_wp2
  all_goals go_ret
  all_goals refine ⟨ret_bool ?_, rfl⟩
  all_goals first
    | (refine kw_yes (by assumption) (by decide))
    | (simp_all [kw, kwList])
set_option maxRecDepth 100000 in
set_option maxHeartbeats 1000000 in
theorem rkeyword_any (s : ByteArray) (w : World) : Calls Tryd.prog 18 #[.string s] w fun e w' => e = .returned (.bool (kw s.toList)) ∧ w = w' := by
  go_enter Tryd.func18, Tryd.ntmps18
  go_wp2
  all_goals go_ret
  all_goals refine ⟨ret_bool ?_, rfl⟩
  all_goals first
    | (refine kw_yes (by assumption) (by decide))
    | (simp_all [kw, kwList])
end Go.Proofs.YtaalgkcbknlccaaDoor
