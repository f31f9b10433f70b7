/-
  The walks of the small predicates: letters, digits, comments, keywords, what ends a line.
  The walks of isComment, of its closure, of endsLine and of the specification's ends.
-/
import Derived.Test.YticbcnhbpbaocaaGreatDoorRows
import Derived.Test.YticbcnhbpbaocaaGreatDoorMA
import Derived.WalkKit
import Derived.WalkSpells
import Derived.WalkLawsBesides
import Derived.Deep.QuietTactic
import Derived.BigQuiet
import Derived.Lib.Hide
import Derived.Outline

set_option linter.all false
namespace Go.Proofs.YticbcnhbpbaocaaGreatDoor
open Go.RowKit M

theorem retb {a b : Bool} (h : a = b) : Ending.returned (.bool a) = .returned (.bool b) := by rw [h]
theorem reti {k : IntKind} {a b : Int} (h : a = b) : Ending.returned (.int k a) = .returned (.int k b) := by rw [h]

theorem isL_of {b : Nat} {v : Bool} (h : v = true ↔ (97 ≤ (b : Int) ∧ (b : Int) ≤ 122 ∨ 65 ≤ (b : Int) ∧ (b : Int) ≤ 90 ∨ (b : Int) = 95)) : v = isL b := by
  unfold isL
  rw [Bool.eq_iff_iff, h, decide_eq_true_iff]
  omega
theorem isD_of {b : Nat} {v : Bool} (h : v = true ↔ (48 ≤ (b : Int) ∧ (b : Int) ≤ 57)) : v = isD b := by
  unfold isD
  rw [Bool.eq_iff_iff, h, decide_eq_true_iff]
  omega

set_option maxRecDepth 100000 in
theorem letter_any (b : Nat) (w : World) : Calls Tryz.prog 139 #[.int .u8 (b : Int)] w fun e w' => e = .returned (.bool (isL b)) ∧ w = w' := by
  go_enter Tryz.func139, Tryz.ntmps139
  go_wp2
  all_goals go_ret
  all_goals exact ⟨retb (isL_of (by simp; omega)), rfl⟩
set_option maxRecDepth 100000 in
theorem rletter_any (b : Nat) (w : World) : Calls Tryz.prog 64 #[.int .u8 (b : Int)] w fun e w' => e = .returned (.bool (isL b)) ∧ w = w' := by
  go_enter Tryz.func64, Tryz.ntmps64
  go_wp2
  all_goals go_ret
  all_goals exact ⟨retb (isL_of (by simp; omega)), rfl⟩
set_option maxRecDepth 100000 in
theorem digit_any (b : Nat) (w : World) : Calls Tryz.prog 141 #[.int .u8 (b : Int)] w fun e w' => e = .returned (.bool (isD b)) ∧ w = w' := by
  go_enter Tryz.func141, Tryz.ntmps141
  go_wp2
  all_goals go_ret
  all_goals exact ⟨retb (isD_of (by simp; omega)), rfl⟩
set_option maxRecDepth 100000 in
theorem rdigit_any (b : Nat) (w : World) : Calls Tryz.prog 66 #[.int .u8 (b : Int)] w fun e w' => e = .returned (.bool (isD b)) ∧ w = w' := by
  go_enter Tryz.func66, Tryz.ntmps66
  go_wp2
  all_goals go_ret
  all_goals exact ⟨retb (isD_of (by simp; omega)), rfl⟩
set_option maxRecDepth 100000 in
theorem ld_any (b : Nat) (w : World) : Calls Tryz.prog 155 #[.int .u8 (b : Int)] w fun e w' => e = .returned (.bool (isLD b)) ∧ w = w' := by
  cases hb : isL b
  · go_enter Tryz.func155, Tryz.ntmps155
    go_wp2_with (first | (go_at_call 139; refine (letter_any _ _).mono ?_; rintro e w' ⟨rfl, rfl⟩) | (go_at_call 141; refine (digit_any _ _).mono ?_; rintro e w' ⟨rfl, rfl⟩))
    go_ret
    exact ⟨retb (by simp [isLD, hb]), rfl⟩
  · go_enter Tryz.func155, Tryz.ntmps155
    go_wp2_with (first | (go_at_call 139; refine (letter_any _ _).mono ?_; rintro e w' ⟨rfl, rfl⟩) | (go_at_call 141; refine (digit_any _ _).mono ?_; rintro e w' ⟨rfl, rfl⟩))
    go_ret
    exact ⟨retb (by simp [isLD, hb]), rfl⟩
set_option maxRecDepth 100000 in
theorem feed_any (b : Nat) (w : World) : Calls Tryz.prog 158 #[.int .u8 (b : Int)] w fun e w' => e = .returned (.bool (notFeed b)) ∧ w = w' := by
  go_enter Tryz.func158, Tryz.ntmps158
  go_wp2
  go_ret
  exact ⟨retb (by unfold notFeed; rw [Bool.eq_iff_iff]; simp; omega), rfl⟩

theorem kw_yes {s : List UInt8} {t : Bs} (h : (s == t) = true) (ht : kwList.contains t = true) : true = kw s := by
  rw [beq_iff_eq] at h; subst h; exact ht.symm
set_option maxRecDepth 100000 in
set_option maxHeartbeats 1000000 in
theorem keyword_any (s : ByteArray) (w : World) : Calls Tryz.prog 156 #[.string s] w fun e w' => e = .returned (.bool (kw s.toList)) ∧ w = w' := by
  go_enter Tryz.func156, Tryz.ntmps156
  go_wp2
  all_goals go_ret
  all_goals refine ⟨retb ?_, rfl⟩
  all_goals first
    | (refine kw_yes (by assumption) (by decide))
    | (simp_all [kw, kwList])
set_option maxRecDepth 100000 in
set_option maxHeartbeats 1000000 in
theorem rkeyword_any (s : ByteArray) (w : World) : Calls Tryz.prog 65 #[.string s] w fun e w' => e = .returned (.bool (kw s.toList)) ∧ w = w' := by
  go_enter Tryz.func65, Tryz.ntmps65
  go_wp2
  all_goals go_ret
  all_goals refine ⟨retb ?_, rfl⟩
  all_goals first
    | (refine kw_yes (by assumption) (by decide))
    | (simp_all [kw, kwList])
end Go.Proofs.YticbcnhbpbaocaaGreatDoor

namespace Go.Proofs.YticbcnhbpbaocaaGreatDoor
open Go.RowKit M

theorem bcell {W w1 : World} (hb : Below W.heap.size W w1) : (∀ b o, b < W.heap.size → w1.cell? ⟨b, o, none⟩ = W.cell? ⟨b, o, none⟩) ∧ (∀ b o, b < W.heap.size → w1.frozen? ⟨b, o, none⟩ = W.frozen? ⟨b, o, none⟩) :=
  ⟨fun b o h => hb.cell (p := ⟨b, o, none⟩) h, fun b o h => hb.frozen (p := ⟨b, o, none⟩) h⟩
theorem below_box {w w' : World} {o : Obj} (h : Below (w.alloc o).heap.size (w.alloc o) w') : Below w.heap.size w w' :=
  ((Below.refl _ _).alloc (Nat.le_refl _) _).trans (h.mono (by simp))

/-- A token's value. -/
abbrev tv (k : Nat) (t : ByteArray) (a : Nat) : Value := .agg #[.int .i64 (k : Int), .string t, .int .i64 (a : Int)]

set_option maxRecDepth 100000 in
theorem comment_any (k : Nat) (t : ByteArray) (a : Nat) (w : World) : Calls Tryz.prog 107 #[tv k t a] w fun e w' => e = .returned (.bool (k == 5)) ∧ Below w.heap.size w w' := by
  go_enter Tryz.func107, Tryz.ntmps107
  go_wp2
  go_ret
  exact ⟨retb (by rw [Bool.eq_iff_iff]; simp; omega), (Below.refl _ _).alloc (Nat.le_refl _) _⟩
theorem end_yes {k : Nat} {s : List UInt8} {t : Bs} (h : (s == t) = true) (ht : endList.contains t = true) : true = endB k s := by
  rw [beq_iff_eq] at h; subst h; simp only [endB, ht, Bool.or_true]
theorem end_kind {k : Nat} {s : List UInt8} (h : k = 1 ∨ k = 2) : true = endB k s := by
  rcases h with rfl | rfl <;> simp [endB]

theorem end_no {k : Nat} {s : List UInt8} {v : Bool} (h : endList.contains s = false) (hv : v = (k == 1 || k == 2)) : v = endB k s := by
  rw [hv, endB, h, Bool.or_false]

set_option maxRecDepth 100000 in
set_option maxHeartbeats 1000000 in
theorem endsLine_any (k : Nat) (t : ByteArray) (a : Nat) (w : World) : Calls Tryz.prog 161 #[tv k t a] w fun e w' => e = .returned (.bool (endB k t.toList)) ∧ Below w.heap.size w w' := by
  go_enter Tryz.func161, Tryz.ntmps161
  go_wp2
  all_goals go_ret
  all_goals refine ⟨retb ?_, (Below.refl _ _).alloc (Nat.le_refl _) _⟩
  all_goals first
    | (refine end_yes (by assumption) (by decide))
    | (refine end_kind ?_; omega)
    | (exfalso; simp_all; done)
    | (refine end_no (by simp only [endList, List.contains_cons, List.contains_nil, Bool.or_self, *]) ?_; rw [Bool.eq_iff_iff]; simp; omega)
set_option maxRecDepth 100000 in
set_option maxHeartbeats 1000000 in
theorem ends_any (k : Nat) (t : ByteArray) (a : Nat) (w : World) : Calls Tryz.prog 56 #[tv k t a] w fun e w' => e = .returned (.bool (endB k t.toList)) ∧ Below w.heap.size w w' := by
  go_enter Tryz.func56, Tryz.ntmps56
  go_wp2
  all_goals go_ret
  all_goals refine ⟨retb ?_, (Below.refl _ _).alloc (Nat.le_refl _) _⟩
  all_goals first
    | (refine end_yes (by assumption) (by decide))
    | (refine end_kind ?_; simp at *; omega)
    | (exfalso; simp_all; done)
    | (refine end_no (by simp only [endList, List.contains_cons, List.contains_nil, Bool.or_self, *]) ?_; rw [Bool.eq_iff_iff]; simp at *; omega)
end Go.Proofs.YticbcnhbpbaocaaGreatDoor
