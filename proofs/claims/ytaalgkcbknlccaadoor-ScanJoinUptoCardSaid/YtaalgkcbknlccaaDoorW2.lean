/-
  The walks of isComment, of its closure, of endsLine and of the specification's ends.
-/
import Derived.Test.YtaalgkcbknlccaaDoorW1
namespace Go.Proofs.YtaalgkcbknlccaaDoor
open Go.RowKit M

theorem bcell {W w1 : World} (hb : Below W.heap.size W w1) : (∀ b o, b < W.heap.size → w1.cell? ⟨b, o, none⟩ = W.cell? ⟨b, o, none⟩) ∧ (∀ b o, b < W.heap.size → w1.frozen? ⟨b, o, none⟩ = W.frozen? ⟨b, o, none⟩) :=
  ⟨fun b o h => hb.cell (p := ⟨b, o, none⟩) h, fun b o h => hb.frozen (p := ⟨b, o, none⟩) h⟩
theorem below_box {w w' : World} {o : Obj} (h : Below (w.alloc o).heap.size (w.alloc o) w') : Below w.heap.size w w' :=
  ((Below.refl _ _).alloc (Nat.le_refl _) _).trans (h.mono (by simp))

/-- A token's value. -/
abbrev tv (k : Nat) (t : ByteArray) (a : Nat) : Value := .agg #[.int .i64 (k : Int), .string t, .int .i64 (a : Int)]

set_option maxRecDepth 100000 in
theorem comment_any (k : Nat) (t : ByteArray) (a : Nat) (w : World) : Calls Tryd.prog 24 #[tv k t a] w fun e w' => e = .returned (.bool (k == 5)) ∧ Below w.heap.size w w' := by
  go_enter Tryd.func24, Tryd.ntmps24
  go_wp2
  go_ret
  exact ⟨ret_bool (by rw [Bool.eq_iff_iff]; simp; omega), (Below.refl _ _).alloc (Nat.le_refl _) _⟩
set_option maxRecDepth 100000 in
theorem nocomment_any (k : Nat) (t : ByteArray) (a : Nat) (w : World) : Calls Tryd.prog 26 #[tv k t a] w fun e w' => e = .returned (.bool (!(k == 5))) ∧ Below w.heap.size w w' := by
  go_enter Tryd.func26, Tryd.ntmps26
  go_wp2_with (go_at_call 24; refine (comment_any _ _ _ _).mono ?_; rintro e w' ⟨rfl, hb1⟩)
  go_ret
  exact ⟨rfl, below_box hb1⟩

theorem end_yes {k : Nat} {s : List UInt8} {t : Bs} (h : (s == t) = true) (ht : endList.contains t = true) : true = endB k s := by
  rw [beq_iff_eq] at h; subst h; simp only [endB, ht, Bool.or_true]
theorem end_kind {k : Nat} {s : List UInt8} (h : k = 1 ∨ k = 2) : true = endB k s := by
  rcases h with rfl | rfl <;> simp [endB]

theorem end_no {k : Nat} {s : List UInt8} {v : Bool} (h : endList.contains s = false) (hv : v = (k == 1 || k == 2)) : v = endB k s := by
  rw [hv, endB, h, Bool.or_false]

set_option maxRecDepth 100000 in
set_option maxHeartbeats 1000000 in
theorem endsLine_any (k : Nat) (t : ByteArray) (a : Nat) (w : World) : Calls Tryd.prog 56 #[tv k t a] w fun e w' => e = .returned (.bool (endB k t.toList)) ∧ Below w.heap.size w w' := by
  go_enter Tryd.func56, Tryd.ntmps56
  go_wp2
  all_goals go_ret
  all_goals refine ⟨ret_bool ?_, (Below.refl _ _).alloc (Nat.le_refl _) _⟩
  all_goals first
    | (refine end_yes (by assumption) (by decide))
    | (refine end_kind ?_; omega)
    | (exfalso; simp_all; done)
    | (refine end_no (by simp only [endList, List.contains_cons, List.contains_nil, Bool.or_self, *]) ?_; rw [Bool.eq_iff_iff]; simp; omega)
set_option maxRecDepth 100000 in
set_option maxHeartbeats 1000000 in
theorem ends_any (k : Nat) (t : ByteArray) (a : Nat) (w : World) : Calls Tryd.prog 33 #[tv k t a] w fun e w' => e = .returned (.bool (endB k t.toList)) ∧ Below w.heap.size w w' := by
  go_enter Tryd.func33, Tryd.ntmps33
  go_wp2
  all_goals go_ret
  all_goals refine ⟨ret_bool ?_, (Below.refl _ _).alloc (Nat.le_refl _) _⟩
  all_goals first
    | (refine end_yes (by assumption) (by decide))
    | (refine end_kind ?_; simp at *; omega)
    | (exfalso; simp_all; done)
    | (refine end_no (by simp only [endList, List.contains_cons, List.contains_nil, Bool.or_self, *]) ?_; rw [Bool.eq_iff_iff]; simp at *; omega)
end Go.Proofs.YtaalgkcbknlccaaDoor
