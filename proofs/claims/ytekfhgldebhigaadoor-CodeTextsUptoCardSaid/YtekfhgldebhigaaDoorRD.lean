/-
  The walk of the specification's instr.
-/
import Derived.Test.YtekfhgldebhigaaDoorRC
import Derived.Deep.RegionHeld3
set_option linter.all false
namespace Go.Proofs.YtekfhgldebhigaaDoor
open Go.RowKit C
def okRole (r : UInt8) : Bool := [100, 114, 68, 82, 110, 106, 103, 108, 102, 49, 97, 115, 98, 99, 45, 105].contains r
theorem ite_ok (c : Prop) [Decidable c] (a b : Bs) (ha : a.all okRole = true) (hb : b.all okRole = true) : (if c then a else b).all okRole = true := by split <;> assumption
theorem roles_ok (op : Int) : (roles op).all okRole = true := by
  unfold roles
  repeat' (first | (refine ite_ok _ _ _ (by decide) ?_) | decide)
theorem ite_three (c : Prop) [Decidable c] (a b : Bs) (ha : a.length = 3) (hb : b.length = 3 ∨ b = []) : (if c then a else b).length = 3 ∨ (if c then a else b) = [] := by split <;> simp_all
theorem roles_three (op : Int) : (roles op).length = 3 ∨ roles op = [] := by
  unfold roles
  repeat' (first | (refine ite_three _ _ _ (by decide) ?_) | exact .inr rfl)
theorem operand_any (p : Pg) (A B D : Option Addr) (ca cb cd : Nat) (f : Fc) (Af : Option Addr) (caf : Nat) (x : In) (v : Int) (w : World) (role : UInt8) (hr : okRole role = true) (hp : PgAt w p A B D ca cb cd) (hf : FvOk w f Af caf) (bx : i64 x.c) (bv : i64 v) :
    Calls Tryd.prog 64 #[pv p A B D ca cb cd, fv f Af caf, xv x, .int .u8 (role.toNat : Int), .int .i64 v] w fun e w' => e = .returned (.bool (operandB p f x role v)) ∧ Below w.heap.size w w' := by
  simp only [okRole, List.contains_cons, List.contains_nil, Bool.or_false, Bool.or_eq_true, beq_iff_eq] at hr
  rcases hr with rfl | rfl | rfl | rfl | rfl | rfl | rfl | rfl | rfl | rfl | rfl | rfl | rfl | rfl | rfl | rfl
  · exact op_d p A B D ca cb cd f Af caf x v w
  · exact op_r p A B D ca cb cd f Af caf x v w
  · exact op_dd p A B D ca cb cd f Af caf x v w
  · exact op_rr p A B D ca cb cd f Af caf x v w
  · exact op_n p A B D ca cb cd f Af caf x v w
  · exact op_j p A B D ca cb cd f Af caf x v w hp hf bx bv
  · exact op_g p A B D ca cb cd f Af caf x v w
  · exact op_l p A B D ca cb cd f Af caf x v w
  · exact op_f p A B D ca cb cd f Af caf x v w hp hf bx bv
  · exact op_1 p A B D ca cb cd f Af caf x v w hp hf bx bv
  · exact op_a p A B D ca cb cd f Af caf x v w
  · exact op_s p A B D ca cb cd f Af caf x v w
  · exact op_b p A B D ca cb cd f Af caf x v w
  · exact op_c p A B D ca cb cd f Af caf x v w
  · exact op_z p A B D ca cb cd f Af caf x v w
  · exact op_i p A B D ca cb cd f Af caf x v w
end Go.Proofs.YtekfhgldebhigaaDoor
