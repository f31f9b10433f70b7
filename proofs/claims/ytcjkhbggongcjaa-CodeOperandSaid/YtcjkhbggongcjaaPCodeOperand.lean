/-
  Proved: for every change (a program, the numbers of a function and an instruction, and a value) that is passed in, the call of CodeOperand returns true, and the change reads afterwards as it read before. No condition on the input.
-/
import Derived.Test.YtcjkhbggongcjaaYQ
import Derived.ProofKit
import Derived.OpenShut
import Derived.ChangeOld
set_option linter.all false
namespace Go.Proofs.Ytcjkhbggongcjaa
open Go.ChangeShapes Go.WideShapes Go.ChangeAt Go.RowKit C
theorem ownCodeOperand : ownKnob Try.prog.godebug = none := by kernel_rfl
theorem laidOutCodeOperand : laidOutB Try.prog = true := by kernel_rfl
set_option maxRecDepth 100000 in
theorem codeOperand_lifted (os : Os) (started : os.Started) (H : Type) (enc : TypeId × Value → H) :
    ReturnsInHanded {} Try.checked os 7 .any (Rows.codeOperandSpec.pre6 enc Try.prog Try.f7 Rows.codeOperandRow.domain false) (Rows.codeOperandSpec.post enc Try.prog Try.f7 false true false false) := by
  refine returnsInHanded_of_change (C := Try.checked) ownCodeOperand started (by kernel_rfl) Try.func7
    (ChangeSpec.witness6 (enc := enc) (C := Try.checked) false ⟨#[], #[.agg #[.slice none 0 0, .slice none 0 0, .slice none 0 0, .int .i64 0, .int .u16 0, .int .u16 0, .int .u16 0]], []⟩ 8 (by kernel_rfl) (by kernel_rfl) (by kernel_rfl) (by kernel_rfl)) ?_
  intro W base args ds gs before hval0 hW _ _
  have hval : ∀ (j : Nat) t v, Try.f7.params[j]? = some t → args[j]? = some v → Value.okWide Try.prog W .any base t v := hval0
  have hW' := hW
  obtain ⟨p, q, hA0, hV, rfl, hfz, hnd⟩ := hW
  have hA : DataW.TrodAll enc Try.prog W 0 (fun _ => true) true Try.f7.params.toList args.toList ds p := hA0
  rw [Try.params7] at hA hval
  obtain ⟨v0, vs0, d0, ds0, p0, q0, hargs, rfl, rfl, h0, r0⟩ := trodAll_cons hA
  obtain ⟨rfl, rfl, rfl⟩ := trodAll_nil r0
  obtain rfl : args = #[v0] := by cases args; simp_all
  obtain ⟨rfl, rfl⟩ := trodVars_none hV
  have lt0 : ∀ x ∈ p0, x.block < W.heap.size := by obtain ⟨m, hm⟩ := h0; exact DataW.trod_lt m _ _ _ hm
  obtain ⟨pg0, A0, B0, D0, ca0, cb0, cd0, x0, y0, z0, rfl, hp0, hx0, hy0, hz0⟩ := open_change (hval 0 42 v0 rfl rfl) h0
  clear hA0 hval0
  refine (law_CodeOperand pg0 A0 B0 D0 ca0 cb0 cd0 x0 y0 z0 W hp0 hx0 hy0 hz0 sz_valid).mono fun e W' ⟨he, bel⟩ => ?_
  subst he
  exact ⟨_, rfl, _, _, _, [], _, [], hW', trodAll_mk1 (shut_bool Try.underlying4 _), (trodAll_cons_mk (Below.trod laidOutCodeOperand (by kernel_rfl) (of_decide_eq_true (by kernel_rfl)) h0 bel lt0) trodAll_mk0), rfl, bel.frame _, fun h => by cases h⟩
theorem codeOperand_holds : Rows.CodeOperandSaid :=
  OpenClaim.holds_of_wide 7 Try.f7 rfl rfl rfl rfl rfl rfl rfl ⟨rfl, rfl, rfl, rfl, rfl⟩ rfl rfl rfl rfl rfl (by kernel_rfl) Try.func7 (by kernel_rfl)
    (of_decide_eq_true (by kernel_rfl)) (by unfold Func.isWrapper; first | (rw [if_pos (by decide +kernel)]; kernel_rfl) | (rw [if_neg (by decide +kernel)]; exact ⟨rfl, rfl⟩))
    (fun os started H enc _ => codeOperand_lifted os started H enc)

#print axioms codeOperand_holds
end Go.Proofs.Ytcjkhbggongcjaa
