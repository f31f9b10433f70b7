/-
  Proved: for every program that is passed in, the call of ObjectEncode returns true, and the program reads afterwards as it read before. Condition: what is read is of bulk at most 1048576 (the second form).
-/
import Derived.Test.YtlkaeonedijfpaaQV
import Derived.Test.YtlkaeonedijfpaaOC
import Derived.ProofKit
import Derived.OpenShut
import Derived.ChangeOld
set_option linter.all false
namespace Go.Proofs.Ytlkaeonedijfpaa
open Go.ChangeShapes Go.WideShapes Go.ChangeAt Go.RowKit C
theorem ownObjectEncode : ownKnob Try.prog.godebug = none := by kernel_rfl
theorem laidOutObjectEncode : laidOutB Try.prog = true := by kernel_rfl
set_option maxRecDepth 100000 in
theorem objectEncode_lifted (os : Os) (started : os.Started) (H : Type) (enc : TypeId × Value → H) (F : Stop.Interp) :
    ReturnsInHanded {} Try.checked os 4 .any ((Rows.OpenSpec.upto Rows.objectEncodeSpec).pre6 enc Try.prog Try.f4 Rows.objectEncodeUptoRow.domain false) (((Rows.OpenSpec.upto Rows.objectEncodeSpec).at F).post enc Try.prog Try.f4 false true false false) := by
  refine returnsInHanded_of_cond (C := Try.checked) (s := (Rows.OpenSpec.upto Rows.objectEncodeSpec)) (k := Rows.uptoSmall) rfl ownObjectEncode started (by kernel_rfl) Try.func4
    (OpenSpec.witness (enc := enc) (C := Try.checked) (s := (Rows.OpenSpec.upto Rows.objectEncodeSpec)) (k := Rows.uptoSmall) rfl false ⟨#[], #[.agg #[.slice none 0 0, .slice none 0 0, .slice none 0 0, .int .i64 0]], []⟩ 8 (by kernel_rfl) (by kernel_rfl) (by kernel_rfl)
      (x := ([.agg [.nil, .nil, .nil, .lit (.int .i64 0)]], [], [])) (by kernel_rfl) rfl (by kernel_rfl)) ?_
  intro W base args ds gs before hval0 hW _ hk _
  have hval : ∀ (j : Nat) t v, Try.f4.params[j]? = some t → args[j]? = some v → Value.okWide Try.prog W .any base t v := hval0
  have hW' := hW
  obtain ⟨p, q, hA0, hV, rfl, hfz, hnd⟩ := hW
  have hA : DataW.TrodAll enc Try.prog W 0 (fun _ => true) true Try.f4.params.toList args.toList ds p := hA0
  rw [Try.params4] at hA hval
  obtain ⟨v0, vs0, d0, ds0, p0, q0, hargs, rfl, rfl, h0, r0⟩ := trodAll_cons hA
  obtain ⟨rfl, rfl, rfl⟩ := trodAll_nil r0
  obtain rfl : args = #[v0] := by cases args; simp_all
  obtain ⟨rfl, rfl⟩ := trodVars_none hV
  have lt0 : ∀ x ∈ p0, x.block < W.heap.size := by obtain ⟨m, hm⟩ := h0; exact DataW.trod_lt m _ _ _ hm
  obtain ⟨pg0, A0, B0, D0, ca0, cb0, cd0, rfl, hp0, hb0⟩ := open_pg (hval 0 31 v0 rfl rfl) h0
  clear hA0 hval0
  simp only [List.append_nil] at hk
  have hbk := of_decide_eq_true hk
  simp only [Rows.uptoBulkAll] at hbk
  refine (law_ObjectEncode pg0 A0 B0 D0 ca0 cb0 cd0 W hp0 (bk_of hb0 (lay_len (hval 0 31 _ rfl rfl) h0 rfl) (by omega))).mono fun e W' ⟨he, bel⟩ => ?_
  subst he
  exact ⟨_, rfl, _, _, _, [], _, [], hW', trodAll_mk1 (shut_bool Try.underlying4 _), (trodAll_cons_mk (Below.trod laidOutObjectEncode (by kernel_rfl) (of_decide_eq_true (by kernel_rfl)) h0 bel lt0) trodAll_mk0), rfl, bel.frame _, fun h => by cases h⟩
theorem objectEncode_holds : Rows.ObjectEncodeUptoSaid :=
  OpenClaim.holds_of_cond 4 Try.f4 rfl rfl rfl rfl rfl rfl rfl ⟨rfl, rfl, rfl, rfl, rfl⟩ rfl rfl rfl rfl rfl (by kernel_rfl) Try.func4 (by kernel_rfl)
    (of_decide_eq_true (by kernel_rfl)) (by unfold Func.isWrapper; first | (rw [if_pos (by decide +kernel)]; kernel_rfl) | (rw [if_neg (by decide +kernel)]; exact ⟨rfl, rfl⟩))
    (fun os started H enc _ F => objectEncode_lifted os started H enc F)

#print axioms objectEncode_holds
end Go.Proofs.Ytlkaeonedijfpaa
