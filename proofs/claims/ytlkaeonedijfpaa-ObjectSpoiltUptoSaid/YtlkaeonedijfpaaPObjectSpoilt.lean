/-
  Proved: for every program, every number of 16 bits and every byte that are passed in, the call of ObjectSpoilt returns true, and the program reads afterwards as it read before. Condition: what is read is of bulk at most 1048576 (the second form).
-/
import Derived.Test.YtlkaeonedijfpaaQY
import Derived.Test.YtlkaeonedijfpaaOC
import Derived.ProofKit
import Derived.OpenShut
import Derived.ChangeOld
set_option linter.all false
namespace Go.Proofs.Ytlkaeonedijfpaa
open Go.ChangeShapes Go.WideShapes Go.ChangeAt Go.RowKit C
theorem ownObjectSpoilt : ownKnob Try.prog.godebug = none := by kernel_rfl
theorem laidOutObjectSpoilt : laidOutB Try.prog = true := by kernel_rfl
set_option maxRecDepth 100000 in
theorem objectSpoilt_lifted (os : Os) (started : os.Started) (H : Type) (enc : TypeId × Value → H) (F : Stop.Interp) :
    ReturnsInHanded {} Try.checked os 10 .any ((Rows.OpenSpec.upto Rows.objectSpoiltSpec).pre6 enc Try.prog Try.f10 Rows.objectSpoiltUptoRow.domain false) (((Rows.OpenSpec.upto Rows.objectSpoiltSpec).at F).post enc Try.prog Try.f10 false true false false) := by
  refine returnsInHanded_of_cond (C := Try.checked) (s := (Rows.OpenSpec.upto Rows.objectSpoiltSpec)) (k := Rows.uptoSmall) rfl ownObjectSpoilt started (by kernel_rfl) Try.func10
    (OpenSpec.witness (enc := enc) (C := Try.checked) (s := (Rows.OpenSpec.upto Rows.objectSpoiltSpec)) (k := Rows.uptoSmall) rfl false ⟨#[], #[.agg #[.slice none 0 0, .slice none 0 0, .slice none 0 0, .int .i64 0], .int .u16 0, .int .u8 0], []⟩ 8 (by kernel_rfl) (by kernel_rfl) (by kernel_rfl)
      (x := ([.agg [.nil, .nil, .nil, .lit (.int .i64 0)], .lit (.int .u16 0), .lit (.int .u8 0)], [], [])) (by kernel_rfl) rfl (by kernel_rfl)) ?_
  intro W base args ds gs before hval0 hW _ hk _
  have hval : ∀ (j : Nat) t v, Try.f10.params[j]? = some t → args[j]? = some v → Value.okWide Try.prog W .any base t v := hval0
  have hW' := hW
  obtain ⟨p, q, hA0, hV, rfl, hfz, hnd⟩ := hW
  have hA : DataW.TrodAll enc Try.prog W 0 (fun _ => true) true Try.f10.params.toList args.toList ds p := hA0
  rw [Try.params10] at hA hval
  obtain ⟨v0, vs0, d0, ds0, p0, q0, hargs, rfl, rfl, h0, r0⟩ := trodAll_cons hA
  obtain ⟨v1, vs1, d1, ds1, p1, q1, rfl, rfl, rfl, h1, r1⟩ := trodAll_cons r0
  obtain ⟨v2, vs2, d2, ds2, p2, q2, rfl, rfl, rfl, h2, r2⟩ := trodAll_cons r1
  obtain ⟨rfl, rfl, rfl⟩ := trodAll_nil r2
  obtain rfl : args = #[v0, v1, v2] := by cases args; simp_all
  obtain ⟨rfl, rfl⟩ := trodVars_none hV
  have lt0 : ∀ x ∈ p0, x.block < W.heap.size := by obtain ⟨m, hm⟩ := h0; exact DataW.trod_lt m _ _ _ hm
  obtain ⟨pg0, A0, B0, D0, ca0, cb0, cd0, rfl, hp0, hb0⟩ := open_pg (hval 0 31 v0 rfl rfl) h0
  obtain ⟨a1, rfl, rfl, rfl, w1⟩ := open_int Try.underlying42 (hval 1 42 v1 rfl rfl) h1
  obtain ⟨a2, rfl, rfl, rfl, w2⟩ := open_int Try.underlying5 (hval 2 5 v2 rfl rfl) h2
  clear hA0 hval0
  simp only [List.append_nil] at hk
  have hbk := of_decide_eq_true hk
  simp only [Rows.uptoBulkAll] at hbk
  refine (law_ObjectSpoilt pg0 A0 B0 D0 ca0 cb0 cd0 a1 a2 W hp0 (bk_of hb0 (lay_len (hval 0 31 _ rfl rfl) h0 rfl) (by omega)) (wf_u16 w1) (wf_u8 w2)).mono fun e W' ⟨he, bel⟩ => ?_
  subst he
  exact ⟨_, rfl, _, _, _, [], _, [], hW', trodAll_mk1 (shut_bool Try.underlying4 _), (trodAll_cons_mk (Below.trod laidOutObjectSpoilt (by kernel_rfl) (of_decide_eq_true (by kernel_rfl)) h0 bel lt0) (trodAll_cons_mk (shut_int Try.underlying42 w1) (trodAll_cons_mk (shut_int Try.underlying5 w2) trodAll_mk0))), rfl, bel.frame _, fun h => by cases h⟩
theorem objectSpoilt_holds : Rows.ObjectSpoiltUptoSaid :=
  OpenClaim.holds_of_cond 10 Try.f10 rfl rfl rfl rfl rfl rfl rfl ⟨rfl, rfl, rfl, rfl, rfl⟩ rfl rfl rfl rfl rfl (by kernel_rfl) Try.func10 (by kernel_rfl)
    (of_decide_eq_true (by kernel_rfl)) (by unfold Func.isWrapper; first | (rw [if_pos (by decide +kernel)]; kernel_rfl) | (rw [if_neg (by decide +kernel)]; exact ⟨rfl, rfl⟩))
    (fun os started H enc _ F => objectSpoilt_lifted os started H enc F)

#print axioms objectSpoilt_holds
end Go.Proofs.Ytlkaeonedijfpaa
