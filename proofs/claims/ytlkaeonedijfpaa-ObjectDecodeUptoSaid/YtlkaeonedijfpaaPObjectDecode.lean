/-
  Proved: for every row of bytes that is passed in, the call of ObjectDecode returns true, and the bytes read afterwards as they read before. Condition: what is read is of bulk at most 1048576 (the second form).
-/
import Derived.Test.YtlkaeonedijfpaaSM
import Derived.Test.YtlkaeonedijfpaaOC
import Derived.ProofKit
import Derived.OpenShut
import Derived.ChangeOld
set_option linter.all false
namespace Go.Proofs.Ytlkaeonedijfpaa
open Go.ChangeShapes Go.WideShapes Go.ChangeAt Go.RowKit C
theorem ownObjectDecode : ownKnob Try.prog.godebug = none := by kernel_rfl
theorem laidOutObjectDecode : laidOutB Try.prog = true := by kernel_rfl
theorem cap_of {H : Type} {enc : TypeId × Value → H} {w : World} {base : Nat} {sp : Nat → Bool} {held : Bool} {A : Option Addr} {n cap : Nat} {d : DataW H} {ps : List MemPlace} (h : DataW.Trod enc Try.prog w base sp held 22 (.slice A n cap) d ps) : cap ≤ maxLen := by
  obtain ⟨m, hm⟩ := h
  rcases DataW.trod_slice Try.underlying22 hm with ⟨h0, _⟩ | ⟨a, len, cap', elems, rest, m, _, hv, _, _, _, hml, _⟩
  · injection h0 with h1 _
    injection h1 with _ _ h3
    rw [h3]; exact Nat.zero_le _
  · injection hv with h1 _
    injection h1 with _ _ h3
    rw [h3]; exact hml
set_option maxRecDepth 100000 in
theorem objectDecode_lifted (os : Os) (started : os.Started) (H : Type) (enc : TypeId × Value → H) (F : Stop.Interp) :
    ReturnsInHanded {} Try.checked os 5 .any ((Rows.OpenSpec.upto Rows.objectDecodeSpec).pre6 enc Try.prog Try.f5 Rows.objectDecodeUptoRow.domain false) (((Rows.OpenSpec.upto Rows.objectDecodeSpec).at F).post enc Try.prog Try.f5 false true false false) := by
  refine returnsInHanded_of_cond (C := Try.checked) (s := (Rows.OpenSpec.upto Rows.objectDecodeSpec)) (k := Rows.uptoSmall) rfl ownObjectDecode started (by kernel_rfl) Try.func5
    (OpenSpec.witness (enc := enc) (C := Try.checked) (s := (Rows.OpenSpec.upto Rows.objectDecodeSpec)) (k := Rows.uptoSmall) rfl false ⟨#[], #[.slice none 0 0], []⟩ 8 (by kernel_rfl) (by kernel_rfl) (by kernel_rfl)
      (x := ([.nil], [], [])) (by kernel_rfl) rfl (by kernel_rfl)) ?_
  intro W base args ds gs before hval0 hW _ hk _
  have hval : ∀ (j : Nat) t v, Try.f5.params[j]? = some t → args[j]? = some v → Value.okWide Try.prog W .any base t v := hval0
  have hW' := hW
  obtain ⟨p, q, hA0, hV, rfl, hfz, hnd⟩ := hW
  have hA : DataW.TrodAll enc Try.prog W 0 (fun _ => true) true Try.f5.params.toList args.toList ds p := hA0
  rw [Try.params5] at hA hval
  obtain ⟨v0, vs0, d0, ds0, p0, q0, hargs, rfl, rfl, h0, r0⟩ := trodAll_cons hA
  obtain ⟨rfl, rfl, rfl⟩ := trodAll_nil r0
  obtain rfl : args = #[v0] := by cases args; simp_all
  obtain ⟨rfl, rfl⟩ := trodVars_none hV
  have lt0 : ∀ x ∈ p0, x.block < W.heap.size := by obtain ⟨m, hm⟩ := h0; exact DataW.trod_lt m _ _ _ hm
  obtain ⟨A0, c0, l0, rfl, hc0, hm0, hr0, hb0⟩ := open_bytes (hval 0 22 v0 rfl rfl) h0
  clear hA0 hval0
  simp only [List.append_nil] at hk
  have hbk := of_decide_eq_true hk
  simp only [Rows.uptoBulkAll] at hbk
  refine (law_ObjectDecode A0 l0 c0 W (by omega) hc0 (cap_of h0) hr0).mono fun e W' ⟨he, bel⟩ => ?_
  subst he
  exact ⟨_, rfl, _, _, _, [], _, [], hW', trodAll_mk1 (shut_bool Try.underlying4 _), (trodAll_cons_mk (Below.trod laidOutObjectDecode (by kernel_rfl) (of_decide_eq_true (by kernel_rfl)) h0 bel lt0) trodAll_mk0), rfl, bel.frame _, fun h => by cases h⟩
theorem objectDecode_holds : Rows.ObjectDecodeUptoSaid :=
  OpenClaim.holds_of_cond 5 Try.f5 rfl rfl rfl rfl rfl rfl rfl ⟨rfl, rfl, rfl, rfl, rfl⟩ rfl rfl rfl rfl rfl (by kernel_rfl) Try.func5 (by kernel_rfl)
    (of_decide_eq_true (by kernel_rfl)) (by unfold Func.isWrapper; first | (rw [if_pos (by decide +kernel)]; kernel_rfl) | (rw [if_neg (by decide +kernel)]; exact ⟨rfl, rfl⟩))
    (fun os started H enc _ F => objectDecode_lifted os started H enc F)

#print axioms objectDecode_holds
end Go.Proofs.Ytlkaeonedijfpaa
