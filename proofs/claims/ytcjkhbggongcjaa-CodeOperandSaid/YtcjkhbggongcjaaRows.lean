/-
  No cell of these rows narrows 'for every input' (looked for: loops, veiled, ifaces, maps, wideKeys, modest, calm, conditions, laid).
  DERIVED. THE GIVEN ROWS OF THIS SEAT. 7 by the template 'for every input the law returns true; each argument reads behind the call as it read before'; 0 by the template 'total and deterministic' (their statements: YtcjkhbggongcjaaTotals.lean).
  GIVEN WITH THE SEED: the statements are not yours to turn. If you find one false, say at which input.
  Laid BY PROGRAM, IN A SANDBOX (cutbox-rows.mjs): the forced cells as the released guide's own fill.sh prints them over the translation 0f9bc32713122ebe… (all of the seat's roots in one cut). By AI agents, Wed Nov 11 2026. No macro, syntax, notation, axiom, sorry.
-/
import Derived.Test.YtcjkhbggongcjaaChecked
import GoSem.Claim
import GoSem.ClaimJoined
import GoSem.ClaimMapViews
import Derived.JoinedTies
import Derived.KernelRfl
namespace Go.Proofs.Ytcjkhbggongcjaa
/- THE CELL 'sum', in the pinned program and in every row, IS THE sha256 OF THE DUMP (.gsa) THAT YtcjkhbggongcjaaProg.lean LOADS. Nothing in Lean hashes anything: it is a label: what it is worth is what the hold of that sum in a sandbox is worth. -/
noncomputable def Try.pinned : Pinned := { name := "ytcjkhbggongcjaa", sum := "0f9bc32713122ebe1c6a87521a0b5932d7adb73dd5d4c9bacb3e745e2c3fedd6", checked := Try.checked }
namespace Rows
def none {H : Type} : Left H := { results := [], args := [] }

/-- 'interleavelaw09.CodeValid': WHATEVER THE INPUT: true; the input reads as it did. -/
def codeValidSpec : ChangeSpec := { name := "codeValid", fn := fun _ => fun
  | [d] => { results := [.lit (.bool true)], args := [d] }
  | _ => none }
def codeValidRow : OpenClaim := { program := "ytcjkhbggongcjaa", sum := "0f9bc32713122ebe1c6a87521a0b5932d7adb73dd5d4c9bacb3e745e2c3fedd6", func := "interleave/interleavelaw09.CodeValid", spec := "codeValid", unfollowed := true, recurses := true, apart := false }
def CodeValidSaid : Prop := codeValidRow.holds Try.pinned (OpenSpec.ofChange codeValidSpec)

/-- ITS FALSE NEIGHBOUR: 'it returns false'. Refute it at one input. -/
def codeValidWrong : ChangeSpec := { name := "codeValid", fn := fun _ => fun
  | [d] => { results := [.lit (.bool false)], args := [d] }
  | _ => none }
def CodeValidWrongFalsely : Prop := codeValidRow.holds Try.pinned (OpenSpec.ofChange codeValidWrong)

/-- 'interleavelaw09.CodeEqual': WHATEVER THE INPUT: true; the input reads as it did. -/
def codeEqualSpec : ChangeSpec := { name := "codeEqual", fn := fun _ => fun
  | [d1, d2] => { results := [.lit (.bool true)], args := [d1, d2] }
  | _ => none }
def codeEqualRow : OpenClaim := { program := "ytcjkhbggongcjaa", sum := "0f9bc32713122ebe1c6a87521a0b5932d7adb73dd5d4c9bacb3e745e2c3fedd6", func := "interleave/interleavelaw09.CodeEqual", spec := "codeEqual", unfollowed := true, recurses := true, apart := false }
def CodeEqualSaid : Prop := codeEqualRow.holds Try.pinned (OpenSpec.ofChange codeEqualSpec)

/-- ITS FALSE NEIGHBOUR: 'it returns false'. Refute it at one input. -/
def codeEqualWrong : ChangeSpec := { name := "codeEqual", fn := fun _ => fun
  | [d1, d2] => { results := [.lit (.bool false)], args := [d1, d2] }
  | _ => none }
def CodeEqualWrongFalsely : Prop := codeEqualRow.holds Try.pinned (OpenSpec.ofChange codeEqualWrong)

/-- 'interleavelaw09.CodeKinds': WHATEVER THE INPUT: true; the input reads as it did. -/
def codeKindsSpec : ChangeSpec := { name := "codeKinds", fn := fun _ => fun
  | [d] => { results := [.lit (.bool true)], args := [d] }
  | _ => none }
def codeKindsRow : OpenClaim := { program := "ytcjkhbggongcjaa", sum := "0f9bc32713122ebe1c6a87521a0b5932d7adb73dd5d4c9bacb3e745e2c3fedd6", func := "interleave/interleavelaw09.CodeKinds", spec := "codeKinds", unfollowed := true, recurses := true, apart := false }
def CodeKindsSaid : Prop := codeKindsRow.holds Try.pinned (OpenSpec.ofChange codeKindsSpec)

/-- ITS FALSE NEIGHBOUR: 'it returns false'. Refute it at one input. -/
def codeKindsWrong : ChangeSpec := { name := "codeKinds", fn := fun _ => fun
  | [d] => { results := [.lit (.bool false)], args := [d] }
  | _ => none }
def CodeKindsWrongFalsely : Prop := codeKindsRow.holds Try.pinned (OpenSpec.ofChange codeKindsWrong)

/-- 'interleavelaw09.CodeRegs': WHATEVER THE INPUT: true; the input reads as it did. -/
def codeRegsSpec : ChangeSpec := { name := "codeRegs", fn := fun _ => fun
  | [d1, d2, d3] => { results := [.lit (.bool true)], args := [d1, d2, d3] }
  | _ => none }
def codeRegsRow : OpenClaim := { program := "ytcjkhbggongcjaa", sum := "0f9bc32713122ebe1c6a87521a0b5932d7adb73dd5d4c9bacb3e745e2c3fedd6", func := "interleave/interleavelaw09.CodeRegs", spec := "codeRegs", unfollowed := true, recurses := true, apart := false }
def CodeRegsSaid : Prop := codeRegsRow.holds Try.pinned (OpenSpec.ofChange codeRegsSpec)

/-- ITS FALSE NEIGHBOUR: 'it returns false'. Refute it at one input. -/
def codeRegsWrong : ChangeSpec := { name := "codeRegs", fn := fun _ => fun
  | [d1, d2, d3] => { results := [.lit (.bool false)], args := [d1, d2, d3] }
  | _ => none }
def CodeRegsWrongFalsely : Prop := codeRegsRow.holds Try.pinned (OpenSpec.ofChange codeRegsWrong)

/-- 'interleavelaw09.CodeOperand': WHATEVER THE INPUT: true; the input reads as it did. -/
def codeOperandSpec : ChangeSpec := { name := "codeOperand", fn := fun _ => fun
  | [d] => { results := [.lit (.bool true)], args := [d] }
  | _ => none }
def codeOperandRow : OpenClaim := { program := "ytcjkhbggongcjaa", sum := "0f9bc32713122ebe1c6a87521a0b5932d7adb73dd5d4c9bacb3e745e2c3fedd6", func := "interleave/interleavelaw09.CodeOperand", spec := "codeOperand", unfollowed := true, recurses := true, apart := false }
def CodeOperandSaid : Prop := codeOperandRow.holds Try.pinned (OpenSpec.ofChange codeOperandSpec)

/-- ITS FALSE NEIGHBOUR: 'it returns false'. Refute it at one input. -/
def codeOperandWrong : ChangeSpec := { name := "codeOperand", fn := fun _ => fun
  | [d] => { results := [.lit (.bool false)], args := [d] }
  | _ => none }
def CodeOperandWrongFalsely : Prop := codeOperandRow.holds Try.pinned (OpenSpec.ofChange codeOperandWrong)

/-- 'interleavelaw09.CodeFollows': WHATEVER THE INPUT: true; the input reads as it did. -/
def codeFollowsSpec : ChangeSpec := { name := "codeFollows", fn := fun _ => fun
  | [d] => { results := [.lit (.bool true)], args := [d] }
  | _ => none }
def codeFollowsRow : OpenClaim := { program := "ytcjkhbggongcjaa", sum := "0f9bc32713122ebe1c6a87521a0b5932d7adb73dd5d4c9bacb3e745e2c3fedd6", func := "interleave/interleavelaw09.CodeFollows", spec := "codeFollows", unfollowed := true, recurses := true, apart := false }
def CodeFollowsSaid : Prop := codeFollowsRow.holds Try.pinned (OpenSpec.ofChange codeFollowsSpec)

/-- ITS FALSE NEIGHBOUR: 'it returns false'. Refute it at one input. -/
def codeFollowsWrong : ChangeSpec := { name := "codeFollows", fn := fun _ => fun
  | [d] => { results := [.lit (.bool false)], args := [d] }
  | _ => none }
def CodeFollowsWrongFalsely : Prop := codeFollowsRow.holds Try.pinned (OpenSpec.ofChange codeFollowsWrong)

/-- 'interleavelaw09.CodeBelow': WHATEVER THE INPUT: true; the input reads as it did. -/
def codeBelowSpec : ChangeSpec := { name := "codeBelow", fn := fun _ => fun
  | [d] => { results := [.lit (.bool true)], args := [d] }
  | _ => none }
def codeBelowRow : OpenClaim := { program := "ytcjkhbggongcjaa", sum := "0f9bc32713122ebe1c6a87521a0b5932d7adb73dd5d4c9bacb3e745e2c3fedd6", func := "interleave/interleavelaw09.CodeBelow", spec := "codeBelow", unfollowed := true, recurses := true, apart := false }
def CodeBelowSaid : Prop := codeBelowRow.holds Try.pinned (OpenSpec.ofChange codeBelowSpec)

/-- ITS FALSE NEIGHBOUR: 'it returns false'. Refute it at one input. -/
def codeBelowWrong : ChangeSpec := { name := "codeBelow", fn := fun _ => fun
  | [d] => { results := [.lit (.bool false)], args := [d] }
  | _ => none }
def CodeBelowWrongFalsely : Prop := codeBelowRow.holds Try.pinned (OpenSpec.ofChange codeBelowWrong)

/- THE SECOND FORM. 'bulk': how many values and letters a reading holds, each counted each time it is reached (what is shared counts as often as it is met; a slice's spare places count too). A statement '..UptoSaid' is the law's where the arguments, and the package variables that the reading takes, are together of bulk at most 1048576: NARROWER than '..Said'. Prove '..Said' where nothing that the law and all that it calls make is longer than what came in: it says more and counts as full. Else prove '..UptoSaid'. A law counts once. -/
mutual
def uptoBulk {H : Type} : DataW H → Nat
  | .lit (.string bytes) => bytes.length + 1
  | .lit _ => 1
  | .nil => 1
  | .ptr d => uptoBulk d + 1
  | .slice elems spare => uptoBulkAll elems + uptoBulkAll spare + 1
  | .agg parts => uptoBulkAll parts + 1
  | .iface _ d => uptoBulk d + 1
  | .map entries => uptoBulkEntries entries + 1
  | .held _ => 1
def uptoBulkAll {H : Type} : List (DataW H) → Nat
  | [] => 0
  | d :: r => uptoBulk d + uptoBulkAll r
def uptoBulkEntries {H : Type} : List (Lit × DataW H) → Nat
  | [] => 0
  | x :: r => uptoBulkEntry x + uptoBulkEntries r
def uptoBulkEntry {H : Type} : Lit × DataW H → Nat
  | (.string bytes, d) => bytes.length + uptoBulk d + 1
  | (_, d) => uptoBulk d + 1
 end
def uptoSmall : (H : Type) → List (DataW H) → Bool := fun _ ds => decide (uptoBulkAll ds ≤ 1048576)
def OpenSpec.upto (s : _root_.Go.ChangeSpec) : _root_.Go.OpenSpec := { _root_.Go.OpenSpec.ofChange s with cond := some uptoSmall }

/-- 'interleavelaw09.CodeValid', WHERE WHAT IT READS IS OF BULK AT MOST 1048576: true; the input reads as it did. -/
def codeValidUptoRow : OpenClaim := { program := "ytcjkhbggongcjaa", sum := "0f9bc32713122ebe1c6a87521a0b5932d7adb73dd5d4c9bacb3e745e2c3fedd6", func := "interleave/interleavelaw09.CodeValid", spec := "codeValid", unfollowed := true, recurses := true, apart := false, narrowed := true }
def CodeValidUptoSaid : Prop := codeValidUptoRow.holds Try.pinned (OpenSpec.upto codeValidSpec)

/-- 'interleavelaw09.CodeEqual', WHERE WHAT IT READS IS OF BULK AT MOST 1048576: true; the input reads as it did. -/
def codeEqualUptoRow : OpenClaim := { program := "ytcjkhbggongcjaa", sum := "0f9bc32713122ebe1c6a87521a0b5932d7adb73dd5d4c9bacb3e745e2c3fedd6", func := "interleave/interleavelaw09.CodeEqual", spec := "codeEqual", unfollowed := true, recurses := true, apart := false, narrowed := true }
def CodeEqualUptoSaid : Prop := codeEqualUptoRow.holds Try.pinned (OpenSpec.upto codeEqualSpec)

/-- 'interleavelaw09.CodeKinds', WHERE WHAT IT READS IS OF BULK AT MOST 1048576: true; the input reads as it did. -/
def codeKindsUptoRow : OpenClaim := { program := "ytcjkhbggongcjaa", sum := "0f9bc32713122ebe1c6a87521a0b5932d7adb73dd5d4c9bacb3e745e2c3fedd6", func := "interleave/interleavelaw09.CodeKinds", spec := "codeKinds", unfollowed := true, recurses := true, apart := false, narrowed := true }
def CodeKindsUptoSaid : Prop := codeKindsUptoRow.holds Try.pinned (OpenSpec.upto codeKindsSpec)

/-- 'interleavelaw09.CodeRegs', WHERE WHAT IT READS IS OF BULK AT MOST 1048576: true; the input reads as it did. -/
def codeRegsUptoRow : OpenClaim := { program := "ytcjkhbggongcjaa", sum := "0f9bc32713122ebe1c6a87521a0b5932d7adb73dd5d4c9bacb3e745e2c3fedd6", func := "interleave/interleavelaw09.CodeRegs", spec := "codeRegs", unfollowed := true, recurses := true, apart := false, narrowed := true }
def CodeRegsUptoSaid : Prop := codeRegsUptoRow.holds Try.pinned (OpenSpec.upto codeRegsSpec)

/-- 'interleavelaw09.CodeOperand', WHERE WHAT IT READS IS OF BULK AT MOST 1048576: true; the input reads as it did. -/
def codeOperandUptoRow : OpenClaim := { program := "ytcjkhbggongcjaa", sum := "0f9bc32713122ebe1c6a87521a0b5932d7adb73dd5d4c9bacb3e745e2c3fedd6", func := "interleave/interleavelaw09.CodeOperand", spec := "codeOperand", unfollowed := true, recurses := true, apart := false, narrowed := true }
def CodeOperandUptoSaid : Prop := codeOperandUptoRow.holds Try.pinned (OpenSpec.upto codeOperandSpec)

/-- 'interleavelaw09.CodeFollows', WHERE WHAT IT READS IS OF BULK AT MOST 1048576: true; the input reads as it did. -/
def codeFollowsUptoRow : OpenClaim := { program := "ytcjkhbggongcjaa", sum := "0f9bc32713122ebe1c6a87521a0b5932d7adb73dd5d4c9bacb3e745e2c3fedd6", func := "interleave/interleavelaw09.CodeFollows", spec := "codeFollows", unfollowed := true, recurses := true, apart := false, narrowed := true }
def CodeFollowsUptoSaid : Prop := codeFollowsUptoRow.holds Try.pinned (OpenSpec.upto codeFollowsSpec)

/-- 'interleavelaw09.CodeBelow', WHERE WHAT IT READS IS OF BULK AT MOST 1048576: true; the input reads as it did. -/
def codeBelowUptoRow : OpenClaim := { program := "ytcjkhbggongcjaa", sum := "0f9bc32713122ebe1c6a87521a0b5932d7adb73dd5d4c9bacb3e745e2c3fedd6", func := "interleave/interleavelaw09.CodeBelow", spec := "codeBelow", unfollowed := true, recurses := true, apart := false, narrowed := true }
def CodeBelowUptoSaid : Prop := codeBelowUptoRow.holds Try.pinned (OpenSpec.upto codeBelowSpec)

end Rows
end Go.Proofs.Ytcjkhbggongcjaa
