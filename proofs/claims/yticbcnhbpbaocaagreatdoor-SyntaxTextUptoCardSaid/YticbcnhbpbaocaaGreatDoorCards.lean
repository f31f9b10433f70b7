/-
  DERIVED. GIVEN WITH THE SEED: THE CARDS: each row of YticbcnhbpbaocaaGreatDoorRows.lean that lists a variable, with what it lists TIED to the program's text (the seventh form; the later family's looks); each row that meets fmt, with fmt's text TOLD by the authors' own Lean function (tested against real Go, not proved from fmt's source: count such statements apart). THE CARD IS WHAT COUNTS. Prove the row's statement (the work); the ties are given (YticbcnhbpbaocaaGreatDoorTie.lean); close each card by the builder's one call (the guide's Derived/Test/ToyasCard.lean, 'card_holds'). Laid BY PROGRAM, IN A SANDBOX (cutbox-door.mjs). By AI agents, Wed Nov 11 2026. No macro, syntax, notation, axiom, sorry.
-/
import Derived.Test.YticbcnhbpbaocaaGreatDoorRows
import GoSem.ClaimSeven
namespace Go.Proofs.YticbcnhbpbaocaaGreatDoor
namespace Rows

/-- THE TIED CARD OF 'interleavelaw03.SyntaxValid'. -/
def syntaxValidCard : Claim7 := { stood := { row := syntaxValidRow, standIns := [], harness := (true, "ef06814c32144a55c9d4434b021a82ddf82632a90c490b619571f2b091b23f7e"), looks := true }, kinds := [], alts := [], laidByText := true, laidKinds := [.data, .data, .data, .sentinel, .sentinel, .data], laidTests := true, laidLooks := .later }
def SyntaxValidCardSaid : Prop := Claim7.holds Tryz.pinned (.plain (OpenSpec.ofChange syntaxValidSpec)) syntaxValidCard

/-- THE TIED CARD OF 'interleavelaw03.SyntaxDepth'. -/
def syntaxDepthCard : Claim7 := { stood := { row := syntaxDepthRow, standIns := [], harness := (true, "ef06814c32144a55c9d4434b021a82ddf82632a90c490b619571f2b091b23f7e"), looks := true }, kinds := [], alts := [], laidByText := true, laidKinds := [.data, .data, .data, .sentinel, .sentinel, .data], laidTests := true, laidLooks := .later }
def SyntaxDepthCardSaid : Prop := Claim7.holds Tryz.pinned (.plain (OpenSpec.ofChange syntaxDepthSpec)) syntaxDepthCard

/-- THE TIED CARD OF 'interleavelaw03.SyntaxEqual'. -/
def syntaxEqualCard : Claim7 := { stood := { row := syntaxEqualRow, standIns := [], harness := (true, "ef06814c32144a55c9d4434b021a82ddf82632a90c490b619571f2b091b23f7e"), looks := true }, kinds := [], alts := [], laidByText := true, laidKinds := [.data, .data, .data, .sentinel, .sentinel, .data], laidTests := true, laidLooks := .later }
def SyntaxEqualCardSaid : Prop := Claim7.holds Tryz.pinned (.plain (OpenSpec.ofChange syntaxEqualSpec)) syntaxEqualCard

/-- THE TIED CARD OF 'interleavelaw03.SyntaxStrip'. -/
def syntaxStripCard : Claim7 := { stood := { row := syntaxStripRow, standIns := [], harness := (true, "ef06814c32144a55c9d4434b021a82ddf82632a90c490b619571f2b091b23f7e"), looks := true }, kinds := [], alts := [], laidByText := true, laidKinds := [.data, .data, .data, .sentinel, .sentinel, .data], laidTests := true, laidLooks := .later }
def SyntaxStripCardSaid : Prop := Claim7.holds Tryz.pinned (.plain (OpenSpec.ofChange syntaxStripSpec)) syntaxStripCard

/-- THE TIED CARD OF 'interleavelaw03.SyntaxPrint'. -/
def syntaxPrintCard : Claim7 := { stood := { row := syntaxPrintRow, standIns := [], harness := (true, "ef06814c32144a55c9d4434b021a82ddf82632a90c490b619571f2b091b23f7e"), looks := true }, kinds := [], alts := [], laidByText := true, laidKinds := [.data, .data, .data, .sentinel, .sentinel, .data], laidTests := true, laidLooks := .later }
def SyntaxPrintCardSaid : Prop := Claim7.holds Tryz.pinned (.plain (OpenSpec.ofChange syntaxPrintSpec)) syntaxPrintCard

/-- THE TIED CARD OF 'interleavelaw03.SyntaxText'. -/
def syntaxTextCard : Claim7 := { stood := { row := syntaxTextRow, standIns := [], harness := (true, "ef06814c32144a55c9d4434b021a82ddf82632a90c490b619571f2b091b23f7e"), looks := true }, kinds := [], alts := [], laidByText := true, laidKinds := [.data, .data, .data, .sentinel, .sentinel, .data], laidTests := true, laidLooks := .later }
def SyntaxTextCardSaid : Prop := Claim7.holds Tryz.pinned (.plain (OpenSpec.ofChange syntaxTextSpec)) syntaxTextCard

/-- THE TIED CARD OF 'interleavelaw03.SyntaxWalk'. -/
def syntaxWalkCard : Claim7 := { stood := { row := syntaxWalkRow, standIns := [], harness := (true, "ef06814c32144a55c9d4434b021a82ddf82632a90c490b619571f2b091b23f7e"), looks := true }, kinds := [], alts := [], laidByText := true, laidKinds := [.data, .data, .data, .sentinel, .sentinel, .data], laidTests := true, laidLooks := .later }
def SyntaxWalkCardSaid : Prop := Claim7.holds Tryz.pinned (.plain (OpenSpec.ofChange syntaxWalkSpec)) syntaxWalkCard

/-- THE SECOND FORM's CARD OF 'interleavelaw03.SyntaxValid'. -/
def syntaxValidUptoCard : Claim7 := { stood := { row := syntaxValidUptoRow, standIns := [], harness := (true, "ef06814c32144a55c9d4434b021a82ddf82632a90c490b619571f2b091b23f7e"), looks := true }, kinds := [], alts := [], laidByText := true, laidKinds := [.data, .data, .data, .sentinel, .sentinel, .data], laidTests := true, laidLooks := .later }
def SyntaxValidUptoCardSaid : Prop := Claim7.holds Tryz.pinned (.plain (OpenSpec.upto syntaxValidSpec)) syntaxValidUptoCard

/-- THE SECOND FORM's CARD OF 'interleavelaw03.SyntaxDepth'. -/
def syntaxDepthUptoCard : Claim7 := { stood := { row := syntaxDepthUptoRow, standIns := [], harness := (true, "ef06814c32144a55c9d4434b021a82ddf82632a90c490b619571f2b091b23f7e"), looks := true }, kinds := [], alts := [], laidByText := true, laidKinds := [.data, .data, .data, .sentinel, .sentinel, .data], laidTests := true, laidLooks := .later }
def SyntaxDepthUptoCardSaid : Prop := Claim7.holds Tryz.pinned (.plain (OpenSpec.upto syntaxDepthSpec)) syntaxDepthUptoCard

/-- THE SECOND FORM's CARD OF 'interleavelaw03.SyntaxEqual'. -/
def syntaxEqualUptoCard : Claim7 := { stood := { row := syntaxEqualUptoRow, standIns := [], harness := (true, "ef06814c32144a55c9d4434b021a82ddf82632a90c490b619571f2b091b23f7e"), looks := true }, kinds := [], alts := [], laidByText := true, laidKinds := [.data, .data, .data, .sentinel, .sentinel, .data], laidTests := true, laidLooks := .later }
def SyntaxEqualUptoCardSaid : Prop := Claim7.holds Tryz.pinned (.plain (OpenSpec.upto syntaxEqualSpec)) syntaxEqualUptoCard

/-- THE SECOND FORM's CARD OF 'interleavelaw03.SyntaxStrip'. -/
def syntaxStripUptoCard : Claim7 := { stood := { row := syntaxStripUptoRow, standIns := [], harness := (true, "ef06814c32144a55c9d4434b021a82ddf82632a90c490b619571f2b091b23f7e"), looks := true }, kinds := [], alts := [], laidByText := true, laidKinds := [.data, .data, .data, .sentinel, .sentinel, .data], laidTests := true, laidLooks := .later }
def SyntaxStripUptoCardSaid : Prop := Claim7.holds Tryz.pinned (.plain (OpenSpec.upto syntaxStripSpec)) syntaxStripUptoCard

/-- THE SECOND FORM's CARD OF 'interleavelaw03.SyntaxPrint'. -/
def syntaxPrintUptoCard : Claim7 := { stood := { row := syntaxPrintUptoRow, standIns := [], harness := (true, "ef06814c32144a55c9d4434b021a82ddf82632a90c490b619571f2b091b23f7e"), looks := true }, kinds := [], alts := [], laidByText := true, laidKinds := [.data, .data, .data, .sentinel, .sentinel, .data], laidTests := true, laidLooks := .later }
def SyntaxPrintUptoCardSaid : Prop := Claim7.holds Tryz.pinned (.plain (OpenSpec.upto syntaxPrintSpec)) syntaxPrintUptoCard

/-- THE SECOND FORM's CARD OF 'interleavelaw03.SyntaxText'. -/
def syntaxTextUptoCard : Claim7 := { stood := { row := syntaxTextUptoRow, standIns := [], harness := (true, "ef06814c32144a55c9d4434b021a82ddf82632a90c490b619571f2b091b23f7e"), looks := true }, kinds := [], alts := [], laidByText := true, laidKinds := [.data, .data, .data, .sentinel, .sentinel, .data], laidTests := true, laidLooks := .later }
def SyntaxTextUptoCardSaid : Prop := Claim7.holds Tryz.pinned (.plain (OpenSpec.upto syntaxTextSpec)) syntaxTextUptoCard

/-- THE SECOND FORM's CARD OF 'interleavelaw03.SyntaxWalk'. -/
def syntaxWalkUptoCard : Claim7 := { stood := { row := syntaxWalkUptoRow, standIns := [], harness := (true, "ef06814c32144a55c9d4434b021a82ddf82632a90c490b619571f2b091b23f7e"), looks := true }, kinds := [], alts := [], laidByText := true, laidKinds := [.data, .data, .data, .sentinel, .sentinel, .data], laidTests := true, laidLooks := .later }
def SyntaxWalkUptoCardSaid : Prop := Claim7.holds Tryz.pinned (.plain (OpenSpec.upto syntaxWalkSpec)) syntaxWalkUptoCard
end Rows
end Go.Proofs.YticbcnhbpbaocaaGreatDoor
