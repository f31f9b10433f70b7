/-
  DERIVED. GIVEN WITH THE SEED: THE CARDS: each row of YtnknphchjmnkcaaGreatDoorRows.lean that lists a variable, with what it lists TIED to the program's text (the seventh form; the later family's looks); each row that meets fmt, with fmt's text TOLD by the authors' own Lean function (tested against real Go, not proved from fmt's source: count such statements apart). THE CARD IS WHAT COUNTS. Prove the row's statement (the work); the ties are given (YtnknphchjmnkcaaGreatDoorTie.lean); close each card by the builder's one call (the guide's Derived/Test/ToyasCard.lean, 'card_holds'). Laid BY PROGRAM, IN A SANDBOX (cutbox-door.mjs). By AI agents, Wed Nov 11 2026. No macro, syntax, notation, axiom, sorry.
-/
import Derived.Test.YtnknphchjmnkcaaGreatDoorRows
import GoSem.ClaimSeven
namespace Go.Proofs.YtnknphchjmnkcaaGreatDoor
namespace Rows

/-- THE TIED CARD OF 'interleavelaw07.FoldValue'. -/
def foldValueCard : Claim7 := { stood := { row := foldValueRow, standIns := [], harness := (true, "3ac27bcf02c8865cd55b444dafb4c405b439ed048d6036de11feec0c40edc28d"), looks := true }, kinds := [], alts := [], laidByText := true, laidKinds := [.data, .data, .data, .sentinel, .sentinel, .data], laidTests := true, laidLooks := .later }
def FoldValueCardSaid : Prop := Claim7.holds Tryz.pinned (.plain (OpenSpec.ofChange foldValueSpec)) foldValueCard

/-- THE TIED CARD OF 'interleavelaw07.FoldFile'. -/
def foldFileCard : Claim7 := { stood := { row := foldFileRow, standIns := [], harness := (true, "3ac27bcf02c8865cd55b444dafb4c405b439ed048d6036de11feec0c40edc28d"), looks := true }, kinds := [], alts := [], laidByText := true, laidKinds := [.data, .data, .data, .sentinel, .sentinel, .data], laidTests := true, laidLooks := .later }
def FoldFileCardSaid : Prop := Claim7.holds Tryz.pinned (.plain (OpenSpec.ofChange foldFileSpec)) foldFileCard

/-- THE TIED CARD OF 'interleavelaw07.FoldArithmetic'. -/
def foldArithmeticCard : Claim7 := { stood := { row := foldArithmeticRow, standIns := [], harness := (true, "3ac27bcf02c8865cd55b444dafb4c405b439ed048d6036de11feec0c40edc28d"), looks := true }, kinds := [], alts := [], laidByText := true, laidKinds := [.data, .data, .data, .sentinel, .sentinel, .data], laidTests := true, laidLooks := .later }
def FoldArithmeticCardSaid : Prop := Claim7.holds Tryz.pinned (.plain (OpenSpec.ofChange foldArithmeticSpec)) foldArithmeticCard

/-- THE TIED CARD OF 'interleavelaw07.FoldAgain'. -/
def foldAgainCard : Claim7 := { stood := { row := foldAgainRow, standIns := [], harness := (true, "3ac27bcf02c8865cd55b444dafb4c405b439ed048d6036de11feec0c40edc28d"), looks := true }, kinds := [], alts := [], laidByText := true, laidKinds := [.data, .data, .data, .sentinel, .sentinel, .data], laidTests := true, laidLooks := .later }
def FoldAgainCardSaid : Prop := Claim7.holds Tryz.pinned (.plain (OpenSpec.ofChange foldAgainSpec)) foldAgainCard

/-- THE TIED CARD OF 'interleavelaw07.FoldConstants'. -/
def foldConstantsCard : Claim7 := { stood := { row := foldConstantsRow, standIns := [], harness := (true, "3ac27bcf02c8865cd55b444dafb4c405b439ed048d6036de11feec0c40edc28d"), looks := true }, kinds := [], alts := [], laidByText := true, laidKinds := [.data, .data, .data, .sentinel, .sentinel, .data], laidTests := true, laidLooks := .later }
def FoldConstantsCardSaid : Prop := Claim7.holds Tryz.pinned (.plain (OpenSpec.ofChange foldConstantsSpec)) foldConstantsCard

/-- THE TIED CARD OF 'interleavelaw07.FoldKeepsValue'. -/
def foldKeepsValueCard : Claim7 := { stood := { row := foldKeepsValueRow, standIns := [], harness := (true, "3ac27bcf02c8865cd55b444dafb4c405b439ed048d6036de11feec0c40edc28d"), looks := true }, kinds := [], alts := [], laidByText := true, laidKinds := [.data, .data, .data, .sentinel, .sentinel, .data], laidTests := true, laidLooks := .later }
def FoldKeepsValueCardSaid : Prop := Claim7.holds Tryz.pinned (.plain (OpenSpec.ofChange foldKeepsValueSpec)) foldKeepsValueCard

/-- THE TIED CARD OF 'interleavelaw03.SyntaxPrint'. -/
def syntaxPrintCard : Claim7 := { stood := { row := syntaxPrintRow, standIns := [], harness := (true, "3ac27bcf02c8865cd55b444dafb4c405b439ed048d6036de11feec0c40edc28d"), looks := true }, kinds := [], alts := [], laidByText := true, laidKinds := [.data, .data, .data, .sentinel, .sentinel, .data], laidTests := true, laidLooks := .later }
def SyntaxPrintCardSaid : Prop := Claim7.holds Tryz.pinned (.plain (OpenSpec.ofChange syntaxPrintSpec)) syntaxPrintCard

/-- THE TIED CARD OF 'interleavelaw03.SyntaxText'. -/
def syntaxTextCard : Claim7 := { stood := { row := syntaxTextRow, standIns := [], harness := (true, "3ac27bcf02c8865cd55b444dafb4c405b439ed048d6036de11feec0c40edc28d"), looks := true }, kinds := [], alts := [], laidByText := true, laidKinds := [.data, .data, .data, .sentinel, .sentinel, .data], laidTests := true, laidLooks := .later }
def SyntaxTextCardSaid : Prop := Claim7.holds Tryz.pinned (.plain (OpenSpec.ofChange syntaxTextSpec)) syntaxTextCard

/-- THE TIED CARD OF 'interleavelaw03.SyntaxWalk'. -/
def syntaxWalkCard : Claim7 := { stood := { row := syntaxWalkRow, standIns := [], harness := (true, "3ac27bcf02c8865cd55b444dafb4c405b439ed048d6036de11feec0c40edc28d"), looks := true }, kinds := [], alts := [], laidByText := true, laidKinds := [.data, .data, .data, .sentinel, .sentinel, .data], laidTests := true, laidLooks := .later }
def SyntaxWalkCardSaid : Prop := Claim7.holds Tryz.pinned (.plain (OpenSpec.ofChange syntaxWalkSpec)) syntaxWalkCard

/-- THE SECOND FORM's CARD OF 'interleavelaw07.FoldValue'. -/
def foldValueUptoCard : Claim7 := { stood := { row := foldValueUptoRow, standIns := [], harness := (true, "3ac27bcf02c8865cd55b444dafb4c405b439ed048d6036de11feec0c40edc28d"), looks := true }, kinds := [], alts := [], laidByText := true, laidKinds := [.data, .data, .data, .sentinel, .sentinel, .data], laidTests := true, laidLooks := .later }
def FoldValueUptoCardSaid : Prop := Claim7.holds Tryz.pinned (.plain (OpenSpec.upto foldValueSpec)) foldValueUptoCard

/-- THE SECOND FORM's CARD OF 'interleavelaw07.FoldFile'. -/
def foldFileUptoCard : Claim7 := { stood := { row := foldFileUptoRow, standIns := [], harness := (true, "3ac27bcf02c8865cd55b444dafb4c405b439ed048d6036de11feec0c40edc28d"), looks := true }, kinds := [], alts := [], laidByText := true, laidKinds := [.data, .data, .data, .sentinel, .sentinel, .data], laidTests := true, laidLooks := .later }
def FoldFileUptoCardSaid : Prop := Claim7.holds Tryz.pinned (.plain (OpenSpec.upto foldFileSpec)) foldFileUptoCard

/-- THE SECOND FORM's CARD OF 'interleavelaw07.FoldArithmetic'. -/
def foldArithmeticUptoCard : Claim7 := { stood := { row := foldArithmeticUptoRow, standIns := [], harness := (true, "3ac27bcf02c8865cd55b444dafb4c405b439ed048d6036de11feec0c40edc28d"), looks := true }, kinds := [], alts := [], laidByText := true, laidKinds := [.data, .data, .data, .sentinel, .sentinel, .data], laidTests := true, laidLooks := .later }
def FoldArithmeticUptoCardSaid : Prop := Claim7.holds Tryz.pinned (.plain (OpenSpec.upto foldArithmeticSpec)) foldArithmeticUptoCard

/-- THE SECOND FORM's CARD OF 'interleavelaw07.FoldAgain'. -/
def foldAgainUptoCard : Claim7 := { stood := { row := foldAgainUptoRow, standIns := [], harness := (true, "3ac27bcf02c8865cd55b444dafb4c405b439ed048d6036de11feec0c40edc28d"), looks := true }, kinds := [], alts := [], laidByText := true, laidKinds := [.data, .data, .data, .sentinel, .sentinel, .data], laidTests := true, laidLooks := .later }
def FoldAgainUptoCardSaid : Prop := Claim7.holds Tryz.pinned (.plain (OpenSpec.upto foldAgainSpec)) foldAgainUptoCard

/-- THE SECOND FORM's CARD OF 'interleavelaw07.FoldConstants'. -/
def foldConstantsUptoCard : Claim7 := { stood := { row := foldConstantsUptoRow, standIns := [], harness := (true, "3ac27bcf02c8865cd55b444dafb4c405b439ed048d6036de11feec0c40edc28d"), looks := true }, kinds := [], alts := [], laidByText := true, laidKinds := [.data, .data, .data, .sentinel, .sentinel, .data], laidTests := true, laidLooks := .later }
def FoldConstantsUptoCardSaid : Prop := Claim7.holds Tryz.pinned (.plain (OpenSpec.upto foldConstantsSpec)) foldConstantsUptoCard

/-- THE SECOND FORM's CARD OF 'interleavelaw07.FoldKeepsValue'. -/
def foldKeepsValueUptoCard : Claim7 := { stood := { row := foldKeepsValueUptoRow, standIns := [], harness := (true, "3ac27bcf02c8865cd55b444dafb4c405b439ed048d6036de11feec0c40edc28d"), looks := true }, kinds := [], alts := [], laidByText := true, laidKinds := [.data, .data, .data, .sentinel, .sentinel, .data], laidTests := true, laidLooks := .later }
def FoldKeepsValueUptoCardSaid : Prop := Claim7.holds Tryz.pinned (.plain (OpenSpec.upto foldKeepsValueSpec)) foldKeepsValueUptoCard

/-- THE SECOND FORM's CARD OF 'interleavelaw03.SyntaxPrint'. -/
def syntaxPrintUptoCard : Claim7 := { stood := { row := syntaxPrintUptoRow, standIns := [], harness := (true, "3ac27bcf02c8865cd55b444dafb4c405b439ed048d6036de11feec0c40edc28d"), looks := true }, kinds := [], alts := [], laidByText := true, laidKinds := [.data, .data, .data, .sentinel, .sentinel, .data], laidTests := true, laidLooks := .later }
def SyntaxPrintUptoCardSaid : Prop := Claim7.holds Tryz.pinned (.plain (OpenSpec.upto syntaxPrintSpec)) syntaxPrintUptoCard

/-- THE SECOND FORM's CARD OF 'interleavelaw03.SyntaxText'. -/
def syntaxTextUptoCard : Claim7 := { stood := { row := syntaxTextUptoRow, standIns := [], harness := (true, "3ac27bcf02c8865cd55b444dafb4c405b439ed048d6036de11feec0c40edc28d"), looks := true }, kinds := [], alts := [], laidByText := true, laidKinds := [.data, .data, .data, .sentinel, .sentinel, .data], laidTests := true, laidLooks := .later }
def SyntaxTextUptoCardSaid : Prop := Claim7.holds Tryz.pinned (.plain (OpenSpec.upto syntaxTextSpec)) syntaxTextUptoCard

/-- THE SECOND FORM's CARD OF 'interleavelaw03.SyntaxWalk'. -/
def syntaxWalkUptoCard : Claim7 := { stood := { row := syntaxWalkUptoRow, standIns := [], harness := (true, "3ac27bcf02c8865cd55b444dafb4c405b439ed048d6036de11feec0c40edc28d"), looks := true }, kinds := [], alts := [], laidByText := true, laidKinds := [.data, .data, .data, .sentinel, .sentinel, .data], laidTests := true, laidLooks := .later }
def SyntaxWalkUptoCardSaid : Prop := Claim7.holds Tryz.pinned (.plain (OpenSpec.upto syntaxWalkSpec)) syntaxWalkUptoCard
end Rows
end Go.Proofs.YtnknphchjmnkcaaGreatDoor
