/-
  DERIVED. GIVEN WITH THE SEED: THE CARDS: each row of YtngdhmliohjigaaDoorRows.lean that lists a variable, with what it lists TIED to the program's text (the seventh form; the later family's looks); each row that meets fmt, with fmt's text TOLD by the authors' own Lean function (tested against real Go, not proved from fmt's source: count such statements apart). THE CARD IS WHAT COUNTS. Prove the row's statement (the work); the ties are given (YtngdhmliohjigaaDoorTie.lean); close each card by the builder's one call (the guide's Derived/Test/ToyasCard.lean, 'card_holds'). Laid BY PROGRAM, IN A SANDBOX (cutbox-door.mjs). By AI agents, Wed Nov 11 2026. No macro, syntax, notation, axiom, sorry.
-/
import Derived.Test.YtngdhmliohjigaaDoorRows
import GoSem.ClaimSeven
namespace Go.Proofs.YtngdhmliohjigaaDoor
namespace Rows

/-- THE TIED CARD OF 'buchholzlaw01.GroupWindings'. -/
def groupWindingsCard : Claim7 := { stood := { row := groupWindingsRow, standIns := [], harness := (true, "d435546083b129baf80a165741ff44dcc5020644ad1615f7f6bbb808c29a13fe"), looks := false }, kinds := [], alts := [], laidByText := true, laidKinds := [.data, .data, .data, .data, .data, .data], laidTests := true, laidLooks := .later }
def GroupWindingsCardSaid : Prop := Claim7.holds Tryd.pinned (.plain (OpenSpec.ofChange groupWindingsSpec)) groupWindingsCard

/-- THE TIED CARD OF 'buchholzlaw01.GroupBalanced'. -/
def groupBalancedCard : Claim7 := { stood := { row := groupBalancedRow, standIns := [], harness := (true, "d435546083b129baf80a165741ff44dcc5020644ad1615f7f6bbb808c29a13fe"), looks := false }, kinds := [], alts := [], laidByText := true, laidKinds := [.data, .data, .data, .data, .data, .data], laidTests := true, laidLooks := .later }
def GroupBalancedCardSaid : Prop := Claim7.holds Tryd.pinned (.plain (OpenSpec.ofChange groupBalancedSpec)) groupBalancedCard

/-- THE TIED CARD OF 'buchholzlaw01.GroupLinesOf'. -/
def groupLinesOfCard : Claim7 := { stood := { row := groupLinesOfRow, standIns := [], harness := (true, "d435546083b129baf80a165741ff44dcc5020644ad1615f7f6bbb808c29a13fe"), looks := false }, kinds := [], alts := [], laidByText := true, laidKinds := [.data, .data, .data, .data, .data, .data, .data], laidTests := true, laidLooks := .later }
def GroupLinesOfCardSaid : Prop := Claim7.holds Tryd.pinned (.plain (OpenSpec.ofChange groupLinesOfSpec)) groupLinesOfCard

/-- THE TIED CARD OF 'buchholzlaw01.GroupRenamed'. -/
def groupRenamedCard : Claim7 := { stood := { row := groupRenamedRow, standIns := [], harness := (true, "d435546083b129baf80a165741ff44dcc5020644ad1615f7f6bbb808c29a13fe"), looks := false }, kinds := [], alts := [], laidByText := true, laidKinds := [.data, .data, .data, .data, .data, .data, .data], laidTests := true, laidLooks := .later }
def GroupRenamedCardSaid : Prop := Claim7.holds Tryd.pinned (.plain (OpenSpec.ofChange groupRenamedSpec)) groupRenamedCard

/-- THE TIED CARD OF 'buchholzlaw01.GroupPhasors'. -/
def groupPhasorsCard : Claim7 := { stood := { row := groupPhasorsRow, standIns := [], harness := (true, "d435546083b129baf80a165741ff44dcc5020644ad1615f7f6bbb808c29a13fe"), looks := false }, kinds := [], alts := [], laidByText := true, laidKinds := [.data, .data, .data, .data, .data, .data], laidTests := true, laidLooks := .later }
def GroupPhasorsCardSaid : Prop := Claim7.holds Tryd.pinned (.plain (OpenSpec.ofChange groupPhasorsSpec)) groupPhasorsCard

/-- THE TIED CARD OF 'buchholzlaw01.GroupUnits'. -/
def groupUnitsCard : Claim7 := { stood := { row := groupUnitsRow, standIns := [], harness := (true, "d435546083b129baf80a165741ff44dcc5020644ad1615f7f6bbb808c29a13fe"), looks := false }, kinds := [], alts := [], laidByText := true, laidKinds := [.data, .data, .data, .data, .data, .data], laidTests := true, laidLooks := .later }
def GroupUnitsCardSaid : Prop := Claim7.holds Tryd.pinned (.plain (OpenSpec.ofChange groupUnitsSpec)) groupUnitsCard

/-- THE TIED CARD OF 'buchholzlaw01.GroupLow'. -/
def groupLowCard : Claim7 := { stood := { row := groupLowRow, standIns := [], harness := (true, "d435546083b129baf80a165741ff44dcc5020644ad1615f7f6bbb808c29a13fe"), looks := false }, kinds := [], alts := [], laidByText := true, laidKinds := [.data, .data, .data, .data, .data, .data], laidTests := true, laidLooks := .later }
def GroupLowCardSaid : Prop := Claim7.holds Tryd.pinned (.plain (OpenSpec.ofChange groupLowSpec)) groupLowCard

/-- THE TIED CARD OF 'buchholzlaw01.GroupTurns'. -/
def groupTurnsCard : Claim7 := { stood := { row := groupTurnsRow, standIns := [], harness := (true, "d435546083b129baf80a165741ff44dcc5020644ad1615f7f6bbb808c29a13fe"), looks := false }, kinds := [], alts := [], laidByText := true, laidKinds := [.data, .data, .data, .data, .data, .data], laidTests := true, laidLooks := .later }
def GroupTurnsCardSaid : Prop := Claim7.holds Tryd.pinned (.plain (OpenSpec.ofChange groupTurnsSpec)) groupTurnsCard

/-- THE TIED CARD OF 'buchholzlaw01.GroupRuns'. -/
def groupRunsCard : Claim7 := { stood := { row := groupRunsRow, standIns := [], harness := (true, "d435546083b129baf80a165741ff44dcc5020644ad1615f7f6bbb808c29a13fe"), looks := false }, kinds := [], alts := [], laidByText := true, laidKinds := [.data, .data, .data, .data, .data, .data, .data], laidTests := true, laidLooks := .later }
def GroupRunsCardSaid : Prop := Claim7.holds Tryd.pinned (.plain (OpenSpec.ofChange groupRunsSpec)) groupRunsCard

/-- THE TIED CARD OF 'buchholzlaw01.GroupMatched'. -/
def groupMatchedCard : Claim7 := { stood := { row := groupMatchedRow, standIns := [], harness := (true, "d435546083b129baf80a165741ff44dcc5020644ad1615f7f6bbb808c29a13fe"), looks := false }, kinds := [], alts := [], laidByText := true, laidKinds := [.data, .data, .data, .data, .data, .data, .data], laidTests := true, laidLooks := .later }
def GroupMatchedCardSaid : Prop := Claim7.holds Tryd.pinned (.plain (OpenSpec.ofChange groupMatchedSpec)) groupMatchedCard

/-- THE TIED CARD OF 'buchholzlaw01.GroupCurrents'. -/
def groupCurrentsCard : Claim7 := { stood := { row := groupCurrentsRow, standIns := [], harness := (true, "d435546083b129baf80a165741ff44dcc5020644ad1615f7f6bbb808c29a13fe"), looks := false }, kinds := [], alts := [], laidByText := true, laidKinds := [.data, .data, .data, .data, .data, .data], laidTests := true, laidLooks := .later }
def GroupCurrentsCardSaid : Prop := Claim7.holds Tryd.pinned (.plain (OpenSpec.ofChange groupCurrentsSpec)) groupCurrentsCard

/-- THE TIED CARD OF 'buchholzlaw01.GroupShares'. -/
def groupSharesCard : Claim7 := { stood := { row := groupSharesRow, standIns := [], harness := (true, "d435546083b129baf80a165741ff44dcc5020644ad1615f7f6bbb808c29a13fe"), looks := false }, kinds := [], alts := [], laidByText := true, laidKinds := [.data, .data, .data, .data, .data, .data], laidTests := true, laidLooks := .later }
def GroupSharesCardSaid : Prop := Claim7.holds Tryd.pinned (.plain (OpenSpec.ofChange groupSharesSpec)) groupSharesCard

/-- THE TIED CARD OF 'buchholzlaw01.GroupStrings'. -/
def groupStringsCard : Claim7 := { stood := { row := groupStringsRow, standIns := [], harness := (true, "d435546083b129baf80a165741ff44dcc5020644ad1615f7f6bbb808c29a13fe"), looks := false }, kinds := [], alts := [], laidByText := true, laidKinds := [.data, .data, .data, .data, .data, .data, .data, .pinned], laidTests := true, laidLooks := .later }
def GroupStringsCardSaid : Prop := Claim7.holds Tryd.pinned (.plain (OpenSpec.ofChange groupStringsSpec)) groupStringsCard

/-- THE SECOND FORM's CARD OF 'buchholzlaw01.GroupWindings'. -/
def groupWindingsUptoCard : Claim7 := { stood := { row := groupWindingsUptoRow, standIns := [], harness := (true, "d435546083b129baf80a165741ff44dcc5020644ad1615f7f6bbb808c29a13fe"), looks := false }, kinds := [], alts := [], laidByText := true, laidKinds := [.data, .data, .data, .data, .data, .data], laidTests := true, laidLooks := .later }
def GroupWindingsUptoCardSaid : Prop := Claim7.holds Tryd.pinned (.plain (OpenSpec.upto groupWindingsSpec)) groupWindingsUptoCard

/-- THE SECOND FORM's CARD OF 'buchholzlaw01.GroupBalanced'. -/
def groupBalancedUptoCard : Claim7 := { stood := { row := groupBalancedUptoRow, standIns := [], harness := (true, "d435546083b129baf80a165741ff44dcc5020644ad1615f7f6bbb808c29a13fe"), looks := false }, kinds := [], alts := [], laidByText := true, laidKinds := [.data, .data, .data, .data, .data, .data], laidTests := true, laidLooks := .later }
def GroupBalancedUptoCardSaid : Prop := Claim7.holds Tryd.pinned (.plain (OpenSpec.upto groupBalancedSpec)) groupBalancedUptoCard

/-- THE SECOND FORM's CARD OF 'buchholzlaw01.GroupLinesOf'. -/
def groupLinesOfUptoCard : Claim7 := { stood := { row := groupLinesOfUptoRow, standIns := [], harness := (true, "d435546083b129baf80a165741ff44dcc5020644ad1615f7f6bbb808c29a13fe"), looks := false }, kinds := [], alts := [], laidByText := true, laidKinds := [.data, .data, .data, .data, .data, .data, .data], laidTests := true, laidLooks := .later }
def GroupLinesOfUptoCardSaid : Prop := Claim7.holds Tryd.pinned (.plain (OpenSpec.upto groupLinesOfSpec)) groupLinesOfUptoCard

/-- THE SECOND FORM's CARD OF 'buchholzlaw01.GroupRenamed'. -/
def groupRenamedUptoCard : Claim7 := { stood := { row := groupRenamedUptoRow, standIns := [], harness := (true, "d435546083b129baf80a165741ff44dcc5020644ad1615f7f6bbb808c29a13fe"), looks := false }, kinds := [], alts := [], laidByText := true, laidKinds := [.data, .data, .data, .data, .data, .data, .data], laidTests := true, laidLooks := .later }
def GroupRenamedUptoCardSaid : Prop := Claim7.holds Tryd.pinned (.plain (OpenSpec.upto groupRenamedSpec)) groupRenamedUptoCard

/-- THE SECOND FORM's CARD OF 'buchholzlaw01.GroupPhasors'. -/
def groupPhasorsUptoCard : Claim7 := { stood := { row := groupPhasorsUptoRow, standIns := [], harness := (true, "d435546083b129baf80a165741ff44dcc5020644ad1615f7f6bbb808c29a13fe"), looks := false }, kinds := [], alts := [], laidByText := true, laidKinds := [.data, .data, .data, .data, .data, .data], laidTests := true, laidLooks := .later }
def GroupPhasorsUptoCardSaid : Prop := Claim7.holds Tryd.pinned (.plain (OpenSpec.upto groupPhasorsSpec)) groupPhasorsUptoCard

/-- THE SECOND FORM's CARD OF 'buchholzlaw01.GroupUnits'. -/
def groupUnitsUptoCard : Claim7 := { stood := { row := groupUnitsUptoRow, standIns := [], harness := (true, "d435546083b129baf80a165741ff44dcc5020644ad1615f7f6bbb808c29a13fe"), looks := false }, kinds := [], alts := [], laidByText := true, laidKinds := [.data, .data, .data, .data, .data, .data], laidTests := true, laidLooks := .later }
def GroupUnitsUptoCardSaid : Prop := Claim7.holds Tryd.pinned (.plain (OpenSpec.upto groupUnitsSpec)) groupUnitsUptoCard

/-- THE SECOND FORM's CARD OF 'buchholzlaw01.GroupLow'. -/
def groupLowUptoCard : Claim7 := { stood := { row := groupLowUptoRow, standIns := [], harness := (true, "d435546083b129baf80a165741ff44dcc5020644ad1615f7f6bbb808c29a13fe"), looks := false }, kinds := [], alts := [], laidByText := true, laidKinds := [.data, .data, .data, .data, .data, .data], laidTests := true, laidLooks := .later }
def GroupLowUptoCardSaid : Prop := Claim7.holds Tryd.pinned (.plain (OpenSpec.upto groupLowSpec)) groupLowUptoCard

/-- THE SECOND FORM's CARD OF 'buchholzlaw01.GroupTurns'. -/
def groupTurnsUptoCard : Claim7 := { stood := { row := groupTurnsUptoRow, standIns := [], harness := (true, "d435546083b129baf80a165741ff44dcc5020644ad1615f7f6bbb808c29a13fe"), looks := false }, kinds := [], alts := [], laidByText := true, laidKinds := [.data, .data, .data, .data, .data, .data], laidTests := true, laidLooks := .later }
def GroupTurnsUptoCardSaid : Prop := Claim7.holds Tryd.pinned (.plain (OpenSpec.upto groupTurnsSpec)) groupTurnsUptoCard

/-- THE SECOND FORM's CARD OF 'buchholzlaw01.GroupRuns'. -/
def groupRunsUptoCard : Claim7 := { stood := { row := groupRunsUptoRow, standIns := [], harness := (true, "d435546083b129baf80a165741ff44dcc5020644ad1615f7f6bbb808c29a13fe"), looks := false }, kinds := [], alts := [], laidByText := true, laidKinds := [.data, .data, .data, .data, .data, .data, .data], laidTests := true, laidLooks := .later }
def GroupRunsUptoCardSaid : Prop := Claim7.holds Tryd.pinned (.plain (OpenSpec.upto groupRunsSpec)) groupRunsUptoCard

/-- THE SECOND FORM's CARD OF 'buchholzlaw01.GroupMatched'. -/
def groupMatchedUptoCard : Claim7 := { stood := { row := groupMatchedUptoRow, standIns := [], harness := (true, "d435546083b129baf80a165741ff44dcc5020644ad1615f7f6bbb808c29a13fe"), looks := false }, kinds := [], alts := [], laidByText := true, laidKinds := [.data, .data, .data, .data, .data, .data, .data], laidTests := true, laidLooks := .later }
def GroupMatchedUptoCardSaid : Prop := Claim7.holds Tryd.pinned (.plain (OpenSpec.upto groupMatchedSpec)) groupMatchedUptoCard

/-- THE SECOND FORM's CARD OF 'buchholzlaw01.GroupCurrents'. -/
def groupCurrentsUptoCard : Claim7 := { stood := { row := groupCurrentsUptoRow, standIns := [], harness := (true, "d435546083b129baf80a165741ff44dcc5020644ad1615f7f6bbb808c29a13fe"), looks := false }, kinds := [], alts := [], laidByText := true, laidKinds := [.data, .data, .data, .data, .data, .data], laidTests := true, laidLooks := .later }
def GroupCurrentsUptoCardSaid : Prop := Claim7.holds Tryd.pinned (.plain (OpenSpec.upto groupCurrentsSpec)) groupCurrentsUptoCard

/-- THE SECOND FORM's CARD OF 'buchholzlaw01.GroupShares'. -/
def groupSharesUptoCard : Claim7 := { stood := { row := groupSharesUptoRow, standIns := [], harness := (true, "d435546083b129baf80a165741ff44dcc5020644ad1615f7f6bbb808c29a13fe"), looks := false }, kinds := [], alts := [], laidByText := true, laidKinds := [.data, .data, .data, .data, .data, .data], laidTests := true, laidLooks := .later }
def GroupSharesUptoCardSaid : Prop := Claim7.holds Tryd.pinned (.plain (OpenSpec.upto groupSharesSpec)) groupSharesUptoCard

/-- THE SECOND FORM's CARD OF 'buchholzlaw01.GroupStrings'. -/
def groupStringsUptoCard : Claim7 := { stood := { row := groupStringsUptoRow, standIns := [], harness := (true, "d435546083b129baf80a165741ff44dcc5020644ad1615f7f6bbb808c29a13fe"), looks := false }, kinds := [], alts := [], laidByText := true, laidKinds := [.data, .data, .data, .data, .data, .data, .data, .pinned], laidTests := true, laidLooks := .later }
def GroupStringsUptoCardSaid : Prop := Claim7.holds Tryd.pinned (.plain (OpenSpec.upto groupStringsSpec)) groupStringsUptoCard
end Rows
end Go.Proofs.YtngdhmliohjigaaDoor
