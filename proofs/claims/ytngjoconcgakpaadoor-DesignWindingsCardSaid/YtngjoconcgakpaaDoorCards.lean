/-
  DERIVED. GIVEN WITH THE SEED: THE CARDS: each row of YtngjoconcgakpaaDoorRows.lean that lists a variable, with what it lists TIED to the program's text (the seventh form; the later family's looks); each row that meets fmt, with fmt's text TOLD by the authors' own Lean function (tested against real Go, not proved from fmt's source: count such statements apart). THE CARD IS WHAT COUNTS. Prove the row's statement (the work); the ties are given (YtngjoconcgakpaaDoorTie.lean); close each card by the builder's one call (the guide's Derived/Test/ToyasCard.lean, 'card_holds'). Laid BY PROGRAM, IN A SANDBOX (cutbox-door.mjs). By AI agents, Wed Nov 11 2026. No macro, syntax, notation, axiom, sorry.
-/
import Derived.Test.YtngjoconcgakpaaDoorRows
import GoSem.ClaimSeven
namespace Go.Proofs.YtngjoconcgakpaaDoor
namespace Rows

/-- THE TIED CARD OF 'buchholzlaw02.DesignStocks'. -/
def designStocksCard : Claim7 := { stood := { row := designStocksRow, standIns := [], harness := (true, "2780abcac4bb879fbe65e76927ab50c62d4e7e29da04aa97c2085378ccb491d8"), looks := false }, kinds := [], alts := [], laidByText := true, laidKinds := [.data, .data, .data, .data, .data, .data], laidTests := true, laidLooks := .later }
def DesignStocksCardSaid : Prop := Claim7.holds Tryd.pinned (.plain (OpenSpec.ofChange designStocksSpec)) designStocksCard

/-- THE TIED CARD OF 'buchholzlaw02.DesignCores'. -/
def designCoresCard : Claim7 := { stood := { row := designCoresRow, standIns := [], harness := (true, "2780abcac4bb879fbe65e76927ab50c62d4e7e29da04aa97c2085378ccb491d8"), looks := false }, kinds := [], alts := [], laidByText := true, laidKinds := [.data, .data, .data, .data, .data, .data], laidTests := true, laidLooks := .later }
def DesignCoresCardSaid : Prop := Claim7.holds Tryd.pinned (.plain (OpenSpec.ofChange designCoresSpec)) designCoresCard

/-- THE TIED CARD OF 'buchholzlaw02.DesignSteps'. -/
def designStepsCard : Claim7 := { stood := { row := designStepsRow, standIns := [], harness := (true, "2780abcac4bb879fbe65e76927ab50c62d4e7e29da04aa97c2085378ccb491d8"), looks := false }, kinds := [], alts := [], laidByText := true, laidKinds := [.data, .data, .data, .data, .data, .data], laidTests := true, laidLooks := .later }
def DesignStepsCardSaid : Prop := Claim7.holds Tryd.pinned (.plain (OpenSpec.ofChange designStepsSpec)) designStepsCard

/-- THE TIED CARD OF 'buchholzlaw02.DesignWindings'. -/
def designWindingsCard : Claim7 := { stood := { row := designWindingsRow, standIns := [], harness := (true, "2780abcac4bb879fbe65e76927ab50c62d4e7e29da04aa97c2085378ccb491d8"), looks := false }, kinds := [], alts := [], laidByText := true, laidKinds := [.data, .data, .data, .data, .data, .data], laidTests := true, laidLooks := .later }
def DesignWindingsCardSaid : Prop := Claim7.holds Tryd.pinned (.plain (OpenSpec.ofChange designWindingsSpec)) designWindingsCard

/-- THE SECOND FORM's CARD OF 'buchholzlaw02.DesignStocks'. -/
def designStocksUptoCard : Claim7 := { stood := { row := designStocksUptoRow, standIns := [], harness := (true, "2780abcac4bb879fbe65e76927ab50c62d4e7e29da04aa97c2085378ccb491d8"), looks := false }, kinds := [], alts := [], laidByText := true, laidKinds := [.data, .data, .data, .data, .data, .data], laidTests := true, laidLooks := .later }
def DesignStocksUptoCardSaid : Prop := Claim7.holds Tryd.pinned (.plain (OpenSpec.upto designStocksSpec)) designStocksUptoCard

/-- THE SECOND FORM's CARD OF 'buchholzlaw02.DesignCores'. -/
def designCoresUptoCard : Claim7 := { stood := { row := designCoresUptoRow, standIns := [], harness := (true, "2780abcac4bb879fbe65e76927ab50c62d4e7e29da04aa97c2085378ccb491d8"), looks := false }, kinds := [], alts := [], laidByText := true, laidKinds := [.data, .data, .data, .data, .data, .data], laidTests := true, laidLooks := .later }
def DesignCoresUptoCardSaid : Prop := Claim7.holds Tryd.pinned (.plain (OpenSpec.upto designCoresSpec)) designCoresUptoCard

/-- THE SECOND FORM's CARD OF 'buchholzlaw02.DesignSteps'. -/
def designStepsUptoCard : Claim7 := { stood := { row := designStepsUptoRow, standIns := [], harness := (true, "2780abcac4bb879fbe65e76927ab50c62d4e7e29da04aa97c2085378ccb491d8"), looks := false }, kinds := [], alts := [], laidByText := true, laidKinds := [.data, .data, .data, .data, .data, .data], laidTests := true, laidLooks := .later }
def DesignStepsUptoCardSaid : Prop := Claim7.holds Tryd.pinned (.plain (OpenSpec.upto designStepsSpec)) designStepsUptoCard

/-- THE SECOND FORM's CARD OF 'buchholzlaw02.DesignWindings'. -/
def designWindingsUptoCard : Claim7 := { stood := { row := designWindingsUptoRow, standIns := [], harness := (true, "2780abcac4bb879fbe65e76927ab50c62d4e7e29da04aa97c2085378ccb491d8"), looks := false }, kinds := [], alts := [], laidByText := true, laidKinds := [.data, .data, .data, .data, .data, .data], laidTests := true, laidLooks := .later }
def DesignWindingsUptoCardSaid : Prop := Claim7.holds Tryd.pinned (.plain (OpenSpec.upto designWindingsSpec)) designWindingsUptoCard
end Rows
end Go.Proofs.YtngjoconcgakpaaDoor
