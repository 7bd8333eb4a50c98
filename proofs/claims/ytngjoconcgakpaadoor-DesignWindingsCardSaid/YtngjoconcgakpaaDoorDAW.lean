/- awake: the document's examples -/
import Derived.Test.YtngjoconcgakpaaDoorDX
set_option linter.unusedVariables false
set_option linter.unusedSimpArgs false
set_option linter.unusedSectionVars false
set_option linter.unnecessarySimpa false
namespace Go.Proofs.YtngjoconcgakpaaDoor
open Go.Ev Go.RowKit
set_option maxRecDepth 100000
theorem aw_all  (hc : allC []) (hk : allK []) : Con 7 [] ((Value.bool true)) :=
  con_of (S := []) (K := []) (n := 60000) (ora := []) (res := []) (by kernel_rfl) (by kernel_rfl) hc hk
end Go.Proofs.YtngjoconcgakpaaDoor
