/- matches; the law of runs -/
import Derived.Test.YtngdhmliohjigaaDoorLEXP
set_option linter.unusedVariables false
set_option linter.unusedSimpArgs false
set_option linter.unusedSectionVars false
set_option linter.unnecessarySimpa false
namespace Go.Proofs.YtngdhmliohjigaaDoor.Perm
open Go.Ev Go.RowKit
set_option maxRecDepth 100000
end Go.Proofs.YtngdhmliohjigaaDoor.Perm
