/-
  No cell of these rows narrows 'for every input' (looked for: loops, veiled, ifaces, maps, wideKeys, modest, calm, conditions, laid).
  DERIVED. THE GIVEN ROWS OF THIS SEAT. 3 by the template 'for every input the law returns true; each argument reads behind the call as it read before'; 0 by the template 'total and deterministic' (their statements: YtfdehaafbkhclaaTotals.lean).
  GIVEN WITH THE SEED: the statements are not yours to turn. If you find one false, say at which input.
  Laid BY PROGRAM, IN A SANDBOX (cutbox-rows.mjs): the forced cells as the released guide's own fill.sh prints them over the translation d645c71d7a75e6b5… (all of the seat's roots in one cut). By AI agents, Wed Nov 11 2026. No macro, syntax, notation, axiom, sorry.
-/
import Derived.Test.YtfdehaafbkhclaaChecked
import GoSem.Claim
import GoSem.ClaimJoined
import GoSem.ClaimMapViews
import Derived.JoinedTies
import Derived.KernelRfl
namespace Go.Proofs.Ytfdehaafbkhclaa
/- THE CELL 'sum', in the pinned program and in every row, IS THE sha256 OF THE DUMP (.gsa) THAT YtfdehaafbkhclaaProg.lean LOADS. Nothing in Lean hashes anything: it is a label: what it is worth is what the hold of that sum in a sandbox is worth. -/
noncomputable def Try.pinned : Pinned := { name := "ytfdehaafbkhclaa", sum := "d645c71d7a75e6b56f97b704ea78ac3685bfa1cb7ccc3be44e2d23871a35c225", checked := Try.checked }
namespace Rows
def none {H : Type} : Left H := { results := [], args := [] }

/-- 'buchholzlaw04.SurgeSteps': WHATEVER THE INPUT: true; the input reads as it did. -/
def surgeStepsSpec : ChangeSpec := { name := "surgeSteps", fn := fun _ => fun
  | [d1, d2, d3] => { results := [.lit (.bool true)], args := [d1, d2, d3] }
  | _ => none }
def surgeStepsRow : OpenClaim := { program := "ytfdehaafbkhclaa", sum := "d645c71d7a75e6b56f97b704ea78ac3685bfa1cb7ccc3be44e2d23871a35c225", func := "buchholz/buchholzlaw04.SurgeSteps", spec := "surgeSteps", unfollowed := true, recurses := true, apart := false }
def SurgeStepsSaid : Prop := surgeStepsRow.holds Try.pinned (OpenSpec.ofChange surgeStepsSpec)

/-- ITS FALSE NEIGHBOUR: 'it returns false'. Refute it at one input. -/
def surgeStepsWrong : ChangeSpec := { name := "surgeSteps", fn := fun _ => fun
  | [d1, d2, d3] => { results := [.lit (.bool false)], args := [d1, d2, d3] }
  | _ => none }
def SurgeStepsWrongFalsely : Prop := surgeStepsRow.holds Try.pinned (OpenSpec.ofChange surgeStepsWrong)

/-- 'buchholzlaw04.SurgePeaks': WHATEVER THE INPUT: true; the input reads as it did. -/
def surgePeaksSpec : ChangeSpec := { name := "surgePeaks", fn := fun _ => fun
  | [d1, d2] => { results := [.lit (.bool true)], args := [d1, d2] }
  | _ => none }
def surgePeaksRow : OpenClaim := { program := "ytfdehaafbkhclaa", sum := "d645c71d7a75e6b56f97b704ea78ac3685bfa1cb7ccc3be44e2d23871a35c225", func := "buchholz/buchholzlaw04.SurgePeaks", spec := "surgePeaks", unfollowed := true, recurses := true, apart := false }
def SurgePeaksSaid : Prop := surgePeaksRow.holds Try.pinned (OpenSpec.ofChange surgePeaksSpec)

/-- ITS FALSE NEIGHBOUR: 'it returns false'. Refute it at one input. -/
def surgePeaksWrong : ChangeSpec := { name := "surgePeaks", fn := fun _ => fun
  | [d1, d2] => { results := [.lit (.bool false)], args := [d1, d2] }
  | _ => none }
def SurgePeaksWrongFalsely : Prop := surgePeaksRow.holds Try.pinned (OpenSpec.ofChange surgePeaksWrong)

/-- 'buchholzlaw04.SurgeEnergy': WHATEVER THE INPUT: true; the input reads as it did. -/
def surgeEnergySpec : ChangeSpec := { name := "surgeEnergy", fn := fun _ => fun
  | [d1, d2, d3] => { results := [.lit (.bool true)], args := [d1, d2, d3] }
  | _ => none }
def surgeEnergyRow : OpenClaim := { program := "ytfdehaafbkhclaa", sum := "d645c71d7a75e6b56f97b704ea78ac3685bfa1cb7ccc3be44e2d23871a35c225", func := "buchholz/buchholzlaw04.SurgeEnergy", spec := "surgeEnergy", unfollowed := true, recurses := true, apart := false }
def SurgeEnergySaid : Prop := surgeEnergyRow.holds Try.pinned (OpenSpec.ofChange surgeEnergySpec)

/-- ITS FALSE NEIGHBOUR: 'it returns false'. Refute it at one input. -/
def surgeEnergyWrong : ChangeSpec := { name := "surgeEnergy", fn := fun _ => fun
  | [d1, d2, d3] => { results := [.lit (.bool false)], args := [d1, d2, d3] }
  | _ => none }
def SurgeEnergyWrongFalsely : Prop := surgeEnergyRow.holds Try.pinned (OpenSpec.ofChange surgeEnergyWrong)

/- THE SECOND FORM. 'bulk': how many values and letters a reading holds, each counted each time it is reached (what is shared counts as often as it is met; a slice's spare places count too). A statement '..UptoSaid' is the law's where the arguments, and the package variables that the reading takes, are together of bulk at most 1048576: NARROWER than '..Said'. Prove '..Said' where nothing that the law and all that it calls make is longer than what came in: it says more and counts as full. Else prove '..UptoSaid'. A law counts once. -/
mutual
def uptoBulk {H : Type} : DataW H → Nat
  | .lit (.string bytes) => bytes.length + 1
  | .lit _ => 1
  | .nil => 1
  | .ptr d => uptoBulk d + 1
  | .slice elems spare => uptoBulkAll elems + uptoBulkAll spare + 1
  | .agg parts => uptoBulkAll parts + 1
  | .iface _ d => uptoBulk d + 1
  | .map entries => uptoBulkEntries entries + 1
  | .held _ => 1
def uptoBulkAll {H : Type} : List (DataW H) → Nat
  | [] => 0
  | d :: r => uptoBulk d + uptoBulkAll r
def uptoBulkEntries {H : Type} : List (Lit × DataW H) → Nat
  | [] => 0
  | x :: r => uptoBulkEntry x + uptoBulkEntries r
def uptoBulkEntry {H : Type} : Lit × DataW H → Nat
  | (.string bytes, d) => bytes.length + uptoBulk d + 1
  | (_, d) => uptoBulk d + 1
 end
def uptoSmall : (H : Type) → List (DataW H) → Bool := fun _ ds => decide (uptoBulkAll ds ≤ 1048576)
def OpenSpec.upto (s : _root_.Go.ChangeSpec) : _root_.Go.OpenSpec := { _root_.Go.OpenSpec.ofChange s with cond := some uptoSmall }

/-- 'buchholzlaw04.SurgeSteps', WHERE WHAT IT READS IS OF BULK AT MOST 1048576: true; the input reads as it did. -/
def surgeStepsUptoRow : OpenClaim := { program := "ytfdehaafbkhclaa", sum := "d645c71d7a75e6b56f97b704ea78ac3685bfa1cb7ccc3be44e2d23871a35c225", func := "buchholz/buchholzlaw04.SurgeSteps", spec := "surgeSteps", unfollowed := true, recurses := true, apart := false, narrowed := true }
def SurgeStepsUptoSaid : Prop := surgeStepsUptoRow.holds Try.pinned (OpenSpec.upto surgeStepsSpec)

/-- 'buchholzlaw04.SurgePeaks', WHERE WHAT IT READS IS OF BULK AT MOST 1048576: true; the input reads as it did. -/
def surgePeaksUptoRow : OpenClaim := { program := "ytfdehaafbkhclaa", sum := "d645c71d7a75e6b56f97b704ea78ac3685bfa1cb7ccc3be44e2d23871a35c225", func := "buchholz/buchholzlaw04.SurgePeaks", spec := "surgePeaks", unfollowed := true, recurses := true, apart := false, narrowed := true }
def SurgePeaksUptoSaid : Prop := surgePeaksUptoRow.holds Try.pinned (OpenSpec.upto surgePeaksSpec)

/-- 'buchholzlaw04.SurgeEnergy', WHERE WHAT IT READS IS OF BULK AT MOST 1048576: true; the input reads as it did. -/
def surgeEnergyUptoRow : OpenClaim := { program := "ytfdehaafbkhclaa", sum := "d645c71d7a75e6b56f97b704ea78ac3685bfa1cb7ccc3be44e2d23871a35c225", func := "buchholz/buchholzlaw04.SurgeEnergy", spec := "surgeEnergy", unfollowed := true, recurses := true, apart := false, narrowed := true }
def SurgeEnergyUptoSaid : Prop := surgeEnergyUptoRow.holds Try.pinned (OpenSpec.upto surgeEnergySpec)

end Rows
end Go.Proofs.Ytfdehaafbkhclaa
