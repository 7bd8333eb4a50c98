/-
  No cell of these rows narrows 'for every input' (looked for: loops, veiled, ifaces, maps, wideKeys, modest, calm, conditions, laid).
  DERIVED. THE GIVEN ROWS OF THIS SEAT. 6 by the template 'for every input the law returns true; each argument reads behind the call as it read before'; 0 by the template 'total and deterministic' (their statements: YtmohaohdbklkeaaTotals.lean).
  GIVEN WITH THE SEED: the statements are not yours to turn. If you find one false, say at which input.
  Laid BY PROGRAM, IN A SANDBOX (cutbox-rows.mjs): the forced cells as the released guide's own fill.sh prints them over the translation e73aef445d229d66… (all of the seat's roots in one cut). By AI agents, Wed Nov 11 2026. No macro, syntax, notation, axiom, sorry.
-/
import Derived.Test.YtmohaohdbklkeaaChecked
import GoSem.Claim
import GoSem.ClaimJoined
import GoSem.ClaimMapViews
import Derived.JoinedTies
import Derived.KernelRfl
namespace Go.Proofs.Ytmohaohdbklkeaa
/- THE CELL 'sum', in the pinned program and in every row, IS THE sha256 OF THE DUMP (.gsa) THAT YtmohaohdbklkeaaProg.lean LOADS. Nothing in Lean hashes anything: it is a label: what it is worth is what the hold of that sum in a sandbox is worth. -/
noncomputable def Try.pinned : Pinned := { name := "ytmohaohdbklkeaa", sum := "e73aef445d229d6648a43d51f31ff2433366c30cd875b7cf301995ca46877145", checked := Try.checked }
namespace Rows
def none {H : Type} : Left H := { results := [], args := [] }

/-- 'buchholzlaw08.WaveFigures': WHATEVER THE INPUT: true; the input reads as it did. -/
def waveFiguresSpec : ChangeSpec := { name := "waveFigures", fn := fun _ => fun
  | [d1, d2] => { results := [.lit (.bool true)], args := [d1, d2] }
  | _ => none }
def waveFiguresRow : OpenClaim := { program := "ytmohaohdbklkeaa", sum := "e73aef445d229d6648a43d51f31ff2433366c30cd875b7cf301995ca46877145", func := "buchholz/buchholzlaw08.WaveFigures", spec := "waveFigures", unfollowed := true, recurses := true, apart := false }
def WaveFiguresSaid : Prop := waveFiguresRow.holds Try.pinned (OpenSpec.ofChange waveFiguresSpec)

/-- ITS FALSE NEIGHBOUR: 'it returns false'. Refute it at one input. -/
def waveFiguresWrong : ChangeSpec := { name := "waveFigures", fn := fun _ => fun
  | [d1, d2] => { results := [.lit (.bool false)], args := [d1, d2] }
  | _ => none }
def WaveFiguresWrongFalsely : Prop := waveFiguresRow.holds Try.pinned (OpenSpec.ofChange waveFiguresWrong)

/-- 'buchholzlaw08.WaveFactors': WHATEVER THE INPUT: true; the input reads as it did. -/
def waveFactorsSpec : ChangeSpec := { name := "waveFactors", fn := fun _ => fun
  | [d1, d2] => { results := [.lit (.bool true)], args := [d1, d2] }
  | _ => none }
def waveFactorsRow : OpenClaim := { program := "ytmohaohdbklkeaa", sum := "e73aef445d229d6648a43d51f31ff2433366c30cd875b7cf301995ca46877145", func := "buchholz/buchholzlaw08.WaveFactors", spec := "waveFactors", unfollowed := true, recurses := true, apart := false }
def WaveFactorsSaid : Prop := waveFactorsRow.holds Try.pinned (OpenSpec.ofChange waveFactorsSpec)

/-- ITS FALSE NEIGHBOUR: 'it returns false'. Refute it at one input. -/
def waveFactorsWrong : ChangeSpec := { name := "waveFactors", fn := fun _ => fun
  | [d1, d2] => { results := [.lit (.bool false)], args := [d1, d2] }
  | _ => none }
def WaveFactorsWrongFalsely : Prop := waveFactorsRow.holds Try.pinned (OpenSpec.ofChange waveFactorsWrong)

/-- 'buchholzlaw08.WaveWitnesses': WHATEVER THE INPUT: true; the input reads as it did. -/
def waveWitnessesSpec : ChangeSpec := { name := "waveWitnesses", fn := fun _ => fun
  | [d1, d2, d3] => { results := [.lit (.bool true)], args := [d1, d2, d3] }
  | _ => none }
def waveWitnessesRow : OpenClaim := { program := "ytmohaohdbklkeaa", sum := "e73aef445d229d6648a43d51f31ff2433366c30cd875b7cf301995ca46877145", func := "buchholz/buchholzlaw08.WaveWitnesses", spec := "waveWitnesses", unfollowed := true, recurses := true, apart := false }
def WaveWitnessesSaid : Prop := waveWitnessesRow.holds Try.pinned (OpenSpec.ofChange waveWitnessesSpec)

/-- ITS FALSE NEIGHBOUR: 'it returns false'. Refute it at one input. -/
def waveWitnessesWrong : ChangeSpec := { name := "waveWitnesses", fn := fun _ => fun
  | [d1, d2, d3] => { results := [.lit (.bool false)], args := [d1, d2, d3] }
  | _ => none }
def WaveWitnessesWrongFalsely : Prop := waveWitnessesRow.holds Try.pinned (OpenSpec.ofChange waveWitnessesWrong)

/-- 'buchholzlaw08.WaveEnclosed': WHATEVER THE INPUT: true; the input reads as it did. -/
def waveEnclosedSpec : ChangeSpec := { name := "waveEnclosed", fn := fun _ => fun
  | [d1, d2, d3] => { results := [.lit (.bool true)], args := [d1, d2, d3] }
  | _ => none }
def waveEnclosedRow : OpenClaim := { program := "ytmohaohdbklkeaa", sum := "e73aef445d229d6648a43d51f31ff2433366c30cd875b7cf301995ca46877145", func := "buchholz/buchholzlaw08.WaveEnclosed", spec := "waveEnclosed", unfollowed := true, recurses := true, apart := false }
def WaveEnclosedSaid : Prop := waveEnclosedRow.holds Try.pinned (OpenSpec.ofChange waveEnclosedSpec)

/-- ITS FALSE NEIGHBOUR: 'it returns false'. Refute it at one input. -/
def waveEnclosedWrong : ChangeSpec := { name := "waveEnclosed", fn := fun _ => fun
  | [d1, d2, d3] => { results := [.lit (.bool false)], args := [d1, d2, d3] }
  | _ => none }
def WaveEnclosedWrongFalsely : Prop := waveEnclosedRow.holds Try.pinned (OpenSpec.ofChange waveEnclosedWrong)

/-- 'buchholzlaw08.WaveWider': WHATEVER THE INPUT: true; the input reads as it did. -/
def waveWiderSpec : ChangeSpec := { name := "waveWider", fn := fun _ => fun
  | [d1, d2, d3] => { results := [.lit (.bool true)], args := [d1, d2, d3] }
  | _ => none }
def waveWiderRow : OpenClaim := { program := "ytmohaohdbklkeaa", sum := "e73aef445d229d6648a43d51f31ff2433366c30cd875b7cf301995ca46877145", func := "buchholz/buchholzlaw08.WaveWider", spec := "waveWider", unfollowed := true, recurses := true, apart := false }
def WaveWiderSaid : Prop := waveWiderRow.holds Try.pinned (OpenSpec.ofChange waveWiderSpec)

/-- ITS FALSE NEIGHBOUR: 'it returns false'. Refute it at one input. -/
def waveWiderWrong : ChangeSpec := { name := "waveWider", fn := fun _ => fun
  | [d1, d2, d3] => { results := [.lit (.bool false)], args := [d1, d2, d3] }
  | _ => none }
def WaveWiderWrongFalsely : Prop := waveWiderRow.holds Try.pinned (OpenSpec.ofChange waveWiderWrong)

/-- 'buchholzlaw08.WaveReported': WHATEVER THE INPUT: true; the input reads as it did. -/
def waveReportedSpec : ChangeSpec := { name := "waveReported", fn := fun _ => fun
  | [d1, d2, d3] => { results := [.lit (.bool true)], args := [d1, d2, d3] }
  | _ => none }
def waveReportedRow : OpenClaim := { program := "ytmohaohdbklkeaa", sum := "e73aef445d229d6648a43d51f31ff2433366c30cd875b7cf301995ca46877145", func := "buchholz/buchholzlaw08.WaveReported", spec := "waveReported", unfollowed := true, recurses := true, apart := false }
def WaveReportedSaid : Prop := waveReportedRow.holds Try.pinned (OpenSpec.ofChange waveReportedSpec)

/-- ITS FALSE NEIGHBOUR: 'it returns false'. Refute it at one input. -/
def waveReportedWrong : ChangeSpec := { name := "waveReported", fn := fun _ => fun
  | [d1, d2, d3] => { results := [.lit (.bool false)], args := [d1, d2, d3] }
  | _ => none }
def WaveReportedWrongFalsely : Prop := waveReportedRow.holds Try.pinned (OpenSpec.ofChange waveReportedWrong)

/- THE SECOND FORM. 'bulk': how many values and letters a reading holds, each counted each time it is reached (what is shared counts as often as it is met; a slice's spare places count too). A statement '..UptoSaid' is the law's where the arguments, and the package variables that the reading takes, are together of bulk at most 1048576: NARROWER than '..Said'. Prove '..Said' where nothing that the law and all that it calls make is longer than what came in: it says more and counts as full. Else prove '..UptoSaid'. A law counts once. -/
mutual
def uptoBulk {H : Type} : DataW H → Nat
  | .lit (.string bytes) => bytes.length + 1
  | .lit _ => 1
  | .nil => 1
  | .ptr d => uptoBulk d + 1
  | .slice elems spare => uptoBulkAll elems + uptoBulkAll spare + 1
  | .agg parts => uptoBulkAll parts + 1
  | .iface _ d => uptoBulk d + 1
  | .map entries => uptoBulkEntries entries + 1
  | .held _ => 1
def uptoBulkAll {H : Type} : List (DataW H) → Nat
  | [] => 0
  | d :: r => uptoBulk d + uptoBulkAll r
def uptoBulkEntries {H : Type} : List (Lit × DataW H) → Nat
  | [] => 0
  | x :: r => uptoBulkEntry x + uptoBulkEntries r
def uptoBulkEntry {H : Type} : Lit × DataW H → Nat
  | (.string bytes, d) => bytes.length + uptoBulk d + 1
  | (_, d) => uptoBulk d + 1
 end
def uptoSmall : (H : Type) → List (DataW H) → Bool := fun _ ds => decide (uptoBulkAll ds ≤ 1048576)
def OpenSpec.upto (s : _root_.Go.ChangeSpec) : _root_.Go.OpenSpec := { _root_.Go.OpenSpec.ofChange s with cond := some uptoSmall }

/-- 'buchholzlaw08.WaveFigures', WHERE WHAT IT READS IS OF BULK AT MOST 1048576: true; the input reads as it did. -/
def waveFiguresUptoRow : OpenClaim := { program := "ytmohaohdbklkeaa", sum := "e73aef445d229d6648a43d51f31ff2433366c30cd875b7cf301995ca46877145", func := "buchholz/buchholzlaw08.WaveFigures", spec := "waveFigures", unfollowed := true, recurses := true, apart := false, narrowed := true }
def WaveFiguresUptoSaid : Prop := waveFiguresUptoRow.holds Try.pinned (OpenSpec.upto waveFiguresSpec)

/-- 'buchholzlaw08.WaveFactors', WHERE WHAT IT READS IS OF BULK AT MOST 1048576: true; the input reads as it did. -/
def waveFactorsUptoRow : OpenClaim := { program := "ytmohaohdbklkeaa", sum := "e73aef445d229d6648a43d51f31ff2433366c30cd875b7cf301995ca46877145", func := "buchholz/buchholzlaw08.WaveFactors", spec := "waveFactors", unfollowed := true, recurses := true, apart := false, narrowed := true }
def WaveFactorsUptoSaid : Prop := waveFactorsUptoRow.holds Try.pinned (OpenSpec.upto waveFactorsSpec)

/-- 'buchholzlaw08.WaveWitnesses', WHERE WHAT IT READS IS OF BULK AT MOST 1048576: true; the input reads as it did. -/
def waveWitnessesUptoRow : OpenClaim := { program := "ytmohaohdbklkeaa", sum := "e73aef445d229d6648a43d51f31ff2433366c30cd875b7cf301995ca46877145", func := "buchholz/buchholzlaw08.WaveWitnesses", spec := "waveWitnesses", unfollowed := true, recurses := true, apart := false, narrowed := true }
def WaveWitnessesUptoSaid : Prop := waveWitnessesUptoRow.holds Try.pinned (OpenSpec.upto waveWitnessesSpec)

/-- 'buchholzlaw08.WaveEnclosed', WHERE WHAT IT READS IS OF BULK AT MOST 1048576: true; the input reads as it did. -/
def waveEnclosedUptoRow : OpenClaim := { program := "ytmohaohdbklkeaa", sum := "e73aef445d229d6648a43d51f31ff2433366c30cd875b7cf301995ca46877145", func := "buchholz/buchholzlaw08.WaveEnclosed", spec := "waveEnclosed", unfollowed := true, recurses := true, apart := false, narrowed := true }
def WaveEnclosedUptoSaid : Prop := waveEnclosedUptoRow.holds Try.pinned (OpenSpec.upto waveEnclosedSpec)

/-- 'buchholzlaw08.WaveWider', WHERE WHAT IT READS IS OF BULK AT MOST 1048576: true; the input reads as it did. -/
def waveWiderUptoRow : OpenClaim := { program := "ytmohaohdbklkeaa", sum := "e73aef445d229d6648a43d51f31ff2433366c30cd875b7cf301995ca46877145", func := "buchholz/buchholzlaw08.WaveWider", spec := "waveWider", unfollowed := true, recurses := true, apart := false, narrowed := true }
def WaveWiderUptoSaid : Prop := waveWiderUptoRow.holds Try.pinned (OpenSpec.upto waveWiderSpec)

/-- 'buchholzlaw08.WaveReported', WHERE WHAT IT READS IS OF BULK AT MOST 1048576: true; the input reads as it did. -/
def waveReportedUptoRow : OpenClaim := { program := "ytmohaohdbklkeaa", sum := "e73aef445d229d6648a43d51f31ff2433366c30cd875b7cf301995ca46877145", func := "buchholz/buchholzlaw08.WaveReported", spec := "waveReported", unfollowed := true, recurses := true, apart := false, narrowed := true }
def WaveReportedUptoSaid : Prop := waveReportedUptoRow.holds Try.pinned (OpenSpec.upto waveReportedSpec)

end Rows
end Go.Proofs.Ytmohaohdbklkeaa
