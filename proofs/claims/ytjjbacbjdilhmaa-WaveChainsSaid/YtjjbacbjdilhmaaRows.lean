/-
  No cell of these rows narrows 'for every input' (looked for: loops, veiled, ifaces, maps, wideKeys, modest, calm, conditions, laid).
  DERIVED. THE GIVEN ROWS OF THIS SEAT. 6 by the template 'for every input the law returns true; each argument reads behind the call as it read before'; 0 by the template 'total and deterministic' (their statements: YtjjbacbjdilhmaaTotals.lean).
  GIVEN WITH THE SEED: the statements are not yours to turn. If you find one false, say at which input.
  Laid BY PROGRAM, IN A SANDBOX (cutbox-rows.mjs): the forced cells as the released guide's own fill.sh prints them over the translation 8c4d832f5a594069… (all of the seat's roots in one cut). By AI agents, Wed Nov 11 2026. No macro, syntax, notation, axiom, sorry.
-/
import Derived.Test.YtjjbacbjdilhmaaChecked
import GoSem.Claim
import GoSem.ClaimJoined
import GoSem.ClaimMapViews
import Derived.JoinedTies
import Derived.KernelRfl
namespace Go.Proofs.Ytjjbacbjdilhmaa
/- THE CELL 'sum', in the pinned program and in every row, IS THE sha256 OF THE DUMP (.gsa) THAT YtjjbacbjdilhmaaProg.lean LOADS. Nothing in Lean hashes anything: it is a label: what it is worth is what the hold of that sum in a sandbox is worth. -/
noncomputable def Try.pinned : Pinned := { name := "ytjjbacbjdilhmaa", sum := "8c4d832f5a5940695d62893800f414ebbd1eef8d7afd4b6495a414dfbed79504", checked := Try.checked }
namespace Rows
def none {H : Type} : Left H := { results := [], args := [] }

/-- 'buchholzlaw08.WaveChains': WHATEVER THE INPUT: true; the input reads as it did. -/
def waveChainsSpec : ChangeSpec := { name := "waveChains", fn := fun _ => fun
  | [d1, d2] => { results := [.lit (.bool true)], args := [d1, d2] }
  | _ => none }
def waveChainsRow : OpenClaim := { program := "ytjjbacbjdilhmaa", sum := "8c4d832f5a5940695d62893800f414ebbd1eef8d7afd4b6495a414dfbed79504", func := "buchholz/buchholzlaw08.WaveChains", spec := "waveChains", unfollowed := true, recurses := true, apart := false }
def WaveChainsSaid : Prop := waveChainsRow.holds Try.pinned (OpenSpec.ofChange waveChainsSpec)

/-- ITS FALSE NEIGHBOUR: 'it returns false'. Refute it at one input. -/
def waveChainsWrong : ChangeSpec := { name := "waveChains", fn := fun _ => fun
  | [d1, d2] => { results := [.lit (.bool false)], args := [d1, d2] }
  | _ => none }
def WaveChainsWrongFalsely : Prop := waveChainsRow.holds Try.pinned (OpenSpec.ofChange waveChainsWrong)

/-- 'buchholzlaw08.WaveTimes': WHATEVER THE INPUT: true; the input reads as it did. -/
def waveTimesSpec : ChangeSpec := { name := "waveTimes", fn := fun _ => fun
  | [d1, d2] => { results := [.lit (.bool true)], args := [d1, d2] }
  | _ => none }
def waveTimesRow : OpenClaim := { program := "ytjjbacbjdilhmaa", sum := "8c4d832f5a5940695d62893800f414ebbd1eef8d7afd4b6495a414dfbed79504", func := "buchholz/buchholzlaw08.WaveTimes", spec := "waveTimes", unfollowed := true, recurses := true, apart := false }
def WaveTimesSaid : Prop := waveTimesRow.holds Try.pinned (OpenSpec.ofChange waveTimesSpec)

/-- ITS FALSE NEIGHBOUR: 'it returns false'. Refute it at one input. -/
def waveTimesWrong : ChangeSpec := { name := "waveTimes", fn := fun _ => fun
  | [d1, d2] => { results := [.lit (.bool false)], args := [d1, d2] }
  | _ => none }
def WaveTimesWrongFalsely : Prop := waveTimesRow.holds Try.pinned (OpenSpec.ofChange waveTimesWrong)

/-- 'buchholzlaw08.WaveVoltages': WHATEVER THE INPUT: true; the input reads as it did. -/
def waveVoltagesSpec : ChangeSpec := { name := "waveVoltages", fn := fun _ => fun
  | [d1, d2, d3] => { results := [.lit (.bool true)], args := [d1, d2, d3] }
  | _ => none }
def waveVoltagesRow : OpenClaim := { program := "ytjjbacbjdilhmaa", sum := "8c4d832f5a5940695d62893800f414ebbd1eef8d7afd4b6495a414dfbed79504", func := "buchholz/buchholzlaw08.WaveVoltages", spec := "waveVoltages", unfollowed := true, recurses := true, apart := false }
def WaveVoltagesSaid : Prop := waveVoltagesRow.holds Try.pinned (OpenSpec.ofChange waveVoltagesSpec)

/-- ITS FALSE NEIGHBOUR: 'it returns false'. Refute it at one input. -/
def waveVoltagesWrong : ChangeSpec := { name := "waveVoltages", fn := fun _ => fun
  | [d1, d2, d3] => { results := [.lit (.bool false)], args := [d1, d2, d3] }
  | _ => none }
def WaveVoltagesWrongFalsely : Prop := waveVoltagesRow.holds Try.pinned (OpenSpec.ofChange waveVoltagesWrong)

/-- 'buchholzlaw08.WaveRatios': WHATEVER THE INPUT: true; the input reads as it did. -/
def waveRatiosSpec : ChangeSpec := { name := "waveRatios", fn := fun _ => fun
  | [d1, d2] => { results := [.lit (.bool true)], args := [d1, d2] }
  | _ => none }
def waveRatiosRow : OpenClaim := { program := "ytjjbacbjdilhmaa", sum := "8c4d832f5a5940695d62893800f414ebbd1eef8d7afd4b6495a414dfbed79504", func := "buchholz/buchholzlaw08.WaveRatios", spec := "waveRatios", unfollowed := true, recurses := true, apart := false }
def WaveRatiosSaid : Prop := waveRatiosRow.holds Try.pinned (OpenSpec.ofChange waveRatiosSpec)

/-- ITS FALSE NEIGHBOUR: 'it returns false'. Refute it at one input. -/
def waveRatiosWrong : ChangeSpec := { name := "waveRatios", fn := fun _ => fun
  | [d1, d2] => { results := [.lit (.bool false)], args := [d1, d2] }
  | _ => none }
def WaveRatiosWrongFalsely : Prop := waveRatiosRow.holds Try.pinned (OpenSpec.ofChange waveRatiosWrong)

/-- 'buchholzlaw08.WaveLosses': WHATEVER THE INPUT: true; the input reads as it did. -/
def waveLossesSpec : ChangeSpec := { name := "waveLosses", fn := fun _ => fun
  | [d1, d2, d3] => { results := [.lit (.bool true)], args := [d1, d2, d3] }
  | _ => none }
def waveLossesRow : OpenClaim := { program := "ytjjbacbjdilhmaa", sum := "8c4d832f5a5940695d62893800f414ebbd1eef8d7afd4b6495a414dfbed79504", func := "buchholz/buchholzlaw08.WaveLosses", spec := "waveLosses", unfollowed := true, recurses := true, apart := false }
def WaveLossesSaid : Prop := waveLossesRow.holds Try.pinned (OpenSpec.ofChange waveLossesSpec)

/-- ITS FALSE NEIGHBOUR: 'it returns false'. Refute it at one input. -/
def waveLossesWrong : ChangeSpec := { name := "waveLosses", fn := fun _ => fun
  | [d1, d2, d3] => { results := [.lit (.bool false)], args := [d1, d2, d3] }
  | _ => none }
def WaveLossesWrongFalsely : Prop := waveLossesRow.holds Try.pinned (OpenSpec.ofChange waveLossesWrong)

/-- 'buchholzlaw08.WaveEnds': WHATEVER THE INPUT: true; the input reads as it did. -/
def waveEndsSpec : ChangeSpec := { name := "waveEnds", fn := fun _ => fun
  | [d1, d2, d3] => { results := [.lit (.bool true)], args := [d1, d2, d3] }
  | _ => none }
def waveEndsRow : OpenClaim := { program := "ytjjbacbjdilhmaa", sum := "8c4d832f5a5940695d62893800f414ebbd1eef8d7afd4b6495a414dfbed79504", func := "buchholz/buchholzlaw08.WaveEnds", spec := "waveEnds", unfollowed := true, recurses := true, apart := false }
def WaveEndsSaid : Prop := waveEndsRow.holds Try.pinned (OpenSpec.ofChange waveEndsSpec)

/-- ITS FALSE NEIGHBOUR: 'it returns false'. Refute it at one input. -/
def waveEndsWrong : ChangeSpec := { name := "waveEnds", fn := fun _ => fun
  | [d1, d2, d3] => { results := [.lit (.bool false)], args := [d1, d2, d3] }
  | _ => none }
def WaveEndsWrongFalsely : Prop := waveEndsRow.holds Try.pinned (OpenSpec.ofChange waveEndsWrong)

/- THE SECOND FORM. 'bulk': how many values and letters a reading holds, each counted each time it is reached (what is shared counts as often as it is met; a slice's spare places count too). A statement '..UptoSaid' is the law's where the arguments, and the package variables that the reading takes, are together of bulk at most 1048576: NARROWER than '..Said'. Prove '..Said' where nothing that the law and all that it calls make is longer than what came in: it says more and counts as full. Else prove '..UptoSaid'. A law counts once. -/
mutual
def uptoBulk {H : Type} : DataW H → Nat
  | .lit (.string bytes) => bytes.length + 1
  | .lit _ => 1
  | .nil => 1
  | .ptr d => uptoBulk d + 1
  | .slice elems spare => uptoBulkAll elems + uptoBulkAll spare + 1
  | .agg parts => uptoBulkAll parts + 1
  | .iface _ d => uptoBulk d + 1
  | .map entries => uptoBulkEntries entries + 1
  | .held _ => 1
def uptoBulkAll {H : Type} : List (DataW H) → Nat
  | [] => 0
  | d :: r => uptoBulk d + uptoBulkAll r
def uptoBulkEntries {H : Type} : List (Lit × DataW H) → Nat
  | [] => 0
  | x :: r => uptoBulkEntry x + uptoBulkEntries r
def uptoBulkEntry {H : Type} : Lit × DataW H → Nat
  | (.string bytes, d) => bytes.length + uptoBulk d + 1
  | (_, d) => uptoBulk d + 1
 end
def uptoSmall : (H : Type) → List (DataW H) → Bool := fun _ ds => decide (uptoBulkAll ds ≤ 1048576)
def OpenSpec.upto (s : _root_.Go.ChangeSpec) : _root_.Go.OpenSpec := { _root_.Go.OpenSpec.ofChange s with cond := some uptoSmall }

/-- 'buchholzlaw08.WaveChains', WHERE WHAT IT READS IS OF BULK AT MOST 1048576: true; the input reads as it did. -/
def waveChainsUptoRow : OpenClaim := { program := "ytjjbacbjdilhmaa", sum := "8c4d832f5a5940695d62893800f414ebbd1eef8d7afd4b6495a414dfbed79504", func := "buchholz/buchholzlaw08.WaveChains", spec := "waveChains", unfollowed := true, recurses := true, apart := false, narrowed := true }
def WaveChainsUptoSaid : Prop := waveChainsUptoRow.holds Try.pinned (OpenSpec.upto waveChainsSpec)

/-- 'buchholzlaw08.WaveTimes', WHERE WHAT IT READS IS OF BULK AT MOST 1048576: true; the input reads as it did. -/
def waveTimesUptoRow : OpenClaim := { program := "ytjjbacbjdilhmaa", sum := "8c4d832f5a5940695d62893800f414ebbd1eef8d7afd4b6495a414dfbed79504", func := "buchholz/buchholzlaw08.WaveTimes", spec := "waveTimes", unfollowed := true, recurses := true, apart := false, narrowed := true }
def WaveTimesUptoSaid : Prop := waveTimesUptoRow.holds Try.pinned (OpenSpec.upto waveTimesSpec)

/-- 'buchholzlaw08.WaveVoltages', WHERE WHAT IT READS IS OF BULK AT MOST 1048576: true; the input reads as it did. -/
def waveVoltagesUptoRow : OpenClaim := { program := "ytjjbacbjdilhmaa", sum := "8c4d832f5a5940695d62893800f414ebbd1eef8d7afd4b6495a414dfbed79504", func := "buchholz/buchholzlaw08.WaveVoltages", spec := "waveVoltages", unfollowed := true, recurses := true, apart := false, narrowed := true }
def WaveVoltagesUptoSaid : Prop := waveVoltagesUptoRow.holds Try.pinned (OpenSpec.upto waveVoltagesSpec)

/-- 'buchholzlaw08.WaveRatios', WHERE WHAT IT READS IS OF BULK AT MOST 1048576: true; the input reads as it did. -/
def waveRatiosUptoRow : OpenClaim := { program := "ytjjbacbjdilhmaa", sum := "8c4d832f5a5940695d62893800f414ebbd1eef8d7afd4b6495a414dfbed79504", func := "buchholz/buchholzlaw08.WaveRatios", spec := "waveRatios", unfollowed := true, recurses := true, apart := false, narrowed := true }
def WaveRatiosUptoSaid : Prop := waveRatiosUptoRow.holds Try.pinned (OpenSpec.upto waveRatiosSpec)

/-- 'buchholzlaw08.WaveLosses', WHERE WHAT IT READS IS OF BULK AT MOST 1048576: true; the input reads as it did. -/
def waveLossesUptoRow : OpenClaim := { program := "ytjjbacbjdilhmaa", sum := "8c4d832f5a5940695d62893800f414ebbd1eef8d7afd4b6495a414dfbed79504", func := "buchholz/buchholzlaw08.WaveLosses", spec := "waveLosses", unfollowed := true, recurses := true, apart := false, narrowed := true }
def WaveLossesUptoSaid : Prop := waveLossesUptoRow.holds Try.pinned (OpenSpec.upto waveLossesSpec)

/-- 'buchholzlaw08.WaveEnds', WHERE WHAT IT READS IS OF BULK AT MOST 1048576: true; the input reads as it did. -/
def waveEndsUptoRow : OpenClaim := { program := "ytjjbacbjdilhmaa", sum := "8c4d832f5a5940695d62893800f414ebbd1eef8d7afd4b6495a414dfbed79504", func := "buchholz/buchholzlaw08.WaveEnds", spec := "waveEnds", unfollowed := true, recurses := true, apart := false, narrowed := true }
def WaveEndsUptoSaid : Prop := waveEndsUptoRow.holds Try.pinned (OpenSpec.upto waveEndsSpec)

end Rows
end Go.Proofs.Ytjjbacbjdilhmaa
