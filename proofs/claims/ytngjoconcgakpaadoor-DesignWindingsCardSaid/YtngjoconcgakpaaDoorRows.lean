/-
  NARROWER THAN 'FOR EVERY INPUT', by the rows' own cells (each row's printed sentence says how): DesignStocks: laid · DesignCores: laid · DesignSteps: laid · DesignWindings: laid.
  DERIVED. THE GIVEN ROWS OF THIS SEAT. 4 by the template 'for every input the law returns true; each argument reads behind the call as it read before'; 0 by the template 'total and deterministic' (their statements: YtngjoconcgakpaaDoorTotals.lean).
  GIVEN WITH THE SEED: the statements are not yours to turn. If you find one false, say at which input.
  Laid BY PROGRAM, IN A SANDBOX (cutbox-rows.mjs): the forced cells as the released guide's own fill.sh prints them over the translation 695a76c5748b072c… (all of the seat's roots in one cut). By AI agents, Wed Nov 11 2026. No macro, syntax, notation, axiom, sorry.
-/
import Derived.Test.YtngjoconcgakpaaDoorChecked
import GoSem.Claim
import GoSem.ClaimJoined
import GoSem.ClaimMapViews
import Derived.JoinedTies
import Derived.KernelRfl
namespace Go.Proofs.YtngjoconcgakpaaDoor
/- THE CELL 'sum', in the pinned program and in every row, IS THE sha256 OF THE DUMP (.gsa) THAT YtngjoconcgakpaaDoorProg.lean LOADS. Nothing in Lean hashes anything: it is a label: what it is worth is what the hold of that sum in a sandbox is worth. -/
noncomputable def Tryd.pinned : Pinned := { name := "ytngjoconcgakpaadoor", sum := "695a76c5748b072c911d39ddbd91d4b3b46e581892f48799373cc8568e7da247", checked := Tryd.checked }
namespace Rows
def none {H : Type} : Left H := { results := [], args := [] }

/- WHAT THE LISTED PACKAGE-LEVEL VARIABLES READ AS WHEN THE CALL BEGINS. Each datum BY PROGRAM (the guide's laid-datum.mjs) off the statement by which the dump's own 'gosem.cut.vars' lays the variable. In a bare row this is a premise. The card (YtngjoconcgakpaaDoorCards.lean) ties it to the program's text. -/
def laid_math_bits_deBruijn32tab {H : Type} : DataW H := .agg [.lit (.int .u8 0), .lit (.int .u8 1), .lit (.int .u8 28), .lit (.int .u8 2), .lit (.int .u8 29), .lit (.int .u8 14), .lit (.int .u8 24), .lit (.int .u8 3), .lit (.int .u8 30), .lit (.int .u8 22), .lit (.int .u8 20), .lit (.int .u8 15), .lit (.int .u8 25), .lit (.int .u8 17), .lit (.int .u8 4), .lit (.int .u8 8), .lit (.int .u8 31), .lit (.int .u8 27), .lit (.int .u8 13), .lit (.int .u8 23), .lit (.int .u8 21), .lit (.int .u8 19), .lit (.int .u8 16), .lit (.int .u8 7), .lit (.int .u8 26), .lit (.int .u8 12), .lit (.int .u8 18), .lit (.int .u8 6), .lit (.int .u8 11), .lit (.int .u8 5), .lit (.int .u8 10), .lit (.int .u8 9)]
def laid_math_bits_deBruijn64tab {H : Type} : DataW H := .agg [.lit (.int .u8 0), .lit (.int .u8 1), .lit (.int .u8 56), .lit (.int .u8 2), .lit (.int .u8 57), .lit (.int .u8 49), .lit (.int .u8 28), .lit (.int .u8 3), .lit (.int .u8 61), .lit (.int .u8 58), .lit (.int .u8 42), .lit (.int .u8 50), .lit (.int .u8 38), .lit (.int .u8 29), .lit (.int .u8 17), .lit (.int .u8 4), .lit (.int .u8 62), .lit (.int .u8 47), .lit (.int .u8 59), .lit (.int .u8 36), .lit (.int .u8 45), .lit (.int .u8 43), .lit (.int .u8 51), .lit (.int .u8 22), .lit (.int .u8 53), .lit (.int .u8 39), .lit (.int .u8 33), .lit (.int .u8 30), .lit (.int .u8 24), .lit (.int .u8 18), .lit (.int .u8 12), .lit (.int .u8 5), .lit (.int .u8 63), .lit (.int .u8 55), .lit (.int .u8 48), .lit (.int .u8 27), .lit (.int .u8 60), .lit (.int .u8 41), .lit (.int .u8 37), .lit (.int .u8 16), .lit (.int .u8 46), .lit (.int .u8 35), .lit (.int .u8 44), .lit (.int .u8 21), .lit (.int .u8 52), .lit (.int .u8 32), .lit (.int .u8 23), .lit (.int .u8 11), .lit (.int .u8 54), .lit (.int .u8 26), .lit (.int .u8 40), .lit (.int .u8 15), .lit (.int .u8 34), .lit (.int .u8 20), .lit (.int .u8 31), .lit (.int .u8 10), .lit (.int .u8 25), .lit (.int .u8 14), .lit (.int .u8 19), .lit (.int .u8 9), .lit (.int .u8 13), .lit (.int .u8 8), .lit (.int .u8 7), .lit (.int .u8 6)]
def laid_internal_strconv_uint64pow10 {H : Type} : DataW H := .agg [.lit (.int .u64 1), .lit (.int .u64 10), .lit (.int .u64 100), .lit (.int .u64 1000), .lit (.int .u64 10000), .lit (.int .u64 100000), .lit (.int .u64 1000000), .lit (.int .u64 10000000), .lit (.int .u64 100000000), .lit (.int .u64 1000000000), .lit (.int .u64 10000000000), .lit (.int .u64 100000000000), .lit (.int .u64 1000000000000), .lit (.int .u64 10000000000000), .lit (.int .u64 100000000000000), .lit (.int .u64 1000000000000000), .lit (.int .u64 10000000000000000), .lit (.int .u64 100000000000000000), .lit (.int .u64 1000000000000000000), .lit (.int .u64 10000000000000000000)]
def laid_buchholz_design_quantityWords {H : Type} : DataW H := .agg [.lit (.string [109, 97, 115, 115]), .lit (.string [99, 111, 112, 112, 101, 114]), .lit (.string [105, 100, 108, 101]), .lit (.string [108, 111, 97, 100]), .lit (.string [104, 101, 105, 103, 104, 116]), .lit (.string [119, 105, 100, 116, 104])]
def laid_buchholz_design_unitWords {H : Type} : DataW H := .agg [.lit (.string [107, 103]), .lit (.string [87]), .lit (.string [109, 109])]
def laid_buchholz_design_unitsOf {H : Type} : DataW H := .agg [.lit (.int .i64 0), .lit (.int .i64 0), .lit (.int .i64 1), .lit (.int .i64 1), .lit (.int .i64 2), .lit (.int .i64 2)]

/-- 'buchholzlaw02.DesignStocks': WHATEVER THE INPUT: true; the input reads as it did. -/
def designStocksSpec : ChangeSpec := { name := "designStocks", fn := fun _ => fun
  | [d1, d2] => { results := [.lit (.bool true)], args := [d1, d2] }
  | _ => none }
def designStocksRow : OpenClaim := { program := "ytngjoconcgakpaadoor", sum := "695a76c5748b072c911d39ddbd91d4b3b46e581892f48799373cc8568e7da247", func := "buchholz/buchholzlaw02.DesignStocks", spec := "designStocks", inPlace := ["internal/abi.NoEscape", "internal/bytealg.MakeNoZero"], unfollowed := true, recurses := true, named := ["buchholz/design.unitsOf", "buchholz/design.quantityWords", "internal/strconv.uint64pow10", "math/bits.deBruijn32tab", "math/bits.deBruijn64tab", "buchholz/design.unitWords"], apart := false, laid := [("math/bits.deBruijn32tab", laid_math_bits_deBruijn32tab), ("math/bits.deBruijn64tab", laid_math_bits_deBruijn64tab), ("internal/strconv.uint64pow10", laid_internal_strconv_uint64pow10), ("buchholz/design.quantityWords", laid_buchholz_design_quantityWords), ("buchholz/design.unitWords", laid_buchholz_design_unitWords), ("buchholz/design.unitsOf", laid_buchholz_design_unitsOf)] }
def DesignStocksSaid : Prop := designStocksRow.holds Tryd.pinned (OpenSpec.ofChange designStocksSpec)

/-- ITS FALSE NEIGHBOUR: 'it returns false'. Refute it at one input. -/
def designStocksWrong : ChangeSpec := { name := "designStocks", fn := fun _ => fun
  | [d1, d2] => { results := [.lit (.bool false)], args := [d1, d2] }
  | _ => none }
def DesignStocksWrongFalsely : Prop := designStocksRow.holds Tryd.pinned (OpenSpec.ofChange designStocksWrong)

/-- 'buchholzlaw02.DesignCores': WHATEVER THE INPUT: true; the input reads as it did. -/
def designCoresSpec : ChangeSpec := { name := "designCores", fn := fun _ => fun
  | [d1, d2, d3] => { results := [.lit (.bool true)], args := [d1, d2, d3] }
  | _ => none }
def designCoresRow : OpenClaim := { program := "ytngjoconcgakpaadoor", sum := "695a76c5748b072c911d39ddbd91d4b3b46e581892f48799373cc8568e7da247", func := "buchholz/buchholzlaw02.DesignCores", spec := "designCores", inPlace := ["internal/abi.NoEscape", "internal/bytealg.MakeNoZero"], unfollowed := true, recurses := true, named := ["buchholz/design.unitsOf", "buchholz/design.quantityWords", "internal/strconv.uint64pow10", "math/bits.deBruijn32tab", "math/bits.deBruijn64tab", "buchholz/design.unitWords"], apart := false, laid := [("math/bits.deBruijn32tab", laid_math_bits_deBruijn32tab), ("math/bits.deBruijn64tab", laid_math_bits_deBruijn64tab), ("internal/strconv.uint64pow10", laid_internal_strconv_uint64pow10), ("buchholz/design.quantityWords", laid_buchholz_design_quantityWords), ("buchholz/design.unitWords", laid_buchholz_design_unitWords), ("buchholz/design.unitsOf", laid_buchholz_design_unitsOf)] }
def DesignCoresSaid : Prop := designCoresRow.holds Tryd.pinned (OpenSpec.ofChange designCoresSpec)

/-- ITS FALSE NEIGHBOUR: 'it returns false'. Refute it at one input. -/
def designCoresWrong : ChangeSpec := { name := "designCores", fn := fun _ => fun
  | [d1, d2, d3] => { results := [.lit (.bool false)], args := [d1, d2, d3] }
  | _ => none }
def DesignCoresWrongFalsely : Prop := designCoresRow.holds Tryd.pinned (OpenSpec.ofChange designCoresWrong)

/-- 'buchholzlaw02.DesignSteps': WHATEVER THE INPUT: true; the input reads as it did. -/
def designStepsSpec : ChangeSpec := { name := "designSteps", fn := fun _ => fun
  | [d1, d2, d3] => { results := [.lit (.bool true)], args := [d1, d2, d3] }
  | _ => none }
def designStepsRow : OpenClaim := { program := "ytngjoconcgakpaadoor", sum := "695a76c5748b072c911d39ddbd91d4b3b46e581892f48799373cc8568e7da247", func := "buchholz/buchholzlaw02.DesignSteps", spec := "designSteps", inPlace := ["internal/abi.NoEscape", "internal/bytealg.MakeNoZero"], unfollowed := true, recurses := true, named := ["buchholz/design.unitsOf", "buchholz/design.quantityWords", "internal/strconv.uint64pow10", "math/bits.deBruijn32tab", "math/bits.deBruijn64tab", "buchholz/design.unitWords"], apart := false, laid := [("math/bits.deBruijn32tab", laid_math_bits_deBruijn32tab), ("math/bits.deBruijn64tab", laid_math_bits_deBruijn64tab), ("internal/strconv.uint64pow10", laid_internal_strconv_uint64pow10), ("buchholz/design.quantityWords", laid_buchholz_design_quantityWords), ("buchholz/design.unitWords", laid_buchholz_design_unitWords), ("buchholz/design.unitsOf", laid_buchholz_design_unitsOf)] }
def DesignStepsSaid : Prop := designStepsRow.holds Tryd.pinned (OpenSpec.ofChange designStepsSpec)

/-- ITS FALSE NEIGHBOUR: 'it returns false'. Refute it at one input. -/
def designStepsWrong : ChangeSpec := { name := "designSteps", fn := fun _ => fun
  | [d1, d2, d3] => { results := [.lit (.bool false)], args := [d1, d2, d3] }
  | _ => none }
def DesignStepsWrongFalsely : Prop := designStepsRow.holds Tryd.pinned (OpenSpec.ofChange designStepsWrong)

/-- 'buchholzlaw02.DesignWindings': WHATEVER THE INPUT: true; the input reads as it did. -/
def designWindingsSpec : ChangeSpec := { name := "designWindings", fn := fun _ => fun
  | [d1, d2] => { results := [.lit (.bool true)], args := [d1, d2] }
  | _ => none }
def designWindingsRow : OpenClaim := { program := "ytngjoconcgakpaadoor", sum := "695a76c5748b072c911d39ddbd91d4b3b46e581892f48799373cc8568e7da247", func := "buchholz/buchholzlaw02.DesignWindings", spec := "designWindings", inPlace := ["internal/abi.NoEscape", "internal/bytealg.MakeNoZero"], unfollowed := true, recurses := true, named := ["buchholz/design.unitsOf", "buchholz/design.quantityWords", "internal/strconv.uint64pow10", "math/bits.deBruijn32tab", "math/bits.deBruijn64tab", "buchholz/design.unitWords"], apart := false, laid := [("math/bits.deBruijn32tab", laid_math_bits_deBruijn32tab), ("math/bits.deBruijn64tab", laid_math_bits_deBruijn64tab), ("internal/strconv.uint64pow10", laid_internal_strconv_uint64pow10), ("buchholz/design.quantityWords", laid_buchholz_design_quantityWords), ("buchholz/design.unitWords", laid_buchholz_design_unitWords), ("buchholz/design.unitsOf", laid_buchholz_design_unitsOf)] }
def DesignWindingsSaid : Prop := designWindingsRow.holds Tryd.pinned (OpenSpec.ofChange designWindingsSpec)

/-- ITS FALSE NEIGHBOUR: 'it returns false'. Refute it at one input. -/
def designWindingsWrong : ChangeSpec := { name := "designWindings", fn := fun _ => fun
  | [d1, d2] => { results := [.lit (.bool false)], args := [d1, d2] }
  | _ => none }
def DesignWindingsWrongFalsely : Prop := designWindingsRow.holds Tryd.pinned (OpenSpec.ofChange designWindingsWrong)

/- THE SECOND FORM. 'bulk': how many values and letters a reading holds, each counted each time it is reached (what is shared counts as often as it is met; a slice's spare places count too). A statement '..UptoSaid' is the law's where the arguments, and the package variables that the reading takes, are together of bulk at most 1048576: NARROWER than '..Said'. Prove '..Said' where nothing that the law and all that it calls make is longer than what came in: it says more and counts as full. Else prove '..UptoSaid'. A law counts once. -/
mutual
def uptoBulk {H : Type} : DataW H → Nat
  | .lit (.string bytes) => bytes.length + 1
  | .lit _ => 1
  | .nil => 1
  | .ptr d => uptoBulk d + 1
  | .slice elems spare => uptoBulkAll elems + uptoBulkAll spare + 1
  | .agg parts => uptoBulkAll parts + 1
  | .iface _ d => uptoBulk d + 1
  | .map entries => uptoBulkEntries entries + 1
  | .held _ => 1
def uptoBulkAll {H : Type} : List (DataW H) → Nat
  | [] => 0
  | d :: r => uptoBulk d + uptoBulkAll r
def uptoBulkEntries {H : Type} : List (Lit × DataW H) → Nat
  | [] => 0
  | x :: r => uptoBulkEntry x + uptoBulkEntries r
def uptoBulkEntry {H : Type} : Lit × DataW H → Nat
  | (.string bytes, d) => bytes.length + uptoBulk d + 1
  | (_, d) => uptoBulk d + 1
 end
def uptoSmall : (H : Type) → List (DataW H) → Bool := fun _ ds => decide (uptoBulkAll ds ≤ 1048576)
def OpenSpec.upto (s : _root_.Go.ChangeSpec) : _root_.Go.OpenSpec := { _root_.Go.OpenSpec.ofChange s with cond := some uptoSmall }

/-- 'buchholzlaw02.DesignStocks', WHERE WHAT IT READS IS OF BULK AT MOST 1048576: true; the input reads as it did. -/
def designStocksUptoRow : OpenClaim := { program := "ytngjoconcgakpaadoor", sum := "695a76c5748b072c911d39ddbd91d4b3b46e581892f48799373cc8568e7da247", func := "buchholz/buchholzlaw02.DesignStocks", spec := "designStocks", inPlace := ["internal/abi.NoEscape", "internal/bytealg.MakeNoZero"], unfollowed := true, recurses := true, named := ["buchholz/design.unitsOf", "buchholz/design.quantityWords", "internal/strconv.uint64pow10", "math/bits.deBruijn32tab", "math/bits.deBruijn64tab", "buchholz/design.unitWords"], apart := false, laid := [("math/bits.deBruijn32tab", laid_math_bits_deBruijn32tab), ("math/bits.deBruijn64tab", laid_math_bits_deBruijn64tab), ("internal/strconv.uint64pow10", laid_internal_strconv_uint64pow10), ("buchholz/design.quantityWords", laid_buchholz_design_quantityWords), ("buchholz/design.unitWords", laid_buchholz_design_unitWords), ("buchholz/design.unitsOf", laid_buchholz_design_unitsOf)], narrowed := true }
def DesignStocksUptoSaid : Prop := designStocksUptoRow.holds Tryd.pinned (OpenSpec.upto designStocksSpec)

/-- 'buchholzlaw02.DesignCores', WHERE WHAT IT READS IS OF BULK AT MOST 1048576: true; the input reads as it did. -/
def designCoresUptoRow : OpenClaim := { program := "ytngjoconcgakpaadoor", sum := "695a76c5748b072c911d39ddbd91d4b3b46e581892f48799373cc8568e7da247", func := "buchholz/buchholzlaw02.DesignCores", spec := "designCores", inPlace := ["internal/abi.NoEscape", "internal/bytealg.MakeNoZero"], unfollowed := true, recurses := true, named := ["buchholz/design.unitsOf", "buchholz/design.quantityWords", "internal/strconv.uint64pow10", "math/bits.deBruijn32tab", "math/bits.deBruijn64tab", "buchholz/design.unitWords"], apart := false, laid := [("math/bits.deBruijn32tab", laid_math_bits_deBruijn32tab), ("math/bits.deBruijn64tab", laid_math_bits_deBruijn64tab), ("internal/strconv.uint64pow10", laid_internal_strconv_uint64pow10), ("buchholz/design.quantityWords", laid_buchholz_design_quantityWords), ("buchholz/design.unitWords", laid_buchholz_design_unitWords), ("buchholz/design.unitsOf", laid_buchholz_design_unitsOf)], narrowed := true }
def DesignCoresUptoSaid : Prop := designCoresUptoRow.holds Tryd.pinned (OpenSpec.upto designCoresSpec)

/-- 'buchholzlaw02.DesignSteps', WHERE WHAT IT READS IS OF BULK AT MOST 1048576: true; the input reads as it did. -/
def designStepsUptoRow : OpenClaim := { program := "ytngjoconcgakpaadoor", sum := "695a76c5748b072c911d39ddbd91d4b3b46e581892f48799373cc8568e7da247", func := "buchholz/buchholzlaw02.DesignSteps", spec := "designSteps", inPlace := ["internal/abi.NoEscape", "internal/bytealg.MakeNoZero"], unfollowed := true, recurses := true, named := ["buchholz/design.unitsOf", "buchholz/design.quantityWords", "internal/strconv.uint64pow10", "math/bits.deBruijn32tab", "math/bits.deBruijn64tab", "buchholz/design.unitWords"], apart := false, laid := [("math/bits.deBruijn32tab", laid_math_bits_deBruijn32tab), ("math/bits.deBruijn64tab", laid_math_bits_deBruijn64tab), ("internal/strconv.uint64pow10", laid_internal_strconv_uint64pow10), ("buchholz/design.quantityWords", laid_buchholz_design_quantityWords), ("buchholz/design.unitWords", laid_buchholz_design_unitWords), ("buchholz/design.unitsOf", laid_buchholz_design_unitsOf)], narrowed := true }
def DesignStepsUptoSaid : Prop := designStepsUptoRow.holds Tryd.pinned (OpenSpec.upto designStepsSpec)

/-- 'buchholzlaw02.DesignWindings', WHERE WHAT IT READS IS OF BULK AT MOST 1048576: true; the input reads as it did. -/
def designWindingsUptoRow : OpenClaim := { program := "ytngjoconcgakpaadoor", sum := "695a76c5748b072c911d39ddbd91d4b3b46e581892f48799373cc8568e7da247", func := "buchholz/buchholzlaw02.DesignWindings", spec := "designWindings", inPlace := ["internal/abi.NoEscape", "internal/bytealg.MakeNoZero"], unfollowed := true, recurses := true, named := ["buchholz/design.unitsOf", "buchholz/design.quantityWords", "internal/strconv.uint64pow10", "math/bits.deBruijn32tab", "math/bits.deBruijn64tab", "buchholz/design.unitWords"], apart := false, laid := [("math/bits.deBruijn32tab", laid_math_bits_deBruijn32tab), ("math/bits.deBruijn64tab", laid_math_bits_deBruijn64tab), ("internal/strconv.uint64pow10", laid_internal_strconv_uint64pow10), ("buchholz/design.quantityWords", laid_buchholz_design_quantityWords), ("buchholz/design.unitWords", laid_buchholz_design_unitWords), ("buchholz/design.unitsOf", laid_buchholz_design_unitsOf)], narrowed := true }
def DesignWindingsUptoSaid : Prop := designWindingsUptoRow.holds Tryd.pinned (OpenSpec.upto designWindingsSpec)

end Rows
end Go.Proofs.YtngjoconcgakpaaDoor
