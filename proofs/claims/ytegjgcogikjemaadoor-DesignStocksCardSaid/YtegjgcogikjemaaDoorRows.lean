/-
  NARROWER THAN 'FOR EVERY INPUT', by the rows' own cells (each row's printed sentence says how): GroupCurrents: laid · GroupShares: laid · GroupStrings: laid · DesignStocks: laid · DesignCores: laid · DesignSteps: laid · TopDesignCore: laid.
  DERIVED. THE GIVEN ROWS OF THIS SEAT. 7 by the template 'for every input the law returns true; each argument reads behind the call as it read before'; 0 by the template 'total and deterministic' (their statements: YtegjgcogikjemaaDoorTotals.lean).
  GIVEN WITH THE SEED: the statements are not yours to turn. If you find one false, say at which input.
  Laid BY PROGRAM, IN A SANDBOX (cutbox-rows.mjs): the forced cells as the released guide's own fill.sh prints them over the translation 1f8c12c48427ef40… (all of the seat's roots in one cut). By AI agents, Wed Nov 11 2026. No macro, syntax, notation, axiom, sorry.
-/
import Derived.Test.YtegjgcogikjemaaDoorChecked
import GoSem.PinnedTables
import GoSem.Claim
import GoSem.ClaimJoined
import GoSem.ClaimMapViews
import Derived.JoinedTies
import Derived.KernelRfl
namespace Go.Proofs.YtegjgcogikjemaaDoor
/- THE CELL 'sum', in the pinned program and in every row, IS THE sha256 OF THE DUMP (.gsa) THAT YtegjgcogikjemaaDoorProg.lean LOADS. Nothing in Lean hashes anything: it is a label: what it is worth is what the hold of that sum in a sandbox is worth. -/
noncomputable def Tryd.pinned : Pinned := { name := "ytegjgcogikjemaadoor", sum := "1f8c12c48427ef4079d801d3876543779c46bda1ad1ed6890e3d4efbb29b640f", checked := Tryd.checked }
namespace Rows
def none {H : Type} : Left H := { results := [], args := [] }

/- WHAT THE LISTED PACKAGE-LEVEL VARIABLES READ AS WHEN THE CALL BEGINS. Each datum BY PROGRAM (the guide's laid-datum.mjs) off the statement by which the dump's own 'gosem.cut.vars' lays the variable. In a bare row this is a premise. The card (YtegjgcogikjemaaDoorCards.lean) ties it to the program's text. -/
def laid_math_bits_deBruijn32tab {H : Type} : DataW H := .agg [.lit (.int .u8 0), .lit (.int .u8 1), .lit (.int .u8 28), .lit (.int .u8 2), .lit (.int .u8 29), .lit (.int .u8 14), .lit (.int .u8 24), .lit (.int .u8 3), .lit (.int .u8 30), .lit (.int .u8 22), .lit (.int .u8 20), .lit (.int .u8 15), .lit (.int .u8 25), .lit (.int .u8 17), .lit (.int .u8 4), .lit (.int .u8 8), .lit (.int .u8 31), .lit (.int .u8 27), .lit (.int .u8 13), .lit (.int .u8 23), .lit (.int .u8 21), .lit (.int .u8 19), .lit (.int .u8 16), .lit (.int .u8 7), .lit (.int .u8 26), .lit (.int .u8 12), .lit (.int .u8 18), .lit (.int .u8 6), .lit (.int .u8 11), .lit (.int .u8 5), .lit (.int .u8 10), .lit (.int .u8 9)]
def laid_math_bits_deBruijn64tab {H : Type} : DataW H := .agg [.lit (.int .u8 0), .lit (.int .u8 1), .lit (.int .u8 56), .lit (.int .u8 2), .lit (.int .u8 57), .lit (.int .u8 49), .lit (.int .u8 28), .lit (.int .u8 3), .lit (.int .u8 61), .lit (.int .u8 58), .lit (.int .u8 42), .lit (.int .u8 50), .lit (.int .u8 38), .lit (.int .u8 29), .lit (.int .u8 17), .lit (.int .u8 4), .lit (.int .u8 62), .lit (.int .u8 47), .lit (.int .u8 59), .lit (.int .u8 36), .lit (.int .u8 45), .lit (.int .u8 43), .lit (.int .u8 51), .lit (.int .u8 22), .lit (.int .u8 53), .lit (.int .u8 39), .lit (.int .u8 33), .lit (.int .u8 30), .lit (.int .u8 24), .lit (.int .u8 18), .lit (.int .u8 12), .lit (.int .u8 5), .lit (.int .u8 63), .lit (.int .u8 55), .lit (.int .u8 48), .lit (.int .u8 27), .lit (.int .u8 60), .lit (.int .u8 41), .lit (.int .u8 37), .lit (.int .u8 16), .lit (.int .u8 46), .lit (.int .u8 35), .lit (.int .u8 44), .lit (.int .u8 21), .lit (.int .u8 52), .lit (.int .u8 32), .lit (.int .u8 23), .lit (.int .u8 11), .lit (.int .u8 54), .lit (.int .u8 26), .lit (.int .u8 40), .lit (.int .u8 15), .lit (.int .u8 34), .lit (.int .u8 20), .lit (.int .u8 31), .lit (.int .u8 10), .lit (.int .u8 25), .lit (.int .u8 14), .lit (.int .u8 19), .lit (.int .u8 9), .lit (.int .u8 13), .lit (.int .u8 8), .lit (.int .u8 7), .lit (.int .u8 6)]
def laid_internal_strconv_uint64pow10 {H : Type} : DataW H := .agg [.lit (.int .u64 1), .lit (.int .u64 10), .lit (.int .u64 100), .lit (.int .u64 1000), .lit (.int .u64 10000), .lit (.int .u64 100000), .lit (.int .u64 1000000), .lit (.int .u64 10000000), .lit (.int .u64 100000000), .lit (.int .u64 1000000000), .lit (.int .u64 10000000000), .lit (.int .u64 100000000000), .lit (.int .u64 1000000000000), .lit (.int .u64 10000000000000), .lit (.int .u64 100000000000000), .lit (.int .u64 1000000000000000), .lit (.int .u64 10000000000000000), .lit (.int .u64 100000000000000000), .lit (.int .u64 1000000000000000000), .lit (.int .u64 10000000000000000000)]
def laid_buchholz_group_limbPhasors {H : Type} : DataW H := .agg [.agg [.lit (.int .i64 1), .lit (.int .i64 0)], .agg [.lit (.int .i64 (-1)), .lit (.int .i64 (-1))], .agg [.lit (.int .i64 0), .lit (.int .i64 1)]]
def laid_buchholz_group_hourPhasors {H : Type} : DataW H := .agg [.agg [.lit (.int .i64 1), .lit (.int .i64 0)], .agg [.lit (.int .i64 2), .lit (.int .i64 1)], .agg [.lit (.int .i64 1), .lit (.int .i64 1)], .agg [.lit (.int .i64 1), .lit (.int .i64 2)], .agg [.lit (.int .i64 0), .lit (.int .i64 1)], .agg [.lit (.int .i64 (-1)), .lit (.int .i64 1)], .agg [.lit (.int .i64 (-1)), .lit (.int .i64 0)], .agg [.lit (.int .i64 (-2)), .lit (.int .i64 (-1))], .agg [.lit (.int .i64 (-1)), .lit (.int .i64 (-1))], .agg [.lit (.int .i64 (-1)), .lit (.int .i64 (-2))], .agg [.lit (.int .i64 0), .lit (.int .i64 (-1))], .agg [.lit (.int .i64 1), .lit (.int .i64 (-1))]]
def laid_buchholz_group_patterns {H : Type} : DataW H := .agg [.agg [.lit (.int .i64 1), .lit (.int .i64 (-1)), .lit (.int .i64 0)], .agg [.lit (.int .i64 1), .lit (.int .i64 0), .lit (.int .i64 0)], .agg [.lit (.int .i64 1), .lit (.int .i64 (-2)), .lit (.int .i64 1)]]
def laid_unicode_utf8_acceptRanges {H : Type} : DataW H := .agg [.agg [.lit (.int .u8 128), .lit (.int .u8 191)], .agg [.lit (.int .u8 160), .lit (.int .u8 191)], .agg [.lit (.int .u8 128), .lit (.int .u8 159)], .agg [.lit (.int .u8 144), .lit (.int .u8 191)], .agg [.lit (.int .u8 128), .lit (.int .u8 143)], .agg [.lit (.int .u8 0), .lit (.int .u8 0)], .agg [.lit (.int .u8 0), .lit (.int .u8 0)], .agg [.lit (.int .u8 0), .lit (.int .u8 0)], .agg [.lit (.int .u8 0), .lit (.int .u8 0)], .agg [.lit (.int .u8 0), .lit (.int .u8 0)], .agg [.lit (.int .u8 0), .lit (.int .u8 0)], .agg [.lit (.int .u8 0), .lit (.int .u8 0)], .agg [.lit (.int .u8 0), .lit (.int .u8 0)], .agg [.lit (.int .u8 0), .lit (.int .u8 0)], .agg [.lit (.int .u8 0), .lit (.int .u8 0)], .agg [.lit (.int .u8 0), .lit (.int .u8 0)]]
/-- One of Go's own tables, pinned by name: the form's constant. -/
def laid_unicode_utf8_first : DataW Unit := Go.Pinned.utf8First
def laid_buchholz_design_quantityWords {H : Type} : DataW H := .agg [.lit (.string [109, 97, 115, 115]), .lit (.string [99, 111, 112, 112, 101, 114]), .lit (.string [105, 100, 108, 101]), .lit (.string [108, 111, 97, 100]), .lit (.string [104, 101, 105, 103, 104, 116]), .lit (.string [119, 105, 100, 116, 104])]
def laid_buchholz_design_unitWords {H : Type} : DataW H := .agg [.lit (.string [107, 103]), .lit (.string [87]), .lit (.string [109, 109])]
def laid_buchholz_design_unitsOf {H : Type} : DataW H := .agg [.lit (.int .i64 0), .lit (.int .i64 0), .lit (.int .i64 1), .lit (.int .i64 1), .lit (.int .i64 2), .lit (.int .i64 2)]

/-- 'buchholzlaw01.GroupCurrents': WHATEVER THE INPUT: true; the input reads as it did. -/
def groupCurrentsSpec : ChangeSpec := { name := "groupCurrents", fn := fun _ => fun
  | [d1, d2] => { results := [.lit (.bool true)], args := [d1, d2] }
  | _ => none }
def groupCurrentsRow : OpenClaim := { program := "ytegjgcogikjemaadoor", sum := "1f8c12c48427ef4079d801d3876543779c46bda1ad1ed6890e3d4efbb29b640f", func := "buchholz/buchholzlaw01.GroupCurrents", spec := "groupCurrents", unfollowed := true, recurses := true, named := ["buchholz/group.patterns", "buchholz/group.limbPhasors", "buchholz/group.hourPhasors", "internal/strconv.uint64pow10", "math/bits.deBruijn32tab", "math/bits.deBruijn64tab"], apart := false, laid := [("math/bits.deBruijn32tab", laid_math_bits_deBruijn32tab), ("math/bits.deBruijn64tab", laid_math_bits_deBruijn64tab), ("internal/strconv.uint64pow10", laid_internal_strconv_uint64pow10), ("buchholz/group.limbPhasors", laid_buchholz_group_limbPhasors), ("buchholz/group.hourPhasors", laid_buchholz_group_hourPhasors), ("buchholz/group.patterns", laid_buchholz_group_patterns)] }
def GroupCurrentsSaid : Prop := groupCurrentsRow.holds Tryd.pinned (OpenSpec.ofChange groupCurrentsSpec)

/-- ITS FALSE NEIGHBOUR: 'it returns false'. Refute it at one input. -/
def groupCurrentsWrong : ChangeSpec := { name := "groupCurrents", fn := fun _ => fun
  | [d1, d2] => { results := [.lit (.bool false)], args := [d1, d2] }
  | _ => none }
def GroupCurrentsWrongFalsely : Prop := groupCurrentsRow.holds Tryd.pinned (OpenSpec.ofChange groupCurrentsWrong)

/-- 'buchholzlaw01.GroupShares': WHATEVER THE INPUT: true; the input reads as it did. -/
def groupSharesSpec : ChangeSpec := { name := "groupShares", fn := fun _ => fun
  | [d1, d2] => { results := [.lit (.bool true)], args := [d1, d2] }
  | _ => none }
def groupSharesRow : OpenClaim := { program := "ytegjgcogikjemaadoor", sum := "1f8c12c48427ef4079d801d3876543779c46bda1ad1ed6890e3d4efbb29b640f", func := "buchholz/buchholzlaw01.GroupShares", spec := "groupShares", unfollowed := true, recurses := true, named := ["buchholz/group.patterns", "buchholz/group.limbPhasors", "buchholz/group.hourPhasors", "internal/strconv.uint64pow10", "math/bits.deBruijn32tab", "math/bits.deBruijn64tab"], apart := false, laid := [("math/bits.deBruijn32tab", laid_math_bits_deBruijn32tab), ("math/bits.deBruijn64tab", laid_math_bits_deBruijn64tab), ("internal/strconv.uint64pow10", laid_internal_strconv_uint64pow10), ("buchholz/group.limbPhasors", laid_buchholz_group_limbPhasors), ("buchholz/group.hourPhasors", laid_buchholz_group_hourPhasors), ("buchholz/group.patterns", laid_buchholz_group_patterns)] }
def GroupSharesSaid : Prop := groupSharesRow.holds Tryd.pinned (OpenSpec.ofChange groupSharesSpec)

/-- ITS FALSE NEIGHBOUR: 'it returns false'. Refute it at one input. -/
def groupSharesWrong : ChangeSpec := { name := "groupShares", fn := fun _ => fun
  | [d1, d2] => { results := [.lit (.bool false)], args := [d1, d2] }
  | _ => none }
def GroupSharesWrongFalsely : Prop := groupSharesRow.holds Tryd.pinned (OpenSpec.ofChange groupSharesWrong)

/-- 'buchholzlaw01.GroupStrings': WHATEVER THE INPUT: true; the input reads as it did. -/
def groupStringsSpec : ChangeSpec := { name := "groupStrings", fn := fun _ => fun
  | [d1, d2] => { results := [.lit (.bool true)], args := [d1, d2] }
  | _ => none }
def groupStringsRow : OpenClaim := { program := "ytegjgcogikjemaadoor", sum := "1f8c12c48427ef4079d801d3876543779c46bda1ad1ed6890e3d4efbb29b640f", func := "buchholz/buchholzlaw01.GroupStrings", spec := "groupStrings", inPlace := ["internal/bytealg.CountString", "internal/bytealg.IndexByteString", "internal/bytealg.IndexString"], unfollowed := true, recurses := true, named := ["buchholz/group.patterns", "buchholz/group.limbPhasors", "buchholz/group.hourPhasors", "internal/strconv.uint64pow10", "math/bits.deBruijn32tab", "math/bits.deBruijn64tab", "unicode/utf8.first", "unicode/utf8.acceptRanges", "internal/bytealg.MaxLen"], apart := false, laid := [("math/bits.deBruijn32tab", laid_math_bits_deBruijn32tab), ("math/bits.deBruijn64tab", laid_math_bits_deBruijn64tab), ("internal/strconv.uint64pow10", laid_internal_strconv_uint64pow10), ("unicode/utf8.acceptRanges", laid_unicode_utf8_acceptRanges), ("buchholz/group.limbPhasors", laid_buchholz_group_limbPhasors), ("buchholz/group.hourPhasors", laid_buchholz_group_hourPhasors), ("buchholz/group.patterns", laid_buchholz_group_patterns), ("unicode/utf8.first", laid_unicode_utf8_first)] }
def GroupStringsSaid : Prop := groupStringsRow.holds Tryd.pinned (OpenSpec.ofChange groupStringsSpec)

/-- ITS FALSE NEIGHBOUR: 'it returns false'. Refute it at one input. -/
def groupStringsWrong : ChangeSpec := { name := "groupStrings", fn := fun _ => fun
  | [d1, d2] => { results := [.lit (.bool false)], args := [d1, d2] }
  | _ => none }
def GroupStringsWrongFalsely : Prop := groupStringsRow.holds Tryd.pinned (OpenSpec.ofChange groupStringsWrong)

/-- 'buchholzlaw02.DesignStocks': WHATEVER THE INPUT: true; the input reads as it did. -/
def designStocksSpec : ChangeSpec := { name := "designStocks", fn := fun _ => fun
  | [d1, d2] => { results := [.lit (.bool true)], args := [d1, d2] }
  | _ => none }
def designStocksRow : OpenClaim := { program := "ytegjgcogikjemaadoor", sum := "1f8c12c48427ef4079d801d3876543779c46bda1ad1ed6890e3d4efbb29b640f", func := "buchholz/buchholzlaw02.DesignStocks", spec := "designStocks", inPlace := ["internal/abi.NoEscape", "internal/bytealg.MakeNoZero"], unfollowed := true, recurses := true, named := ["buchholz/design.unitsOf", "buchholz/design.quantityWords", "internal/strconv.uint64pow10", "math/bits.deBruijn32tab", "math/bits.deBruijn64tab", "buchholz/design.unitWords"], apart := false, laid := [("math/bits.deBruijn32tab", laid_math_bits_deBruijn32tab), ("math/bits.deBruijn64tab", laid_math_bits_deBruijn64tab), ("internal/strconv.uint64pow10", laid_internal_strconv_uint64pow10), ("buchholz/design.quantityWords", laid_buchholz_design_quantityWords), ("buchholz/design.unitWords", laid_buchholz_design_unitWords), ("buchholz/design.unitsOf", laid_buchholz_design_unitsOf)] }
def DesignStocksSaid : Prop := designStocksRow.holds Tryd.pinned (OpenSpec.ofChange designStocksSpec)

/-- ITS FALSE NEIGHBOUR: 'it returns false'. Refute it at one input. -/
def designStocksWrong : ChangeSpec := { name := "designStocks", fn := fun _ => fun
  | [d1, d2] => { results := [.lit (.bool false)], args := [d1, d2] }
  | _ => none }
def DesignStocksWrongFalsely : Prop := designStocksRow.holds Tryd.pinned (OpenSpec.ofChange designStocksWrong)

/-- 'buchholzlaw02.DesignCores': WHATEVER THE INPUT: true; the input reads as it did. -/
def designCoresSpec : ChangeSpec := { name := "designCores", fn := fun _ => fun
  | [d1, d2, d3] => { results := [.lit (.bool true)], args := [d1, d2, d3] }
  | _ => none }
def designCoresRow : OpenClaim := { program := "ytegjgcogikjemaadoor", sum := "1f8c12c48427ef4079d801d3876543779c46bda1ad1ed6890e3d4efbb29b640f", func := "buchholz/buchholzlaw02.DesignCores", spec := "designCores", inPlace := ["internal/abi.NoEscape", "internal/bytealg.MakeNoZero"], unfollowed := true, recurses := true, named := ["buchholz/design.unitsOf", "buchholz/design.quantityWords", "internal/strconv.uint64pow10", "math/bits.deBruijn32tab", "math/bits.deBruijn64tab", "buchholz/design.unitWords"], apart := false, laid := [("math/bits.deBruijn32tab", laid_math_bits_deBruijn32tab), ("math/bits.deBruijn64tab", laid_math_bits_deBruijn64tab), ("internal/strconv.uint64pow10", laid_internal_strconv_uint64pow10), ("buchholz/design.quantityWords", laid_buchholz_design_quantityWords), ("buchholz/design.unitWords", laid_buchholz_design_unitWords), ("buchholz/design.unitsOf", laid_buchholz_design_unitsOf)] }
def DesignCoresSaid : Prop := designCoresRow.holds Tryd.pinned (OpenSpec.ofChange designCoresSpec)

/-- ITS FALSE NEIGHBOUR: 'it returns false'. Refute it at one input. -/
def designCoresWrong : ChangeSpec := { name := "designCores", fn := fun _ => fun
  | [d1, d2, d3] => { results := [.lit (.bool false)], args := [d1, d2, d3] }
  | _ => none }
def DesignCoresWrongFalsely : Prop := designCoresRow.holds Tryd.pinned (OpenSpec.ofChange designCoresWrong)

/-- 'buchholzlaw02.DesignSteps': WHATEVER THE INPUT: true; the input reads as it did. -/
def designStepsSpec : ChangeSpec := { name := "designSteps", fn := fun _ => fun
  | [d1, d2, d3] => { results := [.lit (.bool true)], args := [d1, d2, d3] }
  | _ => none }
def designStepsRow : OpenClaim := { program := "ytegjgcogikjemaadoor", sum := "1f8c12c48427ef4079d801d3876543779c46bda1ad1ed6890e3d4efbb29b640f", func := "buchholz/buchholzlaw02.DesignSteps", spec := "designSteps", inPlace := ["internal/abi.NoEscape", "internal/bytealg.MakeNoZero"], unfollowed := true, recurses := true, named := ["buchholz/design.unitsOf", "buchholz/design.quantityWords", "internal/strconv.uint64pow10", "math/bits.deBruijn32tab", "math/bits.deBruijn64tab", "buchholz/design.unitWords"], apart := false, laid := [("math/bits.deBruijn32tab", laid_math_bits_deBruijn32tab), ("math/bits.deBruijn64tab", laid_math_bits_deBruijn64tab), ("internal/strconv.uint64pow10", laid_internal_strconv_uint64pow10), ("buchholz/design.quantityWords", laid_buchholz_design_quantityWords), ("buchholz/design.unitWords", laid_buchholz_design_unitWords), ("buchholz/design.unitsOf", laid_buchholz_design_unitsOf)] }
def DesignStepsSaid : Prop := designStepsRow.holds Tryd.pinned (OpenSpec.ofChange designStepsSpec)

/-- ITS FALSE NEIGHBOUR: 'it returns false'. Refute it at one input. -/
def designStepsWrong : ChangeSpec := { name := "designSteps", fn := fun _ => fun
  | [d1, d2, d3] => { results := [.lit (.bool false)], args := [d1, d2, d3] }
  | _ => none }
def DesignStepsWrongFalsely : Prop := designStepsRow.holds Tryd.pinned (OpenSpec.ofChange designStepsWrong)

/-- 'buchholztop.TopDesignCore': WHATEVER THE INPUT: true; the input reads as it did. -/
def topDesignCoreSpec : ChangeSpec := { name := "topDesignCore", fn := fun _ => fun
  | [d1, d2, d3] => { results := [.lit (.bool true)], args := [d1, d2, d3] }
  | _ => none }
def topDesignCoreRow : OpenClaim := { program := "ytegjgcogikjemaadoor", sum := "1f8c12c48427ef4079d801d3876543779c46bda1ad1ed6890e3d4efbb29b640f", func := "buchholz/buchholztop.TopDesignCore", spec := "topDesignCore", unfollowed := true, recurses := true, named := ["buchholz/design.unitsOf"], apart := false, laid := [("buchholz/design.unitsOf", laid_buchholz_design_unitsOf)] }
def TopDesignCoreSaid : Prop := topDesignCoreRow.holds Tryd.pinned (OpenSpec.ofChange topDesignCoreSpec)

/-- ITS FALSE NEIGHBOUR: 'it returns false'. Refute it at one input. -/
def topDesignCoreWrong : ChangeSpec := { name := "topDesignCore", fn := fun _ => fun
  | [d1, d2, d3] => { results := [.lit (.bool false)], args := [d1, d2, d3] }
  | _ => none }
def TopDesignCoreWrongFalsely : Prop := topDesignCoreRow.holds Tryd.pinned (OpenSpec.ofChange topDesignCoreWrong)

/- THE SECOND FORM. 'bulk': how many values and letters a reading holds, each counted each time it is reached (what is shared counts as often as it is met; a slice's spare places count too). A statement '..UptoSaid' is the law's where the arguments, and the package variables that the reading takes, are together of bulk at most 1048576: NARROWER than '..Said'. Prove '..Said' where nothing that the law and all that it calls make is longer than what came in: it says more and counts as full. Else prove '..UptoSaid'. A law counts once. -/
mutual
def uptoBulk {H : Type} : DataW H → Nat
  | .lit (.string bytes) => bytes.length + 1
  | .lit _ => 1
  | .nil => 1
  | .ptr d => uptoBulk d + 1
  | .slice elems spare => uptoBulkAll elems + uptoBulkAll spare + 1
  | .agg parts => uptoBulkAll parts + 1
  | .iface _ d => uptoBulk d + 1
  | .map entries => uptoBulkEntries entries + 1
  | .held _ => 1
def uptoBulkAll {H : Type} : List (DataW H) → Nat
  | [] => 0
  | d :: r => uptoBulk d + uptoBulkAll r
def uptoBulkEntries {H : Type} : List (Lit × DataW H) → Nat
  | [] => 0
  | x :: r => uptoBulkEntry x + uptoBulkEntries r
def uptoBulkEntry {H : Type} : Lit × DataW H → Nat
  | (.string bytes, d) => bytes.length + uptoBulk d + 1
  | (_, d) => uptoBulk d + 1
 end
def uptoSmall : (H : Type) → List (DataW H) → Bool := fun _ ds => decide (uptoBulkAll ds ≤ 1048576)
def OpenSpec.upto (s : _root_.Go.ChangeSpec) : _root_.Go.OpenSpec := { _root_.Go.OpenSpec.ofChange s with cond := some uptoSmall }

/-- 'buchholzlaw01.GroupCurrents', WHERE WHAT IT READS IS OF BULK AT MOST 1048576: true; the input reads as it did. -/
def groupCurrentsUptoRow : OpenClaim := { program := "ytegjgcogikjemaadoor", sum := "1f8c12c48427ef4079d801d3876543779c46bda1ad1ed6890e3d4efbb29b640f", func := "buchholz/buchholzlaw01.GroupCurrents", spec := "groupCurrents", unfollowed := true, recurses := true, named := ["buchholz/group.patterns", "buchholz/group.limbPhasors", "buchholz/group.hourPhasors", "internal/strconv.uint64pow10", "math/bits.deBruijn32tab", "math/bits.deBruijn64tab"], apart := false, laid := [("math/bits.deBruijn32tab", laid_math_bits_deBruijn32tab), ("math/bits.deBruijn64tab", laid_math_bits_deBruijn64tab), ("internal/strconv.uint64pow10", laid_internal_strconv_uint64pow10), ("buchholz/group.limbPhasors", laid_buchholz_group_limbPhasors), ("buchholz/group.hourPhasors", laid_buchholz_group_hourPhasors), ("buchholz/group.patterns", laid_buchholz_group_patterns)], narrowed := true }
def GroupCurrentsUptoSaid : Prop := groupCurrentsUptoRow.holds Tryd.pinned (OpenSpec.upto groupCurrentsSpec)

/-- 'buchholzlaw01.GroupShares', WHERE WHAT IT READS IS OF BULK AT MOST 1048576: true; the input reads as it did. -/
def groupSharesUptoRow : OpenClaim := { program := "ytegjgcogikjemaadoor", sum := "1f8c12c48427ef4079d801d3876543779c46bda1ad1ed6890e3d4efbb29b640f", func := "buchholz/buchholzlaw01.GroupShares", spec := "groupShares", unfollowed := true, recurses := true, named := ["buchholz/group.patterns", "buchholz/group.limbPhasors", "buchholz/group.hourPhasors", "internal/strconv.uint64pow10", "math/bits.deBruijn32tab", "math/bits.deBruijn64tab"], apart := false, laid := [("math/bits.deBruijn32tab", laid_math_bits_deBruijn32tab), ("math/bits.deBruijn64tab", laid_math_bits_deBruijn64tab), ("internal/strconv.uint64pow10", laid_internal_strconv_uint64pow10), ("buchholz/group.limbPhasors", laid_buchholz_group_limbPhasors), ("buchholz/group.hourPhasors", laid_buchholz_group_hourPhasors), ("buchholz/group.patterns", laid_buchholz_group_patterns)], narrowed := true }
def GroupSharesUptoSaid : Prop := groupSharesUptoRow.holds Tryd.pinned (OpenSpec.upto groupSharesSpec)

/-- 'buchholzlaw01.GroupStrings', WHERE WHAT IT READS IS OF BULK AT MOST 1048576: true; the input reads as it did. -/
def groupStringsUptoRow : OpenClaim := { program := "ytegjgcogikjemaadoor", sum := "1f8c12c48427ef4079d801d3876543779c46bda1ad1ed6890e3d4efbb29b640f", func := "buchholz/buchholzlaw01.GroupStrings", spec := "groupStrings", inPlace := ["internal/bytealg.CountString", "internal/bytealg.IndexByteString", "internal/bytealg.IndexString"], unfollowed := true, recurses := true, named := ["buchholz/group.patterns", "buchholz/group.limbPhasors", "buchholz/group.hourPhasors", "internal/strconv.uint64pow10", "math/bits.deBruijn32tab", "math/bits.deBruijn64tab", "unicode/utf8.first", "unicode/utf8.acceptRanges", "internal/bytealg.MaxLen"], apart := false, laid := [("math/bits.deBruijn32tab", laid_math_bits_deBruijn32tab), ("math/bits.deBruijn64tab", laid_math_bits_deBruijn64tab), ("internal/strconv.uint64pow10", laid_internal_strconv_uint64pow10), ("unicode/utf8.acceptRanges", laid_unicode_utf8_acceptRanges), ("buchholz/group.limbPhasors", laid_buchholz_group_limbPhasors), ("buchholz/group.hourPhasors", laid_buchholz_group_hourPhasors), ("buchholz/group.patterns", laid_buchholz_group_patterns), ("unicode/utf8.first", laid_unicode_utf8_first)], narrowed := true }
def GroupStringsUptoSaid : Prop := groupStringsUptoRow.holds Tryd.pinned (OpenSpec.upto groupStringsSpec)

/-- 'buchholzlaw02.DesignStocks', WHERE WHAT IT READS IS OF BULK AT MOST 1048576: true; the input reads as it did. -/
def designStocksUptoRow : OpenClaim := { program := "ytegjgcogikjemaadoor", sum := "1f8c12c48427ef4079d801d3876543779c46bda1ad1ed6890e3d4efbb29b640f", func := "buchholz/buchholzlaw02.DesignStocks", spec := "designStocks", inPlace := ["internal/abi.NoEscape", "internal/bytealg.MakeNoZero"], unfollowed := true, recurses := true, named := ["buchholz/design.unitsOf", "buchholz/design.quantityWords", "internal/strconv.uint64pow10", "math/bits.deBruijn32tab", "math/bits.deBruijn64tab", "buchholz/design.unitWords"], apart := false, laid := [("math/bits.deBruijn32tab", laid_math_bits_deBruijn32tab), ("math/bits.deBruijn64tab", laid_math_bits_deBruijn64tab), ("internal/strconv.uint64pow10", laid_internal_strconv_uint64pow10), ("buchholz/design.quantityWords", laid_buchholz_design_quantityWords), ("buchholz/design.unitWords", laid_buchholz_design_unitWords), ("buchholz/design.unitsOf", laid_buchholz_design_unitsOf)], narrowed := true }
def DesignStocksUptoSaid : Prop := designStocksUptoRow.holds Tryd.pinned (OpenSpec.upto designStocksSpec)

/-- 'buchholzlaw02.DesignCores', WHERE WHAT IT READS IS OF BULK AT MOST 1048576: true; the input reads as it did. -/
def designCoresUptoRow : OpenClaim := { program := "ytegjgcogikjemaadoor", sum := "1f8c12c48427ef4079d801d3876543779c46bda1ad1ed6890e3d4efbb29b640f", func := "buchholz/buchholzlaw02.DesignCores", spec := "designCores", inPlace := ["internal/abi.NoEscape", "internal/bytealg.MakeNoZero"], unfollowed := true, recurses := true, named := ["buchholz/design.unitsOf", "buchholz/design.quantityWords", "internal/strconv.uint64pow10", "math/bits.deBruijn32tab", "math/bits.deBruijn64tab", "buchholz/design.unitWords"], apart := false, laid := [("math/bits.deBruijn32tab", laid_math_bits_deBruijn32tab), ("math/bits.deBruijn64tab", laid_math_bits_deBruijn64tab), ("internal/strconv.uint64pow10", laid_internal_strconv_uint64pow10), ("buchholz/design.quantityWords", laid_buchholz_design_quantityWords), ("buchholz/design.unitWords", laid_buchholz_design_unitWords), ("buchholz/design.unitsOf", laid_buchholz_design_unitsOf)], narrowed := true }
def DesignCoresUptoSaid : Prop := designCoresUptoRow.holds Tryd.pinned (OpenSpec.upto designCoresSpec)

/-- 'buchholzlaw02.DesignSteps', WHERE WHAT IT READS IS OF BULK AT MOST 1048576: true; the input reads as it did. -/
def designStepsUptoRow : OpenClaim := { program := "ytegjgcogikjemaadoor", sum := "1f8c12c48427ef4079d801d3876543779c46bda1ad1ed6890e3d4efbb29b640f", func := "buchholz/buchholzlaw02.DesignSteps", spec := "designSteps", inPlace := ["internal/abi.NoEscape", "internal/bytealg.MakeNoZero"], unfollowed := true, recurses := true, named := ["buchholz/design.unitsOf", "buchholz/design.quantityWords", "internal/strconv.uint64pow10", "math/bits.deBruijn32tab", "math/bits.deBruijn64tab", "buchholz/design.unitWords"], apart := false, laid := [("math/bits.deBruijn32tab", laid_math_bits_deBruijn32tab), ("math/bits.deBruijn64tab", laid_math_bits_deBruijn64tab), ("internal/strconv.uint64pow10", laid_internal_strconv_uint64pow10), ("buchholz/design.quantityWords", laid_buchholz_design_quantityWords), ("buchholz/design.unitWords", laid_buchholz_design_unitWords), ("buchholz/design.unitsOf", laid_buchholz_design_unitsOf)], narrowed := true }
def DesignStepsUptoSaid : Prop := designStepsUptoRow.holds Tryd.pinned (OpenSpec.upto designStepsSpec)

/-- 'buchholztop.TopDesignCore', WHERE WHAT IT READS IS OF BULK AT MOST 1048576: true; the input reads as it did. -/
def topDesignCoreUptoRow : OpenClaim := { program := "ytegjgcogikjemaadoor", sum := "1f8c12c48427ef4079d801d3876543779c46bda1ad1ed6890e3d4efbb29b640f", func := "buchholz/buchholztop.TopDesignCore", spec := "topDesignCore", unfollowed := true, recurses := true, named := ["buchholz/design.unitsOf"], apart := false, laid := [("buchholz/design.unitsOf", laid_buchholz_design_unitsOf)], narrowed := true }
def TopDesignCoreUptoSaid : Prop := topDesignCoreUptoRow.holds Tryd.pinned (OpenSpec.upto topDesignCoreSpec)

end Rows
end Go.Proofs.YtegjgcogikjemaaDoor
