/-
  NARROWER THAN 'FOR EVERY INPUT', by the rows' own cells (each row's printed sentence says how): GroupWindings: laid · GroupBalanced: laid · GroupLinesOf: laid · GroupRenamed: laid · GroupPhasors: laid · GroupUnits: laid · GroupLow: laid · GroupTurns: laid · GroupRuns: laid · GroupMatched: laid · GroupCurrents: laid · GroupShares: laid · GroupStrings: laid.
  DERIVED. THE GIVEN ROWS OF THIS SEAT. 13 by the template 'for every input the law returns true; each argument reads behind the call as it read before'; 0 by the template 'total and deterministic' (their statements: YtngdhmliohjigaaDoorTotals.lean).
  GIVEN WITH THE SEED: the statements are not yours to turn. If you find one false, say at which input.
  Laid BY PROGRAM, IN A SANDBOX (cutbox-rows.mjs): the forced cells as the released guide's own fill.sh prints them over the translation 70554a221f40daea… (all of the seat's roots in one cut). By AI agents, Wed Nov 11 2026. No macro, syntax, notation, axiom, sorry.
-/
import Derived.Test.YtngdhmliohjigaaDoorChecked
import GoSem.PinnedTables
import GoSem.Claim
import GoSem.ClaimJoined
import GoSem.ClaimMapViews
import Derived.JoinedTies
import Derived.KernelRfl
namespace Go.Proofs.YtngdhmliohjigaaDoor
/- THE CELL 'sum', in the pinned program and in every row, IS THE sha256 OF THE DUMP (.gsa) THAT YtngdhmliohjigaaDoorProg.lean LOADS. Nothing in Lean hashes anything: it is a label: what it is worth is what the hold of that sum in a sandbox is worth. -/
noncomputable def Tryd.pinned : Pinned := { name := "ytngdhmliohjigaadoor", sum := "70554a221f40daea08804746588cc32d9168dbb09ab07ca7799c1aa4ed23f302", checked := Tryd.checked }
namespace Rows
def none {H : Type} : Left H := { results := [], args := [] }

/- WHAT THE LISTED PACKAGE-LEVEL VARIABLES READ AS WHEN THE CALL BEGINS. Each datum BY PROGRAM (the guide's laid-datum.mjs) off the statement by which the dump's own 'gosem.cut.vars' lays the variable. In a bare row this is a premise. The card (YtngdhmliohjigaaDoorCards.lean) ties it to the program's text. -/
def laid_math_bits_deBruijn32tab {H : Type} : DataW H := .agg [.lit (.int .u8 0), .lit (.int .u8 1), .lit (.int .u8 28), .lit (.int .u8 2), .lit (.int .u8 29), .lit (.int .u8 14), .lit (.int .u8 24), .lit (.int .u8 3), .lit (.int .u8 30), .lit (.int .u8 22), .lit (.int .u8 20), .lit (.int .u8 15), .lit (.int .u8 25), .lit (.int .u8 17), .lit (.int .u8 4), .lit (.int .u8 8), .lit (.int .u8 31), .lit (.int .u8 27), .lit (.int .u8 13), .lit (.int .u8 23), .lit (.int .u8 21), .lit (.int .u8 19), .lit (.int .u8 16), .lit (.int .u8 7), .lit (.int .u8 26), .lit (.int .u8 12), .lit (.int .u8 18), .lit (.int .u8 6), .lit (.int .u8 11), .lit (.int .u8 5), .lit (.int .u8 10), .lit (.int .u8 9)]
def laid_math_bits_deBruijn64tab {H : Type} : DataW H := .agg [.lit (.int .u8 0), .lit (.int .u8 1), .lit (.int .u8 56), .lit (.int .u8 2), .lit (.int .u8 57), .lit (.int .u8 49), .lit (.int .u8 28), .lit (.int .u8 3), .lit (.int .u8 61), .lit (.int .u8 58), .lit (.int .u8 42), .lit (.int .u8 50), .lit (.int .u8 38), .lit (.int .u8 29), .lit (.int .u8 17), .lit (.int .u8 4), .lit (.int .u8 62), .lit (.int .u8 47), .lit (.int .u8 59), .lit (.int .u8 36), .lit (.int .u8 45), .lit (.int .u8 43), .lit (.int .u8 51), .lit (.int .u8 22), .lit (.int .u8 53), .lit (.int .u8 39), .lit (.int .u8 33), .lit (.int .u8 30), .lit (.int .u8 24), .lit (.int .u8 18), .lit (.int .u8 12), .lit (.int .u8 5), .lit (.int .u8 63), .lit (.int .u8 55), .lit (.int .u8 48), .lit (.int .u8 27), .lit (.int .u8 60), .lit (.int .u8 41), .lit (.int .u8 37), .lit (.int .u8 16), .lit (.int .u8 46), .lit (.int .u8 35), .lit (.int .u8 44), .lit (.int .u8 21), .lit (.int .u8 52), .lit (.int .u8 32), .lit (.int .u8 23), .lit (.int .u8 11), .lit (.int .u8 54), .lit (.int .u8 26), .lit (.int .u8 40), .lit (.int .u8 15), .lit (.int .u8 34), .lit (.int .u8 20), .lit (.int .u8 31), .lit (.int .u8 10), .lit (.int .u8 25), .lit (.int .u8 14), .lit (.int .u8 19), .lit (.int .u8 9), .lit (.int .u8 13), .lit (.int .u8 8), .lit (.int .u8 7), .lit (.int .u8 6)]
def laid_internal_strconv_uint64pow10 {H : Type} : DataW H := .agg [.lit (.int .u64 1), .lit (.int .u64 10), .lit (.int .u64 100), .lit (.int .u64 1000), .lit (.int .u64 10000), .lit (.int .u64 100000), .lit (.int .u64 1000000), .lit (.int .u64 10000000), .lit (.int .u64 100000000), .lit (.int .u64 1000000000), .lit (.int .u64 10000000000), .lit (.int .u64 100000000000), .lit (.int .u64 1000000000000), .lit (.int .u64 10000000000000), .lit (.int .u64 100000000000000), .lit (.int .u64 1000000000000000), .lit (.int .u64 10000000000000000), .lit (.int .u64 100000000000000000), .lit (.int .u64 1000000000000000000), .lit (.int .u64 10000000000000000000)]
def laid_buchholz_group_limbPhasors {H : Type} : DataW H := .agg [.agg [.lit (.int .i64 1), .lit (.int .i64 0)], .agg [.lit (.int .i64 (-1)), .lit (.int .i64 (-1))], .agg [.lit (.int .i64 0), .lit (.int .i64 1)]]
def laid_buchholz_group_hourPhasors {H : Type} : DataW H := .agg [.agg [.lit (.int .i64 1), .lit (.int .i64 0)], .agg [.lit (.int .i64 2), .lit (.int .i64 1)], .agg [.lit (.int .i64 1), .lit (.int .i64 1)], .agg [.lit (.int .i64 1), .lit (.int .i64 2)], .agg [.lit (.int .i64 0), .lit (.int .i64 1)], .agg [.lit (.int .i64 (-1)), .lit (.int .i64 1)], .agg [.lit (.int .i64 (-1)), .lit (.int .i64 0)], .agg [.lit (.int .i64 (-2)), .lit (.int .i64 (-1))], .agg [.lit (.int .i64 (-1)), .lit (.int .i64 (-1))], .agg [.lit (.int .i64 (-1)), .lit (.int .i64 (-2))], .agg [.lit (.int .i64 0), .lit (.int .i64 (-1))], .agg [.lit (.int .i64 1), .lit (.int .i64 (-1))]]
def laid_buchholz_group_patterns {H : Type} : DataW H := .agg [.agg [.lit (.int .i64 1), .lit (.int .i64 (-1)), .lit (.int .i64 0)], .agg [.lit (.int .i64 1), .lit (.int .i64 0), .lit (.int .i64 0)], .agg [.lit (.int .i64 1), .lit (.int .i64 (-2)), .lit (.int .i64 1)]]
def laid_buchholz_group_permutations {H : Type} : DataW H := .agg [.agg [.lit (.int .i64 0), .lit (.int .i64 1), .lit (.int .i64 2)], .agg [.lit (.int .i64 0), .lit (.int .i64 2), .lit (.int .i64 1)], .agg [.lit (.int .i64 1), .lit (.int .i64 0), .lit (.int .i64 2)], .agg [.lit (.int .i64 1), .lit (.int .i64 2), .lit (.int .i64 0)], .agg [.lit (.int .i64 2), .lit (.int .i64 0), .lit (.int .i64 1)], .agg [.lit (.int .i64 2), .lit (.int .i64 1), .lit (.int .i64 0)]]
def laid_unicode_utf8_acceptRanges {H : Type} : DataW H := .agg [.agg [.lit (.int .u8 128), .lit (.int .u8 191)], .agg [.lit (.int .u8 160), .lit (.int .u8 191)], .agg [.lit (.int .u8 128), .lit (.int .u8 159)], .agg [.lit (.int .u8 144), .lit (.int .u8 191)], .agg [.lit (.int .u8 128), .lit (.int .u8 143)], .agg [.lit (.int .u8 0), .lit (.int .u8 0)], .agg [.lit (.int .u8 0), .lit (.int .u8 0)], .agg [.lit (.int .u8 0), .lit (.int .u8 0)], .agg [.lit (.int .u8 0), .lit (.int .u8 0)], .agg [.lit (.int .u8 0), .lit (.int .u8 0)], .agg [.lit (.int .u8 0), .lit (.int .u8 0)], .agg [.lit (.int .u8 0), .lit (.int .u8 0)], .agg [.lit (.int .u8 0), .lit (.int .u8 0)], .agg [.lit (.int .u8 0), .lit (.int .u8 0)], .agg [.lit (.int .u8 0), .lit (.int .u8 0)], .agg [.lit (.int .u8 0), .lit (.int .u8 0)]]
/-- One of Go's own tables, pinned by name: the form's constant. -/
def laid_unicode_utf8_first : DataW Unit := Go.Pinned.utf8First

/-- 'buchholzlaw01.GroupWindings': WHATEVER THE INPUT: true; the input reads as it did. -/
def groupWindingsSpec : ChangeSpec := { name := "groupWindings", fn := fun _ => fun
  | [d] => { results := [.lit (.bool true)], args := [d] }
  | _ => none }
def groupWindingsRow : OpenClaim := { program := "ytngdhmliohjigaadoor", sum := "70554a221f40daea08804746588cc32d9168dbb09ab07ca7799c1aa4ed23f302", func := "buchholz/buchholzlaw01.GroupWindings", spec := "groupWindings", unfollowed := true, recurses := true, named := ["buchholz/group.patterns", "buchholz/group.limbPhasors", "buchholz/group.hourPhasors", "internal/strconv.uint64pow10", "math/bits.deBruijn32tab", "math/bits.deBruijn64tab"], apart := false, laid := [("math/bits.deBruijn32tab", laid_math_bits_deBruijn32tab), ("math/bits.deBruijn64tab", laid_math_bits_deBruijn64tab), ("internal/strconv.uint64pow10", laid_internal_strconv_uint64pow10), ("buchholz/group.limbPhasors", laid_buchholz_group_limbPhasors), ("buchholz/group.hourPhasors", laid_buchholz_group_hourPhasors), ("buchholz/group.patterns", laid_buchholz_group_patterns)] }
def GroupWindingsSaid : Prop := groupWindingsRow.holds Tryd.pinned (OpenSpec.ofChange groupWindingsSpec)

/-- ITS FALSE NEIGHBOUR: 'it returns false'. Refute it at one input. -/
def groupWindingsWrong : ChangeSpec := { name := "groupWindings", fn := fun _ => fun
  | [d] => { results := [.lit (.bool false)], args := [d] }
  | _ => none }
def GroupWindingsWrongFalsely : Prop := groupWindingsRow.holds Tryd.pinned (OpenSpec.ofChange groupWindingsWrong)

/-- 'buchholzlaw01.GroupBalanced': WHATEVER THE INPUT: true; the input reads as it did. -/
def groupBalancedSpec : ChangeSpec := { name := "groupBalanced", fn := fun _ => fun
  | [d] => { results := [.lit (.bool true)], args := [d] }
  | _ => none }
def groupBalancedRow : OpenClaim := { program := "ytngdhmliohjigaadoor", sum := "70554a221f40daea08804746588cc32d9168dbb09ab07ca7799c1aa4ed23f302", func := "buchholz/buchholzlaw01.GroupBalanced", spec := "groupBalanced", unfollowed := true, recurses := true, named := ["buchholz/group.patterns", "buchholz/group.limbPhasors", "buchholz/group.hourPhasors", "internal/strconv.uint64pow10", "math/bits.deBruijn32tab", "math/bits.deBruijn64tab"], apart := false, laid := [("math/bits.deBruijn32tab", laid_math_bits_deBruijn32tab), ("math/bits.deBruijn64tab", laid_math_bits_deBruijn64tab), ("internal/strconv.uint64pow10", laid_internal_strconv_uint64pow10), ("buchholz/group.limbPhasors", laid_buchholz_group_limbPhasors), ("buchholz/group.hourPhasors", laid_buchholz_group_hourPhasors), ("buchholz/group.patterns", laid_buchholz_group_patterns)] }
def GroupBalancedSaid : Prop := groupBalancedRow.holds Tryd.pinned (OpenSpec.ofChange groupBalancedSpec)

/-- ITS FALSE NEIGHBOUR: 'it returns false'. Refute it at one input. -/
def groupBalancedWrong : ChangeSpec := { name := "groupBalanced", fn := fun _ => fun
  | [d] => { results := [.lit (.bool false)], args := [d] }
  | _ => none }
def GroupBalancedWrongFalsely : Prop := groupBalancedRow.holds Tryd.pinned (OpenSpec.ofChange groupBalancedWrong)

/-- 'buchholzlaw01.GroupLinesOf': WHATEVER THE INPUT: true; the input reads as it did. -/
def groupLinesOfSpec : ChangeSpec := { name := "groupLinesOf", fn := fun _ => fun
  | [d1, d2] => { results := [.lit (.bool true)], args := [d1, d2] }
  | _ => none }
def groupLinesOfRow : OpenClaim := { program := "ytngdhmliohjigaadoor", sum := "70554a221f40daea08804746588cc32d9168dbb09ab07ca7799c1aa4ed23f302", func := "buchholz/buchholzlaw01.GroupLinesOf", spec := "groupLinesOf", unfollowed := true, recurses := true, named := ["buchholz/group.patterns", "buchholz/group.limbPhasors", "buchholz/group.hourPhasors", "internal/strconv.uint64pow10", "math/bits.deBruijn32tab", "math/bits.deBruijn64tab", "buchholz/group.permutations"], apart := false, laid := [("math/bits.deBruijn32tab", laid_math_bits_deBruijn32tab), ("math/bits.deBruijn64tab", laid_math_bits_deBruijn64tab), ("internal/strconv.uint64pow10", laid_internal_strconv_uint64pow10), ("buchholz/group.limbPhasors", laid_buchholz_group_limbPhasors), ("buchholz/group.hourPhasors", laid_buchholz_group_hourPhasors), ("buchholz/group.patterns", laid_buchholz_group_patterns), ("buchholz/group.permutations", laid_buchholz_group_permutations)] }
def GroupLinesOfSaid : Prop := groupLinesOfRow.holds Tryd.pinned (OpenSpec.ofChange groupLinesOfSpec)

/-- ITS FALSE NEIGHBOUR: 'it returns false'. Refute it at one input. -/
def groupLinesOfWrong : ChangeSpec := { name := "groupLinesOf", fn := fun _ => fun
  | [d1, d2] => { results := [.lit (.bool false)], args := [d1, d2] }
  | _ => none }
def GroupLinesOfWrongFalsely : Prop := groupLinesOfRow.holds Tryd.pinned (OpenSpec.ofChange groupLinesOfWrong)

/-- 'buchholzlaw01.GroupRenamed': WHATEVER THE INPUT: true; the input reads as it did. -/
def groupRenamedSpec : ChangeSpec := { name := "groupRenamed", fn := fun _ => fun
  | [d1, d2, d3] => { results := [.lit (.bool true)], args := [d1, d2, d3] }
  | _ => none }
def groupRenamedRow : OpenClaim := { program := "ytngdhmliohjigaadoor", sum := "70554a221f40daea08804746588cc32d9168dbb09ab07ca7799c1aa4ed23f302", func := "buchholz/buchholzlaw01.GroupRenamed", spec := "groupRenamed", unfollowed := true, recurses := true, named := ["buchholz/group.patterns", "buchholz/group.limbPhasors", "buchholz/group.hourPhasors", "internal/strconv.uint64pow10", "math/bits.deBruijn32tab", "math/bits.deBruijn64tab", "buchholz/group.permutations"], apart := false, laid := [("math/bits.deBruijn32tab", laid_math_bits_deBruijn32tab), ("math/bits.deBruijn64tab", laid_math_bits_deBruijn64tab), ("internal/strconv.uint64pow10", laid_internal_strconv_uint64pow10), ("buchholz/group.limbPhasors", laid_buchholz_group_limbPhasors), ("buchholz/group.hourPhasors", laid_buchholz_group_hourPhasors), ("buchholz/group.patterns", laid_buchholz_group_patterns), ("buchholz/group.permutations", laid_buchholz_group_permutations)] }
def GroupRenamedSaid : Prop := groupRenamedRow.holds Tryd.pinned (OpenSpec.ofChange groupRenamedSpec)

/-- ITS FALSE NEIGHBOUR: 'it returns false'. Refute it at one input. -/
def groupRenamedWrong : ChangeSpec := { name := "groupRenamed", fn := fun _ => fun
  | [d1, d2, d3] => { results := [.lit (.bool false)], args := [d1, d2, d3] }
  | _ => none }
def GroupRenamedWrongFalsely : Prop := groupRenamedRow.holds Tryd.pinned (OpenSpec.ofChange groupRenamedWrong)

/-- 'buchholzlaw01.GroupPhasors': WHATEVER THE INPUT: true; the input reads as it did. -/
def groupPhasorsSpec : ChangeSpec := { name := "groupPhasors", fn := fun _ => fun
  | [d1, d2] => { results := [.lit (.bool true)], args := [d1, d2] }
  | _ => none }
def groupPhasorsRow : OpenClaim := { program := "ytngdhmliohjigaadoor", sum := "70554a221f40daea08804746588cc32d9168dbb09ab07ca7799c1aa4ed23f302", func := "buchholz/buchholzlaw01.GroupPhasors", spec := "groupPhasors", unfollowed := true, recurses := true, named := ["buchholz/group.patterns", "buchholz/group.limbPhasors", "buchholz/group.hourPhasors", "internal/strconv.uint64pow10", "math/bits.deBruijn32tab", "math/bits.deBruijn64tab"], apart := false, laid := [("math/bits.deBruijn32tab", laid_math_bits_deBruijn32tab), ("math/bits.deBruijn64tab", laid_math_bits_deBruijn64tab), ("internal/strconv.uint64pow10", laid_internal_strconv_uint64pow10), ("buchholz/group.limbPhasors", laid_buchholz_group_limbPhasors), ("buchholz/group.hourPhasors", laid_buchholz_group_hourPhasors), ("buchholz/group.patterns", laid_buchholz_group_patterns)] }
def GroupPhasorsSaid : Prop := groupPhasorsRow.holds Tryd.pinned (OpenSpec.ofChange groupPhasorsSpec)

/-- ITS FALSE NEIGHBOUR: 'it returns false'. Refute it at one input. -/
def groupPhasorsWrong : ChangeSpec := { name := "groupPhasors", fn := fun _ => fun
  | [d1, d2] => { results := [.lit (.bool false)], args := [d1, d2] }
  | _ => none }
def GroupPhasorsWrongFalsely : Prop := groupPhasorsRow.holds Tryd.pinned (OpenSpec.ofChange groupPhasorsWrong)

/-- 'buchholzlaw01.GroupUnits': WHATEVER THE INPUT: true; the input reads as it did. -/
def groupUnitsSpec : ChangeSpec := { name := "groupUnits", fn := fun _ => fun
  | [d1, d2] => { results := [.lit (.bool true)], args := [d1, d2] }
  | _ => none }
def groupUnitsRow : OpenClaim := { program := "ytngdhmliohjigaadoor", sum := "70554a221f40daea08804746588cc32d9168dbb09ab07ca7799c1aa4ed23f302", func := "buchholz/buchholzlaw01.GroupUnits", spec := "groupUnits", unfollowed := true, recurses := true, named := ["buchholz/group.patterns", "buchholz/group.limbPhasors", "buchholz/group.hourPhasors", "internal/strconv.uint64pow10", "math/bits.deBruijn32tab", "math/bits.deBruijn64tab"], apart := false, laid := [("math/bits.deBruijn32tab", laid_math_bits_deBruijn32tab), ("math/bits.deBruijn64tab", laid_math_bits_deBruijn64tab), ("internal/strconv.uint64pow10", laid_internal_strconv_uint64pow10), ("buchholz/group.limbPhasors", laid_buchholz_group_limbPhasors), ("buchholz/group.hourPhasors", laid_buchholz_group_hourPhasors), ("buchholz/group.patterns", laid_buchholz_group_patterns)] }
def GroupUnitsSaid : Prop := groupUnitsRow.holds Tryd.pinned (OpenSpec.ofChange groupUnitsSpec)

/-- ITS FALSE NEIGHBOUR: 'it returns false'. Refute it at one input. -/
def groupUnitsWrong : ChangeSpec := { name := "groupUnits", fn := fun _ => fun
  | [d1, d2] => { results := [.lit (.bool false)], args := [d1, d2] }
  | _ => none }
def GroupUnitsWrongFalsely : Prop := groupUnitsRow.holds Tryd.pinned (OpenSpec.ofChange groupUnitsWrong)

/-- 'buchholzlaw01.GroupLow': WHATEVER THE INPUT: true; the input reads as it did. -/
def groupLowSpec : ChangeSpec := { name := "groupLow", fn := fun _ => fun
  | [d1, d2, d3] => { results := [.lit (.bool true)], args := [d1, d2, d3] }
  | _ => none }
def groupLowRow : OpenClaim := { program := "ytngdhmliohjigaadoor", sum := "70554a221f40daea08804746588cc32d9168dbb09ab07ca7799c1aa4ed23f302", func := "buchholz/buchholzlaw01.GroupLow", spec := "groupLow", unfollowed := true, recurses := true, named := ["buchholz/group.patterns", "buchholz/group.limbPhasors", "buchholz/group.hourPhasors", "internal/strconv.uint64pow10", "math/bits.deBruijn32tab", "math/bits.deBruijn64tab"], apart := false, laid := [("math/bits.deBruijn32tab", laid_math_bits_deBruijn32tab), ("math/bits.deBruijn64tab", laid_math_bits_deBruijn64tab), ("internal/strconv.uint64pow10", laid_internal_strconv_uint64pow10), ("buchholz/group.limbPhasors", laid_buchholz_group_limbPhasors), ("buchholz/group.hourPhasors", laid_buchholz_group_hourPhasors), ("buchholz/group.patterns", laid_buchholz_group_patterns)] }
def GroupLowSaid : Prop := groupLowRow.holds Tryd.pinned (OpenSpec.ofChange groupLowSpec)

/-- ITS FALSE NEIGHBOUR: 'it returns false'. Refute it at one input. -/
def groupLowWrong : ChangeSpec := { name := "groupLow", fn := fun _ => fun
  | [d1, d2, d3] => { results := [.lit (.bool false)], args := [d1, d2, d3] }
  | _ => none }
def GroupLowWrongFalsely : Prop := groupLowRow.holds Tryd.pinned (OpenSpec.ofChange groupLowWrong)

/-- 'buchholzlaw01.GroupTurns': WHATEVER THE INPUT: true; the input reads as it did. -/
def groupTurnsSpec : ChangeSpec := { name := "groupTurns", fn := fun _ => fun
  | [d1, d2, d3] => { results := [.lit (.bool true)], args := [d1, d2, d3] }
  | _ => none }
def groupTurnsRow : OpenClaim := { program := "ytngdhmliohjigaadoor", sum := "70554a221f40daea08804746588cc32d9168dbb09ab07ca7799c1aa4ed23f302", func := "buchholz/buchholzlaw01.GroupTurns", spec := "groupTurns", unfollowed := true, recurses := true, named := ["buchholz/group.patterns", "buchholz/group.limbPhasors", "buchholz/group.hourPhasors", "internal/strconv.uint64pow10", "math/bits.deBruijn32tab", "math/bits.deBruijn64tab"], apart := false, laid := [("math/bits.deBruijn32tab", laid_math_bits_deBruijn32tab), ("math/bits.deBruijn64tab", laid_math_bits_deBruijn64tab), ("internal/strconv.uint64pow10", laid_internal_strconv_uint64pow10), ("buchholz/group.limbPhasors", laid_buchholz_group_limbPhasors), ("buchholz/group.hourPhasors", laid_buchholz_group_hourPhasors), ("buchholz/group.patterns", laid_buchholz_group_patterns)] }
def GroupTurnsSaid : Prop := groupTurnsRow.holds Tryd.pinned (OpenSpec.ofChange groupTurnsSpec)

/-- ITS FALSE NEIGHBOUR: 'it returns false'. Refute it at one input. -/
def groupTurnsWrong : ChangeSpec := { name := "groupTurns", fn := fun _ => fun
  | [d1, d2, d3] => { results := [.lit (.bool false)], args := [d1, d2, d3] }
  | _ => none }
def GroupTurnsWrongFalsely : Prop := groupTurnsRow.holds Tryd.pinned (OpenSpec.ofChange groupTurnsWrong)

/-- 'buchholzlaw01.GroupRuns': WHATEVER THE INPUT: true; the input reads as it did. -/
def groupRunsSpec : ChangeSpec := { name := "groupRuns", fn := fun _ => fun
  | [d1, d2] => { results := [.lit (.bool true)], args := [d1, d2] }
  | _ => none }
def groupRunsRow : OpenClaim := { program := "ytngdhmliohjigaadoor", sum := "70554a221f40daea08804746588cc32d9168dbb09ab07ca7799c1aa4ed23f302", func := "buchholz/buchholzlaw01.GroupRuns", spec := "groupRuns", unfollowed := true, recurses := true, named := ["buchholz/group.patterns", "buchholz/group.limbPhasors", "buchholz/group.hourPhasors", "internal/strconv.uint64pow10", "math/bits.deBruijn32tab", "math/bits.deBruijn64tab", "buchholz/group.permutations"], apart := false, laid := [("math/bits.deBruijn32tab", laid_math_bits_deBruijn32tab), ("math/bits.deBruijn64tab", laid_math_bits_deBruijn64tab), ("internal/strconv.uint64pow10", laid_internal_strconv_uint64pow10), ("buchholz/group.limbPhasors", laid_buchholz_group_limbPhasors), ("buchholz/group.hourPhasors", laid_buchholz_group_hourPhasors), ("buchholz/group.patterns", laid_buchholz_group_patterns), ("buchholz/group.permutations", laid_buchholz_group_permutations)] }
def GroupRunsSaid : Prop := groupRunsRow.holds Tryd.pinned (OpenSpec.ofChange groupRunsSpec)

/-- ITS FALSE NEIGHBOUR: 'it returns false'. Refute it at one input. -/
def groupRunsWrong : ChangeSpec := { name := "groupRuns", fn := fun _ => fun
  | [d1, d2] => { results := [.lit (.bool false)], args := [d1, d2] }
  | _ => none }
def GroupRunsWrongFalsely : Prop := groupRunsRow.holds Tryd.pinned (OpenSpec.ofChange groupRunsWrong)

/-- 'buchholzlaw01.GroupMatched': WHATEVER THE INPUT: true; the input reads as it did. -/
def groupMatchedSpec : ChangeSpec := { name := "groupMatched", fn := fun _ => fun
  | [d1, d2] => { results := [.lit (.bool true)], args := [d1, d2] }
  | _ => none }
def groupMatchedRow : OpenClaim := { program := "ytngdhmliohjigaadoor", sum := "70554a221f40daea08804746588cc32d9168dbb09ab07ca7799c1aa4ed23f302", func := "buchholz/buchholzlaw01.GroupMatched", spec := "groupMatched", unfollowed := true, recurses := true, named := ["buchholz/group.patterns", "buchholz/group.limbPhasors", "buchholz/group.hourPhasors", "internal/strconv.uint64pow10", "math/bits.deBruijn32tab", "math/bits.deBruijn64tab", "buchholz/group.permutations"], apart := false, laid := [("math/bits.deBruijn32tab", laid_math_bits_deBruijn32tab), ("math/bits.deBruijn64tab", laid_math_bits_deBruijn64tab), ("internal/strconv.uint64pow10", laid_internal_strconv_uint64pow10), ("buchholz/group.limbPhasors", laid_buchholz_group_limbPhasors), ("buchholz/group.hourPhasors", laid_buchholz_group_hourPhasors), ("buchholz/group.patterns", laid_buchholz_group_patterns), ("buchholz/group.permutations", laid_buchholz_group_permutations)] }
def GroupMatchedSaid : Prop := groupMatchedRow.holds Tryd.pinned (OpenSpec.ofChange groupMatchedSpec)

/-- ITS FALSE NEIGHBOUR: 'it returns false'. Refute it at one input. -/
def groupMatchedWrong : ChangeSpec := { name := "groupMatched", fn := fun _ => fun
  | [d1, d2] => { results := [.lit (.bool false)], args := [d1, d2] }
  | _ => none }
def GroupMatchedWrongFalsely : Prop := groupMatchedRow.holds Tryd.pinned (OpenSpec.ofChange groupMatchedWrong)

/-- 'buchholzlaw01.GroupCurrents': WHATEVER THE INPUT: true; the input reads as it did. -/
def groupCurrentsSpec : ChangeSpec := { name := "groupCurrents", fn := fun _ => fun
  | [d1, d2] => { results := [.lit (.bool true)], args := [d1, d2] }
  | _ => none }
def groupCurrentsRow : OpenClaim := { program := "ytngdhmliohjigaadoor", sum := "70554a221f40daea08804746588cc32d9168dbb09ab07ca7799c1aa4ed23f302", func := "buchholz/buchholzlaw01.GroupCurrents", spec := "groupCurrents", unfollowed := true, recurses := true, named := ["buchholz/group.patterns", "buchholz/group.limbPhasors", "buchholz/group.hourPhasors", "internal/strconv.uint64pow10", "math/bits.deBruijn32tab", "math/bits.deBruijn64tab"], apart := false, laid := [("math/bits.deBruijn32tab", laid_math_bits_deBruijn32tab), ("math/bits.deBruijn64tab", laid_math_bits_deBruijn64tab), ("internal/strconv.uint64pow10", laid_internal_strconv_uint64pow10), ("buchholz/group.limbPhasors", laid_buchholz_group_limbPhasors), ("buchholz/group.hourPhasors", laid_buchholz_group_hourPhasors), ("buchholz/group.patterns", laid_buchholz_group_patterns)] }
def GroupCurrentsSaid : Prop := groupCurrentsRow.holds Tryd.pinned (OpenSpec.ofChange groupCurrentsSpec)

/-- ITS FALSE NEIGHBOUR: 'it returns false'. Refute it at one input. -/
def groupCurrentsWrong : ChangeSpec := { name := "groupCurrents", fn := fun _ => fun
  | [d1, d2] => { results := [.lit (.bool false)], args := [d1, d2] }
  | _ => none }
def GroupCurrentsWrongFalsely : Prop := groupCurrentsRow.holds Tryd.pinned (OpenSpec.ofChange groupCurrentsWrong)

/-- 'buchholzlaw01.GroupShares': WHATEVER THE INPUT: true; the input reads as it did. -/
def groupSharesSpec : ChangeSpec := { name := "groupShares", fn := fun _ => fun
  | [d1, d2] => { results := [.lit (.bool true)], args := [d1, d2] }
  | _ => none }
def groupSharesRow : OpenClaim := { program := "ytngdhmliohjigaadoor", sum := "70554a221f40daea08804746588cc32d9168dbb09ab07ca7799c1aa4ed23f302", func := "buchholz/buchholzlaw01.GroupShares", spec := "groupShares", unfollowed := true, recurses := true, named := ["buchholz/group.patterns", "buchholz/group.limbPhasors", "buchholz/group.hourPhasors", "internal/strconv.uint64pow10", "math/bits.deBruijn32tab", "math/bits.deBruijn64tab"], apart := false, laid := [("math/bits.deBruijn32tab", laid_math_bits_deBruijn32tab), ("math/bits.deBruijn64tab", laid_math_bits_deBruijn64tab), ("internal/strconv.uint64pow10", laid_internal_strconv_uint64pow10), ("buchholz/group.limbPhasors", laid_buchholz_group_limbPhasors), ("buchholz/group.hourPhasors", laid_buchholz_group_hourPhasors), ("buchholz/group.patterns", laid_buchholz_group_patterns)] }
def GroupSharesSaid : Prop := groupSharesRow.holds Tryd.pinned (OpenSpec.ofChange groupSharesSpec)

/-- ITS FALSE NEIGHBOUR: 'it returns false'. Refute it at one input. -/
def groupSharesWrong : ChangeSpec := { name := "groupShares", fn := fun _ => fun
  | [d1, d2] => { results := [.lit (.bool false)], args := [d1, d2] }
  | _ => none }
def GroupSharesWrongFalsely : Prop := groupSharesRow.holds Tryd.pinned (OpenSpec.ofChange groupSharesWrong)

/-- 'buchholzlaw01.GroupStrings': WHATEVER THE INPUT: true; the input reads as it did. -/
def groupStringsSpec : ChangeSpec := { name := "groupStrings", fn := fun _ => fun
  | [d1, d2] => { results := [.lit (.bool true)], args := [d1, d2] }
  | _ => none }
def groupStringsRow : OpenClaim := { program := "ytngdhmliohjigaadoor", sum := "70554a221f40daea08804746588cc32d9168dbb09ab07ca7799c1aa4ed23f302", func := "buchholz/buchholzlaw01.GroupStrings", spec := "groupStrings", inPlace := ["internal/bytealg.CountString", "internal/bytealg.IndexByteString", "internal/bytealg.IndexString"], unfollowed := true, recurses := true, named := ["buchholz/group.patterns", "buchholz/group.limbPhasors", "buchholz/group.hourPhasors", "internal/strconv.uint64pow10", "math/bits.deBruijn32tab", "math/bits.deBruijn64tab", "unicode/utf8.first", "unicode/utf8.acceptRanges", "internal/bytealg.MaxLen"], apart := false, laid := [("math/bits.deBruijn32tab", laid_math_bits_deBruijn32tab), ("math/bits.deBruijn64tab", laid_math_bits_deBruijn64tab), ("internal/strconv.uint64pow10", laid_internal_strconv_uint64pow10), ("unicode/utf8.acceptRanges", laid_unicode_utf8_acceptRanges), ("buchholz/group.limbPhasors", laid_buchholz_group_limbPhasors), ("buchholz/group.hourPhasors", laid_buchholz_group_hourPhasors), ("buchholz/group.patterns", laid_buchholz_group_patterns), ("unicode/utf8.first", laid_unicode_utf8_first)] }
def GroupStringsSaid : Prop := groupStringsRow.holds Tryd.pinned (OpenSpec.ofChange groupStringsSpec)

/-- ITS FALSE NEIGHBOUR: 'it returns false'. Refute it at one input. -/
def groupStringsWrong : ChangeSpec := { name := "groupStrings", fn := fun _ => fun
  | [d1, d2] => { results := [.lit (.bool false)], args := [d1, d2] }
  | _ => none }
def GroupStringsWrongFalsely : Prop := groupStringsRow.holds Tryd.pinned (OpenSpec.ofChange groupStringsWrong)

/- THE SECOND FORM. 'bulk': how many values and letters a reading holds, each counted each time it is reached (what is shared counts as often as it is met; a slice's spare places count too). A statement '..UptoSaid' is the law's where the arguments, and the package variables that the reading takes, are together of bulk at most 1048576: NARROWER than '..Said'. Prove '..Said' where nothing that the law and all that it calls make is longer than what came in: it says more and counts as full. Else prove '..UptoSaid'. A law counts once. -/
mutual
def uptoBulk {H : Type} : DataW H → Nat
  | .lit (.string bytes) => bytes.length + 1
  | .lit _ => 1
  | .nil => 1
  | .ptr d => uptoBulk d + 1
  | .slice elems spare => uptoBulkAll elems + uptoBulkAll spare + 1
  | .agg parts => uptoBulkAll parts + 1
  | .iface _ d => uptoBulk d + 1
  | .map entries => uptoBulkEntries entries + 1
  | .held _ => 1
def uptoBulkAll {H : Type} : List (DataW H) → Nat
  | [] => 0
  | d :: r => uptoBulk d + uptoBulkAll r
def uptoBulkEntries {H : Type} : List (Lit × DataW H) → Nat
  | [] => 0
  | x :: r => uptoBulkEntry x + uptoBulkEntries r
def uptoBulkEntry {H : Type} : Lit × DataW H → Nat
  | (.string bytes, d) => bytes.length + uptoBulk d + 1
  | (_, d) => uptoBulk d + 1
 end
def uptoSmall : (H : Type) → List (DataW H) → Bool := fun _ ds => decide (uptoBulkAll ds ≤ 1048576)
def OpenSpec.upto (s : _root_.Go.ChangeSpec) : _root_.Go.OpenSpec := { _root_.Go.OpenSpec.ofChange s with cond := some uptoSmall }

/-- 'buchholzlaw01.GroupWindings', WHERE WHAT IT READS IS OF BULK AT MOST 1048576: true; the input reads as it did. -/
def groupWindingsUptoRow : OpenClaim := { program := "ytngdhmliohjigaadoor", sum := "70554a221f40daea08804746588cc32d9168dbb09ab07ca7799c1aa4ed23f302", func := "buchholz/buchholzlaw01.GroupWindings", spec := "groupWindings", unfollowed := true, recurses := true, named := ["buchholz/group.patterns", "buchholz/group.limbPhasors", "buchholz/group.hourPhasors", "internal/strconv.uint64pow10", "math/bits.deBruijn32tab", "math/bits.deBruijn64tab"], apart := false, laid := [("math/bits.deBruijn32tab", laid_math_bits_deBruijn32tab), ("math/bits.deBruijn64tab", laid_math_bits_deBruijn64tab), ("internal/strconv.uint64pow10", laid_internal_strconv_uint64pow10), ("buchholz/group.limbPhasors", laid_buchholz_group_limbPhasors), ("buchholz/group.hourPhasors", laid_buchholz_group_hourPhasors), ("buchholz/group.patterns", laid_buchholz_group_patterns)], narrowed := true }
def GroupWindingsUptoSaid : Prop := groupWindingsUptoRow.holds Tryd.pinned (OpenSpec.upto groupWindingsSpec)

/-- 'buchholzlaw01.GroupBalanced', WHERE WHAT IT READS IS OF BULK AT MOST 1048576: true; the input reads as it did. -/
def groupBalancedUptoRow : OpenClaim := { program := "ytngdhmliohjigaadoor", sum := "70554a221f40daea08804746588cc32d9168dbb09ab07ca7799c1aa4ed23f302", func := "buchholz/buchholzlaw01.GroupBalanced", spec := "groupBalanced", unfollowed := true, recurses := true, named := ["buchholz/group.patterns", "buchholz/group.limbPhasors", "buchholz/group.hourPhasors", "internal/strconv.uint64pow10", "math/bits.deBruijn32tab", "math/bits.deBruijn64tab"], apart := false, laid := [("math/bits.deBruijn32tab", laid_math_bits_deBruijn32tab), ("math/bits.deBruijn64tab", laid_math_bits_deBruijn64tab), ("internal/strconv.uint64pow10", laid_internal_strconv_uint64pow10), ("buchholz/group.limbPhasors", laid_buchholz_group_limbPhasors), ("buchholz/group.hourPhasors", laid_buchholz_group_hourPhasors), ("buchholz/group.patterns", laid_buchholz_group_patterns)], narrowed := true }
def GroupBalancedUptoSaid : Prop := groupBalancedUptoRow.holds Tryd.pinned (OpenSpec.upto groupBalancedSpec)

/-- 'buchholzlaw01.GroupLinesOf', WHERE WHAT IT READS IS OF BULK AT MOST 1048576: true; the input reads as it did. -/
def groupLinesOfUptoRow : OpenClaim := { program := "ytngdhmliohjigaadoor", sum := "70554a221f40daea08804746588cc32d9168dbb09ab07ca7799c1aa4ed23f302", func := "buchholz/buchholzlaw01.GroupLinesOf", spec := "groupLinesOf", unfollowed := true, recurses := true, named := ["buchholz/group.patterns", "buchholz/group.limbPhasors", "buchholz/group.hourPhasors", "internal/strconv.uint64pow10", "math/bits.deBruijn32tab", "math/bits.deBruijn64tab", "buchholz/group.permutations"], apart := false, laid := [("math/bits.deBruijn32tab", laid_math_bits_deBruijn32tab), ("math/bits.deBruijn64tab", laid_math_bits_deBruijn64tab), ("internal/strconv.uint64pow10", laid_internal_strconv_uint64pow10), ("buchholz/group.limbPhasors", laid_buchholz_group_limbPhasors), ("buchholz/group.hourPhasors", laid_buchholz_group_hourPhasors), ("buchholz/group.patterns", laid_buchholz_group_patterns), ("buchholz/group.permutations", laid_buchholz_group_permutations)], narrowed := true }
def GroupLinesOfUptoSaid : Prop := groupLinesOfUptoRow.holds Tryd.pinned (OpenSpec.upto groupLinesOfSpec)

/-- 'buchholzlaw01.GroupRenamed', WHERE WHAT IT READS IS OF BULK AT MOST 1048576: true; the input reads as it did. -/
def groupRenamedUptoRow : OpenClaim := { program := "ytngdhmliohjigaadoor", sum := "70554a221f40daea08804746588cc32d9168dbb09ab07ca7799c1aa4ed23f302", func := "buchholz/buchholzlaw01.GroupRenamed", spec := "groupRenamed", unfollowed := true, recurses := true, named := ["buchholz/group.patterns", "buchholz/group.limbPhasors", "buchholz/group.hourPhasors", "internal/strconv.uint64pow10", "math/bits.deBruijn32tab", "math/bits.deBruijn64tab", "buchholz/group.permutations"], apart := false, laid := [("math/bits.deBruijn32tab", laid_math_bits_deBruijn32tab), ("math/bits.deBruijn64tab", laid_math_bits_deBruijn64tab), ("internal/strconv.uint64pow10", laid_internal_strconv_uint64pow10), ("buchholz/group.limbPhasors", laid_buchholz_group_limbPhasors), ("buchholz/group.hourPhasors", laid_buchholz_group_hourPhasors), ("buchholz/group.patterns", laid_buchholz_group_patterns), ("buchholz/group.permutations", laid_buchholz_group_permutations)], narrowed := true }
def GroupRenamedUptoSaid : Prop := groupRenamedUptoRow.holds Tryd.pinned (OpenSpec.upto groupRenamedSpec)

/-- 'buchholzlaw01.GroupPhasors', WHERE WHAT IT READS IS OF BULK AT MOST 1048576: true; the input reads as it did. -/
def groupPhasorsUptoRow : OpenClaim := { program := "ytngdhmliohjigaadoor", sum := "70554a221f40daea08804746588cc32d9168dbb09ab07ca7799c1aa4ed23f302", func := "buchholz/buchholzlaw01.GroupPhasors", spec := "groupPhasors", unfollowed := true, recurses := true, named := ["buchholz/group.patterns", "buchholz/group.limbPhasors", "buchholz/group.hourPhasors", "internal/strconv.uint64pow10", "math/bits.deBruijn32tab", "math/bits.deBruijn64tab"], apart := false, laid := [("math/bits.deBruijn32tab", laid_math_bits_deBruijn32tab), ("math/bits.deBruijn64tab", laid_math_bits_deBruijn64tab), ("internal/strconv.uint64pow10", laid_internal_strconv_uint64pow10), ("buchholz/group.limbPhasors", laid_buchholz_group_limbPhasors), ("buchholz/group.hourPhasors", laid_buchholz_group_hourPhasors), ("buchholz/group.patterns", laid_buchholz_group_patterns)], narrowed := true }
def GroupPhasorsUptoSaid : Prop := groupPhasorsUptoRow.holds Tryd.pinned (OpenSpec.upto groupPhasorsSpec)

/-- 'buchholzlaw01.GroupUnits', WHERE WHAT IT READS IS OF BULK AT MOST 1048576: true; the input reads as it did. -/
def groupUnitsUptoRow : OpenClaim := { program := "ytngdhmliohjigaadoor", sum := "70554a221f40daea08804746588cc32d9168dbb09ab07ca7799c1aa4ed23f302", func := "buchholz/buchholzlaw01.GroupUnits", spec := "groupUnits", unfollowed := true, recurses := true, named := ["buchholz/group.patterns", "buchholz/group.limbPhasors", "buchholz/group.hourPhasors", "internal/strconv.uint64pow10", "math/bits.deBruijn32tab", "math/bits.deBruijn64tab"], apart := false, laid := [("math/bits.deBruijn32tab", laid_math_bits_deBruijn32tab), ("math/bits.deBruijn64tab", laid_math_bits_deBruijn64tab), ("internal/strconv.uint64pow10", laid_internal_strconv_uint64pow10), ("buchholz/group.limbPhasors", laid_buchholz_group_limbPhasors), ("buchholz/group.hourPhasors", laid_buchholz_group_hourPhasors), ("buchholz/group.patterns", laid_buchholz_group_patterns)], narrowed := true }
def GroupUnitsUptoSaid : Prop := groupUnitsUptoRow.holds Tryd.pinned (OpenSpec.upto groupUnitsSpec)

/-- 'buchholzlaw01.GroupLow', WHERE WHAT IT READS IS OF BULK AT MOST 1048576: true; the input reads as it did. -/
def groupLowUptoRow : OpenClaim := { program := "ytngdhmliohjigaadoor", sum := "70554a221f40daea08804746588cc32d9168dbb09ab07ca7799c1aa4ed23f302", func := "buchholz/buchholzlaw01.GroupLow", spec := "groupLow", unfollowed := true, recurses := true, named := ["buchholz/group.patterns", "buchholz/group.limbPhasors", "buchholz/group.hourPhasors", "internal/strconv.uint64pow10", "math/bits.deBruijn32tab", "math/bits.deBruijn64tab"], apart := false, laid := [("math/bits.deBruijn32tab", laid_math_bits_deBruijn32tab), ("math/bits.deBruijn64tab", laid_math_bits_deBruijn64tab), ("internal/strconv.uint64pow10", laid_internal_strconv_uint64pow10), ("buchholz/group.limbPhasors", laid_buchholz_group_limbPhasors), ("buchholz/group.hourPhasors", laid_buchholz_group_hourPhasors), ("buchholz/group.patterns", laid_buchholz_group_patterns)], narrowed := true }
def GroupLowUptoSaid : Prop := groupLowUptoRow.holds Tryd.pinned (OpenSpec.upto groupLowSpec)

/-- 'buchholzlaw01.GroupTurns', WHERE WHAT IT READS IS OF BULK AT MOST 1048576: true; the input reads as it did. -/
def groupTurnsUptoRow : OpenClaim := { program := "ytngdhmliohjigaadoor", sum := "70554a221f40daea08804746588cc32d9168dbb09ab07ca7799c1aa4ed23f302", func := "buchholz/buchholzlaw01.GroupTurns", spec := "groupTurns", unfollowed := true, recurses := true, named := ["buchholz/group.patterns", "buchholz/group.limbPhasors", "buchholz/group.hourPhasors", "internal/strconv.uint64pow10", "math/bits.deBruijn32tab", "math/bits.deBruijn64tab"], apart := false, laid := [("math/bits.deBruijn32tab", laid_math_bits_deBruijn32tab), ("math/bits.deBruijn64tab", laid_math_bits_deBruijn64tab), ("internal/strconv.uint64pow10", laid_internal_strconv_uint64pow10), ("buchholz/group.limbPhasors", laid_buchholz_group_limbPhasors), ("buchholz/group.hourPhasors", laid_buchholz_group_hourPhasors), ("buchholz/group.patterns", laid_buchholz_group_patterns)], narrowed := true }
def GroupTurnsUptoSaid : Prop := groupTurnsUptoRow.holds Tryd.pinned (OpenSpec.upto groupTurnsSpec)

/-- 'buchholzlaw01.GroupRuns', WHERE WHAT IT READS IS OF BULK AT MOST 1048576: true; the input reads as it did. -/
def groupRunsUptoRow : OpenClaim := { program := "ytngdhmliohjigaadoor", sum := "70554a221f40daea08804746588cc32d9168dbb09ab07ca7799c1aa4ed23f302", func := "buchholz/buchholzlaw01.GroupRuns", spec := "groupRuns", unfollowed := true, recurses := true, named := ["buchholz/group.patterns", "buchholz/group.limbPhasors", "buchholz/group.hourPhasors", "internal/strconv.uint64pow10", "math/bits.deBruijn32tab", "math/bits.deBruijn64tab", "buchholz/group.permutations"], apart := false, laid := [("math/bits.deBruijn32tab", laid_math_bits_deBruijn32tab), ("math/bits.deBruijn64tab", laid_math_bits_deBruijn64tab), ("internal/strconv.uint64pow10", laid_internal_strconv_uint64pow10), ("buchholz/group.limbPhasors", laid_buchholz_group_limbPhasors), ("buchholz/group.hourPhasors", laid_buchholz_group_hourPhasors), ("buchholz/group.patterns", laid_buchholz_group_patterns), ("buchholz/group.permutations", laid_buchholz_group_permutations)], narrowed := true }
def GroupRunsUptoSaid : Prop := groupRunsUptoRow.holds Tryd.pinned (OpenSpec.upto groupRunsSpec)

/-- 'buchholzlaw01.GroupMatched', WHERE WHAT IT READS IS OF BULK AT MOST 1048576: true; the input reads as it did. -/
def groupMatchedUptoRow : OpenClaim := { program := "ytngdhmliohjigaadoor", sum := "70554a221f40daea08804746588cc32d9168dbb09ab07ca7799c1aa4ed23f302", func := "buchholz/buchholzlaw01.GroupMatched", spec := "groupMatched", unfollowed := true, recurses := true, named := ["buchholz/group.patterns", "buchholz/group.limbPhasors", "buchholz/group.hourPhasors", "internal/strconv.uint64pow10", "math/bits.deBruijn32tab", "math/bits.deBruijn64tab", "buchholz/group.permutations"], apart := false, laid := [("math/bits.deBruijn32tab", laid_math_bits_deBruijn32tab), ("math/bits.deBruijn64tab", laid_math_bits_deBruijn64tab), ("internal/strconv.uint64pow10", laid_internal_strconv_uint64pow10), ("buchholz/group.limbPhasors", laid_buchholz_group_limbPhasors), ("buchholz/group.hourPhasors", laid_buchholz_group_hourPhasors), ("buchholz/group.patterns", laid_buchholz_group_patterns), ("buchholz/group.permutations", laid_buchholz_group_permutations)], narrowed := true }
def GroupMatchedUptoSaid : Prop := groupMatchedUptoRow.holds Tryd.pinned (OpenSpec.upto groupMatchedSpec)

/-- 'buchholzlaw01.GroupCurrents', WHERE WHAT IT READS IS OF BULK AT MOST 1048576: true; the input reads as it did. -/
def groupCurrentsUptoRow : OpenClaim := { program := "ytngdhmliohjigaadoor", sum := "70554a221f40daea08804746588cc32d9168dbb09ab07ca7799c1aa4ed23f302", func := "buchholz/buchholzlaw01.GroupCurrents", spec := "groupCurrents", unfollowed := true, recurses := true, named := ["buchholz/group.patterns", "buchholz/group.limbPhasors", "buchholz/group.hourPhasors", "internal/strconv.uint64pow10", "math/bits.deBruijn32tab", "math/bits.deBruijn64tab"], apart := false, laid := [("math/bits.deBruijn32tab", laid_math_bits_deBruijn32tab), ("math/bits.deBruijn64tab", laid_math_bits_deBruijn64tab), ("internal/strconv.uint64pow10", laid_internal_strconv_uint64pow10), ("buchholz/group.limbPhasors", laid_buchholz_group_limbPhasors), ("buchholz/group.hourPhasors", laid_buchholz_group_hourPhasors), ("buchholz/group.patterns", laid_buchholz_group_patterns)], narrowed := true }
def GroupCurrentsUptoSaid : Prop := groupCurrentsUptoRow.holds Tryd.pinned (OpenSpec.upto groupCurrentsSpec)

/-- 'buchholzlaw01.GroupShares', WHERE WHAT IT READS IS OF BULK AT MOST 1048576: true; the input reads as it did. -/
def groupSharesUptoRow : OpenClaim := { program := "ytngdhmliohjigaadoor", sum := "70554a221f40daea08804746588cc32d9168dbb09ab07ca7799c1aa4ed23f302", func := "buchholz/buchholzlaw01.GroupShares", spec := "groupShares", unfollowed := true, recurses := true, named := ["buchholz/group.patterns", "buchholz/group.limbPhasors", "buchholz/group.hourPhasors", "internal/strconv.uint64pow10", "math/bits.deBruijn32tab", "math/bits.deBruijn64tab"], apart := false, laid := [("math/bits.deBruijn32tab", laid_math_bits_deBruijn32tab), ("math/bits.deBruijn64tab", laid_math_bits_deBruijn64tab), ("internal/strconv.uint64pow10", laid_internal_strconv_uint64pow10), ("buchholz/group.limbPhasors", laid_buchholz_group_limbPhasors), ("buchholz/group.hourPhasors", laid_buchholz_group_hourPhasors), ("buchholz/group.patterns", laid_buchholz_group_patterns)], narrowed := true }
def GroupSharesUptoSaid : Prop := groupSharesUptoRow.holds Tryd.pinned (OpenSpec.upto groupSharesSpec)

/-- 'buchholzlaw01.GroupStrings', WHERE WHAT IT READS IS OF BULK AT MOST 1048576: true; the input reads as it did. -/
def groupStringsUptoRow : OpenClaim := { program := "ytngdhmliohjigaadoor", sum := "70554a221f40daea08804746588cc32d9168dbb09ab07ca7799c1aa4ed23f302", func := "buchholz/buchholzlaw01.GroupStrings", spec := "groupStrings", inPlace := ["internal/bytealg.CountString", "internal/bytealg.IndexByteString", "internal/bytealg.IndexString"], unfollowed := true, recurses := true, named := ["buchholz/group.patterns", "buchholz/group.limbPhasors", "buchholz/group.hourPhasors", "internal/strconv.uint64pow10", "math/bits.deBruijn32tab", "math/bits.deBruijn64tab", "unicode/utf8.first", "unicode/utf8.acceptRanges", "internal/bytealg.MaxLen"], apart := false, laid := [("math/bits.deBruijn32tab", laid_math_bits_deBruijn32tab), ("math/bits.deBruijn64tab", laid_math_bits_deBruijn64tab), ("internal/strconv.uint64pow10", laid_internal_strconv_uint64pow10), ("unicode/utf8.acceptRanges", laid_unicode_utf8_acceptRanges), ("buchholz/group.limbPhasors", laid_buchholz_group_limbPhasors), ("buchholz/group.hourPhasors", laid_buchholz_group_hourPhasors), ("buchholz/group.patterns", laid_buchholz_group_patterns), ("unicode/utf8.first", laid_unicode_utf8_first)], narrowed := true }
def GroupStringsUptoSaid : Prop := groupStringsUptoRow.holds Tryd.pinned (OpenSpec.upto groupStringsSpec)

end Rows
end Go.Proofs.YtngdhmliohjigaaDoor
