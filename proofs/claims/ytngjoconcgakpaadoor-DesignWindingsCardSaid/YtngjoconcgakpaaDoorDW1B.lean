/- windings: rounding up; the law where the winding is refused -/
import Derived.Test.YtngjoconcgakpaaDoorDX
set_option linter.unusedVariables false
set_option linter.unusedSimpArgs false
set_option linter.unusedSectionVars false
set_option linter.unnecessarySimpa false
namespace Go.Proofs.YtngjoconcgakpaaDoor
open Go.Ev Go.RowKit
set_option maxRecDepth 100000
theorem ce_neg (t n : Int) (hc : allC [(n == 0, false), (n == 0, false), (decide ((IntKind.i64.wrap (0 - t)).tmod n < 0), true)]) (hk : allK []) : Con 56 [.int .i64 t, .int .i64 n] ((Value.int IntKind.i64 (IntKind.i64.wrap (0 - IntKind.i64.wrap (IntKind.i64.wrap ((IntKind.i64.wrap (0 - t)).tdiv n) - 1))))) :=
  con_of (S := [(74, 12)]) (K := []) (n := 4000) (ora := [true]) (res := []) (by kernel_rfl) (by kernel_rfl) hc hk
theorem ce_no (t n : Int) (hc : allC [(n == 0, false), (n == 0, false), (decide ((IntKind.i64.wrap (0 - t)).tmod n < 0), false)]) (hk : allK []) : Con 56 [.int .i64 t, .int .i64 n] ((Value.int IntKind.i64 (IntKind.i64.wrap (0 - IntKind.i64.wrap ((IntKind.i64.wrap (0 - t)).tdiv n))))) :=
  con_of (S := [(74, 12)]) (K := []) (n := 4000) (ora := [false]) (res := []) (by kernel_rfl) (by kernel_rfl) hc hk
theorem lw_bad (T D C G : Int) (r e : Int) (hc : allC [(e != 0, true), (e != 0, true), (e == e, true), (e == e, true), (e == e, true), (e == e, true), (e == e, true), (e == e, true), (e == e, true), (e == e, true), (e == e, true), (e == e, true), (e == e, true), (e == e, true)]) (hk : allK [Ask.call 7 [] (Value.bool true), Ask.call 53 [Value.agg #[Value.int IntKind.i64 T, Value.int IntKind.i64 D, Value.int IntKind.i64 C, Value.int IntKind.i64 G]] (Value.int IntKind.i64 e), Ask.call 27 [Value.agg #[Value.int IntKind.i64 T, Value.int IntKind.i64 D, Value.int IntKind.i64 C, Value.int IntKind.i64 G]] (Value.tuple #[Value.int IntKind.i64 0, Value.int IntKind.i64 e]), Ask.call 28 [Value.agg #[Value.int IntKind.i64 T, Value.int IntKind.i64 D, Value.int IntKind.i64 C, Value.int IntKind.i64 G], Value.int IntKind.i64 r] (Value.tuple #[Value.int IntKind.i64 0, Value.int IntKind.i64 e]), Ask.call 29 [Value.agg #[Value.int IntKind.i64 T, Value.int IntKind.i64 D, Value.int IntKind.i64 C, Value.int IntKind.i64 G]] (Value.int IntKind.i64 e)]) : Con 6 [.agg #[.int .i64 T, .int .i64 D, .int .i64 C, .int .i64 G], .int .i64 r] ((Value.bool true)) :=
  con_of (S := [(6, 37), (6, 41), (6, 46), (6, 51), (26, 10)]) (K := [7, 27, 28, 29, 53]) (n := 4000) (ora := [true, true, true, true, true, true, true, true, true, true, true, true, true, true]) (res := [.bool true, .int .i64 e, .tuple #[.int .i64 0, .int .i64 e], .tuple #[.int .i64 0, .int .i64 e], .int .i64 e]) (by kernel_rfl) (by kernel_rfl) hc hk
end Go.Proofs.YtngjoconcgakpaaDoor
