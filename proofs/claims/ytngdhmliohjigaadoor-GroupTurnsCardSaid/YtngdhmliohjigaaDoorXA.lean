/- THE GROUP OF TURNS: for any three turns the law's walk answers true. -/
import Derived.Test.YtngdhmliohjigaaDoorX
import Derived.Test.YtngdhmliohjigaaDoorX3
import Derived.Test.YtngdhmliohjigaaDoorX4
namespace Go.Proofs.YtngdhmliohjigaaDoor
open Go.RowKit


theorem turns_any (ha hb hc : Int) (ma mb mc : Bool) (w : World) (ht : Tabs w) :
    Calls Tryd.prog 10 #[.agg #[.int .i64 ha, .bool ma], .agg #[.int .i64 hb, .bool mb], .agg #[.int .i64 hc, .bool mc]] w fun e w' => e = .returned (.bool true) ∧ Below w.heap.size w w' := by
  by_cases va : 0 ≤ ha ∧ ha ≤ 11
  case neg =>
    exact turns1 ha hb hc ma mb mc w ht va
  obtain ⟨a0, a1⟩ := va
  have ea := outErr_ok ha a0 a1
  obtain ⟨i0, i1⟩ := invH_bd ha ma a0 a1
  obtain ⟨n1, -, n2⟩ := ordV_bd ha ma
  have KI := fun w => inverse_all ha ma w a0 a1
  have KO := fun w => order_all ha ma w a0 a1
  have KEa := fun w => rturnErr_any ha ma w
  rw [ea] at KEa
  have KRi := fun w => rinverse_any ha ma w a0 a1
  have KRo := fun w => rorder_all ha ma w a0 a1
  have KY := fun w => composed_ok ha (invH ha ma) ma ma w a0 a1 i0 i1
  rw [then_inv, Bool.xor_self] at KY
  have KZ := fun w => composed_ok (invH ha ma) ha ma ma w i0 i1 a0 a1
  rw [inv_then, Bool.xor_self] at KZ
  by_cases vb : 0 ≤ hb ∧ hb ≤ 11
  case neg =>
    have eb := outErr_no hb vb
    have ef : fst2 0 2 = 2 := by decide
    have KX := fun w => composed_err ha hb ma mb w (by rw [ea, eb]; decide)
    rw [ea, eb, ef] at KX
    have KEb := fun w => rturnErr_any hb mb w
    rw [eb] at KEb
    exact turns2 ha hb hc ma mb mc _ _ w ht n1 n2 (Lib.hid KI) (Lib.hid KO) (Lib.hid KEa) (Lib.hid KRi) (Lib.hid KRo) (Lib.hid KY) (Lib.hid KZ) (Lib.hid KX) (Lib.hid KEb)
  obtain ⟨b0, b1⟩ := vb
  have eb := outErr_ok hb b0 b1
  have KX := fun w => composed_ok ha hb ma mb w a0 a1 b0 b1
  have KR := fun w => rcomposed_any ha hb ma mb w a0 a1 b0 b1
  obtain ⟨x0, x1⟩ := thenH_bd ha hb mb
  have KEb := fun w => rturnErr_any hb mb w
  rw [eb] at KEb
  by_cases vc : 0 ≤ hc ∧ hc ≤ 11
  case neg =>
    have ec := outErr_no hc vc
    have KEc := fun w => rturnErr_any hc mc w
    rw [ec] at KEc
    exact turns3 ha hb hc ma mb mc _ _ _ _ w ht n1 n2 (Lib.hid KI) (Lib.hid KO) (Lib.hid KEa) (Lib.hid KRi) (Lib.hid KRo) (Lib.hid KY) (Lib.hid KZ) (Lib.hid KX) (Lib.hid KEb) (Lib.hid KR) (Lib.hid KEc)
  obtain ⟨c0, c1⟩ := vc
  have ec := outErr_ok hc c0 c1
  have KEc := fun w => rturnErr_any hc mc w
  rw [ec] at KEc
  obtain ⟨o0, o1⟩ := thenH_bd hb hc mc
  have KL := fun w => composed_ok (thenH ha hb mb) hc (ma ^^ mb) mc w x0 x1 c0 c1
  have KB := fun w => composed_ok hb hc mb mc w b0 b1 c0 c1
  have KEo := fun w => rturnErr_any (thenH hb hc mc) (mb ^^ mc) w
  rw [outErr_ok _ o0 o1] at KEo
  have KQ := fun w => composed_ok ha (thenH hb hc mc) ma (mb ^^ mc) w a0 a1 o0 o1
  rw [← then_assoc, ← Bool.xor_assoc] at KQ
  exact turns4 ha hb hc ma mb mc _ _ _ _ _ _ _ _ w ht n1 n2 (Lib.hid KI) (Lib.hid KO) (Lib.hid KEa) (Lib.hid KRi) (Lib.hid KRo) (Lib.hid KY) (Lib.hid KZ) (Lib.hid KX) (Lib.hid KEb) (Lib.hid KR) (Lib.hid KEc) (Lib.hid KL) (Lib.hid KB) (Lib.hid KEo) (Lib.hid KQ)
end Go.Proofs.YtngdhmliohjigaaDoor
