/- GroupLinesOf: what the walks give, for every argument. -/
import Derived.Test.YtngdhmliohjigaaDoorOL
import Derived.Test.YtngdhmliohjigaaDoorLN
namespace Go.Proofs.YtngdhmliohjigaaDoor.groupLinesOf
open Go.ChangeShapes Go.WideShapes Go.ChangeAt Go.RowKit Go.Joins
set_option maxRecDepth 100000 in
/-- WHAT THE WALKS GIVE, FOR EVERY ARGUMENT AND EVERY WORLD THAT HOLDS THE TABLES. -/
theorem contract (H : Type) (enc : TypeId × Value → H) (W : World) (base : Nat) (args : Array Value) (ds gs : List (DataW H)) (before : List MemPlace)
    (hval : ∀ (j : Nat) t v, Tryd.f5.params[j]? = some t → args[j]? = some v → Value.okWide Tryd.prog W .any base t v)
    (hW : DataW.Whole enc Tryd.prog Tryd.f5.params.toList Rows.groupLinesOfSpec.vars false W args.toList ds gs before) (hL : laidMetH Tryd.prog Rows.groupLinesOfRow.laid W) :
    Calls Tryd.prog 5 args W fun e W' => ∃ v, e = .returned v ∧ Rows.groupLinesOfSpec.post enc Tryd.prog Tryd.f5 false true false false W args v W' := by
  have hW' := hW
  obtain ⟨p, q, hA0, hV, rfl, hfz, hnd⟩ := hW
  have hA : DataW.TrodAll enc Tryd.prog W 0 (fun _ => true) true Tryd.f5.params.toList args.toList ds p := hA0
  rw [Tryd.params5] at hA hval
  obtain ⟨v0, vs0, d0, ds0, p0, q0, hargs, rfl, rfl, h0, r0⟩ := trodAll_cons hA
  obtain ⟨v1, vs1, d1, ds1, p1, q1, rfl, rfl, rfl, h1, r1⟩ := trodAll_cons r0
  obtain ⟨rfl, rfl, rfl⟩ := trodAll_nil r1
  obtain rfl : args = #[v0, v1] := by cases args; simp_all
  obtain ⟨rfl, rfl⟩ := trodVars_none hV
  obtain ⟨a0x0, a0x1, a0x2, a0x3, a0x4, a0x5, a0x6, a0x7, a0x8, rfl, rfl, rfl, wa0x0, wa0x1, wa0x2, wa0x3, wa0x4, wa0x5, wa0x6, wa0x7, wa0x8⟩ := open_lines (hval 0 27 v0 rfl rfl) h0
  obtain ⟨a1x0, a1x1, a1x2, rfl, rfl, rfl, wa1x0, wa1x1, wa1x2⟩ := open_three (hval 1 25 v1 rfl rfl) h1
  clear hA0
  simp only [List.append_nil] at hW'
  refine (lines_law a0x0 a0x1 a0x2 a0x3 a0x4 a0x5 a0x6 a0x7 a0x8 a1x0 a1x1 a1x2 W (of_laidP hL).1 (of_laidP hL).2).mono fun e W' ⟨he, hg⟩ => ?_
  subst he
  have sh : ∀ sp, DataW.TrodAll enc Tryd.prog W' 0 sp true Tryd.f5.params.toList _ _ [] := fun sp => by
    rw [Tryd.params5]
    exact trodAll_cons_mk (shut_lines W' sp wa0x0 wa0x1 wa0x2 wa0x3 wa0x4 wa0x5 wa0x6 wa0x7 wa0x8) (trodAll_cons_mk (shut_three W' sp wa1x0 wa1x1 wa1x2) trodAll_mk0)
  exact ⟨_, rfl, post_below (pa := []) (pv := []) hW' (fun _ _ _ => trodAll_cons_mk (shut_bool Tryd.underlying4 _) trodAll_mk0) (fun sp _ => sh sp) (fun _ _ => rfl) rfl
    hg (ok_one (by kernel_rfl) rfl (okWide_bool_mk Tryd.underlying4 _))⟩
end Go.Proofs.YtngdhmliohjigaaDoor.groupLinesOf
