/- GroupPhasors: what the walks give, for every argument. -/
import Derived.Test.YtngdhmliohjigaaDoorOW
import Derived.Test.YtngdhmliohjigaaDoorPL
namespace Go.Proofs.YtngdhmliohjigaaDoor.groupPhasors
open Go.ChangeShapes Go.WideShapes Go.ChangeAt Go.RowKit Go.Joins
set_option maxRecDepth 100000 in
/-- WHAT THE WALKS GIVE, FOR EVERY ARGUMENT AND EVERY WORLD THAT HOLDS THE TABLES. -/
theorem contract (H : Type) (enc : TypeId × Value → H) (W : World) (base : Nat) (args : Array Value) (ds gs : List (DataW H)) (before : List MemPlace)
    (hval : ∀ (j : Nat) t v, Tryd.f7.params[j]? = some t → args[j]? = some v → Value.okWide Tryd.prog W .any base t v)
    (hW : DataW.Whole enc Tryd.prog Tryd.f7.params.toList Rows.groupPhasorsSpec.vars false W args.toList ds gs before) (hL : laidMetH Tryd.prog Rows.groupPhasorsRow.laid W) :
    Calls Tryd.prog 7 args W fun e W' => ∃ v, e = .returned v ∧ Rows.groupPhasorsSpec.post enc Tryd.prog Tryd.f7 false true false false W args v W' := by
  have hW' := hW
  obtain ⟨p, q, hA0, hV, rfl, hfz, hnd⟩ := hW
  have hA : DataW.TrodAll enc Tryd.prog W 0 (fun _ => true) true Tryd.f7.params.toList args.toList ds p := hA0
  rw [Tryd.params7] at hA hval
  obtain ⟨v0, vs0, d0, ds0, p0, q0, hargs, rfl, rfl, h0, r0⟩ := trodAll_cons hA
  obtain ⟨v1, vs1, d1, ds1, p1, q1, rfl, rfl, rfl, h1, r1⟩ := trodAll_cons r0
  obtain ⟨rfl, rfl, rfl⟩ := trodAll_nil r1
  obtain rfl : args = #[v0, v1] := by cases args; simp_all
  obtain ⟨rfl, rfl⟩ := trodVars_none hV
  obtain ⟨k0, n0, rfl, rfl, rfl, wk0, wn0⟩ := open_phasor (hval 0 42 v0 rfl rfl) h0
  obtain ⟨k1, n1, rfl, rfl, rfl, wk1, wn1⟩ := open_phasor (hval 1 42 v1 rfl rfl) h1
  clear hA0
  simp only [List.append_nil] at hW'
  refine (phasors_any k0 n0 k1 n1 W (of_laid hL)).mono fun e W' ⟨he, hg⟩ => ?_
  subst he
  have sh : ∀ sp, DataW.TrodAll enc Tryd.prog W' 0 sp true Tryd.f7.params.toList _ _ [] := fun sp => by
    rw [Tryd.params7]
    exact trodAll_cons_mk (shut_phasor W' sp wk0 wn0) (trodAll_cons_mk (shut_phasor W' sp wk1 wn1) trodAll_mk0)
  exact ⟨_, rfl, post_below (pa := []) (pv := []) hW' (fun _ _ _ => trodAll_cons_mk (shut_bool Tryd.underlying4 _) trodAll_mk0) (fun sp _ => sh sp) (fun _ _ => rfl) rfl
    hg (ok_one (by kernel_rfl) rfl (okWide_bool_mk Tryd.underlying4 _))⟩
end Go.Proofs.YtngdhmliohjigaaDoor.groupPhasors
