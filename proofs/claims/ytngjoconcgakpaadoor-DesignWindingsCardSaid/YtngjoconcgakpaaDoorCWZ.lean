/- DesignWindings: what the walks give, for every argument. -/
import Derived.Test.YtngjoconcgakpaaDoorEC
import Derived.Test.YtngjoconcgakpaaDoorDY
import Derived.Test.YtngjoconcgakpaaDoorDW7
set_option linter.unusedVariables false
set_option linter.unusedSimpArgs false
set_option linter.unusedSectionVars false
set_option linter.unnecessarySimpa false
namespace Go.Proofs.YtngjoconcgakpaaDoor.designWindings
open Go.ChangeShapes Go.WideShapes Go.ChangeAt Go.RowKit Go.Joins Go.Ev
set_option maxRecDepth 100000 in
/-- WHAT THE WALKS GIVE, FOR EVERY ARGUMENT AND EVERY WORLD THAT HOLDS THE TABLES. -/
theorem contract (H : Type) (enc : TypeId × Value → H) (W : World) (base : Nat) (args : Array Value) (ds gs : List (DataW H)) (before : List MemPlace)
    (hval : ∀ (j : Nat) t v, Tryd.f6.params[j]? = some t → args[j]? = some v → Value.okWide Tryd.prog W .any base t v)
    (hW : DataW.Whole enc Tryd.prog Tryd.f6.params.toList Rows.designWindingsSpec.vars false W args.toList ds gs before) (hL : laidMetH Tryd.prog Rows.designWindingsRow.laid W) :
    Calls Tryd.prog 6 args W fun e W' => ∃ v, e = .returned v ∧ Rows.designWindingsSpec.post enc Tryd.prog Tryd.f6 false true false false W args v W' := by
  have hW' := hW
  obtain ⟨p, q, hA0, hV, rfl, hfz, hnd⟩ := hW
  have hA : DataW.TrodAll enc Tryd.prog W 0 (fun _ => true) true Tryd.f6.params.toList args.toList ds p := hA0
  rw [Tryd.params6] at hA hval
  obtain ⟨v0, vs0, d0, ds0, p0, q0, hargs, rfl, rfl, h0, r0⟩ := trodAll_cons hA
  obtain ⟨v1, vs1, d1, ds1, p1, q1, rfl, rfl, rfl, h1, r1⟩ := trodAll_cons r0
  obtain ⟨rfl, rfl, rfl⟩ := trodAll_nil r1
  obtain rfl : args = #[v0, v1] := by cases args; simp_all
  obtain ⟨rfl, rfl⟩ := trodVars_none hV
  have g0 := h0
  obtain ⟨cs0, rfl, hh0, rfl⟩ := open_flat (ls := [.int .i64, .int .i64, .int .i64, .int .i64]) 8 (by kernel_rfl) (by kernel_rfl) (by kernel_rfl) (hval 0 58 v0 rfl rfl) h0
  obtain ⟨_, _, rfl, ⟨x0_0, rfl, -⟩, ⟨_, _, rfl, ⟨x0_1, rfl, -⟩, ⟨_, _, rfl, ⟨x0_2, rfl, -⟩, ⟨_, _, rfl, ⟨x0_3, rfl, -⟩, rfl⟩⟩⟩⟩ := hh0
  have g1 := h1
  obtain ⟨x1, rfl, -, rfl, -⟩ := open_int Tryd.underlying3 (hval 1 3 v1 rfl rfl) h1
  clear hA0
  simp only [List.append_nil] at hW'
  refine (law_w x0_0 x0_1 x0_2 x0_3 x1 W (of_laid hL)).mono fun e W' ⟨he, hg⟩ => ?_
  subst he
  have hlaid : laidOutB Tryd.prog = true := by kernel_rfl
  have sh : ∀ sp, DataW.TrodAll enc Tryd.prog W' 0 sp true Tryd.f6.params.toList _ _ [] := fun sp => by
    rw [Tryd.params6]
    exact trodAll_cons_mk (stays hlaid (by kernel_rfl) (of_decide_eq_true (by kernel_rfl)) g0 hg (by simp) (by simp)) (trodAll_cons_mk (stays hlaid (by kernel_rfl) (of_decide_eq_true (by kernel_rfl)) g1 hg (by simp) (by simp)) (trodAll_mk0))
  exact ⟨_, rfl, post_below (pa := []) (pv := []) hW' (fun _ _ _ => trodAll_cons_mk (shut_bool Tryd.underlying4 _) trodAll_mk0) (fun sp _ => sh sp) (fun _ _ => rfl) rfl
    hg (ok_one (by kernel_rfl) rfl (okWide_bool_mk Tryd.underlying4 _))⟩
end Go.Proofs.YtngjoconcgakpaaDoor.designWindings
