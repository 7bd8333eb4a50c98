/- THE TABLES, AS THE ROW's LIST LAYS THEM: what a law's list gives the runs. -/
import Derived.Test.YtngjoconcgakpaaDoorCards
import Derived.Test.YtngjoconcgakpaaDoorTie
import Derived.Test.YtngjoconcgakpaaDoorDX
import Derived.Test.YtngjoconcgakpaaDoorEC
import Derived.ProofKit
import Derived.OpenShut
import Derived.LaidMore
import Derived.Lib.SmallJoins
import Derived.Deep.DeepHandedRow
import Derived.Lib.LaidTab
set_option linter.unusedVariables false
set_option linter.unusedSimpArgs false
set_option linter.unusedSectionVars false
set_option linter.unnecessarySimpa false
namespace Go.Proofs.YtngjoconcgakpaaDoor
open Go.ChangeShapes Go.WideShapes Go.ChangeAt Go.RowKit Go.Joins Go.Ev

theorem own : ownKnob Tryd.prog.godebug = none := by kernel_rfl
theorem gUnits : Tryd.prog.globalNamed "buchholz/design.unitsOf" = some 0 := by kernel_rfl
theorem gWords : Tryd.prog.globalNamed "buchholz/design.unitWords" = some 1 := by kernel_rfl
theorem gQuant : Tryd.prog.globalNamed "buchholz/design.quantityWords" = some 2 := by kernel_rfl
theorem tUnits : (Tryd.prog.globals[0]?).map (·.type) = some 138 := by kernel_rfl
theorem tWords : (Tryd.prog.globals[1]?).map (·.type) = some 147 := by kernel_rfl
theorem tQuant : (Tryd.prog.globals[2]?).map (·.type) = some 152 := by kernel_rfl
theorem u138 : Tryd.prog.underlying 138 = some (.array 6 3) := by kernel_rfl
theorem u147 : Tryd.prog.underlying 147 = some (.array 3 9) := by kernel_rfl
theorem u152 : Tryd.prog.underlying 152 = some (.array 6 9) := by kernel_rfl
theorem u3 : Tryd.prog.underlying 3 = some (.int .i64) := by kernel_rfl
theorem u9 : Tryd.prog.underlying 9 = some .string := by kernel_rfl
theorem flat {α : Type} (k : Nat) : ∀ (Rs : List (List α)) (cs : List α), cs.length = Rs.length * k → (∀ i R, Rs[i]? = some R → (cs.drop (i * k)).take k = R) → cs = Rs.flatten
  | [], cs, h, _ => by simpa using h
  | R :: Rs, cs, h, hR => by
    have h0 := hR 0 R rfl
    simp only [Nat.zero_mul, List.drop_zero] at h0
    have ih := flat k Rs (cs.drop k) (by simp only [List.length_drop, h, List.length_cons, Nat.add_mul, Nat.one_mul]; omega) (fun i R' hi => by
      have := hR (i + 1) R' (by simpa using hi)
      rw [List.drop_drop]
      rwa [Nat.add_mul, Nat.one_mul, Nat.add_comm] at this)
    rw [List.flatten_cons, ← ih, ← h0, List.take_append_drop]

theorem rows {W : World} {fuel n e : Nat} {t : TypeId} {cs : List Value} {ds : List (DataW Unit)} {p : List MemPlace} (ht : Tryd.prog.underlying t = some (.array n e))
    (h : DataW.trod (fun _ => ()) Tryd.prog W 0 (fun _ => true) false fuel t cs = some (.agg ds, p)) :
    cs.length = Tryd.prog.cellsOf t ∧ ds.length = n ∧ ∀ (i : Nat) d, ds[i]? = some d → ∃ m q, DataW.trod (fun _ => ()) Tryd.prog W 0 (fun _ => true) false m e ((cs.drop (i * Tryd.prog.cellsOf e)).take (Tryd.prog.cellsOf e)) = some (d, q) := by
  obtain ⟨xs, m, rfl, hx, hl, hn, hel⟩ := DataW.trod_array ht h
  simp only [Prod.mk.injEq, DataW.agg.injEq] at hx
  obtain ⟨rfl, -⟩ := hx
  refine ⟨hl, by simpa using hn, fun i d hd => ?_⟩
  rw [List.getElem?_map] at hd
  cases hx : xs[i]? with
  | none => rw [hx] at hd; cases hd
  | some x =>
    rw [hx] at hd
    have hi : i < n := by rw [← hn]; exact (List.getElem?_eq_some_iff.mp hx).1
    have := hel i hi
    rw [hx] at this
    refine ⟨m, x.2, this.trans ?_⟩
    cases hd; rfl

theorem one {W : World} {fuel : Nat} {cs : List Value} {k : Int} {q : List MemPlace} (h : DataW.trod (fun _ => ()) Tryd.prog W 0 (fun _ => true) false fuel 3 cs = some (.lit (.int .i64 k), q)) : cs = [.int .i64 k] := by
  obtain ⟨n, rfl, hx, _⟩ := DataW.trod_int u3 h
  simp only [Prod.mk.injEq, DataW.lit.injEq, Lit.int.injEq, true_and] at hx
  rw [hx.1]
theorem oneS {W : World} {fuel : Nat} {cs : List Value} {k : List UInt8} {q : List MemPlace} (h : DataW.trod (fun _ => ()) Tryd.prog W 0 (fun _ => true) false fuel 9 cs = some (.lit (.string k), q)) : cs = [.string ⟨k.toArray⟩] := by
  obtain ⟨s, rfl, hx, _⟩ := DataW.trod_string u9 h
  simp only [Prod.mk.injEq, DataW.lit.injEq, Lit.string.injEq] at hx
  rw [hx.1]

theorem ints {W : World} {fuel n : Nat} {t : TypeId} {cs : List Value} {p : List MemPlace} (Ls : List Int) (ht : Tryd.prog.underlying t = some (.array n 3)) (hc : Tryd.prog.cellsOf t = Ls.length * 1)
    (h : DataW.trod (fun _ => ()) Tryd.prog W 0 (fun _ => true) false fuel t cs = some (.agg (Ls.map fun x => .lit (.int .i64 x)), p)) :
    cs = (Ls.map fun x => [Value.int .i64 x]).flatten := by
  obtain ⟨hl, hn, hr⟩ := rows ht h
  have c : Tryd.prog.cellsOf 3 = 1 := by kernel_rfl
  rw [c] at hr
  refine flat 1 _ cs (by rw [hl, hc, List.length_map]) (fun i R hR => ?_)
  rw [List.getElem?_map] at hR
  cases hx : Ls[i]? with
  | none => rw [hx] at hR; cases hR
  | some x =>
    rw [hx] at hR
    cases hR
    obtain ⟨m, q, ht⟩ := hr i _ (by rw [List.getElem?_map, hx]; rfl)
    exact one ht
theorem strs {W : World} {fuel n : Nat} {t : TypeId} {cs : List Value} {p : List MemPlace} (Ls : List (List UInt8)) (ht : Tryd.prog.underlying t = some (.array n 9)) (hc : Tryd.prog.cellsOf t = Ls.length * 1)
    (h : DataW.trod (fun _ => ()) Tryd.prog W 0 (fun _ => true) false fuel t cs = some (.agg (Ls.map fun x => .lit (.string x)), p)) :
    cs = (Ls.map fun x => [Value.string ⟨x.toArray⟩]).flatten := by
  obtain ⟨hl, hn, hr⟩ := rows ht h
  have c : Tryd.prog.cellsOf 9 = 1 := by kernel_rfl
  rw [c] at hr
  refine flat 1 _ cs (by rw [hl, hc, List.length_map]) (fun i R hR => ?_)
  rw [List.getElem?_map] at hR
  cases hx : Ls[i]? with
  | none => rw [hx] at hR; cases hR
  | some x =>
    rw [hx] at hR
    cases hR
    obtain ⟨m, q, ht⟩ := hr i _ (by rw [List.getElem?_map, hx]; rfl)
    exact oneS ht

theorem cells_of {W : World} {n : String} {g : Nat} {cs : Array Value} (hg : Tryd.prog.globalNamed n = some g) (hv : World.var? Tryd.prog W n = some cs) {L : List Value} (hL : cs.toList = L) : ∀ j v, L[j]? = some v → W.cell? ⟨g, j, none⟩ = some v := fun j v hj => by
  rw [World.var?_cell hg hv j, ← hj, ← hL, Array.getElem?_toList]

theorem of_laid {W : World} (h : laidMetH Tryd.prog Rows.designWindingsRow.laid W) : Tabs W := by
  rw [MakeChecks.laidMetH_plain _ _ _ (by kernel_rfl)] at h
  obtain ⟨ps, ⟨g0, t0, cs0, f0, p0, q0, hg0, ht0, hv0, hd0, ⟨g1, t1, cs1, f1, p1, q1, hg1, ht1, hv1, hd1, ⟨g2, t2, cs2, f2, p2, q2, hg2, ht2, hv2, hd2, ⟨g3, t3, cs3, f3, p3, q3, hg3, ht3, hv3, hd3, ⟨g4, t4, cs4, f4, p4, q4, hg4, ht4, hv4, hd4, ⟨g5, t5, cs5, f5, p5, q5, hg5, ht5, hv5, hd5, _, _⟩, _⟩, _⟩, _⟩, _⟩, _⟩, _, _⟩ := h
  obtain rfl := Option.some.inj (gQuant.symm.trans hg3)
  obtain rfl := Option.some.inj (gWords.symm.trans hg4)
  obtain rfl := Option.some.inj (gUnits.symm.trans hg5)
  obtain rfl := Option.some.inj (tQuant.symm.trans ht3)
  obtain rfl := Option.some.inj (tWords.symm.trans ht4)
  obtain rfl := Option.some.inj (tUnits.symm.trans ht5)
  have c0 := cells_of gUnits hv5 ((ints [0, 0, 1, 1, 2, 2] u138 (by kernel_rfl) hd5).trans rfl)
  have c1 := cells_of gWords hv4 ((strs [[107, 103], [87], [109, 109]] u147 (by kernel_rfl) hd4).trans rfl)
  have c2 := cells_of gQuant hv3 ((strs [[109, 97, 115, 115], [99, 111, 112, 112, 101, 114], [105, 100, 108, 101], [108, 111, 97, 100], [104, 101, 105, 103, 104, 116], [119, 105, 100, 116, 104]] u152 (by kernel_rfl) hd3).trans rfl)
  refine ⟨?_, fun g L hL j v hj => ?_⟩
  · have h0 := c2 0 _ rfl
    have : 2 < W.heap.size := by
      rcases Nat.lt_or_ge 2 W.heap.size with h1 | h1
      · exact h1
      · simp [World.cell?, Array.getElem?_eq_none h1] at h0
    exact Nat.le_trans (show gtab.length ≤ 3 by decide +kernel) this
  · match g, hL with
    | 0, hL => cases hL; exact c0 j v hj
    | 1, hL => cases hL; exact c1 j v hj
    | 2, hL => cases hL; exact c2 j v hj
    | g + 3, hL => cases hL
end Go.Proofs.YtngjoconcgakpaaDoor
