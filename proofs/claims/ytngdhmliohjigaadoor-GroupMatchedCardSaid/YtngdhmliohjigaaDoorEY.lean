/- THE TABLES, AS THE ROW's LIST LAYS THEM: what a law's list gives the walks. -/
import Derived.Test.YtngdhmliohjigaaDoorCards
import Derived.Test.YtngdhmliohjigaaDoorTie
import Derived.Test.YtngdhmliohjigaaDoorLEX
import Derived.Test.YtngdhmliohjigaaDoorEW
import Derived.KernelRfl
import Derived.ProofKit
import Derived.OpenShut
import Derived.LaidMore
import Derived.Lib.SmallJoins
import Derived.Deep.DeepHandedRow
import Derived.Lib.LaidTab
set_option linter.unusedVariables false
set_option linter.unusedSimpArgs false
set_option linter.unusedSectionVars false
set_option linter.unnecessarySimpa false
namespace Go.Proofs.YtngdhmliohjigaaDoor
open Go.ChangeShapes Go.WideShapes Go.ChangeAt Go.RowKit Go.Joins

theorem own : ownKnob Tryd.prog.godebug = none := by kernel_rfl
theorem g32 : Tryd.prog.globalNamed "math/bits.deBruijn32tab" = some 8 := by kernel_rfl
theorem g64 : Tryd.prog.globalNamed "math/bits.deBruijn64tab" = some 9 := by kernel_rfl
noncomputable def T64 : TypeId := ((Tryd.prog.globals[9]?).map (·.type)).getD 0
theorem t64 : (Tryd.prog.globals[9]?).map (·.type) = some T64 := by kernel_rfl
theorem u64 : Tryd.prog.underlying T64 = some (.array 64 5) := by kernel_rfl
theorem gPat : Tryd.prog.globalNamed "buchholz/group.patterns" = some 1 := by kernel_rfl
theorem gLimb : Tryd.prog.globalNamed "buchholz/group.limbPhasors" = some 2 := by kernel_rfl
theorem gHour : Tryd.prog.globalNamed "buchholz/group.hourPhasors" = some 3 := by kernel_rfl
theorem tPat : (Tryd.prog.globals[1]?).map (·.type) = some 26 := by kernel_rfl
theorem tLimb : (Tryd.prog.globals[2]?).map (·.type) = some 200 := by kernel_rfl
theorem tHour : (Tryd.prog.globals[3]?).map (·.type) = some 201 := by kernel_rfl
theorem flat {α : Type} (k : Nat) : ∀ (Rs : List (List α)) (cs : List α), cs.length = Rs.length * k → (∀ i R, Rs[i]? = some R → (cs.drop (i * k)).take k = R) → cs = Rs.flatten
  | [], cs, h, _ => by simpa using h
  | R :: Rs, cs, h, hR => by
    have h0 := hR 0 R rfl
    simp only [Nat.zero_mul, List.drop_zero] at h0
    have ih := flat k Rs (cs.drop k) (by simp only [List.length_drop, h, List.length_cons, Nat.add_mul, Nat.one_mul]; omega) (fun i R' hi => by
      have := hR (i + 1) R' (by simpa using hi)
      rw [List.drop_drop]
      rwa [Nat.add_mul, Nat.one_mul, Nat.add_comm] at this)
    rw [List.flatten_cons, ← ih, ← h0, List.take_append_drop]

theorem rows {W : World} {fuel n e : Nat} {t : TypeId} {cs : List Value} {ds : List (DataW Unit)} {p : List MemPlace} (ht : Tryd.prog.underlying t = some (.array n e))
    (h : DataW.trod (fun _ => ()) Tryd.prog W 0 (fun _ => true) false fuel t cs = some (.agg ds, p)) :
    cs.length = Tryd.prog.cellsOf t ∧ ds.length = n ∧ ∀ (i : Nat) d, ds[i]? = some d → ∃ m q, DataW.trod (fun _ => ()) Tryd.prog W 0 (fun _ => true) false m e ((cs.drop (i * Tryd.prog.cellsOf e)).take (Tryd.prog.cellsOf e)) = some (d, q) := by
  obtain ⟨xs, m, rfl, hx, hl, hn, hel⟩ := DataW.trod_array ht h
  simp only [Prod.mk.injEq, DataW.agg.injEq] at hx
  obtain ⟨rfl, -⟩ := hx
  refine ⟨hl, by simpa using hn, fun i d hd => ?_⟩
  rw [List.getElem?_map] at hd
  cases hx : xs[i]? with
  | none => rw [hx] at hd; cases hd
  | some x =>
    rw [hx] at hd
    have hi : i < n := by rw [← hn]; exact (List.getElem?_eq_some_iff.mp hx).1
    have := hel i hi
    rw [hx] at this
    refine ⟨m, x.2, this.trans ?_⟩
    cases hd; rfl

theorem one {W : World} {fuel : Nat} {cs : List Value} {k : Int} {q : List MemPlace} (h : DataW.trod (fun _ => ()) Tryd.prog W 0 (fun _ => true) false fuel 3 cs = some (.lit (.int .i64 k), q)) : cs = [.int .i64 k] := by
  obtain ⟨n, rfl, hx, _⟩ := DataW.trod_int Tryd.underlying3 h
  simp only [Prod.mk.injEq, DataW.lit.injEq, Lit.int.injEq, true_and] at hx
  rw [hx.1]

theorem len2 {α : Type} : ∀ (l : List α), l.length = 2 → ∃ a b, l = [a, b]
  | [a, b], _ => ⟨a, b, rfl⟩
theorem len3 {α : Type} : ∀ (l : List α), l.length = 3 → ∃ a b c, l = [a, b, c]
  | [a, b, c], _ => ⟨a, b, c, rfl⟩
set_option maxRecDepth 100000 in
theorem pair {W : World} {fuel : Nat} {cs : List Value} {a b : Int} {q : List MemPlace} (h : DataW.trod (fun _ => ()) Tryd.prog W 0 (fun _ => true) false fuel 142 cs = some (.agg [.lit (.int .i64 a), .lit (.int .i64 b)], q)) : cs = [.int .i64 a, .int .i64 b] := by
  obtain ⟨xs, n, rfl, hx, hl, hn, hel⟩ := DataW.trod_struct Tryd.underlying142 h
  have c : Tryd.prog.cellsOf 142 = 2 := by kernel_rfl
  have c3 : Tryd.prog.cellsOf 3 = 1 := by kernel_rfl
  rw [c] at hl
  simp only [Prod.mk.injEq, DataW.agg.injEq] at hx
  obtain ⟨x0, x1, rfl⟩ := len2 xs hn
  obtain ⟨c0, c1, rfl⟩ := len2 cs hl
  · have e0 := hel 0 { name := "P", type := 3, offset := 0, embedded := false, tag := "", pkgPath := "", byteOffset := 0 } rfl
    have e1 := hel 1 { name := "Q", type := 3, offset := 1, embedded := false, tag := "", pkgPath := "", byteOffset := 8 } rfl
    try dsimp only at e0 e1
    rw [c3] at e0 e1
    simp only [List.drop_zero, List.take_succ_cons, List.take_zero, List.drop_succ_cons, List.getElem?_cons_zero, List.getElem?_cons_succ] at e0 e1
    obtain ⟨y0, z0⟩ := x0
    obtain ⟨y1, z1⟩ := x1
    simp only [List.map_cons, List.map_nil, List.cons.injEq, and_true] at hx
    obtain ⟨⟨rfl, rfl⟩, -⟩ := hx
    have r0 := one e0
    have r1 := one e1
    simp only [List.cons.injEq, and_true] at r0 r1
    rw [r0, r1]

theorem pairs {W : World} {fuel n : Nat} {t : TypeId} {cs : List Value} {p : List MemPlace} (Ls : List (Int × Int)) (ht : Tryd.prog.underlying t = some (.array n 142)) (hc : Tryd.prog.cellsOf t = Ls.length * 2)
    (h : DataW.trod (fun _ => ()) Tryd.prog W 0 (fun _ => true) false fuel t cs = some (.agg (Ls.map fun x => .agg [.lit (.int .i64 x.1), .lit (.int .i64 x.2)]), p)) :
    cs = (Ls.map fun x => [Value.int .i64 x.1, .int .i64 x.2]).flatten := by
  obtain ⟨hl, hn, hr⟩ := rows ht h
  have c : Tryd.prog.cellsOf 142 = 2 := by kernel_rfl
  rw [c] at hr
  refine flat 2 _ cs (by rw [hl, hc, List.length_map]) (fun i R hR => ?_)
  rw [List.getElem?_map] at hR
  cases hx : Ls[i]? with
  | none => rw [hx] at hR; cases hR
  | some x =>
    rw [hx] at hR
    cases hR
    obtain ⟨m, q, ht⟩ := hr i _ (by rw [List.getElem?_map, hx]; rfl)
    exact pair ht

set_option maxRecDepth 100000 in
theorem row3 {W : World} {fuel : Nat} {cs : List Value} {a b c : Int} {q : List MemPlace} (h : DataW.trod (fun _ => ()) Tryd.prog W 0 (fun _ => true) false fuel 25 cs = some (.agg [.lit (.int .i64 a), .lit (.int .i64 b), .lit (.int .i64 c)], q)) : cs = [.int .i64 a, .int .i64 b, .int .i64 c] := by
  obtain ⟨hl, hn, hr⟩ := rows Tryd.underlying25 h
  have c25 : Tryd.prog.cellsOf 25 = 3 := by kernel_rfl
  have c3 : Tryd.prog.cellsOf 3 = 1 := by kernel_rfl
  rw [c25] at hl
  rw [c3] at hr
  obtain ⟨m0, q0, h0⟩ := hr 0 _ rfl
  obtain ⟨m1, q1, h1⟩ := hr 1 _ rfl
  obtain ⟨m2, q2, h2⟩ := hr 2 _ rfl
  have r0 := one h0
  have r1 := one h1
  have r2 := one h2
  obtain ⟨c0, c1, c2, rfl⟩ := len3 cs hl
  · simp at r0 r1 r2
    rw [r0, r1, r2]

theorem triples {W : World} {fuel n : Nat} {t : TypeId} {cs : List Value} {p : List MemPlace} (Ls : List (Int × Int × Int)) (ht : Tryd.prog.underlying t = some (.array n 25)) (hc : Tryd.prog.cellsOf t = Ls.length * 3)
    (h : DataW.trod (fun _ => ()) Tryd.prog W 0 (fun _ => true) false fuel t cs = some (.agg (Ls.map fun x => .agg [.lit (.int .i64 x.1), .lit (.int .i64 x.2.1), .lit (.int .i64 x.2.2)]), p)) :
    cs = (Ls.map fun x => [Value.int .i64 x.1, .int .i64 x.2.1, .int .i64 x.2.2]).flatten := by
  obtain ⟨hl, hn, hr⟩ := rows ht h
  have c : Tryd.prog.cellsOf 25 = 3 := by kernel_rfl
  rw [c] at hr
  refine flat 3 _ cs (by rw [hl, hc, List.length_map]) (fun i R hR => ?_)
  rw [List.getElem?_map] at hR
  cases hx : Ls[i]? with
  | none => rw [hx] at hR; cases hR
  | some x =>
    rw [hx] at hR
    cases hR
    obtain ⟨m, q, ht⟩ := hr i _ (by rw [List.getElem?_map, hx]; rfl)
    exact row3 ht

theorem cells_of {W : World} {n : String} {g : Nat} {cs : Array Value} (hg : Tryd.prog.globalNamed n = some g) (hv : World.var? Tryd.prog W n = some cs) {L : List Value} (hL : cs.toList = L) : ∀ j v, L[j]? = some v → W.cell? ⟨g, j, none⟩ = some v := fun j v hj => by
  rw [World.var?_cell hg hv j, ← hj, ← hL, Array.getElem?_toList]

theorem of_laid {W : World} (h : laidMetH Tryd.prog Rows.groupLowRow.laid W) : Tabs W := by
  rw [MakeChecks.laidMetH_plain _ _ _ (by kernel_rfl)] at h
  obtain ⟨ps, ⟨g0, t0, cs0, f0, p0, q0, hg0, ht0, hv0, hd0, ⟨g1, t1, cs1, f1, p1, q1, hg1, ht1, hv1, hd1, ⟨g2, t2, cs2, f2, p2, q2, hg2, ht2, hv2, hd2, ⟨g3, t3, cs3, f3, p3, q3, hg3, ht3, hv3, hd3, ⟨g4, t4, cs4, f4, p4, q4, hg4, ht4, hv4, hd4, ⟨g5, t5, cs5, f5, p5, q5, hg5, ht5, hv5, hd5, _, _⟩, _⟩, _⟩, _⟩, _⟩, _⟩, _, _⟩ := h
  obtain rfl := Option.some.inj (g64.symm.trans hg1)
  obtain rfl := Option.some.inj (gLimb.symm.trans hg3)
  obtain rfl := Option.some.inj (gHour.symm.trans hg4)
  obtain rfl := Option.some.inj (gPat.symm.trans hg5)
  obtain rfl := Option.some.inj (tLimb.symm.trans ht3)
  obtain rfl := Option.some.inj (tHour.symm.trans ht4)
  obtain rfl := Option.some.inj (tPat.symm.trans ht5)
  obtain rfl := Option.some.inj (t64.symm.trans ht1)
  have c1 := cells_of gPat hv5 ((triples [(1, -1, 0), (1, 0, 0), (1, -2, 1)] Tryd.underlying26 (by kernel_rfl) hd5).trans rfl)
  have c2 := cells_of gLimb hv3 ((pairs [(1, 0), (-1, -1), (0, 1)] Tryd.underlying200 (by kernel_rfl) hd3).trans rfl)
  have c3 := cells_of gHour hv4 ((pairs [(1, 0), (2, 1), (1, 1), (1, 2), (0, 1), (-1, 1), (-1, 0), (-2, -1), (-1, -1), (-1, -2), (0, -1), (1, -1)] Tryd.underlying201 (by kernel_rfl) hd4).trans rfl)
  refine ⟨?_, fun g L hL j v hj => ?_⟩
  · have hl := (rows u64 hd1).1
    have h0 := World.var?_cell g64 hv1 0
    rw [show cs1[0]? = some (cs1[0]'(by rw [Array.length_toList] at hl; rw [hl]; decide +kernel)) from by simp] at h0
    have : 9 < W.heap.size := by
      rcases Nat.lt_or_ge 9 W.heap.size with h1 | h1
      · exact h1
      · simp [World.cell?, Array.getElem?_eq_none h1] at h0
    exact Nat.le_trans (show gtab.length ≤ 10 by decide +kernel) this
  · match g, hL with
    | 0, hL => cases hL; cases hj
    | 1, hL => cases hL; exact c1 j v hj
    | 2, hL => cases hL; exact c2 j v hj
    | 3, hL => cases hL; exact c3 j v hj
    | g + 4, hL => cases hL
end Go.Proofs.YtngdhmliohjigaaDoor
