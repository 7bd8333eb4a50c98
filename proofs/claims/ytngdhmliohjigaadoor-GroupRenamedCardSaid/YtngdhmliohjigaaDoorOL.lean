/- Arrays of three numbers, and lines, as arguments: opened and shut; the tables with permutations. -/
import Derived.Test.YtngdhmliohjigaaDoorOW
import Derived.Test.YtngdhmliohjigaaDoorSQ7
namespace Go.Proofs.YtngdhmliohjigaaDoor
open Go.ChangeShapes Go.WideShapes Go.ChangeAt Go.RowKit Go.Joins
theorem cells25 : Tryd.prog.cellsOf 25 = 3 := by kernel_rfl
theorem cells27 : Tryd.prog.cellsOf 27 = 9 := by kernel_rfl
theorem cells3 : Tryd.prog.cellsOf 3 = 1 := by kernel_rfl
theorem okWide_array {P : Program} {w : World} {r : Reach} {base : Nat} {t : TypeId} {v : Value} {n : Nat} {e : TypeId} (ht : P.underlying t = some (.array n e)) (h : Value.okWide P w r base t v) : ∃ cs, v = .agg cs ∧ cs.size = P.cellsOf t := by
  simp only [Value.okWide, ht] at h
  obtain ⟨cs, h1, h2, _⟩ := h
  exact ⟨cs, h1, h2⟩
theorem arr3 {H : Type} {enc : TypeId × Value → H} {W : World} {b0 : Nat} {sp : Nat → Bool} {held : Bool} {fuel : Nat} {cs : List Value} {x : DataW H × List MemPlace} (h : DataW.trod enc Tryd.prog W b0 sp held fuel 25 cs = some x) :
    ∃ a b c : Int, cs = [.int .i64 a, .int .i64 b, .int .i64 c] ∧ x = (.agg [.lit (.int .i64 a), .lit (.int .i64 b), .lit (.int .i64 c)], []) ∧ (Lit.int .i64 a).wf = true ∧ (Lit.int .i64 b).wf = true ∧ (Lit.int .i64 c).wf = true := by
  obtain ⟨ys, m, rfl, rfl, hl, hn, hel⟩ := DataW.trod_array Tryd.underlying25 h
  rw [cells25] at hl
  rw [cells3] at hel
  obtain ⟨c0, c1, c2, rfl⟩ := len3 cs hl
  obtain ⟨y0, y1, y2, rfl⟩ := len3 ys hn
  have h0 := hel 0 (by decide)
  have h1 := hel 1 (by decide)
  have h2 := hel 2 (by decide)
  simp only [Nat.mul_one, List.drop_zero, List.take_succ_cons, List.take_zero, List.drop_succ_cons, List.getElem?_cons_zero, List.getElem?_cons_succ] at h0 h1 h2
  obtain ⟨a, e0, rfl, wa⟩ := DataW.trod_int Tryd.underlying3 h0
  obtain ⟨b, e1, rfl, wb⟩ := DataW.trod_int Tryd.underlying3 h1
  obtain ⟨c, e2, rfl, wc⟩ := DataW.trod_int Tryd.underlying3 h2
  simp at e0 e1 e2
  subst e0 e1 e2
  exact ⟨a, b, c, rfl, rfl, wa, wb, wc⟩
set_option maxRecDepth 100000 in
theorem open_three {H : Type} {enc : TypeId × Value → H} {W : World} {r : Reach} {b0 : Nat} {sp : Nat → Bool} {held : Bool} {v : Value} {d : DataW H} {p : List MemPlace} (hv : Value.okWide Tryd.prog W r b0 25 v) (h : DataW.Trod enc Tryd.prog W 0 sp held 25 v d p) :
    ∃ (x0 x1 x2 : Int), v = .agg #[.int .i64 x0, .int .i64 x1, .int .i64 x2] ∧ d = .agg [.lit (.int .i64 x0), .lit (.int .i64 x1), .lit (.int .i64 x2)] ∧ p = [] ∧ (Lit.int .i64 x0).wf = true ∧ (Lit.int .i64 x1).wf = true ∧ (Lit.int .i64 x2).wf = true := by
  obtain ⟨cs, rfl, hz⟩ := okWide_array Tryd.underlying25 hv
  obtain ⟨n, hn⟩ := h
  obtain ⟨a, b, c, hc, hx, wa, wb, wc⟩ := arr3 hn
  obtain ⟨l⟩ := cs
  simp only [Value.cells] at hc
  subst hc
  simp only [Prod.mk.injEq] at hx
  exact ⟨a, b, c, rfl, hx.1, hx.2, wa, wb, wc⟩
set_option maxRecDepth 100000 in
theorem open_lines {H : Type} {enc : TypeId × Value → H} {W : World} {r : Reach} {b0 : Nat} {sp : Nat → Bool} {held : Bool} {v : Value} {d : DataW H} {p : List MemPlace} (hv : Value.okWide Tryd.prog W r b0 27 v) (h : DataW.Trod enc Tryd.prog W 0 sp held 27 v d p) :
    ∃ (x0 x1 x2 x3 x4 x5 x6 x7 x8 : Int), v = .agg #[.int .i64 x0, .int .i64 x1, .int .i64 x2, .int .i64 x3, .int .i64 x4, .int .i64 x5, .int .i64 x6, .int .i64 x7, .int .i64 x8] ∧ d = .agg [.agg [.lit (.int .i64 x0), .lit (.int .i64 x1), .lit (.int .i64 x2)], .agg [.lit (.int .i64 x3), .lit (.int .i64 x4), .lit (.int .i64 x5)], .agg [.lit (.int .i64 x6), .lit (.int .i64 x7), .lit (.int .i64 x8)]] ∧ p = [] ∧ (Lit.int .i64 x0).wf = true ∧ (Lit.int .i64 x1).wf = true ∧ (Lit.int .i64 x2).wf = true ∧ (Lit.int .i64 x3).wf = true ∧ (Lit.int .i64 x4).wf = true ∧ (Lit.int .i64 x5).wf = true ∧ (Lit.int .i64 x6).wf = true ∧ (Lit.int .i64 x7).wf = true ∧ (Lit.int .i64 x8).wf = true := by
  obtain ⟨cs, rfl, hz⟩ := okWide_array Tryd.underlying27 hv
  obtain ⟨n, hn⟩ := h
  obtain ⟨ys, m, rfl, hx, hl, hy, hel⟩ := DataW.trod_array Tryd.underlying27 hn
  rw [cells25] at hel
  rw [cells27] at hl
  obtain ⟨l⟩ := cs
  simp only [Value.cells] at hl hel
  obtain ⟨y0, y1, y2, rfl⟩ := len3 ys hy
  have h0 := hel 0 (by decide)
  have h1 := hel 1 (by decide)
  have h2 := hel 2 (by decide)
  simp only [List.getElem?_cons_zero, List.getElem?_cons_succ] at h0 h1 h2
  obtain ⟨x0, x1, x2, e0, rfl, w0, w1, w2⟩ := arr3 h0
  obtain ⟨x3, x4, x5, e1, rfl, w3, w4, w5⟩ := arr3 h1
  obtain ⟨x6, x7, x8, e2, rfl, w6, w7, w8⟩ := arr3 h2
  have hl' : l = [.int .i64 x0, .int .i64 x1, .int .i64 x2, .int .i64 x3, .int .i64 x4, .int .i64 x5, .int .i64 x6, .int .i64 x7, .int .i64 x8] := by
    have a0 : l = l.take 3 ++ ((l.drop 3).take 3 ++ ((l.drop 6).take 3 ++ l.drop 9)) := by
      have b1 : (l.drop 6) = (l.drop 6).take 3 ++ l.drop 9 := by
        have := (List.take_append_drop 3 (l.drop 6)).symm
        rwa [List.drop_drop] at this
      have b2 : (l.drop 3) = (l.drop 3).take 3 ++ l.drop 6 := by
        have := (List.take_append_drop 3 (l.drop 3)).symm
        rwa [List.drop_drop] at this
      rw [← b1, ← b2, List.take_append_drop]
    have a1 : l.drop 9 = [] := List.drop_eq_nil_of_le (by omega)
    simp only [Nat.zero_mul, List.drop_zero, Nat.one_mul] at e0 e1
    have e2' : (l.drop 6).take 3 = [.int .i64 x6, .int .i64 x7, .int .i64 x8] := e2
    rw [a0, a1, e0, e1, e2']
    rfl
  subst hl'
  simp only [Prod.mk.injEq] at hx
  exact ⟨x0, x1, x2, x3, x4, x5, x6, x7, x8, rfl, hx.1, hx.2, w0, w1, w2, w3, w4, w5, w6, w7, w8⟩
theorem cell3 {H : Type} {enc : TypeId × Value → H} {W : World} {b0 : Nat} {sp : Nat → Bool} {held : Bool} {x : Int} (m : Nat) (h : (Lit.int .i64 x).wf = true) : DataW.trod enc Tryd.prog W b0 sp held (m + 1) 3 [.int .i64 x] = some (.lit (.int .i64 x), []) := by
  simp [DataW.trod, Tryd.underlying3, h]
theorem trod_array_mk {H : Type} {enc : TypeId × Value → H} {P : Program} {w : World} {base : Nat} {spare : Nat → Bool} {held : Bool} {t e : TypeId} {k n : Nat} {cs : List Value} {ys : List (DataW H × List MemPlace)} (ht : P.underlying t = some (.array k e)) (hl : cs.length = P.cellsOf t)
    (hp : (List.range k).mapM (fun i => DataW.trod enc P w base spare held n e ((cs.drop (i * P.cellsOf e)).take (P.cellsOf e))) = some ys) :
    DataW.trod enc P w base spare held (n + 1) t cs = some (.agg (ys.map (·.1)), ys.flatMap (·.2)) := by
  unfold DataW.trod
  rw [ht]
  split <;> simp_all
theorem mapM3 {α : Type} {f : Nat → Option α} {a b c : α} (h0 : f 0 = some a) (h1 : f 1 = some b) (h2 : f 2 = some c) : (List.range 3).mapM f = some [a, b, c] := by
  have : List.range 3 = [0, 1, 2] := rfl
  rw [this]
  simp [h0, h1, h2]
theorem seg3 {H : Type} {enc : TypeId × Value → H} {W : World} {b0 : Nat} {sp : Nat → Bool} {held : Bool} {a b c : Int} (m : Nat) (ha : (Lit.int .i64 a).wf = true) (hb : (Lit.int .i64 b).wf = true) (hc : (Lit.int .i64 c).wf = true) :
    DataW.trod enc Tryd.prog W b0 sp held (m + 2) 25 [.int .i64 a, .int .i64 b, .int .i64 c] = some (.agg [.lit (.int .i64 a), .lit (.int .i64 b), .lit (.int .i64 c)], []) := by
  have := trod_array_mk (enc := enc) (w := W) (base := b0) (spare := sp) (held := held) (n := m + 1) (cs := [.int .i64 a, .int .i64 b, .int .i64 c]) (ys := [(.lit (.int .i64 a), []), (.lit (.int .i64 b), []), (.lit (.int .i64 c), [])]) Tryd.underlying25 (by rw [cells25]; rfl) (mapM3 (by rw [cells3]; exact cell3 m ha) (by rw [cells3]; exact cell3 m hb) (by rw [cells3]; exact cell3 m hc))
  simpa using this
theorem shut_three {H : Type} {enc : TypeId × Value → H} (W : World) (sp : Nat → Bool) {x0 x1 x2 : Int} (w0 : (Lit.int .i64 x0).wf = true) (w1 : (Lit.int .i64 x1).wf = true) (w2 : (Lit.int .i64 x2).wf = true) :
    DataW.Trod enc Tryd.prog W 0 sp true 25 (.agg #[.int .i64 x0, .int .i64 x1, .int .i64 x2]) (.agg [.lit (.int .i64 x0), .lit (.int .i64 x1), .lit (.int .i64 x2)]) [] := ⟨2, seg3 0 w0 w1 w2⟩
theorem shut_lines {H : Type} {enc : TypeId × Value → H} (W : World) (sp : Nat → Bool) {x0 x1 x2 x3 x4 x5 x6 x7 x8 : Int} (w0 : (Lit.int .i64 x0).wf = true) (w1 : (Lit.int .i64 x1).wf = true) (w2 : (Lit.int .i64 x2).wf = true) (w3 : (Lit.int .i64 x3).wf = true) (w4 : (Lit.int .i64 x4).wf = true) (w5 : (Lit.int .i64 x5).wf = true) (w6 : (Lit.int .i64 x6).wf = true) (w7 : (Lit.int .i64 x7).wf = true) (w8 : (Lit.int .i64 x8).wf = true) :
    DataW.Trod enc Tryd.prog W 0 sp true 27 (.agg #[.int .i64 x0, .int .i64 x1, .int .i64 x2, .int .i64 x3, .int .i64 x4, .int .i64 x5, .int .i64 x6, .int .i64 x7, .int .i64 x8]) (.agg [.agg [.lit (.int .i64 x0), .lit (.int .i64 x1), .lit (.int .i64 x2)], .agg [.lit (.int .i64 x3), .lit (.int .i64 x4), .lit (.int .i64 x5)], .agg [.lit (.int .i64 x6), .lit (.int .i64 x7), .lit (.int .i64 x8)]]) [] := by
  refine ⟨3, ?_⟩
  have := trod_array_mk (enc := enc) (w := W) (base := 0) (spare := sp) (held := true) (n := 2) (cs := [.int .i64 x0, .int .i64 x1, .int .i64 x2, .int .i64 x3, .int .i64 x4, .int .i64 x5, .int .i64 x6, .int .i64 x7, .int .i64 x8]) (ys := [(.agg [.lit (.int .i64 x0), .lit (.int .i64 x1), .lit (.int .i64 x2)], []), (.agg [.lit (.int .i64 x3), .lit (.int .i64 x4), .lit (.int .i64 x5)], []), (.agg [.lit (.int .i64 x6), .lit (.int .i64 x7), .lit (.int .i64 x8)], [])]) Tryd.underlying27 (by rw [cells27]; rfl) (mapM3 (by rw [cells25]; exact seg3 0 w0 w1 w2) (by rw [cells25]; exact seg3 0 w3 w4 w5) (by rw [cells25]; exact seg3 0 w6 w7 w8))
  simpa [Value.cells] using this
theorem gPerm : Tryd.prog.globalNamed "buchholz/group.permutations" = some 0 := by kernel_rfl
theorem tPerm : (Tryd.prog.globals[0]?).map (·.type) = some 157 := by kernel_rfl
theorem of_laidP {W : World} (h : laidMetH Tryd.prog Rows.groupLinesOfRow.laid W) : Tabs W ∧ W.rangeAt 0 0 permL := by
  rw [MakeChecks.laidMetH_plain _ _ _ (by kernel_rfl)] at h
  obtain ⟨ps, ⟨g0, t0, cs0, f0, p0, q0, hg0, ht0, hv0, hd0, ⟨g1, t1, cs1, f1, p1, q1, hg1, ht1, hv1, hd1, ⟨g2, t2, cs2, f2, p2, q2, hg2, ht2, hv2, hd2, ⟨g3, t3, cs3, f3, p3, q3, hg3, ht3, hv3, hd3, ⟨g4, t4, cs4, f4, p4, q4, hg4, ht4, hv4, hd4, ⟨g5, t5, cs5, f5, p5, q5, hg5, ht5, hv5, hd5, ⟨g6, t6, cs6, f6, p6, q6, hg6, ht6, hv6, hd6, _, _⟩, _⟩, _⟩, _⟩, _⟩, _⟩, _⟩, _, _⟩ := h
  obtain rfl := Option.some.inj (g64.symm.trans hg1)
  obtain rfl := Option.some.inj (gLimb.symm.trans hg3)
  obtain rfl := Option.some.inj (gHour.symm.trans hg4)
  obtain rfl := Option.some.inj (gPat.symm.trans hg5)
  obtain rfl := Option.some.inj (tLimb.symm.trans ht3)
  obtain rfl := Option.some.inj (tHour.symm.trans ht4)
  obtain rfl := Option.some.inj (tPat.symm.trans ht5)
  obtain rfl := Option.some.inj (gPerm.symm.trans hg6)
  obtain rfl := Option.some.inj (tPerm.symm.trans ht6)
  obtain rfl := Option.some.inj (t64.symm.trans ht1)
  refine ⟨⟨?_, range_of gPat hv5 ((triples [(1, -1, 0), (1, 0, 0), (1, -2, 1)] Tryd.underlying26 (by kernel_rfl) hd5).trans rfl),
    range_of gLimb hv3 ((pairs [(1, 0), (-1, -1), (0, 1)] Tryd.underlying200 (by kernel_rfl) hd3).trans rfl),
    range_of gHour hv4 ((pairs [(1, 0), (2, 1), (1, 1), (1, 2), (0, 1), (-1, 1), (-1, 0), (-2, -1), (-1, -1), (-1, -2), (0, -1), (1, -1)] Tryd.underlying201 (by kernel_rfl) hd4).trans rfl)⟩, range_of gPerm hv6 ((triples [(0, 1, 2), (0, 2, 1), (1, 0, 2), (1, 2, 0), (2, 0, 1), (2, 1, 0)] Tryd.underlying157 (by kernel_rfl) hd6).trans rfl)⟩
  have hl := (rows u64 hd1).1
  have h0 := World.var?_cell g64 hv1 0
  rw [show cs1[0]? = some (cs1[0]'(by rw [Array.length_toList] at hl; rw [hl]; decide +kernel)) from by simp] at h0
  exact block_lt h0
end Go.Proofs.YtngdhmliohjigaaDoor
