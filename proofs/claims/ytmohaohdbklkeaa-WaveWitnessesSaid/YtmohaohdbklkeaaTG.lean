/- For any rules, pair of records and indexes, valid or not, the law WaveWitnesses of the program answers true, and its arguments read as they did. CONDITIONS: none. -/
import Derived.Test.YtmohaohdbklkeaaTF
import Derived.Test.YtmohaohdbklkeaaTA
import Derived.Test.YtmohaohdbklkeaaTE
set_option linter.unusedVariables false
set_option linter.unusedSimpArgs false
set_option linter.unusedSectionVars false
set_option linter.unnecessarySimpa false
/- Witnesses: the loops that look for them. -/
namespace Go.Proofs.Ytmohaohdbklkeaa
open Go.Ev Go.RowKit
set_option maxRecDepth 100000
abbrev uD : D := .one (.tuple #[])
def fnd (p : Nat → Bool) : Nat → Nat → Option Nat
  | 0, _ => none
  | m + 1, i => if p i = true then some i else fnd p m (i + 1)
theorem fnd_all {p : Nat → Bool} : ∀ {m i : Nat}, (∀ j, i ≤ j → j < i + m → p j = false) → fnd p m i = none
  | 0, _, _ => rfl
  | m + 1, i, h => by
    unfold fnd
    rw [if_neg (by rw [h i (Nat.le_refl _) (by omega)]; decide)]
    exact fnd_all fun j h1 h2 => h j (by omega) (by omega)
theorem fnd_shift (p : Nat → Bool) (a : Nat) : ∀ m i, fnd p m (a + i) = (fnd (fun s => p (a + s)) m i).map (a + ·)
  | 0, _ => rfl
  | m + 1, i => by
    unfold fnd
    by_cases h : p (a + i) = true
    · rw [if_pos h, if_pos h]; rfl
    · rw [if_neg h, if_neg h]
      exact fnd_shift p a m (i + 1)
theorem scanG {n : Nat} {p : Nat → Bool} {S : Rd → Option Rd} {ds es : Nat → List D} {e0 : List D} (hs : ∀ i, i < n → S (.next 0 (ds i)) = if p i = true then some (.out 1 (es i)) else some (.next 0 (ds (i + 1)))) (he : S (.next 0 (ds n)) = some (.out 0 e0)) :
    ∀ m i, i + m = n → (∀ j, fnd p m i = some j → runR S (.next 0 (ds i)) = some (.out 1 (es j))) ∧ (fnd p m i = none → runR S (.next 0 (ds i)) = some (.out 0 e0)) := by
  intro m
  induction m with
  | zero =>
    intro i hi
    have : i = n := by omega
    subst this
    exact ⟨fun j h => (by cases h), fun _ => runR_exit he⟩
  | succ m ih =>
    intro i hi
    have h1 := hs i (by omega)
    unfold fnd
    by_cases h0 : p i = true
    · rw [if_pos h0] at h1 ⊢
      refine ⟨fun j h => ?_, fun h => by cases h⟩
      cases h
      exact runR_exit h1
    · rw [if_neg h0] at h1 ⊢
      rw [runR_next h1]
      exact ih (i + 1) (by omega)
theorem proveL_eq {re : Int} {f : Q4} {l : List Q4} {x y : List Int} (h : PR re f x y) {ws : List Int} (hw : ∀ i, i < ws.length → 0 ≤ at' ws i ∧ at' ws i < x.length) (hw2 : ws.length ≤ 1000) : m_57 [cmpD re f l x y, lD ws] = some (.one (.bool (facL re x y ws f).isNone)) := by
  obtain ⟨px, py, pl, ps⟩ := h
  rw [m_57_eq]
  unfold prove_M
  have a3 : m_55 [.agg [iD re, iD f.a, iD f.b, iD f.c, iD f.d, .list l.length (cQ l), .list x.length (x.map iD), .list y.length (y.map iD)], .list ws.length (ws.map iD)] = _ := factorsL_eq (l := l) px py pl hw hw2 ps
  rw [a3]
  cases hf : facL re x y ws f with
  | some r =>
    unfold facD
    rw [pullD_some (r.a, r.b, r.c, r.d, true) (by rfl) (by rfl)]
    rfl
  | none =>
    unfold facD
    rw [pullD_some ((0 : Int), (0 : Int), (0 : Int), (0 : Int), false) (by rfl) (by rfl)]
    rfl
theorem bnd1 {n i : Nat} (h : i < n) : ∀ j, j < [(i : Int)].length → 0 ≤ at' [(i : Int)] j ∧ at' [(i : Int)] j < n := by
  intro j hj
  have : j = 0 := by simp at hj; omega
  subst this
  show 0 ≤ (i : Int) ∧ (i : Int) < n
  omega
theorem bnd2 {n i k : Nat} (h : i < n) (hk : k < n) : ∀ j, j < [(i : Int), (k : Int)].length → 0 ≤ at' [(i : Int), (k : Int)] j ∧ at' [(i : Int), (k : Int)] j < n := by
  intro j hj
  have : j = 0 ∨ j = 1 := by simp at hj; omega
  rcases this with rfl | rfl
  · show 0 ≤ (i : Int) ∧ (i : Int) < n
    omega
  · show 0 ≤ (k : Int) ∧ (k : Int) < n
    omega
abbrev P1 (e : Int) (x y : List Int) (f : Q4) : Nat → Bool := fun i => (facL e x y [(i : Int)] f).isNone
abbrev P2 (e : Int) (x y : List Int) (f : Q4) (i : Nat) : Nat → Bool := fun k => (facL e x y [(i : Int), (k : Int)] f).isNone
def inn (e : Int) (x y : List Int) (f : Q4) (i : Nat) : Option Nat := fnd (P2 e x y f i) (x.length - (i + 1)) (i + 1)
abbrev P3 (e : Int) (x y : List Int) (f : Q4) : Nat → Bool := fun i => (inn e x y f i).isSome
abbrev snd (e : Int) (x y : List Int) (f : Q4) (i : Nat) : Int := (((inn e x y f i).getD 0 : Nat) : Int)
/-- The witness that is found. -/
def wit (e : Int) (x y : List Int) (f : Q4) : Option (List Int) := match fnd (P1 e x y f) x.length 0 with
  | some i => some [(i : Int)]
  | none => match fnd (P3 e x y f) x.length 0 with
    | some i => some [(i : Int), snd e x y f i]
    | none => none
theorem readSl {n a s : Nat} (h : s < n - a) : readD (List.take ((n - a) * 1) (List.drop (a * 1) ((tab n idx).map iD))) ((s : Int).toNat * 1) 1 false = some (iD ((a + s : Nat) : Int)) := by
  have e1 : List.take ((n - a) * 1) (List.drop (a * 1) ((tab n idx).map iD)) = (((tab n idx).drop a).take (n - a)).map iD := by
    rw [Nat.mul_one, Nat.mul_one, List.map_take, List.map_drop]
  have hl : s < (((tab n idx).drop a).take (n - a)).length := by
    rw [List.length_take, List.length_drop, tab_len]; omega
  rw [e1, readA hl]
  have : at' (((tab n idx).drop a).take (n - a)) s = ((a + s : Nat) : Int) := by
    unfold at'
    rw [List.getElem?_take, if_pos h, List.getElem?_drop, tab_get idx (by omega)]
    rfl
  rw [this]
/-! ### The program's -/
theorem in_go {re : Int} {f : Q4} (l : List Q4) (st su : Int) {x y : List Int} (h : PR re f x y) {i : Nat} (hi : i < x.length) :
    (∀ k, inn re x y f i = some k → runR (witnessOf_L59_12_S re f.a f.b f.c f.d l.length (cQ l) st x.length (x.map iD) su y.length (y.map iD) re f.a f.b f.c f.d l.length (cQ l) x.length (x.map iD) y.length (y.map iD) x.length ((tab x.length idx).map iD) (i : Int) (i : Int)) (.next 0 [uD, iD 0]) = some (.out 1 [.list 2 [iD (i : Int), iD (k : Int)]])) ∧ (inn re x y f i = none → runR (witnessOf_L59_12_S re f.a f.b f.c f.d l.length (cQ l) st x.length (x.map iD) su y.length (y.map iD) re f.a f.b f.c f.d l.length (cQ l) x.length (x.map iD) y.length (y.map iD) x.length ((tab x.length idx).map iD) (i : Int) (i : Int)) (.next 0 [uD, iD 0]) = some (.out 0 [uD])) := by
  have l64 := h.hx.l64
  have g := scanG (n := x.length - (i + 1)) (p := fun s => P2 re x y f i (i + 1 + s)) (S := (witnessOf_L59_12_S re f.a f.b f.c f.d l.length (cQ l) st x.length (x.map iD) su y.length (y.map iD) re f.a f.b f.c f.d l.length (cQ l) x.length (x.map iD) y.length (y.map iD) x.length ((tab x.length idx).map iD) (i : Int) (i : Int))) (ds := fun s => [uD, iD (s : Int)]) (es := fun s => [.list 2 [iD (i : Int), iD ((i + 1 + s : Nat) : Int)]]) (e0 := [uD]) (fun s hs => by
    have a3 : m_57 [.agg [iD re, iD f.a, iD f.b, iD f.c, iD f.d, .list l.length (cQ l), .list x.length (x.map iD), .list y.length (y.map iD)], .list 2 [iD (i : Int), iD ((i + 1 + s : Nat) : Int)]] = _ := proveL_eq (l := l) h (ws := [(i : Int), ((i + 1 + s : Nat) : Int)]) (bnd2 hi (by omega)) (by simp)
    rw [witnessOf_L59_12_S_0]
    unfold witnessOf_L59_12_S0
    rw [pullD_some (s : Int) (by rfl) (by rfl), natI (by omega), Int.toNat_natCast, Int.toNat_natCast]
    rw [if_pos (by omega), guardP_pos (by omega), readSl hs, pullI, a3, pullB]
    by_cases g : (facL re x y [(i : Int), ((i + 1 + s : Nat) : Int)] f).isNone = true
    · rw [if_pos g, if_pos g]
    · rw [if_neg g, if_neg g, natI (by omega)]) (by
    rw [witnessOf_L59_12_S_0]
    unfold witnessOf_L59_12_S0
    rw [pullD_some ((x.length - (i + 1) : Nat) : Int) (by rfl) (by rfl), natI (by omega), Int.toNat_natCast, Int.toNat_natCast]
    rw [if_neg (by omega)]) (x.length - (i + 1)) 0 (by omega)
  have sh := fnd_shift (P2 re x y f i) (i + 1) (x.length - (i + 1)) 0
  have sh : inn re x y f i = _ := sh
  obtain ⟨g1, g2⟩ := g
  rw [sh]
  cases hf : fnd (fun s => P2 re x y f i (i + 1 + s)) (x.length - (i + 1)) 0 with
  | some s =>
    refine ⟨fun k hk => ?_, fun hk => by cases hk⟩
    cases hk
    exact g1 s hf
  | none => exact ⟨fun k hk => (by cases hk), fun _ => g2 hf⟩
theorem out_go {re : Int} {f : Q4} (l : List Q4) (st su : Int) {x y : List Int} (h : PR re f x y) :
    (∀ i, fnd (P3 re x y f) x.length 0 = some i → runR (witnessOf_L59_9_S re f.a f.b f.c f.d l.length (cQ l) st x.length (x.map iD) su y.length (y.map iD) re f.a f.b f.c f.d l.length (cQ l) x.length (x.map iD) y.length (y.map iD) x.length ((tab x.length idx).map iD)) (.next 0 [uD, iD 0]) = some (.out 1 [.list 2 [iD (i : Int), iD (snd re x y f i)]])) ∧ (fnd (P3 re x y f) x.length 0 = none → runR (witnessOf_L59_9_S re f.a f.b f.c f.d l.length (cQ l) st x.length (x.map iD) su y.length (y.map iD) re f.a f.b f.c f.d l.length (cQ l) x.length (x.map iD) y.length (y.map iD) x.length ((tab x.length idx).map iD)) (.next 0 [uD, iD 0]) = some (.out 0 [uD])) := by
  have l64 := h.hx.l64
  exact scanG (n := x.length) (p := P3 re x y f) (S := (witnessOf_L59_9_S re f.a f.b f.c f.d l.length (cQ l) st x.length (x.map iD) su y.length (y.map iD) re f.a f.b f.c f.d l.length (cQ l) x.length (x.map iD) y.length (y.map iD) x.length ((tab x.length idx).map iD))) (ds := fun i => [uD, iD (i : Int)]) (es := fun i => [.list 2 [iD (i : Int), iD (snd re x y f i)]]) (e0 := [uD]) (fun i hi => by
    obtain ⟨g1, g2⟩ := in_go l st su h hi
    rw [witnessOf_L59_9_S_0]
    unfold witnessOf_L59_9_S0
    rw [pullD_some (i : Int) (by rfl) (by rfl)]
    rw [if_pos (by omega), guardP_pos (by omega), readI hi, pullI, guardP_pos ⟨by rw [natI (by omega)]; omega, by rw [natI (by omega)]; omega, Int.le_refl _, by rw [List.length_map, tab_len]; omega⟩]
    show _ = if (inn re x y f i).isSome = true then some (Rd.out 1 [.list 2 [iD (i : Int), iD (((inn re x y f i).getD 0 : Nat) : Int)]]) else _
    cases hf : inn re x y f i with
    | some k =>
      rw [bindL_some (g1 k hf), if_neg (by decide), if_pos rfl, pullD_some ((2 : Nat), [iD (i : Int), iD (k : Int)]) (by rfl) (by rfl), if_pos (by rfl)]
      rfl
    | none =>
      rw [bindL_some (g2 hf), if_pos rfl, pullD_some () (by rfl) (by rfl), natI (by omega)]
      rfl) (by
    rw [witnessOf_L59_9_S_0]
    unfold witnessOf_L59_9_S0
    rw [pullD_some (x.length : Int) (by rfl) (by rfl)]
    rw [if_neg (by omega)]) x.length 0 (by omega)
theorem one_go {re : Int} {f : Q4} (l : List Q4) (st su : Int) {x y : List Int} (h : PR re f x y) :
    (∀ i, fnd (P1 re x y f) x.length 0 = some i → runR (witnessOf_L59_3_S re f.a f.b f.c f.d l.length (cQ l) st x.length (x.map iD) su y.length (y.map iD) re f.a f.b f.c f.d l.length (cQ l) x.length (x.map iD) y.length (y.map iD) x.length ((tab x.length idx).map iD)) (.next 0 [uD, iD 0]) = some (.out 1 [.list 1 [iD (i : Int)]])) ∧ (fnd (P1 re x y f) x.length 0 = none → runR (witnessOf_L59_3_S re f.a f.b f.c f.d l.length (cQ l) st x.length (x.map iD) su y.length (y.map iD) re f.a f.b f.c f.d l.length (cQ l) x.length (x.map iD) y.length (y.map iD) x.length ((tab x.length idx).map iD)) (.next 0 [uD, iD 0]) = some (.out 0 [uD])) := by
  have l64 := h.hx.l64
  exact scanG (n := x.length) (p := P1 re x y f) (S := (witnessOf_L59_3_S re f.a f.b f.c f.d l.length (cQ l) st x.length (x.map iD) su y.length (y.map iD) re f.a f.b f.c f.d l.length (cQ l) x.length (x.map iD) y.length (y.map iD) x.length ((tab x.length idx).map iD))) (ds := fun i => [uD, iD (i : Int)]) (es := fun i => [.list 1 [iD (i : Int)]]) (e0 := [uD]) (fun i hi => by
    have a3 : m_57 [.agg [iD re, iD f.a, iD f.b, iD f.c, iD f.d, .list l.length (cQ l), .list x.length (x.map iD), .list y.length (y.map iD)], .list 1 [iD (i : Int)]] = _ := proveL_eq (l := l) h (ws := [(i : Int)]) (bnd1 hi) (by simp)
    rw [witnessOf_L59_3_S_0]
    unfold witnessOf_L59_3_S0
    rw [pullD_some (i : Int) (by rfl) (by rfl)]
    rw [if_pos (by omega), guardP_pos (by omega), readI hi, pullI, a3, pullB]
    by_cases g : (facL re x y [(i : Int)] f).isNone = true
    · rw [if_pos g, if_pos g]
    · rw [if_neg g, if_neg g, natI (by omega)]) (by
    rw [witnessOf_L59_3_S_0]
    unfold witnessOf_L59_3_S0
    rw [pullD_some (x.length : Int) (by rfl) (by rfl)]
    rw [if_neg (by omega)]) x.length 0 (by omega)
def wiD (re : Int) (f : Q4) (l : List Q4) (st su : Int) (x y : List Int) : D := if prE re f l st su x y ≠ 0 then .tup [.list 0 [], iD (prE re f l st su x y)] else match wit re x y f with
  | some w => .tup [lD w, iD 0]
  | none => .tup [.list 0 [], iD 12]
theorem witnessOf_eq (re : Int) (f : Q4) (l : List Q4) (st su : Int) (x y : List Int) (hl : l.length ≤ 1000) (hx : x.length ≤ 1000) (hy : y.length ≤ 1000) : m_25 [ruD re f l, reD st x, reD su y] = some (wiD re f l st su x y) := by
  rw [m_25_eq]
  unfold witnessOf_M wiD
  have a1 : m_54 [.agg [iD re, iD f.a, iD f.b, iD f.c, iD f.d, .list l.length (cQ l)], .agg [iD st, .list x.length (x.map iD), iD su, .list y.length (y.map iD)]] = _ := comparison_eq re f l st su x y hl hx hy
  rw [a1]
  by_cases g : prE re f l st su x y ≠ 0
  · rw [if_pos g, if_pos g, pullD_some ((0 : Int), (0 : Int), (0 : Int), (0 : Int), (0 : Int), (0 : Nat), ([] : List D), (0 : Nat), ([] : List D), (0 : Nat), ([] : List D), prE re f l st su x y) (by rfl) (by rfl)]
    dsimp only
    rw [if_pos g]
  · rw [if_neg g, if_neg g, pullD_some (re, f.a, f.b, f.c, f.d, l.length, cQ l, x.length, x.map iD, y.length, y.map iD, (0 : Int)) (by rfl) (by rfl)]
    dsimp only
    have hp := PR.of (Classical.not_not.1 g)
    have a2 : m_56 [.agg [iD re, iD f.a, iD f.b, iD f.c, iD f.d, .list l.length (cQ l), .list x.length (x.map iD), .list y.length (y.map iD)]] = _ := indexes_eq re f l x y hp.hx
    rw [if_neg (by decide), a2, pullD_some (x.length, (tab x.length idx).map iD) (by rfl) (by rfl)]
    dsimp only
    obtain ⟨c1, c2⟩ := one_go l st su hp
    obtain ⟨d1, d2⟩ := out_go l st su hp
    unfold wit
    cases h1 : fnd (P1 re x y f) x.length 0 with
    | some i =>
      rw [bindL_some (c1 i h1), if_neg (by decide), if_pos rfl, pullD_some ((1 : Nat), [iD (i : Int)]) (by rfl) (by rfl)]
      dsimp only
      rw [guardP_pos ⟨by simp, by decide⟩]
      rfl
    | none =>
      rw [bindL_some (c2 h1), if_pos rfl, pullD_some () (by rfl) (by rfl)]
      cases h2 : fnd (P3 re x y f) x.length 0 with
      | some i =>
        rw [bindL_some (d1 i h2), if_neg (by decide), if_pos rfl, pullD_some ((2 : Nat), [iD (i : Int), iD (snd re x y f i)]) (by rfl) (by rfl)]
        dsimp only
        rw [guardP_pos ⟨by simp, by decide⟩]
        rfl
      | none =>
        rw [bindL_some (d2 h2), if_pos rfl, pullD_some () (by rfl) (by rfl)]
/-! ### The reference's -/
theorem rin_go {re : Int} {f : Q4} (l : List Q4) (st su : Int) {x y : List Int} (h : PR re f x y) (r : Int × Int × Int × Int) (o : Bool) {i : Nat} (hi : i < x.length) :
    (∀ k, inn re x y f i = some k → runR (witnessR_L15_S re f.a f.b f.c f.d l.length (cQ l) st x.length (x.map iD) su y.length (y.map iD) x.length ((tab x.length idx).map iD) r.1 r.2.1 r.2.2.1 r.2.2.2 o (i : Int)) (.next 0 [uD, iD ((i + 1 : Nat) : Int)]) = some (.out 1 [.list 2 [iD (i : Int), iD (k : Int)], .one (.bool true)])) ∧ (inn re x y f i = none → runR (witnessR_L15_S re f.a f.b f.c f.d l.length (cQ l) st x.length (x.map iD) su y.length (y.map iD) x.length ((tab x.length idx).map iD) r.1 r.2.1 r.2.2.1 r.2.2.2 o (i : Int)) (.next 0 [uD, iD ((i + 1 : Nat) : Int)]) = some (.out 0 [uD])) := by
  have l64 := h.hx.l64
  exact scanG (n := x.length) (p := P2 re x y f i) (S := (witnessR_L15_S re f.a f.b f.c f.d l.length (cQ l) st x.length (x.map iD) su y.length (y.map iD) x.length ((tab x.length idx).map iD) r.1 r.2.1 r.2.2.1 r.2.2.2 o (i : Int))) (ds := fun k => [uD, iD (k : Int)]) (es := fun k => [.list 2 [iD (i : Int), iD (k : Int)], .one (.bool true)]) (e0 := [uD]) (fun k hk => by
    have a3 : m_23 [.agg [iD re, iD f.a, iD f.b, iD f.c, iD f.d, .list l.length (cQ l)], .agg [iD st, .list x.length (x.map iD)], .agg [iD su, .list y.length (y.map iD)], .list 2 [iD (i : Int), iD (k : Int)]] = _ := factorsRL_eq (l := l) (st := st) (su := su) h.hx h.hy h.hl (ws := [(i : Int), (k : Int)]) (bnd2 hi hk) (by simp) h.hs
    rw [witnessR_L15_S_0]
    unfold witnessR_L15_S0
    rw [pullD_some (k : Int) (by rfl) (by rfl)]
    rw [if_pos (by omega), a3]
    show _ = if (facL re x y [(i : Int), (k : Int)] f).isNone = true then _ else _
    cases hf : facL re x y [(i : Int), (k : Int)] f with
    | some r =>
      unfold facD
      rw [pullD_some (r.a, r.b, r.c, r.d, true) (by rfl) (by rfl)]
      dsimp only
      rw [if_neg (by decide), if_neg (by simp), natI (by omega)]
    | none =>
      unfold facD
      rw [pullD_some ((0 : Int), (0 : Int), (0 : Int), (0 : Int), false) (by rfl) (by rfl)]
      dsimp only
      rw [if_pos rfl, if_pos (by rfl)]) (by
    rw [witnessR_L15_S_0]
    unfold witnessR_L15_S0
    rw [pullD_some (x.length : Int) (by rfl) (by rfl)]
    rw [if_neg (by omega)]) (x.length - (i + 1)) (i + 1) (by omega)
theorem rout_go {re : Int} {f : Q4} (l : List Q4) (st su : Int) {x y : List Int} (h : PR re f x y) (r : Int × Int × Int × Int) (o : Bool) :
    (∀ i, fnd (P3 re x y f) x.length 0 = some i → runR (witnessR_L12_S re f.a f.b f.c f.d l.length (cQ l) st x.length (x.map iD) su y.length (y.map iD) x.length ((tab x.length idx).map iD) r.1 r.2.1 r.2.2.1 r.2.2.2 o) (.next 0 [uD, iD 0]) = some (.out 1 [.list 2 [iD (i : Int), iD (snd re x y f i)], .one (.bool true)])) ∧ (fnd (P3 re x y f) x.length 0 = none → runR (witnessR_L12_S re f.a f.b f.c f.d l.length (cQ l) st x.length (x.map iD) su y.length (y.map iD) x.length ((tab x.length idx).map iD) r.1 r.2.1 r.2.2.1 r.2.2.2 o) (.next 0 [uD, iD 0]) = some (.out 0 [uD])) := by
  have l64 := h.hx.l64
  exact scanG (n := x.length) (p := P3 re x y f) (S := (witnessR_L12_S re f.a f.b f.c f.d l.length (cQ l) st x.length (x.map iD) su y.length (y.map iD) x.length ((tab x.length idx).map iD) r.1 r.2.1 r.2.2.1 r.2.2.2 o)) (ds := fun i => [uD, iD (i : Int)]) (es := fun i => [.list 2 [iD (i : Int), iD (snd re x y f i)], .one (.bool true)]) (e0 := [uD]) (fun i hi => by
    obtain ⟨g1, g2⟩ := rin_go l st su h r o hi
    rw [witnessR_L12_S_0]
    unfold witnessR_L12_S0
    rw [pullD_some (i : Int) (by rfl) (by rfl)]
    rw [if_pos (by omega), natI (by omega)]
    show _ = if (inn re x y f i).isSome = true then some (Rd.out 1 [.list 2 [iD (i : Int), iD (((inn re x y f i).getD 0 : Nat) : Int)], .one (.bool true)]) else _
    cases hf : inn re x y f i with
    | some k =>
      rw [bindL_some (g1 k hf), if_neg (by decide), if_pos rfl, pullD_some ((2 : Nat), [iD (i : Int), iD (k : Int)], true) (by rfl) (by rfl), if_pos (by rfl)]
      rfl
    | none =>
      rw [bindL_some (g2 hf), if_pos rfl, pullD_some () (by rfl) (by rfl)]
      rfl) (by
    rw [witnessR_L12_S_0]
    unfold witnessR_L12_S0
    rw [pullD_some (x.length : Int) (by rfl) (by rfl)]
    rw [if_neg (by omega)]) x.length 0 (by omega)
theorem rone_go {re : Int} {f : Q4} (l : List Q4) (st su : Int) {x y : List Int} (h : PR re f x y) (r : Int × Int × Int × Int) (o : Bool) :
    (∀ i, fnd (P1 re x y f) x.length 0 = some i → runR (witnessR_L6_S re f.a f.b f.c f.d l.length (cQ l) st x.length (x.map iD) su y.length (y.map iD) x.length ((tab x.length idx).map iD) r.1 r.2.1 r.2.2.1 r.2.2.2 o) (.next 0 [uD, iD 0]) = some (.out 1 [.list 1 [iD (i : Int)], .one (.bool true)])) ∧ (fnd (P1 re x y f) x.length 0 = none → runR (witnessR_L6_S re f.a f.b f.c f.d l.length (cQ l) st x.length (x.map iD) su y.length (y.map iD) x.length ((tab x.length idx).map iD) r.1 r.2.1 r.2.2.1 r.2.2.2 o) (.next 0 [uD, iD 0]) = some (.out 0 [uD])) := by
  have l64 := h.hx.l64
  exact scanG (n := x.length) (p := P1 re x y f) (S := (witnessR_L6_S re f.a f.b f.c f.d l.length (cQ l) st x.length (x.map iD) su y.length (y.map iD) x.length ((tab x.length idx).map iD) r.1 r.2.1 r.2.2.1 r.2.2.2 o)) (ds := fun i => [uD, iD (i : Int)]) (es := fun i => [.list 1 [iD (i : Int)], .one (.bool true)]) (e0 := [uD]) (fun i hi => by
    have a3 : m_23 [.agg [iD re, iD f.a, iD f.b, iD f.c, iD f.d, .list l.length (cQ l)], .agg [iD st, .list x.length (x.map iD)], .agg [iD su, .list y.length (y.map iD)], .list 1 [iD (i : Int)]] = _ := factorsRL_eq (l := l) (st := st) (su := su) h.hx h.hy h.hl (ws := [(i : Int)]) (bnd1 hi) (by simp) h.hs
    rw [witnessR_L6_S_0]
    unfold witnessR_L6_S0
    rw [pullD_some (i : Int) (by rfl) (by rfl)]
    rw [if_pos (by omega), a3]
    show _ = if (facL re x y [(i : Int)] f).isNone = true then _ else _
    cases hf : facL re x y [(i : Int)] f with
    | some r =>
      unfold facD
      rw [pullD_some (r.a, r.b, r.c, r.d, true) (by rfl) (by rfl)]
      dsimp only
      rw [if_neg (by decide), if_neg (by simp), natI (by omega)]
    | none =>
      unfold facD
      rw [pullD_some ((0 : Int), (0 : Int), (0 : Int), (0 : Int), false) (by rfl) (by rfl)]
      dsimp only
      rw [if_pos rfl, if_pos (by rfl)]) (by
    rw [witnessR_L6_S_0]
    unfold witnessR_L6_S0
    rw [pullD_some (x.length : Int) (by rfl) (by rfl)]
    rw [if_neg (by omega)]) x.length 0 (by omega)
def wrD (e : Int) (x y : List Int) (f : Q4) : D := if (facL e x y (tab x.length idx) f).isSome = true then .tup [.list 0 [], .one (.bool false)] else match wit e x y f with
  | some w => .tup [lD w, .one (.bool true)]
  | none => .tup [.list 0 [], .one (.bool false)]
theorem allB {n : Nat} : ∀ i, i < (tab n idx).length → 0 ≤ at' (tab n idx) i ∧ at' (tab n idx) i < n := by
  intro i hi
  rw [tab_len] at hi
  rw [tab_at idx hi]
  show 0 ≤ (i : Int) ∧ (i : Int) < n
  omega
theorem witnessR_eq {re : Int} {f : Q4} (l : List Q4) (st su : Int) {x y : List Int} (h : PR re f x y) : m_29 [ruD re f l, reD st x, reD su y] = some (wrD re x y f) := by
  have l64 := h.hx.l64
  rw [m_29_eq]
  unfold witnessR_M wrD
  have a1 : m_24 [.agg [iD st, .list x.length (x.map iD)]] = _ := all_eq re st x h.hx
  have a2 : m_23 [.agg [iD re, iD f.a, iD f.b, iD f.c, iD f.d, .list l.length (cQ l)], .agg [iD st, .list x.length (x.map iD)], .agg [iD su, .list y.length (y.map iD)], .list (tab x.length idx).length ((tab x.length idx).map iD)] = _ := factorsRL_eq (l := l) (st := st) (su := su) h.hx h.hy h.hl (ws := tab x.length idx) allB (by rw [tab_len]; omega) h.hs
  rw [tab_len] at a2
  rw [a1, pullD_some (x.length, (tab x.length idx).map iD) (by rfl) (by rfl)]
  dsimp only
  rw [a2]
  cases hf : facL re x y (tab x.length idx) f with
  | some r =>
    unfold facD
    rw [pullD_some (r.a, r.b, r.c, r.d, true) (by rfl) (by rfl)]
    dsimp only
    rw [if_pos rfl, if_pos (by rfl)]
  | none =>
    unfold facD
    rw [pullD_some ((0 : Int), (0 : Int), (0 : Int), (0 : Int), false) (by rfl) (by rfl)]
    dsimp only
    rw [if_neg (by decide), if_neg (by simp)]
    obtain ⟨c1, c2⟩ := rone_go l st su h (0, 0, 0, 0) false
    obtain ⟨d1, d2⟩ := rout_go l st su h (0, 0, 0, 0) false
    unfold wit
    cases h1 : fnd (P1 re x y f) x.length 0 with
    | some i =>
      rw [bindL_some (c1 i h1), if_neg (by decide), if_pos rfl, pullD_some ((1 : Nat), [iD (i : Int)], true) (by rfl) (by rfl)]
      dsimp only
      rw [guardP_pos ⟨by simp, by decide⟩]
      rfl
    | none =>
      rw [bindL_some (c2 h1), if_pos rfl, pullD_some () (by rfl) (by rfl)]
      cases h2 : fnd (P3 re x y f) x.length 0 with
      | some i =>
        rw [bindL_some (d1 i h2), if_neg (by decide), if_pos rfl, pullD_some ((2 : Nat), [iD (i : Int), iD (snd re x y f i)], true) (by rfl) (by rfl)]
        dsimp only
        rw [guardP_pos ⟨by simp, by decide⟩]
        rfl
      | none =>
        rw [bindL_some (d2 h2), if_pos rfl, pullD_some () (by rfl) (by rfl)]
/-- Where all indexes leave a factor no witness is found. -/
theorem wit_none {re : Int} {f : Q4} {x y : List Int} (h : PR re f x y) (ha : (facL re x y (tab x.length idx) f).isSome = true) : wit re x y f = none := by
  have sub : ∀ w : List Nat, (∀ v ∈ w, v < x.length) → (facL re x y (w.map idx) f).isSome = true := fun w hw => facL_sub h.hx h.hy h.hl h.hs (all := List.range x.length) (fun v hv => List.mem_range.1 hv) (fun v hv => List.mem_range.2 (hw v hv)) ha
  unfold wit
  rw [fnd_all (p := P1 re x y f) fun j _ hj => (by
    have := sub [j] (fun v hv => by simp at hv; omega)
    have : (facL re x y [(j : Int)] f).isSome = true := this
    cases hf : facL re x y [(j : Int)] f with
    | some r => simp [hf]
    | none => rw [hf] at this; cases this)]
  dsimp only
  rw [fnd_all (p := P3 re x y f) fun i _ hi => (by
    have : inn re x y f i = none := fnd_all fun j h1 hj => by
      have := sub [i, j] (fun v hv => by simp at hv; omega)
      have : (facL re x y [(i : Int), (j : Int)] f).isSome = true := this
      cases hf : facL re x y [(i : Int), (j : Int)] f with
      | some r => simp [hf]
      | none => rw [hf] at this; cases this
    show (inn re x y f i).isSome = false
    rw [this]
    rfl)]
end Go.Proofs.Ytmohaohdbklkeaa
/- Witnesses: what is accepted; the law. -/
namespace Go.Proofs.Ytmohaohdbklkeaa
open Go.Ev Go.RowKit
set_option maxRecDepth 100000
/-- What is wrong with an index of a witness. -/
def cwE (n : Nat) (w : List Int) (i : Nat) : Int := if at' w i < 0 then 6 else if at' w i ≥ n then 6 else if 0 < i ∧ at' w i ≤ at' w (i - 1) then 9 else 0
theorem cw_go (re : Int) (f : Q4) (l : List Q4) (x y w : List Int) (hw : w.length ≤ 1000) : runR (checkIndexes_L2_S re f.a f.b f.c f.d l.length (cQ l) x.length (x.map iD) y.length (y.map iD) w.length (w.map iD)) (.next 0 [iD 0]) = match frst (cwE x.length w) w.length 0 with | none => some (.out 0 []) | some j => some (.out 1 [iD (j : Int), iD (cwE x.length w j)]) := by
  exact scanE (n := w.length) (e := cwE x.length w) (fun i hi => by
    rw [checkIndexes_L2_S_0]
    unfold checkIndexes_L2_S0
    rw [pullD_some (i : Int) (by rfl) (by rfl)]
    rw [if_pos (by omega), guardP_pos (by omega), readA hi, pullI]
    unfold cwE
    by_cases g1 : at' w i < 0
    · rw [if_pos g1, if_pos g1, if_neg (by decide)]
    rw [if_neg g1, if_neg g1]
    by_cases g2 : at' w i ≥ x.length
    · rw [if_pos g2, if_pos g2, if_neg (by decide)]
    rw [if_neg g2, if_neg g2]
    by_cases g3 : 0 < i
    · have e1 : IntKind.i64.wrap ((i : Int) - 1) = ((i - 1 : Nat) : Int) := by rw [wrapJ _ (by omega) (by omega)]; omega
      rw [if_pos (by omega), e1, guardP_pos (by omega), readA (i := i - 1) (by omega), pullI, natI (by omega)]
      by_cases g4 : at' w i ≤ at' w (i - 1)
      · have c9 : (if 0 < i ∧ at' w i ≤ at' w (i - 1) then (9 : Int) else 0) = 9 := if_pos ⟨g3, g4⟩
        rw [if_pos g4, c9, if_neg (by decide)]
      · have c9 : (if 0 < i ∧ at' w i ≤ at' w (i - 1) then (9 : Int) else 0) = 0 := if_neg fun h => g4 h.2
        rw [if_neg g4, c9, if_pos rfl]
    · have c9 : (if 0 < i ∧ at' w i ≤ at' w (i - 1) then (9 : Int) else 0) = 0 := if_neg fun h => g3 h.1
      rw [if_neg (by omega), c9, if_pos rfl, natI (by omega)]) (by
    rw [checkIndexes_L2_S_0]
    unfold checkIndexes_L2_S0
    rw [pullD_some (w.length : Int) (by rfl) (by rfl)]
    rw [if_neg (by omega)]) w.length 0 (by omega)
theorem checkIndexes_eq (re : Int) (f : Q4) (l : List Q4) (x y w : List Int) (hw : w.length ≤ 1000) : m_60 [cmpD re f l x y, lD w] = some (match frst (cwE x.length w) w.length 0 with | none => .tup [iD 0, iD 0] | some j => .tup [iD (j : Int), iD (cwE x.length w j)]) := by
  rw [m_60_eq]
  unfold checkIndexes_M
  have hr := cw_go re f l x y w hw
  cases hf : frst (cwE x.length w) w.length 0 with
  | none =>
    rw [hf] at hr
    rw [bindL_some hr, if_pos rfl, pullD_some () (by rfl) (by rfl)]
  | some j =>
    rw [hf] at hr
    rw [bindL_some hr, if_neg (by decide), if_pos rfl, pullD_some ((j : Int), cwE x.length w j) (by rfl) (by rfl)]
theorem cwr_go (re : Int) (f : Q4) (l : List Q4) (st su : Int) (x y w : List Int) (hx : x.length ≤ 1000) (hw : w.length ≤ 1000) : runR (checkWitnessR_L2_S re f.a f.b f.c f.d l.length (cQ l) st x.length (x.map iD) su y.length (y.map iD) w.length (w.map iD)) (.next 0 [iD 0]) = match frst (cwE x.length w) w.length 0 with | none => some (.out 0 []) | some j => some (.out 1 [iD (j : Int), iD (cwE x.length w j)]) := by
  exact scanE (n := w.length) (e := cwE x.length w) (fun i hi => by
    rw [checkWitnessR_L2_S_0]
    unfold checkWitnessR_L2_S0
    rw [pullD_some (i : Int) (by rfl) (by rfl)]
    rw [if_pos (by omega), guardP_pos (by omega), readA hi, pullI, wrapJ ((x.length : Int) - 1) (by omega) (by omega), within_eq, pullB]
    unfold cwE
    by_cases g1 : at' w i < 0
    · rw [if_pos g1, if_pos (decide_eq_false (by omega)), if_neg (by decide)]
    rw [if_neg g1]
    by_cases g2 : at' w i ≥ x.length
    · rw [if_pos g2, if_pos (decide_eq_false (by omega)), if_neg (by decide)]
    rw [if_neg g2, decide_eq_true (by omega), if_neg (by decide)]
    by_cases g3 : 0 < i
    · have e1 : IntKind.i64.wrap ((i : Int) - 1) = ((i - 1 : Nat) : Int) := by rw [wrapJ _ (by omega) (by omega)]; omega
      rw [if_pos (by omega), pullI, e1, guardP_pos (by omega), readA (i := i - 1) (by omega), pullI, natI (by omega)]
      by_cases g4 : at' w i ≤ at' w (i - 1)
      · have c9 : (if 0 < i ∧ at' w i ≤ at' w (i - 1) then (9 : Int) else 0) = 9 := if_pos ⟨g3, g4⟩
        rw [if_pos g4, c9, if_neg (by decide)]
      · have c9 : (if 0 < i ∧ at' w i ≤ at' w (i - 1) then (9 : Int) else 0) = 0 := if_neg fun h => g4 h.2
        rw [if_neg g4, c9, if_pos rfl]
    · have c9 : (if 0 < i ∧ at' w i ≤ at' w (i - 1) then (9 : Int) else 0) = 0 := if_neg fun h => g3 h.1
      rw [if_neg (by omega), c9, if_pos rfl, natI (by omega)]) (by
    rw [checkWitnessR_L2_S_0]
    unfold checkWitnessR_L2_S0
    rw [pullD_some (w.length : Int) (by rfl) (by rfl)]
    rw [if_neg (by omega)]) w.length 0 (by omega)
/-- Which position is wrong, and why. -/
def cwA (re : Int) (f : Q4) (x y w : List Int) : Int × Int := match frst (cwE x.length w) w.length 0 with
  | some j => ((j : Int), cwE x.length w j)
  | none => (0, if (facL re x y w f).isSome = true then 19 else 0)
theorem cw_in {n : Nat} {w : List Int} (h : frst (cwE n w) w.length 0 = none) : ∀ i, i < w.length → 0 ≤ at' w i ∧ at' w i < n := by
  intro i hi
  have := frst_none h i (by omega) (by omega)
  unfold cwE at this
  by_cases g1 : at' w i < 0
  · rw [if_pos g1] at this; cases this
  rw [if_neg g1] at this
  by_cases g2 : at' w i ≥ n
  · rw [if_pos g2] at this; cases this
  omega
theorem checkWitness_bad (re : Int) (f : Q4) (l : List Q4) (st su : Int) (x y w : List Int) (hl : l.length ≤ 1000) (hx : x.length ≤ 1000) (hy : y.length ≤ 1000) (g : prE re f l st su x y ≠ 0) : m_26 [ruD re f l, .agg [iD st, .list x.length (x.map iD), iD su, .list y.length (y.map iD)], lD w] = some (.tup [iD 0, iD (prE re f l st su x y)]) := by
  rw [m_26_eq]
  unfold checkWitness_M
  have a1 : m_54 [.agg [iD re, iD f.a, iD f.b, iD f.c, iD f.d, .list l.length (cQ l)], .agg [iD st, .list x.length (x.map iD), iD su, .list y.length (y.map iD)]] = _ := comparison_eq re f l st su x y hl hx hy
  rw [a1, if_pos g, pullD_some ((0 : Int), (0 : Int), (0 : Int), (0 : Int), (0 : Int), (0 : Nat), ([] : List D), (0 : Nat), ([] : List D), (0 : Nat), ([] : List D), prE re f l st su x y) (by rfl) (by rfl)]
  dsimp only
  rw [if_pos g]
theorem checkWitness_eq (re : Int) (f : Q4) (l : List Q4) (st su : Int) (x y w : List Int) (hl : l.length ≤ 1000) (hx : x.length ≤ 1000) (hy : y.length ≤ 1000) (hw : w.length ≤ 1000) (g : ¬ prE re f l st su x y ≠ 0) : m_26 [ruD re f l, .agg [iD st, .list x.length (x.map iD), iD su, .list y.length (y.map iD)], lD w] = some (.tup [iD (cwA re f x y w).1, iD (cwA re f x y w).2]) := by
  rw [m_26_eq]
  unfold checkWitness_M cwA
  have a1 : m_54 [.agg [iD re, iD f.a, iD f.b, iD f.c, iD f.d, .list l.length (cQ l)], .agg [iD st, .list x.length (x.map iD), iD su, .list y.length (y.map iD)]] = _ := comparison_eq re f l st su x y hl hx hy
  have a2 : m_60 [.agg [iD re, iD f.a, iD f.b, iD f.c, iD f.d, .list l.length (cQ l), .list x.length (x.map iD), .list y.length (y.map iD)], .list w.length (w.map iD)] = _ := checkIndexes_eq re f l x y w hw
  rw [a1, if_neg g, pullD_some (re, f.a, f.b, f.c, f.d, l.length, cQ l, x.length, x.map iD, y.length, y.map iD, (0 : Int)) (by rfl) (by rfl)]
  dsimp only
  rw [if_neg (by decide), a2]
  cases hf : frst (cwE x.length w) w.length 0 with
  | some j =>
    have hj := (frst_some hf).1
    rw [pullD_some ((j : Int), cwE x.length w j) (by rfl) (by rfl)]
    dsimp only
    rw [if_pos hj]
  | none =>
    have a3 : m_57 [.agg [iD re, iD f.a, iD f.b, iD f.c, iD f.d, .list l.length (cQ l), .list x.length (x.map iD), .list y.length (y.map iD)], .list w.length (w.map iD)] = _ := proveL_eq (l := l) (PR.of (Classical.not_not.1 g)) (cw_in hf) hw
    rw [pullD_some ((0 : Int), (0 : Int)) (by rfl) (by rfl)]
    dsimp only
    rw [if_neg (by decide), a3, pullB]
    cases hg : facL re x y w f with
    | some r => rw [if_pos (by rfl), if_pos (by rfl)]
    | none => rw [if_neg (by simp), if_neg (by simp)]
theorem checkWitnessR_eq (re : Int) (f : Q4) (l : List Q4) (st su : Int) (x y w : List Int) (hx : x.length ≤ 1000) (hw : w.length ≤ 1000) (g : ¬ prE re f l st su x y ≠ 0) : m_28 [ruD re f l, .agg [iD st, .list x.length (x.map iD), iD su, .list y.length (y.map iD)], lD w] = some (.tup [iD (cwA re f x y w).1, iD (cwA re f x y w).2]) := by
  rw [m_28_eq]
  unfold checkWitnessR_M cwA
  have hr := cwr_go re f l st su x y w hx hw
  cases hf : frst (cwE x.length w) w.length 0 with
  | some j =>
    rw [hf] at hr
    rw [bindL_some hr, if_neg (by decide), if_pos rfl, pullD_some ((j : Int), cwE x.length w j) (by rfl) (by rfl)]
  | none =>
    rw [hf] at hr
    have h := PR.of (Classical.not_not.1 g)
    have a3 : m_23 [.agg [iD re, iD f.a, iD f.b, iD f.c, iD f.d, .list l.length (cQ l)], .agg [iD st, .list x.length (x.map iD)], .agg [iD su, .list y.length (y.map iD)], .list w.length (w.map iD)] = _ := factorsRL_eq (l := l) (st := st) (su := su) h.hx h.hy h.hl (ws := w) (cw_in hf) hw h.hs
    rw [bindL_some hr, if_pos rfl, pullD_some () (by rfl) (by rfl), a3]
    cases hg : facL re x y w f with
    | some r =>
      unfold facD
      rw [pullD_some (r.a, r.b, r.c, r.d, true) (by rfl) (by rfl)]
      dsimp only
      rw [if_pos rfl, if_pos (by rfl)]
    | none =>
      unfold facD
      rw [pullD_some ((0 : Int), (0 : Int), (0 : Int), (0 : Int), false) (by rfl) (by rfl)]
      dsimp only
      rw [if_neg (by decide), if_neg (by simp)]
theorem ints_same (w : List Int) (hw : w.length ≤ 1000) : m_30 [lD w, lD w] = some (.one (.bool true)) := by
  rw [m_30_eq]
  unfold intsB_M
  have a := runR_scan (S := intsB_L4_S w.length (w.map iD) w.length (w.map iD)) (fun _ => 0) (fun i => [iD (i : Int)]) (a := 0) (b := w.length) (Nat.zero_le _) (fun i _ hi => by
    show intsB_L4_S w.length (w.map iD) w.length (w.map iD) (.next 0 [iD (i : Int)]) = _
    rw [intsB_L4_S_0]
    unfold intsB_L4_S0
    rw [pullD_some (i : Int) (by rfl) (by rfl)]
    rw [if_pos (by omega), guardP_pos (by omega), readA hi, pullI, guardP_pos (by omega), pullI, if_neg (by simp), natI (by omega)])
  have b : intsB_L4_S w.length (w.map iD) w.length (w.map iD) (.next 0 [iD (w.length : Int)]) = some (.out 0 []) := by
    rw [intsB_L4_S_0]
    unfold intsB_L4_S0
    rw [pullD_some (w.length : Int) (by rfl) (by rfl)]
    rw [if_neg (by omega)]
  have hr : runR (intsB_L4_S w.length (w.map iD) w.length (w.map iD)) (.next 0 [iD 0]) = some (.out 0 []) := a.trans (runR_exit b)
  rw [if_neg (by simp), bindL_some hr, if_pos rfl, pullD_some () (by rfl) (by rfl)]
theorem wit_len {re : Int} {f : Q4} {x y w : List Int} (h : wit re x y f = some w) : w.length ≤ 1000 := by
  unfold wit at h
  split at h
  · cases h; simp
  · split at h
    · cases h; simp
    · cases h
theorem law5_eq (re : Int) (f : Q4) (l : List Q4) (st su : Int) (x y w : List Int) : m_5 [ruD re f l, .agg [iD st, lD x, iD su, lD y], lD w] = some (.one (.bool true)) := by
  rw [m_5_eq]
  unfold law5_M
  have a1 : m_10 [.agg [iD st, .list x.length (x.map iD)]] = _ := few_eq st x
  have a2 : m_10 [.agg [iD su, .list y.length (y.map iD)]] = _ := few_eq su y
  have a3 : m_11 [.agg [iD re, iD f.a, iD f.b, iD f.c, iD f.d, .list l.length (cQ l)]] = _ := fewF_eq re f l
  rw [m_9_eq, pullB, if_neg (by decide), a1, pullB]
  by_cases g1 : ¬ (x.length : Int) ≤ 70
  · rw [if_pos (by simpa using g1)]
  have g1 := Classical.not_not.1 g1
  rw [if_neg (by simpa using g1), a2, pullB]
  by_cases g2 : ¬ (y.length : Int) ≤ 70
  · rw [if_pos (by simpa using g2)]
  have g2 := Classical.not_not.1 g2
  rw [if_neg (by simpa using g2), a3, pullB]
  by_cases g3 : ¬ (l.length : Int) ≤ 6
  · rw [if_pos (by simpa using g3)]
  have g3 := Classical.not_not.1 g3
  rw [if_neg (by simpa using g3)]
  by_cases g4 : (w.length : Int) > 70
  · rw [if_pos g4]
  rw [if_neg g4]
  have hl : l.length ≤ 1000 := by omega
  have hx : x.length ≤ 1000 := by omega
  have hy : y.length ≤ 1000 := by omega
  have hw : w.length ≤ 1000 := by omega
  have b1 : m_13 [.agg [iD re, iD f.a, iD f.b, iD f.c, iD f.d, .list l.length (cQ l)]] = _ := copyRules_eq re f l hl
  have b2 : m_14 [.agg [iD st, .list x.length (x.map iD)]] = _ := copyRecord_eq st x hx
  have b3 : m_14 [.agg [iD su, .list y.length (y.map iD)]] = _ := copyRecord_eq su y hy
  have b4 : m_27 [.list w.length (w.map iD)] = _ := copyInts_eq w hw
  have c1 : m_25 [.agg [iD re, iD f.a, iD f.b, iD f.c, iD f.d, .list l.length (cQ l)], .agg [iD st, .list x.length (x.map iD)], .agg [iD su, .list y.length (y.map iD)]] = _ := witnessOf_eq re f l st su x y hl hx hy
  have c4 : m_22 [.agg [iD re, iD f.a, iD f.b, iD f.c, iD f.d, .list l.length (cQ l)], .agg [iD st, .list x.length (x.map iD)], .agg [iD su, .list y.length (y.map iD)]] = _ := pairErr_eq re f l st su x y hl hx hy
  have copies : ∀ {β : Type} (k : Int × Int × Int × Int × Int × Nat × List D → Option β), pullD (some (ruD re f l)) (fun d => ((D.vi (D.at d 0)), (D.vi (D.at d 1)), (D.vi (D.at d 2)), (D.vi (D.at d 3)), (D.vi (D.at d 4)), (D.ln (D.at d 5)), (D.lc (D.at d 5)))) (fun (r4, r5, r6, r7, r8, k9, c10) => .agg [iD r4, iD r5, iD r6, iD r7, iD r8, .list k9 c10]) k = k (re, f.a, f.b, f.c, f.d, l.length, cQ l) := fun k => pullD_some (re, f.a, f.b, f.c, f.d, l.length, cQ l) (by rfl) (by rfl)
  have copyX : ∀ {β : Type} (s : Int) (z : List Int) (k : Int × Nat × List D → Option β), pullD (some (reD s z)) (fun d => ((D.vi (D.at d 0)), (D.ln (D.at d 1)), (D.lc (D.at d 1)))) (fun (r11, k12, c13) => .agg [iD r11, .list k12 c13]) k = k (s, z.length, z.map iD) := fun s z k => pullD_some (s, z.length, z.map iD) (by rfl) (by rfl)
  rw [b1, copies]
  dsimp only
  rw [b2, copyX]
  dsimp only
  rw [b3, copyX]
  dsimp only
  rw [c1]
  by_cases g : prE re f l st su x y ≠ 0
  · have d1 : wiD re f l st su x y = .tup [.list 0 [], iD (prE re f l st su x y)] := by unfold wiD; rw [if_pos g]
    have c2 : m_26 [.agg [iD re, iD f.a, iD f.b, iD f.c, iD f.d, .list l.length (cQ l)], .agg [iD st, .list x.length (x.map iD), iD su, .list y.length (y.map iD)], .list w.length (w.map iD)] = _ := checkWitness_bad re f l st su x y w hl hx hy g
    rw [d1, pullD_some ((0 : Nat), ([] : List D), prE re f l st su x y) (by rfl) (by rfl)]
    dsimp only
    rw [copies]
    dsimp only
    rw [copyX]
    dsimp only
    rw [copyX]
    dsimp only
    rw [b4, pullD_some (w.length, w.map iD) (by rfl) (by rfl)]
    dsimp only
    rw [c2, pullD_some ((0 : Int), prE re f l st su x y) (by rfl) (by rfl)]
    dsimp only
    rw [c4, pullI, if_pos g, if_pos rfl, if_pos rfl, if_pos (by rfl)]
    rfl
  · have hp := PR.of (Classical.not_not.1 g)
    have c2 : m_26 [.agg [iD re, iD f.a, iD f.b, iD f.c, iD f.d, .list l.length (cQ l)], .agg [iD st, .list x.length (x.map iD), iD su, .list y.length (y.map iD)], .list w.length (w.map iD)] = _ := checkWitness_eq re f l st su x y w hl hx hy hw g
    have c3 : m_28 [.agg [iD re, iD f.a, iD f.b, iD f.c, iD f.d, .list l.length (cQ l)], .agg [iD st, .list x.length (x.map iD), iD su, .list y.length (y.map iD)], .list w.length (w.map iD)] = _ := checkWitnessR_eq re f l st su x y w hx hw g
    have c5 : m_29 [.agg [iD re, iD f.a, iD f.b, iD f.c, iD f.d, .list l.length (cQ l)], .agg [iD st, .list x.length (x.map iD)], .agg [iD su, .list y.length (y.map iD)]] = _ := witnessR_eq l st su hp
    have tail : ∀ (k : Nat) (c : List D) (e : Int), (wiD re f l st su x y = .tup [.list k c, iD e]) → True := fun _ _ _ _ => trivial
    cases ha : wit re x y f with
    | some v =>
      have d1 : wiD re f l st su x y = .tup [.list v.length (v.map iD), iD 0] := by unfold wiD; rw [if_neg g, ha]
      have hn : ¬ (facL re x y (tab x.length idx) f).isSome = true := fun h => by rw [wit_none hp h] at ha; cases ha
      have d2 : wrD re x y f = .tup [.list v.length (v.map iD), .one (.bool true)] := by unfold wrD; rw [if_neg hn, ha]
      have c6 : m_30 [.list v.length (v.map iD), .list v.length (v.map iD)] = _ := ints_same v (wit_len ha)
      rw [d1, pullD_some (v.length, v.map iD, (0 : Int)) (by rfl) (by rfl)]
      dsimp only
      rw [copies]
      dsimp only
      rw [copyX]
      dsimp only
      rw [copyX]
      dsimp only
      rw [b4, pullD_some (w.length, w.map iD) (by rfl) (by rfl)]
      dsimp only
      rw [c2, pullD_some ((cwA re f x y w).1, (cwA re f x y w).2) (by rfl) (by rfl)]
      dsimp only
      rw [c4, pullI, if_neg g, c3, pullD_some ((cwA re f x y w).1, (cwA re f x y w).2) (by rfl) (by rfl)]
      dsimp only
      rw [if_neg (by simp), if_neg (by simp), c5, d2, pullD_some (v.length, v.map iD, true) (by rfl) (by rfl)]
      dsimp only
      rw [if_neg (by decide), if_pos rfl, c6, pullB]
    | none =>
      have d1 : wiD re f l st su x y = .tup [.list 0 [], iD 12] := by unfold wiD; rw [if_neg g, ha]
      have d2 : wrD re x y f = .tup [.list 0 [], .one (.bool false)] := by
        unfold wrD
        by_cases h : (facL re x y (tab x.length idx) f).isSome = true
        · rw [if_pos h]
        · rw [if_neg h, ha]
      rw [d1, pullD_some ((0 : Nat), ([] : List D), (12 : Int)) (by rfl) (by rfl)]
      dsimp only
      rw [copies]
      dsimp only
      rw [copyX]
      dsimp only
      rw [copyX]
      dsimp only
      rw [b4, pullD_some (w.length, w.map iD) (by rfl) (by rfl)]
      dsimp only
      rw [c2, pullD_some ((cwA re f x y w).1, (cwA re f x y w).2) (by rfl) (by rfl)]
      dsimp only
      rw [c4, pullI, if_neg g, c3, pullD_some ((cwA re f x y w).1, (cwA re f x y w).2) (by rfl) (by rfl)]
      dsimp only
      rw [if_neg (by simp), if_neg (by simp), c5, d2, pullD_some ((0 : Nat), ([] : List D), false) (by rfl) (by rfl)]
      dsimp only
      rw [if_pos rfl, if_pos rfl]
      rfl
theorem law5_con (re : Int) (f : Q4) (l : List Q4) (st su : Int) (x y w : List Int) : Con 5 [ruD re f l, .agg [iD st, lD x, iD su, lD y], lD w] (.one (.bool true)) := m_5_ok (law5_eq re f l st su x y w)
end Go.Proofs.Ytmohaohdbklkeaa
/- WaveWitnesses: what the runs give, for every argument. -/
namespace Go.Proofs.Ytmohaohdbklkeaa.waveWitnesses
open Go.ChangeShapes Go.WideShapes Go.ChangeAt Go.RowKit Go.Joins Go.Ev
set_option maxRecDepth 100000 in
/-- WHAT THE RUNS GIVE, FOR EVERY ARGUMENT AND EVERY WORLD THAT HOLDS THE TABLES. -/
theorem contract (H : Type) (enc : TypeId × Value → H) (W : World) (base : Nat) (args : Array Value) (ds gs : List (DataW H)) (before : List MemPlace)
    (hval : ∀ (j : Nat) t v, Try.f5.params[j]? = some t → args[j]? = some v → Value.okWide Try.prog W .any base t v)
    (hW : DataW.Whole enc Try.prog Try.f5.params.toList Rows.waveWitnessesSpec.vars false W args.toList ds gs before) (hL : laidMetH Try.prog Rows.waveWitnessesRow.laid W) :
    Calls Try.prog 5 args W fun e W' => ∃ v, e = .returned v ∧ Rows.waveWitnessesSpec.post enc Try.prog Try.f5 false true false false W args v W' := by
  have hW' := hW
  have hlt := hW.lt
  obtain ⟨p, q, hA0, hV, rfl, hfz, hnd⟩ := hW
  have hA : DataW.TrodAll enc Try.prog W 0 (fun _ => true) true Try.f5.params.toList args.toList ds p := hA0
  rw [Try.params5] at hA hval
  obtain ⟨v0, vs0, d0, ds0, p0, q0, hargs, rfl, rfl, h0, r0⟩ := trodAll_cons hA
  obtain ⟨v1, vs1, d1, ds1, p1, q1, rfl, rfl, rfl, h1, r1⟩ := trodAll_cons r0
  obtain ⟨v2, vs2, d2, ds2, p2, q2, rfl, rfl, rfl, h2, r2⟩ := trodAll_cons r1
  obtain ⟨rfl, rfl, rfl⟩ := trodAll_nil r2
  obtain rfl : args = #[v0, v1, v2] := by cases args; simp_all
  obtain ⟨rfl, rfl⟩ := trodVars_none hV
  obtain ⟨e0, o0, k0⟩ := open_agg (ls := [.int .i64, .int .i64, .int .i64, .int .i64, .int .i64, .sl [.int .i64, .int .i64, .int .i64, .int .i64]]) 8 (by kernel_rfl) (by kernel_rfl) (by kernel_rfl) (hval 0 28 v0 rfl rfl) h0
  obtain ⟨re, f, l, rfl⟩ := rul_of o0
  obtain ⟨e1, o1, k1⟩ := open_agg (ls := [.int .i64, .sl [.int .i64], .int .i64, .sl [.int .i64]]) 8 (by kernel_rfl) (by kernel_rfl) (by kernel_rfl) (hval 1 53 v1 rfl rfl) h1
  obtain ⟨st, su, x, y, rfl⟩ := pair_of o1
  obtain ⟨e2, o2, k2⟩ := open_cell (c := .sl [.int .i64]) 8 (by kernel_rfl) (by kernel_rfl) (by kernel_rfl) (hval 2 29 v2 rfl rfl) h2
  obtain ⟨w, rfl⟩ := ints_of o2
  have hr : RpL (fun _ => True) W [.agg [.one (.int .i64 re), .one (.int .i64 f.a), .one (.int .i64 f.b), .one (.int .i64 f.c), .one (.int .i64 f.d), .list l.length (cQ l)], .agg [.one (.int .i64 st), lD x, .one (.int .i64 su), lD y], lD w] [v0, v1, v2] := by
    simp only [RpL]
    exact ⟨v0, _, rfl, k0, ⟨v1, _, rfl, k1, ⟨v2, _, rfl, k2, rfl⟩⟩⟩
  refine (law5_con re f l st su x y w W (fun _ => True) _ tabs0 hr).mono fun e W' ⟨v, he, hv, hg⟩ => ?_
  simp only [Rp] at hv
  subst he
  subst hv
  have hlaid : laidOutB Try.prog = true := by kernel_rfl
  exact ⟨_, rfl, post_below (pa := (p0 ++ (p1 ++ (p2 ++ [])))) (pv := []) hW' (fun _ _ _ => trodAll_cons_mk (shut_bool Try.underlying4 _) trodAll_mk0) (fun sp hsp => by
    rw [Try.params5]
    exact trodAll_cons_mk (stays hlaid (by kernel_rfl) (of_decide_eq_true (by kernel_rfl)) h0 hg (fun x hx => hlt x (by simp only [List.mem_append]; left; left; exact hx)) (fun x hx => hsp x (by simp only [List.mem_append]; left; left; exact hx))) (trodAll_cons_mk (stays hlaid (by kernel_rfl) (of_decide_eq_true (by kernel_rfl)) h1 hg (fun x hx => hlt x (by simp only [List.mem_append]; left; right; left; exact hx)) (fun x hx => hsp x (by simp only [List.mem_append]; left; right; left; exact hx))) (trodAll_cons_mk (stays hlaid (by kernel_rfl) (of_decide_eq_true (by kernel_rfl)) h2 hg (fun x hx => hlt x (by simp only [List.mem_append]; left; right; right; left; exact hx)) (fun x hx => hsp x (by simp only [List.mem_append]; left; right; right; left; exact hx))) (trodAll_mk0)))) (fun _ _ => rfl) rfl
    hg (ok_one (by kernel_rfl) rfl (okWide_bool_mk Try.underlying4 _))⟩
end Go.Proofs.Ytmohaohdbklkeaa.waveWitnesses
/- WaveWitnesses: closed facts of the witness. -/
namespace Go.Proofs.Ytmohaohdbklkeaa.waveWitnesses
open Go.ChangeShapes Go.WideShapes Go.ChangeAt Go.RowKit Go.Joins
/-- THE WITNESS's ARGUMENTS. -/
noncomputable def args0 : Array Value := #[.agg #[.int .i64 0, .int .i64 0, .int .i64 0, .int .i64 0, .int .i64 0, .slice none 0 0], .agg #[.int .i64 0, .slice none 0 0, .int .i64 0, .slice none 0 0], .slice none 0 0]
/-- A WORLD FOR THE WITNESS: the heap that the program's own initialisers leave. -/
noncomputable def start (os : Os) : World := World.doorLaid Try.prog 400 os
theorem laid_met (os : Os) : laidMet Try.prog Rows.waveWitnessesRow.laid ((start os).forCall (fun _ _ => 0) ⟨#[], args0, []⟩).memory := ⟨[], rfl, List.nodup_nil, fun _ _ h => by cases h⟩
theorem reads (os : Os) {H : Type} (enc : TypeId × Value → H) : ∃ places, DataW.whole enc Try.prog ((start os).forCall (fun _ _ => 0) ⟨#[], args0, []⟩).memory Try.f5.params.toList Rows.waveWitnessesSpec.vars false args0.toList 8 = some ([.agg [.lit (.int .i64 0), .agg [.agg [.lit (.int .i64 0), .lit (.int .i64 0)], .agg [.lit (.int .i64 0), .lit (.int .i64 0)]], .nil], .agg [.agg [.lit (.int .i64 0), .nil], .agg [.lit (.int .i64 0), .nil]], .nil], [], places) :=
  ⟨[], by kernel_rfl⟩
theorem vB (os : Os) : ((start os).forCall (fun _ _ => 0) ⟨#[], args0, []⟩).variablesB Try.prog = true := by kernel_rfl
theorem rB (os : Os) : (((start os).forCall (fun _ _ => 0) ⟨#[], args0, []⟩).heap.toList.drop Try.prog.globals.size).take ((begin Try.prog (fun _ _ => 0) default).world.heap.size - Try.prog.globals.size) = (begin Try.prog (fun _ _ => 0) default).world.heap.toList.drop Try.prog.globals.size := by kernel_rfl
theorem oB (os : Os) : Input.okWideB Try.prog ((start os).forCall (fun _ _ => 0) ⟨#[], args0, []⟩) 5 ⟨#[], args0, []⟩ = true := by kernel_rfl
theorem hB (os : Os) : (start os).os = os := by kernel_rfl
end Go.Proofs.Ytmohaohdbklkeaa.waveWitnesses
/- For any rules, pair of records and indexes, valid or not, the law WaveWitnesses of the program answers true, and its arguments read as they did. CONDITIONS: none. -/
namespace Go.Proofs.Ytmohaohdbklkeaa.waveWitnesses
open Go.ChangeShapes Go.WideShapes Go.ChangeAt Go.RowKit Go.Joins
set_option maxRecDepth 100000 in
theorem lifted (os : Os) (started : os.Started) (H : Type) (enc : TypeId × Value → H) (F : Stop.Interp) :
    ReturnsInHanded {} Try.checked os 5 .any ((OpenSpec.ofChange Rows.waveWitnessesSpec).preRow enc Try.prog Try.f5 Rows.waveWitnessesRow.domain false Rows.waveWitnessesRow.laid) (((OpenSpec.ofChange Rows.waveWitnessesSpec).at F).post enc Try.prog Try.f5 false true false false) := by
  obtain ⟨places, hx⟩ := reads os enc
  refine returnsInHanded_of_row (C := Try.checked) (s := OpenSpec.ofChange Rows.waveWitnessesSpec) own started (by kernel_rfl) Try.func5
    (witness_row_at (enc := enc) (C := Try.checked) false (start os) args0 (hB os) (vB os) (rB os) (oB os)
      (OpenSpec.preRow_of_cond 8 hx (by kernel_rfl) (fun k hk => by cases hk) (by kernel_rfl) (laid_met os))) ?_
  intro W base args ds gs before hval hW _ _ _ hL _ _
  exact contract H enc W base args ds gs before hval hW hL
theorem said : Rows.WaveWitnessesSaid :=
  OpenClaim.holds_of_cond 5 Try.f5 rfl rfl rfl rfl rfl rfl rfl ⟨rfl, rfl, rfl, rfl, rfl⟩ rfl rfl rfl rfl rfl (by kernel_rfl) Try.func5 (by kernel_rfl)
    (of_decide_eq_true (by kernel_rfl)) (by unfold Func.isWrapper; first | (rw [if_pos (by decide +kernel)]; kernel_rfl) | (rw [if_neg (by decide +kernel)]; exact ⟨rfl, rfl⟩))
    (fun os started H enc _ F => by rw [OpenClaim.pre_eq_preRow]; exact lifted os started H enc F)
end Go.Proofs.Ytmohaohdbklkeaa.waveWitnesses
