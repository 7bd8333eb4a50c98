/- Matches: the first that fits, or none; the law of runs. -/
import Derived.Test.YtngdhmliohjigaaDoorLGM
import Derived.Test.YtngdhmliohjigaaDoorLE5P
set_option linter.unusedVariables false
set_option linter.unusedSimpArgs false
set_option linter.unusedSectionVars false
set_option linter.unnecessarySimpa false
namespace Go.Proofs.YtngdhmliohjigaaDoor.Perm
open Go.Ev Go.RowKit
set_option maxRecDepth 100000
theorem allC_app {x : Bool × Bool} (hx : x.1 = x.2) : ∀ {l : List (Bool × Bool)}, allC l → allC (l ++ [x])
  | [], _ => ⟨hx, trivial⟩
  | _ :: _, h => ⟨h.1, allC_app hx h.2⟩
theorem allC_map {f : Nat × Nat → Bool} : ∀ {l : List (Nat × Nat)}, (∀ p ∈ l, f p = false) → allC (l.map fun p => (f p, false))
  | [], _ => trivial
  | p :: l, h => ⟨h p List.mem_cons_self, allC_map fun q hq => h q (List.mem_cons_of_mem _ hq)⟩
theorem allK_map {g : Nat × Nat → FuncId × List Value × Value} : ∀ {l : List (Nat × Nat)}, (∀ p ∈ l, Con (g p).1 (g p).2.1 (g p).2.2) → allK (l.map g)
  | [], _ => trivial
  | p :: l, h => ⟨h p List.mem_cons_self, allK_map fun q hq => h q (List.mem_cons_of_mem _ hq)⟩
theorem allK_R {a b : Value} {pc want : Int} {c : Nat → Nat → Int} (h66 : Con 66 [a, b, .int .i64 pc] (.bool true)) (h49 : Con 49 [a] (.int .i64 want)) : ∀ {l : List (Nat × Nat)}, (∀ p ∈ l, Con 113 [b, candV p.1 p.2] (.int .i64 (valI c p.1 p.2))) → allK (callsR a b pc want c l)
  | [], _ => trivial
  | p :: l, h => by
    have ih := allK_R (a := a) (pc := pc) (want := want) h66 h49 (l := l) fun q hq => h q (List.mem_cons_of_mem _ hq)
    have hp := h p List.mem_cons_self
    unfold callsR
    match p with
    | (i, 0) => exact ⟨h66, hp, h49, ih⟩
    | (i, j + 1) => exact ⟨hp, h49, ih⟩
theorem first_or {p : Nat × Nat → Bool} : ∀ l : List (Nat × Nat), (∃ (a : List (Nat × Nat)) (x : Nat × Nat) (b : List (Nat × Nat)), l = a ++ x :: b ∧ (∀ y ∈ a, p y = false) ∧ p x = true) ∨ ∀ y ∈ l, p y = false
  | [] => .inr (by simp)
  | y :: l => by
    cases h : p y with
    | true => exact .inl ⟨[], y, l, rfl, by simp, h⟩
    | false =>
      rcases first_or (p := p) l with ⟨a, x, b, rfl, h1, h2⟩ | h1
      · exact .inl ⟨y :: a, x, b, rfl, by simpa [h] using h1, h2⟩
      · exact .inr (by simpa [h] using h1)
theorem prs_lt : ∀ p ∈ prs, p.1 < 6 ∧ p.2 < 6 := by decide
theorem val_cnd {c : Nat → Nat → Int} {want : Int} (hw : 0 ≤ want) {p : Nat × Nat} (h : cnd c want p.1 p.2 = false) : (valI c p.1 p.2 == want) = false := by
  unfold cnd at h
  unfold valI
  split at h
  · rename_i e; rw [e]; exact h
  · rename_i e; rw [e]; simp; omega
theorem matches_c (k n s : Int) (m : Bool) (k1 n1 s1 : Int) (m1 : Bool) (st : Int) (kb nb sb : Int) (mb : Bool) (kc nc sc : Int) (mc : Bool) (sd : Int) (pc want : Int) (c : Nat → Nat → Int) (hw : 0 ≤ want) (h109 : Con 109 [.agg #[.int .i64 k, .int .i64 n, .int .i64 s, .bool m, .int .i64 k1, .int .i64 n1, .int .i64 s1, .bool m1, .int .i64 st], .agg #[.int .i64 kb, .int .i64 nb, .int .i64 sb, .bool mb, .int .i64 kc, .int .i64 nc, .int .i64 sc, .bool mc, .int .i64 sd], .int .i64 pc] (.int .i64 0)) (h110 : Con 110 [.agg #[.int .i64 k, .int .i64 n, .int .i64 s, .bool m, .int .i64 k1, .int .i64 n1, .int .i64 s1, .bool m1, .int .i64 st], .agg #[.int .i64 kb, .int .i64 nb, .int .i64 sb, .bool mb, .int .i64 kc, .int .i64 nc, .int .i64 sc, .bool mc, .int .i64 sd], .int .i64 pc] (.bool true)) (h98 : Con 98 [.agg #[.int .i64 k, .int .i64 n, .int .i64 s, .bool m, .int .i64 k1, .int .i64 n1, .int .i64 s1, .bool m1, .int .i64 st]] (.int .i64 want))
    (h111 : ∀ p ∈ prs, Con 111 [.agg #[.int .i64 kb, .int .i64 nb, .int .i64 sb, .bool mb, .int .i64 kc, .int .i64 nc, .int .i64 sc, .bool mc, .int .i64 sd], candV p.1 p.2] (itemV c p.1 p.2)) (h66 : Con 66 [.agg #[.int .i64 k, .int .i64 n, .int .i64 s, .bool m, .int .i64 k1, .int .i64 n1, .int .i64 s1, .bool m1, .int .i64 st], .agg #[.int .i64 kb, .int .i64 nb, .int .i64 sb, .bool mb, .int .i64 kc, .int .i64 nc, .int .i64 sc, .bool mc, .int .i64 sd], .int .i64 pc] (.bool true)) (h49 : Con 49 [.agg #[.int .i64 k, .int .i64 n, .int .i64 s, .bool m, .int .i64 k1, .int .i64 n1, .int .i64 s1, .bool m1, .int .i64 st]] (.int .i64 want)) (h113 : ∀ p ∈ prs, Con 113 [.agg #[.int .i64 kb, .int .i64 nb, .int .i64 sb, .bool mb, .int .i64 kc, .int .i64 nc, .int .i64 sc, .bool mc, .int .i64 sd], candV p.1 p.2] (.int .i64 (valI c p.1 p.2))) :
    (∃ i j : Nat, i < 6 ∧ j < 6 ∧ sameP i j = true ∧ c i j = want ∧ (∀ y ∈ prs.take (6 * i + j), cnd c want y.1 y.2 = false) ∧ Con 62 [.agg #[.int .i64 k, .int .i64 n, .int .i64 s, .bool m, .int .i64 k1, .int .i64 n1, .int .i64 s1, .bool m1, .int .i64 st], .agg #[.int .i64 kb, .int .i64 nb, .int .i64 sb, .bool mb, .int .i64 kc, .int .i64 nc, .int .i64 sc, .bool mc, .int .i64 sd], .int .i64 pc] (.tuple #[candV i j, .int .i64 0]) ∧ Con 65 [.agg #[.int .i64 k, .int .i64 n, .int .i64 s, .bool m, .int .i64 k1, .int .i64 n1, .int .i64 s1, .bool m1, .int .i64 st], .agg #[.int .i64 kb, .int .i64 nb, .int .i64 sb, .bool mb, .int .i64 kc, .int .i64 nc, .int .i64 sc, .bool mc, .int .i64 sd], .int .i64 pc] (.tuple #[candV i j, .bool true])) ∨
    ((∀ y ∈ prs, cnd c want y.1 y.2 = false) ∧ Con 62 [.agg #[.int .i64 k, .int .i64 n, .int .i64 s, .bool m, .int .i64 k1, .int .i64 n1, .int .i64 s1, .bool m1, .int .i64 st], .agg #[.int .i64 kb, .int .i64 nb, .int .i64 sb, .bool mb, .int .i64 kc, .int .i64 nc, .int .i64 sc, .bool mc, .int .i64 sd], .int .i64 pc] (.tuple #[.agg #[.int .i64 0, .int .i64 0, .int .i64 0, .int .i64 0, .int .i64 0, .int .i64 0], .int .i64 12]) ∧ Con 65 [.agg #[.int .i64 k, .int .i64 n, .int .i64 s, .bool m, .int .i64 k1, .int .i64 n1, .int .i64 s1, .bool m1, .int .i64 st], .agg #[.int .i64 kb, .int .i64 nb, .int .i64 sb, .bool mb, .int .i64 kc, .int .i64 nc, .int .i64 sc, .bool mc, .int .i64 sd], .int .i64 pc] (.tuple #[.agg #[.int .i64 0, .int .i64 0, .int .i64 0, .int .i64 0, .int .i64 0, .int .i64 0], .bool false])) := by
  have hP : ∀ z : Nat, allK (callsP (.agg #[.int .i64 k, .int .i64 n, .int .i64 s, .bool m, .int .i64 k1, .int .i64 n1, .int .i64 s1, .bool m1, .int .i64 st]) (.agg #[.int .i64 kb, .int .i64 nb, .int .i64 sb, .bool mb, .int .i64 kc, .int .i64 nc, .int .i64 sc, .bool mc, .int .i64 sd]) pc want c (prs.take z)) := fun z => ⟨h109, h110, h98, allK_map fun p hp => h111 p (List.mem_of_mem_take hp)⟩
  have hR : ∀ z : Nat, allK (callsR (.agg #[.int .i64 k, .int .i64 n, .int .i64 s, .bool m, .int .i64 k1, .int .i64 n1, .int .i64 s1, .bool m1, .int .i64 st]) (.agg #[.int .i64 kb, .int .i64 nb, .int .i64 sb, .bool mb, .int .i64 kc, .int .i64 nc, .int .i64 sc, .bool mc, .int .i64 sd]) pc want c (prs.take z)) := fun z => allK_R h66 h49 fun p hp => h113 p (List.mem_of_mem_take hp)
  rcases first_or (p := fun y => cnd c want y.1 y.2) prs with ⟨a, x, b, hl, h1, h2⟩ | h1
  · left
    have hlen : a.length < 36 := by
      have : prs.length = 36 := rfl
      rw [hl] at this
      simp at this
      omega
    have hx : prs[a.length]? = some x := by rw [hl]; simp
    have ha : prs.take a.length = a := by rw [hl]; simp
    generalize a.length = L at *
    rw [← ha] at h1
    have v1 : ∀ y ∈ prs.take L, (valI c y.1 y.2 == want) = false := fun y hy => val_cnd hw (h1 y hy)
    clear ha hl
    rcases (show L = 0 ∨ L = 1 ∨ L = 2 ∨ L = 3 ∨ L = 4 ∨ L = 5 ∨ L = 6 ∨ L = 7 ∨ L = 8 ∨ L = 9 ∨ L = 10 ∨ L = 11 ∨ L = 12 ∨ L = 13 ∨ L = 14 ∨ L = 15 ∨ L = 16 ∨ L = 17 ∨ L = 18 ∨ L = 19 ∨ L = 20 ∨ L = 21 ∨ L = 22 ∨ L = 23 ∨ L = 24 ∨ L = 25 ∨ L = 26 ∨ L = 27 ∨ L = 28 ∨ L = 29 ∨ L = 30 ∨ L = 31 ∨ L = 32 ∨ L = 33 ∨ L = 34 ∨ L = 35 by omega) with rfl | rfl | rfl | rfl | rfl | rfl | rfl | rfl | rfl | rfl | rfl | rfl | rfl | rfl | rfl | rfl | rfl | rfl | rfl | rfl | rfl | rfl | rfl | rfl | rfl | rfl | rfl | rfl | rfl | rfl | rfl | rfl | rfl | rfl | rfl | rfl <;> cases hx
    · exact ⟨0, 0, by decide, by decide, rfl, by simpa [cnd, sameP, oddP] using h2, h1, mf_0 k n s m k1 n1 s1 m1 st kb nb sb mb kc nc sc mc sd pc want c (allC_app (show (c 0 0 == want) = true from h2) (allC_map h1)) (hP 1), rt_0 k n s m k1 n1 s1 m1 st kb nb sb mb kc nc sc mc sd pc want c (allC_app (show (c 0 0 == want) = true from h2) (allC_map v1)) (hR 1)⟩
    · cases h2
    · cases h2
    · exact ⟨0, 3, by decide, by decide, rfl, by simpa [cnd, sameP, oddP] using h2, h1, mf_3 k n s m k1 n1 s1 m1 st kb nb sb mb kc nc sc mc sd pc want c (allC_app (show (c 0 3 == want) = true from h2) (allC_map h1)) (hP 4), rt_3 k n s m k1 n1 s1 m1 st kb nb sb mb kc nc sc mc sd pc want c (allC_app (show (c 0 3 == want) = true from h2) (allC_map v1)) (hR 4)⟩
    · exact ⟨0, 4, by decide, by decide, rfl, by simpa [cnd, sameP, oddP] using h2, h1, mf_4 k n s m k1 n1 s1 m1 st kb nb sb mb kc nc sc mc sd pc want c (allC_app (show (c 0 4 == want) = true from h2) (allC_map h1)) (hP 5), rt_4 k n s m k1 n1 s1 m1 st kb nb sb mb kc nc sc mc sd pc want c (allC_app (show (c 0 4 == want) = true from h2) (allC_map v1)) (hR 5)⟩
    · cases h2
    · cases h2
    · exact ⟨1, 1, by decide, by decide, rfl, by simpa [cnd, sameP, oddP] using h2, h1, mf_7 k n s m k1 n1 s1 m1 st kb nb sb mb kc nc sc mc sd pc want c (allC_app (show (c 1 1 == want) = true from h2) (allC_map h1)) (hP 8), rt_7 k n s m k1 n1 s1 m1 st kb nb sb mb kc nc sc mc sd pc want c (allC_app (show (c 1 1 == want) = true from h2) (allC_map v1)) (hR 8)⟩
    · exact ⟨1, 2, by decide, by decide, rfl, by simpa [cnd, sameP, oddP] using h2, h1, mf_8 k n s m k1 n1 s1 m1 st kb nb sb mb kc nc sc mc sd pc want c (allC_app (show (c 1 2 == want) = true from h2) (allC_map h1)) (hP 9), rt_8 k n s m k1 n1 s1 m1 st kb nb sb mb kc nc sc mc sd pc want c (allC_app (show (c 1 2 == want) = true from h2) (allC_map v1)) (hR 9)⟩
    · cases h2
    · cases h2
    · exact ⟨1, 5, by decide, by decide, rfl, by simpa [cnd, sameP, oddP] using h2, h1, mf_11 k n s m k1 n1 s1 m1 st kb nb sb mb kc nc sc mc sd pc want c (allC_app (show (c 1 5 == want) = true from h2) (allC_map h1)) (hP 12), rt_11 k n s m k1 n1 s1 m1 st kb nb sb mb kc nc sc mc sd pc want c (allC_app (show (c 1 5 == want) = true from h2) (allC_map v1)) (hR 12)⟩
    · cases h2
    · exact ⟨2, 1, by decide, by decide, rfl, by simpa [cnd, sameP, oddP] using h2, h1, mf_13 k n s m k1 n1 s1 m1 st kb nb sb mb kc nc sc mc sd pc want c (allC_app (show (c 2 1 == want) = true from h2) (allC_map h1)) (hP 14), rt_13 k n s m k1 n1 s1 m1 st kb nb sb mb kc nc sc mc sd pc want c (allC_app (show (c 2 1 == want) = true from h2) (allC_map v1)) (hR 14)⟩
    · exact ⟨2, 2, by decide, by decide, rfl, by simpa [cnd, sameP, oddP] using h2, h1, mf_14 k n s m k1 n1 s1 m1 st kb nb sb mb kc nc sc mc sd pc want c (allC_app (show (c 2 2 == want) = true from h2) (allC_map h1)) (hP 15), rt_14 k n s m k1 n1 s1 m1 st kb nb sb mb kc nc sc mc sd pc want c (allC_app (show (c 2 2 == want) = true from h2) (allC_map v1)) (hR 15)⟩
    · cases h2
    · cases h2
    · exact ⟨2, 5, by decide, by decide, rfl, by simpa [cnd, sameP, oddP] using h2, h1, mf_17 k n s m k1 n1 s1 m1 st kb nb sb mb kc nc sc mc sd pc want c (allC_app (show (c 2 5 == want) = true from h2) (allC_map h1)) (hP 18), rt_17 k n s m k1 n1 s1 m1 st kb nb sb mb kc nc sc mc sd pc want c (allC_app (show (c 2 5 == want) = true from h2) (allC_map v1)) (hR 18)⟩
    · exact ⟨3, 0, by decide, by decide, rfl, by simpa [cnd, sameP, oddP] using h2, h1, mf_18 k n s m k1 n1 s1 m1 st kb nb sb mb kc nc sc mc sd pc want c (allC_app (show (c 3 0 == want) = true from h2) (allC_map h1)) (hP 19), rt_18 k n s m k1 n1 s1 m1 st kb nb sb mb kc nc sc mc sd pc want c (allC_app (show (c 3 0 == want) = true from h2) (allC_map v1)) (hR 19)⟩
    · cases h2
    · cases h2
    · exact ⟨3, 3, by decide, by decide, rfl, by simpa [cnd, sameP, oddP] using h2, h1, mf_21 k n s m k1 n1 s1 m1 st kb nb sb mb kc nc sc mc sd pc want c (allC_app (show (c 3 3 == want) = true from h2) (allC_map h1)) (hP 22), rt_21 k n s m k1 n1 s1 m1 st kb nb sb mb kc nc sc mc sd pc want c (allC_app (show (c 3 3 == want) = true from h2) (allC_map v1)) (hR 22)⟩
    · exact ⟨3, 4, by decide, by decide, rfl, by simpa [cnd, sameP, oddP] using h2, h1, mf_22 k n s m k1 n1 s1 m1 st kb nb sb mb kc nc sc mc sd pc want c (allC_app (show (c 3 4 == want) = true from h2) (allC_map h1)) (hP 23), rt_22 k n s m k1 n1 s1 m1 st kb nb sb mb kc nc sc mc sd pc want c (allC_app (show (c 3 4 == want) = true from h2) (allC_map v1)) (hR 23)⟩
    · cases h2
    · exact ⟨4, 0, by decide, by decide, rfl, by simpa [cnd, sameP, oddP] using h2, h1, mf_24 k n s m k1 n1 s1 m1 st kb nb sb mb kc nc sc mc sd pc want c (allC_app (show (c 4 0 == want) = true from h2) (allC_map h1)) (hP 25), rt_24 k n s m k1 n1 s1 m1 st kb nb sb mb kc nc sc mc sd pc want c (allC_app (show (c 4 0 == want) = true from h2) (allC_map v1)) (hR 25)⟩
    · cases h2
    · cases h2
    · exact ⟨4, 3, by decide, by decide, rfl, by simpa [cnd, sameP, oddP] using h2, h1, mf_27 k n s m k1 n1 s1 m1 st kb nb sb mb kc nc sc mc sd pc want c (allC_app (show (c 4 3 == want) = true from h2) (allC_map h1)) (hP 28), rt_27 k n s m k1 n1 s1 m1 st kb nb sb mb kc nc sc mc sd pc want c (allC_app (show (c 4 3 == want) = true from h2) (allC_map v1)) (hR 28)⟩
    · exact ⟨4, 4, by decide, by decide, rfl, by simpa [cnd, sameP, oddP] using h2, h1, mf_28 k n s m k1 n1 s1 m1 st kb nb sb mb kc nc sc mc sd pc want c (allC_app (show (c 4 4 == want) = true from h2) (allC_map h1)) (hP 29), rt_28 k n s m k1 n1 s1 m1 st kb nb sb mb kc nc sc mc sd pc want c (allC_app (show (c 4 4 == want) = true from h2) (allC_map v1)) (hR 29)⟩
    · cases h2
    · cases h2
    · exact ⟨5, 1, by decide, by decide, rfl, by simpa [cnd, sameP, oddP] using h2, h1, mf_31 k n s m k1 n1 s1 m1 st kb nb sb mb kc nc sc mc sd pc want c (allC_app (show (c 5 1 == want) = true from h2) (allC_map h1)) (hP 32), rt_31 k n s m k1 n1 s1 m1 st kb nb sb mb kc nc sc mc sd pc want c (allC_app (show (c 5 1 == want) = true from h2) (allC_map v1)) (hR 32)⟩
    · exact ⟨5, 2, by decide, by decide, rfl, by simpa [cnd, sameP, oddP] using h2, h1, mf_32 k n s m k1 n1 s1 m1 st kb nb sb mb kc nc sc mc sd pc want c (allC_app (show (c 5 2 == want) = true from h2) (allC_map h1)) (hP 33), rt_32 k n s m k1 n1 s1 m1 st kb nb sb mb kc nc sc mc sd pc want c (allC_app (show (c 5 2 == want) = true from h2) (allC_map v1)) (hR 33)⟩
    · cases h2
    · cases h2
    · exact ⟨5, 5, by decide, by decide, rfl, by simpa [cnd, sameP, oddP] using h2, h1, mf_35 k n s m k1 n1 s1 m1 st kb nb sb mb kc nc sc mc sd pc want c (allC_app (show (c 5 5 == want) = true from h2) (allC_map h1)) (hP 36), rt_35 k n s m k1 n1 s1 m1 st kb nb sb mb kc nc sc mc sd pc want c (allC_app (show (c 5 5 == want) = true from h2) (allC_map v1)) (hR 36)⟩
  · right
    exact ⟨h1, mf_none k n s m k1 n1 s1 m1 st kb nb sb mb kc nc sc mc sd pc want c (allC_map h1) (hP 36), rt_none k n s m k1 n1 s1 m1 st kb nb sb mb kc nc sc mc sd pc want c (allC_map fun p hp => val_cnd hw (h1 p hp)) (hR 36)⟩
theorem awakes' : Con 16 [] (.bool true) := lift awakes
end Go.Proofs.YtngdhmliohjigaaDoor.Perm
