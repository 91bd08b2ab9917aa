/- My own texts OwnSet, laid in one file. -/
import Derived.Test.YtlnffdkaleapbaaSlSet
import Derived.Test.YtlnffdkaleapbaaZ2
import Derived.Test.YtlnffdkaleapbaaZ29

/- A row of a call's own: one cell of it written; what is read of it. No program is named here. -/
namespace Go
set_option linter.unusedVariables false
set_option linter.unusedSimpArgs false
open Go.RowKit Go.Args

theorem own_cell {w : World} {base e sz n c g : Nat} {xs : List Value} (h : w.ownsRow base e sz (.slice (some ⟨g, 0, none⟩) n c) n xs) {j : Nat} {u : Value} (hj : xs[j]? = some u) : w.cell? ⟨g, j, none⟩ = some u := by
  have hc := h.cells (g := g) rfl j u hj
  rw [addr_add0, Nat.zero_add] at hc
  exact hc
theorem own_lt {w : World} {base e sz n c g : Nat} {xs : List Value} (h : w.ownsRow base e sz (.slice (some ⟨g, 0, none⟩) n c) n xs) : base ≤ g ∧ g < w.heap.size := h.lt g rfl
theorem own_room {w : World} {base e sz n c g : Nat} {xs : List Value} (h : w.ownsRow base e sz (.slice (some ⟨g, 0, none⟩) n c) n xs) : n ≤ c := by
  rcases h.2 with ⟨h1, _⟩ | ⟨g', cap, cur, hv, hb, hg, hn, hm, hs, ht⟩
  · cases h1
  · injection hv with e1 e2 e3
    omega
theorem flat_at {α : Type} {cells : α → List Value} {n : Nat} (hcl : ∀ x, (cells x).length = n) {x : α} {j : Nat} {v : Value} (hv : (cells x)[j]? = some v) :
    ∀ {l : List α} {k : Nat}, l[k]? = some x → (l.flatMap cells)[k * n + j]? = some v
  | [], k, h => by simp at h
  | y :: l, 0, h => by
    simp only [List.getElem?_cons_zero, Option.some.injEq] at h
    subst h
    rw [List.flatMap_cons, Nat.zero_mul, Nat.zero_add, List.getElem?_append_left (List.getElem?_eq_some_iff.1 hv).1]
    exact hv
  | y :: l, k + 1, h => by
    rw [List.getElem?_cons_succ] at h
    have ih := flat_at hcl hv h
    rw [List.flatMap_cons, List.getElem?_append_right (by rw [hcl, Nat.succ_mul]; omega), hcl, show (k + 1) * n + j - n = k * n + j by rw [Nat.succ_mul]; omega]
    exact ih
end Go
