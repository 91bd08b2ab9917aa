/- My own texts IterP, OwnStr, laid in one file. -/
import Derived.Test.YtbfoponlofkocaaZ2

/- A range over a function that keeps rows of its own while the caller's rounds write. No program is named here. -/
namespace Go.Iter
set_option linter.unusedVariables false
open Go.RowKit

/-- The iterator's own blocks: cells, laid behind n. -/
def Prv (n : Nat) (p : Nat → Prop) (W : World) : Prop := ∀ k, p k → n ≤ k ∧ ∃ o : Obj, W.heap[k]? = some o ∧ o.isCells = true
theorem Prv.book {n m : Nat} {p : Nat → Prop} {A B : World} (h : Prv n p A) (k : Book m A B) : Prv n p B := fun i hi => by
  obtain ⟨h1, o, h2, h3⟩ := h i hi
  exact ⟨h1, o, k.same i o h2 (.inl h3), h3⟩
theorem Prv.same {n m : Nat} {p : Nat → Prop} {A B : World} (h : Prv n p A) (k : Book m A B) : ∀ i, p i → B.heap[i]? = A.heap[i]? := fun i hi => by
  obtain ⟨h1, o, h2, h3⟩ := h i hi
  rw [k.same i o h2 (.inl h3), h2]
theorem Prv.mono {n n' : Nat} {p : Nat → Prop} {A : World} (h : Prv n p A) (hn : n' ≤ n) : Prv n' p A := fun i hi => ⟨Nat.le_trans hn (h i hi).1, (h i hi).2⟩
theorem Prv.keep {n : Nat} {p : Nat → Prop} {A B : World} (h : Prv n p A) (k : ∀ i, p i → B.heap[i]? = A.heap[i]?) : Prv n p B := fun i hi => by
  obtain ⟨h1, o, h2, h3⟩ := h i hi
  exact ⟨h1, o, (k i hi).trans h2, h3⟩
end Go.Iter

/- Rows of a call's own: kept, read. -/
namespace Go.Proofs.Ytbfoponlofkocaa
set_option maxRecDepth 100000
set_option linter.unusedVariables false
set_option linter.unusedSimpArgs false
set_option linter.unnecessarySimpa false
open Go.RowKit

end Go.Proofs.Ytbfoponlofkocaa
