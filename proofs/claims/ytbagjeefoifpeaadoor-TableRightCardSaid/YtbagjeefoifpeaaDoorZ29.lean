/- My own texts IterP, OwnStr, laid in one file. -/
import Derived.Test.YtbagjeefoifpeaaDoorZ2

/- A range over a function that keeps rows of its own while the caller's rounds write. No program is named here. -/
namespace Go.Iter
set_option linter.unusedVariables false
open Go.RowKit

/-- The iterator's own blocks: cells, laid behind n. -/
def Prv (n : Nat) (p : Nat → Prop) (W : World) : Prop := ∀ k, p k → n ≤ k ∧ ∃ o : Obj, W.heap[k]? = some o ∧ o.isCells = true
theorem Prv.book {n m : Nat} {p : Nat → Prop} {A B : World} (h : Prv n p A) (k : Book m A B) : Prv n p B := fun i hi => by
  obtain ⟨h1, o, h2, h3⟩ := h i hi
  exact ⟨h1, o, k.same i o h2 (.inl h3), h3⟩
theorem Prv.same {n m : Nat} {p : Nat → Prop} {A B : World} (h : Prv n p A) (k : Book m A B) : ∀ i, p i → B.heap[i]? = A.heap[i]? := fun i hi => by
  obtain ⟨h1, o, h2, h3⟩ := h i hi
  rw [k.same i o h2 (.inl h3), h2]
theorem Prv.mono {n n' : Nat} {p : Nat → Prop} {A : World} (h : Prv n p A) (hn : n' ≤ n) : Prv n' p A := fun i hi => ⟨Nat.le_trans hn (h i hi).1, (h i hi).2⟩
theorem Prv.keep {n : Nat} {p : Nat → Prop} {A B : World} (h : Prv n p A) (k : ∀ i, p i → B.heap[i]? = A.heap[i]?) : Prv n p B := fun i hi => by
  obtain ⟨h1, o, h2, h3⟩ := h i hi
  exact ⟨h1, o, (k i hi).trans h2, h3⟩
end Go.Iter

/- Rows of a call's own: kept, read. -/
namespace Go.Proofs.YtbagjeefoifpeaaDoor
set_option maxRecDepth 100000
set_option linter.unusedVariables false
set_option linter.unusedSimpArgs false
set_option linter.unnecessarySimpa false
open Go.RowKit

theorem own_book' {w w' : World} {base e sz n m : Nat} {v : Value} {xs : List Value} (ho : w.ownsRow base e sz v n xs) (h : Iter.Book m w w') : w'.ownsRow base e sz v n xs := by
  refine ⟨ho.1, ho.2.imp id ?_⟩
  rintro ⟨k, cap, cur, hv, hb, hh, rest⟩
  exact ⟨k, cap, cur, hv, hb, h.same k _ hh (.inl rfl), rest⟩
theorem own_cells' {w : World} {base e sz n k : Nat} {v : Value} {xs : List Value} {o : Obj} (ho : w.ownsRow base e sz v n xs) (hv : v.ownBlock = some k) (hk : w.heap[k]? = some o) : o.isCells = true := by
  rcases ho.2 with ⟨rfl, _⟩ | ⟨b, cap, cur, rfl, hb, hh, rest⟩
  · cases hv
  · have : b = k := Option.some.inj hv
    subst this
    rw [hh] at hk; cases hk; rfl
theorem own_types {w : World} {base base' e e' sz sz' n n' k : Nat} {v v' : Value} {xs xs' : List Value} (h : w.ownsRow base e sz v n xs) (h' : w.ownsRow base' e' sz' v' n' xs') (hne : e ≠ e') (hv : v.ownBlock = some k) : ¬ v'.ownBlock = some k := by
  rcases h.2 with ⟨rfl, _⟩ | ⟨b, cap, cur, rfl, hb, hh, _⟩
  · cases hv
  · rcases h'.2 with ⟨rfl, _⟩ | ⟨b', cap', cur', rfl, hb', hh', _⟩
    · intro q; cases q
    · intro q
      have e1 : b = k := Option.some.inj hv
      have e2 : b' = k := Option.some.inj q
      subst e1 e2
      rw [hh] at hh'
      cases hh'
      exact hne rfl
theorem own_blk_types {w : World} {base e sz n k : Nat} {v : Value} {xs : List Value} {cs : Array Value} {T : TypeId} (h : w.ownsRow base e sz v n xs) (hb : Blk w k cs T) (hne : e ≠ T) : ¬ v.ownBlock = some k := by
  rcases h.2 with ⟨rfl, _⟩ | ⟨b, cap, cur, rfl, _, hh, _⟩
  · intro q; cases q
  · intro q
    have e1 : b = k := Option.some.inj q
    subst e1
    unfold Blk at hb
    rw [hh] at hb
    cases hb
    exact hne rfl
end Go.Proofs.YtbagjeefoifpeaaDoor
