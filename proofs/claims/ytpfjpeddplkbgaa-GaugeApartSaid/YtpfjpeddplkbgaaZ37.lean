/- My own texts KeepP, laid in one file. -/
import Derived.Test.YtpfjpeddplkbgaaZ36
import Derived.Test.YtpfjpeddplkbgaaZ2

/- Ranges over functions that read blocks of a set in between: what a round must leave alone. No program is named here. -/
namespace Go.Iter
set_option linter.unusedVariables false
set_option linter.unusedSimpArgs false
open Go.RowKit

/-- The blocks of p stand. -/
def KeepP (p : Nat → Prop) (A B : World) : Prop := A.heap.size ≤ B.heap.size ∧ ∀ k, p k → k < A.heap.size → B.heap[k]? = A.heap[k]?
namespace KeepP
variable {p : Nat → Prop} {A B C : World}
theorem trans (h : KeepP p A B) (k : KeepP p B C) : KeepP p A C := ⟨Nat.le_trans h.1 k.1, fun i hi hs => (k.2 i hi (Nat.lt_of_lt_of_le hs h.1)).trans (h.2 i hi hs)⟩
theorem grow (h : Grow.G A B) : KeepP p A B := ⟨h.size, fun k _ hk => h.block k hk⟩
theorem book {n : Nat} (h : Book n A B) (hp : ∀ k, p k → k < n) : KeepP p A B :=
  ⟨h.size, fun k hk hs => by rw [h.same k _ (Array.getElem?_eq_getElem hs) (.inr (hp k hk)), Array.getElem?_eq_getElem hs]⟩
theorem chg {G : Nat → Prop} (h : Chg G A B) (hp : ∀ k, p k → ¬ G k) : KeepP p A B := ⟨h.size, fun k hk hs => h.block k hs (hp k hk)⟩
theorem blk (h : KeepP p A B) {g : Nat} {cs : Array Value} {T : TypeId} (hb : Blk A g cs T) (hg : p g) : Blk B g cs T := (h.2 g hg hb.lt).trans hb
theorem cell (h : KeepP p A B) {b o : Nat} {v : Value} (hc : A.cell? ⟨b, o, none⟩ = some v) (hb : p b) : B.cell? ⟨b, o, none⟩ = some v := by
  have hl : b < A.heap.size := by
    rcases Nat.lt_or_ge b A.heap.size with h' | h'
    · exact h'
    · simp [World.cell?, Array.getElem?_eq_none h'] at hc
  exact (World.cell?_of_block (w := A) (w' := B) (a := ⟨b, o, none⟩) (h.2 b hb hl)).trans hc
end KeepP
/-- The block that a row of some elements lies in. -/
def blkOf {α : Type} (l : List α) (a : Option Addr) (k : Nat) : Prop := l ≠ [] ∧ ∃ off, a = some ⟨k, off, none⟩
theorem blkOf.lt {α : Type} {cells : α → List Value} {n : Nat} {a : Option Addr} {l : List α} {w : World} {k : Nat} (h : blkOf l a k) (hs : SlOf w cells n a l) (hc : ∀ x, 0 < (cells x).length) : k < w.heap.size := by
  obtain ⟨hl, off, ha⟩ := h
  rcases hs with h0 | ⟨b, o, ha', hcell⟩
  · exact (hl h0).elim
  · rw [ha] at ha'
    cases ha'
    cases l with
    | nil => exact (hl rfl).elim
    | cons x l =>
      have h1 := hcell 0 x rfl 0 _ (List.getElem?_eq_getElem (hc x))
      rcases Nat.lt_or_ge k w.heap.size with h' | h'
      · exact h'
      · simp [World.cell?, Array.getElem?_eq_none h'] at h1
end Go.Iter
