/- My own texts KeepP, FrIn, SameL, laid in one file. -/
import Derived.Test.YtjcdmnogmpjkkaaDoorZ36
import Derived.Test.YtjcdmnogmpjkkaaDoorZ2
import Derived.OwnWalkIn

/- Ranges over functions that read blocks of a set in between: what a round must leave alone. No program is named here. -/
namespace Go.Iter
set_option linter.unusedVariables false
set_option linter.unusedSimpArgs false
open Go.RowKit

theorem zip1 (p : Tmp) (v : Value) (t : Array Value) : ((#[p] : Array Tmp).zip #[v]).foldl (fun t (p, v) => t.setIfInBounds p v) t = t.setIfInBounds p v := by simp [← Array.foldl_toList, Array.toList_zip]
/-- The blocks of p stand. -/
def KeepP (p : Nat → Prop) (A B : World) : Prop := A.heap.size ≤ B.heap.size ∧ ∀ k, p k → k < A.heap.size → B.heap[k]? = A.heap[k]?
namespace KeepP
variable {p : Nat → Prop} {A B C : World}
theorem trans (h : KeepP p A B) (k : KeepP p B C) : KeepP p A C := ⟨Nat.le_trans h.1 k.1, fun i hi hs => (k.2 i hi (Nat.lt_of_lt_of_le hs h.1)).trans (h.2 i hi hs)⟩
theorem grow (h : Grow.G A B) : KeepP p A B := ⟨h.size, fun k _ hk => h.block k hk⟩
theorem book {n : Nat} (h : Book n A B) (hp : ∀ k, p k → k < n) : KeepP p A B :=
  ⟨h.size, fun k hk hs => by rw [h.same k _ (Array.getElem?_eq_getElem hs) (.inr (hp k hk)), Array.getElem?_eq_getElem hs]⟩
theorem chg {G : Nat → Prop} (h : Chg G A B) (hp : ∀ k, p k → ¬ G k) : KeepP p A B := ⟨h.size, fun k hk hs => h.block k hs (hp k hk)⟩
theorem blk (h : KeepP p A B) {g : Nat} {cs : Array Value} {T : TypeId} (hb : Blk A g cs T) (hg : p g) : Blk B g cs T := (h.2 g hg hb.lt).trans hb
theorem cell (h : KeepP p A B) {b o : Nat} {v : Value} (hc : A.cell? ⟨b, o, none⟩ = some v) (hb : p b) : B.cell? ⟨b, o, none⟩ = some v := by
  have hl : b < A.heap.size := by
    rcases Nat.lt_or_ge b A.heap.size with h' | h'
    · exact h'
    · simp [World.cell?, Array.getElem?_eq_none h'] at hc
  exact (World.cell?_of_block (w := A) (w' := B) (a := ⟨b, o, none⟩) (h.2 b hb hl)).trans hc
end KeepP
/-- The block that a row of some elements lies in. -/
def blkOf {α : Type} (l : List α) (a : Option Addr) (k : Nat) : Prop := l ≠ [] ∧ ∃ off, a = some ⟨k, off, none⟩
theorem blkOf.lt {α : Type} {cells : α → List Value} {n : Nat} {a : Option Addr} {l : List α} {w : World} {k : Nat} (h : blkOf l a k) (hs : SlOf w cells n a l) (hc : ∀ x, 0 < (cells x).length) : k < w.heap.size := by
  obtain ⟨hl, off, ha⟩ := h
  rcases hs with h0 | ⟨b, o, ha', hcell⟩
  · exact (hl h0).elim
  · rw [ha] at ha'
    cases ha'
    cases l with
    | nil => exact (hl rfl).elim
    | cons x l =>
      have h1 := hcell 0 x rfl 0 _ (List.getElem?_eq_getElem (hc x))
      rcases Nat.lt_or_ge k w.heap.size with h' | h'
      · exact h'
      · simp [World.cell?, Array.getElem?_eq_none h'] at h1
end Go.Iter

/- An append onto a row of the call's own, in a fence: its exact frame. No program is named here. -/
namespace Go.Fr
set_option linter.unusedVariables false
open Go.Lib

theorem wpListIn_append_fr {F : Fence} {n : Nat} {P : Program} (w : World) {ops : Array Oper} {rest : List Oper} {o : Oper} {a : Act} {Q : Exit → Act → World → Prop}
    (hg : o.guard = none) (s x : Operand) (t : TypeId) (hop : o.op = Op.call { callee := Callee.builtin Builtin.append, args := #[s, x], argTypes := #[t, t] })
    (base : Nat) (e : TypeId) (i : TypeInfo) (z : Value) (size bytes : Nat) (h1 : P.underlying t = some (.slice e)) (h2 : P.info? e = some i) (h3 : i.zero = some z) (h4 : i.size = size) (h5 : i.bytes = bytes) (h6 : z.cells.size = size) (h7 : 0 < size)
    (v : Value) (k : Nat) (xs : List Value) (hs : a.eval s = v) (hown : w.ownsRow base e size v k xs) (ad : Addr) (m c : Nat) (news : List Value) (hx : a.eval x = .slice (some ad) m c) (hn : news.length = m * size)
    (hc : ∀ j u, news[j]? = some u → w.cell? (ad.add j) = some u) (h1c : ∀ u ∈ news, u.oneCell' = true) (b1 : k + m ≤ maxLen) (b2 : (k + m) * bytes ≤ 140737488355328) (b3 : base ≤ w.heap.size)
    (hK : ∀ v' w', w'.ownsRow base e size v' (k + m) (xs ++ news) → Fr w w' v v' → wpListIn F n P ops Q rest (a.put o.dst v') w') :
    wpListIn F n P ops Q (o :: rest) a w := by
  refine wpListIn_plain hg fun K hK' => ?_
  obtain ⟨v', w', hrun, r1, r2⟩ := run_append_fr (P := P) w base t o.type e i z size bytes h1 h2 h3 h4 h5 h6 h7 v k xs hown ad m c news hn hc h1c b1 b2 b3
  unfold Oper.wpIn
  refine ⟨?_, ?_⟩
  · simp [Oper.about, hop, resolve, Target.leads, Sem.run_pure]
  · rw [Oper.semAt_plain F _ _ (by rw [hop]; intro c hc'; cases hc')]
    simp [execOp, hop, resolve, invoke, builtin, hs, hx, hrun, Result.andThen]
    exact hK' _ _ (hK v' w' r1 r2)
end Go.Fr

/- Two rows that are the same, element by element. No program is named here. -/
namespace Go.Proofs.YtjcdmnogmpjkkaaDoor
set_option linter.unusedVariables false
open Go.RowKit
theorem news_at {w : World} {b : Nat} {cs : List Value} {T : TypeId} {fr : Nat × Nat} (h : w.heap[b]? = some (.cells cs.toArray T fr)) : ∀ j u, cs[j]? = some u → w.cell? ((⟨b, 0, none⟩ : Addr).add j) = some u := by
  intro j u hj
  have e : (⟨b, 0, none⟩ : Addr).add j = ⟨b, j, none⟩ := by unfold Addr.add; split <;> simp_all
  rw [e]
  simp [World.cell?, h, hj]
section
variable {α : Type} (d : α) (q : α → α → Bool)
variable {d q}
end
end Go.Proofs.YtjcdmnogmpjkkaaDoor
