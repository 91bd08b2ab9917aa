/- My own texts RlP, OwnSet, TwoV, laid in one file. -/
import Derived.Test.YtjcdmnogmpjkkaaDoorZ38
import Derived.Test.YtjcdmnogmpjkkaaDoorSlSet
import Derived.Test.YtjcdmnogmpjkkaaDoorZ2
import Derived.Test.YtjcdmnogmpjkkaaDoorZ29

/- Shares on the way from some to others: plainly. -/
namespace Go.Proofs.YtjcdmnogmpjkkaaDoor
set_option maxRecDepth 100000
set_option linter.unusedVariables false
set_option linter.unusedSimpArgs false
set_option linter.unnecessarySimpa false
open Go.RowKit Go.Args

/-- Strictly rising, by bytes. -/
def Asc (l : List ByteArray) : Prop := l.Pairwise (fun a b => ltS a b = true)
theorem ltS_ne {a b : ByteArray} (h : ltS a b = true) : a ≠ b := fun e => by subst e; rw [ltS_irr] at h; cases h
theorem ltS_tri (a b : ByteArray) : ltS a b = true ∨ a = b ∨ ltS b a = true := by
  have h := le_not a b
  cases e1 : ltS a b
  · right
    by_cases e2 : a = b
    · exact .inl e2
    · right
      have h1 : Op.bytesLess a.toList b.toList = false := e1
      have h2 : (a.toList == b.toList) = false := neS_iff.2 e2
      rw [h1, h2] at h
      cases h3 : ltS b a
      · rw [h3] at h; cases h
      · rfl
  · exact .inl rfl
theorem Asc.uniq : ∀ {l m : List ByteArray}, Asc l → Asc m → (∀ x, x ∈ l ↔ x ∈ m) → l = m
  | [], [], _, _, _ => rfl
  | [], y :: m, _, _, h => by have := (h y).2 (by simp); cases this
  | x :: l, [], _, _, h => by have := (h x).1 (by simp); cases this
  | x :: l, y :: m, hl, hm, h => by
    obtain ⟨h1, h2⟩ := List.pairwise_cons.1 hl
    obtain ⟨h3, h4⟩ := List.pairwise_cons.1 hm
    have e : x = y := by
      rcases List.mem_cons.1 ((h x).1 (by simp)) with e | e
      · exact e
      · rcases List.mem_cons.1 ((h y).2 (by simp)) with e' | e'
        · exact e'.symm
        · have := ltS_tr (h1 y e') (h3 x e); rw [ltS_irr] at this; cases this
    subst e
    rw [Asc.uniq h2 h4 (fun z => ?_)]
    have hz := h z
    constructor
    · intro q
      rcases List.mem_cons.1 (hz.1 (by simp [q])) with e | e
      · subst e; exact absurd rfl (ltS_ne (h1 _ q))
      · exact e
    · intro q
      rcases List.mem_cons.1 (hz.2 (by simp [q])) with e | e
      · subst e; exact absurd rfl (ltS_ne (h3 _ q))
      · exact e
/-- A name put where it stands, once. -/
def insN : List ByteArray → ByteArray → List ByteArray
  | [], x => [x]
  | y :: r, x => if ltS y x then y :: insN r x else if y = x then y :: r else x :: y :: r
theorem insN_mem : ∀ (l : List ByteArray) (x y : ByteArray), y ∈ insN l x ↔ y ∈ l ∨ y = x
  | [], x, y => by simp [insN]
  | z :: r, x, y => by
    rw [insN]
    split
    · rw [List.mem_cons, insN_mem r x y, List.mem_cons, or_assoc]
    · split
      · rename_i e; subst e; rw [List.mem_cons]; exact ⟨fun h => .inl h, fun h => h.elim id (fun e => .inl e)⟩
      · rw [List.mem_cons, or_comm]
theorem insN_asc : ∀ {l : List ByteArray} (x : ByteArray), Asc l → Asc (insN l x)
  | [], x, _ => List.pairwise_singleton _ _
  | z :: r, x, h => by
    obtain ⟨h1, h2⟩ := List.pairwise_cons.1 h
    rw [insN]
    split
    · rename_i hz
      refine List.pairwise_cons.2 ⟨fun y hy => ?_, insN_asc x h2⟩
      rcases (insN_mem r x y).1 hy with q | q
      · exact h1 y q
      · rw [q]; exact hz
    · rename_i hz
      split
      · exact h
      · rename_i e
        have hx : ltS x z = true := by
          rcases ltS_tri z x with q | q | q
          · exact absurd q hz
          · exact absurd q e
          · exact q
        refine List.pairwise_cons.2 ⟨fun y hy => ?_, h⟩
        rcases List.mem_cons.1 hy with rfl | q
        · exact hx
        · exact ltS_tr hx (h1 y q)
theorem insN_len (l : List ByteArray) (x : ByteArray) : (insN l x).length ≤ l.length + 1 := by
  induction l with
  | nil => simp [insN]
  | cons y r ih => rw [insN]; split <;> (try split) <;> simp <;> omega
section
variable (A B : ByteArray → Int) (t n : Int)
end
end Go.Proofs.YtjcdmnogmpjkkaaDoor

/- A row of a call's own: one cell of it written; what is read of it. No program is named here. -/
namespace Go
set_option linter.unusedVariables false
set_option linter.unusedSimpArgs false
open Go.RowKit Go.Args

theorem own_cell {w : World} {base e sz n c g : Nat} {xs : List Value} (h : w.ownsRow base e sz (.slice (some ⟨g, 0, none⟩) n c) n xs) {j : Nat} {u : Value} (hj : xs[j]? = some u) : w.cell? ⟨g, j, none⟩ = some u := by
  have hc := h.cells (g := g) rfl j u hj
  rw [addr_add0, Nat.zero_add] at hc
  exact hc
theorem flat_at {α : Type} {cells : α → List Value} {n : Nat} (hcl : ∀ x, (cells x).length = n) {x : α} {j : Nat} {v : Value} (hv : (cells x)[j]? = some v) :
    ∀ {l : List α} {k : Nat}, l[k]? = some x → (l.flatMap cells)[k * n + j]? = some v
  | [], k, h => by simp at h
  | y :: l, 0, h => by
    simp only [List.getElem?_cons_zero, Option.some.injEq] at h
    subst h
    rw [List.flatMap_cons, Nat.zero_mul, Nat.zero_add, List.getElem?_append_left (List.getElem?_eq_some_iff.1 hv).1]
    exact hv
  | y :: l, k + 1, h => by
    rw [List.getElem?_cons_succ] at h
    have ih := flat_at hcl hv h
    rw [List.flatMap_cons, List.getElem?_append_right (by rw [hcl, Nat.succ_mul]; omega), hcl, show (k + 1) * n + j - n = k * n + j by rw [Nat.succ_mul]; omega]
    exact ih
end Go

/- Two rows of a call's own, of elements of one cell, that grow side by side, in whatever order. No program is named here. -/
namespace Go.Proofs.YtjcdmnogmpjkkaaDoor
set_option linter.unusedVariables false
set_option linter.unusedSimpArgs false
open Go.RowKit

theorem own_nc1 {w : World} {b base n : Nat} {T : TypeId} {cs : List Value} (hc : w.heap[b]? = some (.cells cs.toArray T (0, 0))) (hn : cs.length = n) (hb : base ≤ b) (hm : n ≤ maxLen) : w.ownsRow base T 1 (.slice (some ⟨b, 0, none⟩) n n) n cs := by
  subst hn
  exact ⟨by simp, .inr ⟨b, cs.length, cs.toArray, rfl, hb, hc, Nat.le_refl _, hm, by simp, by simp⟩⟩
structure TwoV (T : TypeId) (w : World) (base : Nat) (v : Value) (xs : List Value) (u : Value) (ys : List Value) : Prop where
  l : w.ownsRow base T 1 v xs.length xs
  r : w.ownsRow base T 1 u ys.length ys
  ne : ∀ k, v.ownBlock = some k → ¬ u.ownBlock = some k
  b : base ≤ w.heap.size
namespace TwoV
variable {T : TypeId} {w w' : World} {base n : Nat} {v u v' : Value} {xs ys zs : List Value} {cs : List Value}
theorem none (w : World) : TwoV T w w.heap.size (.slice none 0 0) [] (.slice none 0 0) [] :=
  ⟨⟨rfl, .inl ⟨rfl, rfl⟩⟩, ⟨rfl, .inl ⟨rfl, rfl⟩⟩, (fun k h => by cases h), Nat.le_refl _⟩
theorem grow (h : TwoV T w base v xs u ys) (g : Grow.G w w') : TwoV T w' base v xs u ys := ⟨own_later h.l g, own_later h.r g, h.ne, Nat.le_trans h.b g.size⟩
theorem newL (h : TwoV T w base v [] u ys) (g : Grow.G w w') (hc : w'.heap[w.heap.size]? = some (.cells xs.toArray T (0, 0))) (hn : xs.length = n) (hm : n ≤ maxLen) :
    TwoV T w' base (.slice (some ⟨w.heap.size, 0, Option.none⟩) n n) xs u ys := by
  subst hn
  exact ⟨own_nc1 hc rfl h.b hm, own_later h.r g, (fun k hk q => by have e : w.heap.size = k := Option.some.inj hk; have := (h.r.lt _ q).2; omega), Nat.le_trans h.b g.size⟩
theorem swap (h : TwoV T w base v xs u ys) : TwoV T w base u ys v xs := ⟨h.r, h.l, fun k hk q => h.ne k q hk, h.b⟩
theorem newR (h : TwoV T w base v xs u []) (g : Grow.G w w') (hc : w'.heap[w.heap.size]? = some (.cells ys.toArray T (0, 0))) (hn : ys.length = n) (hm : n ≤ maxLen) :
    TwoV T w' base v xs (.slice (some ⟨w.heap.size, 0, Option.none⟩) n n) ys := (h.swap.newL g hc hn hm).swap
theorem left (h : TwoV T w base v xs u ys) (f : Fr.Fr w w' v v') (o : w'.ownsRow base T 1 v' zs.length zs) : TwoV T w' base v' zs u ys :=
  ⟨o, (Chg.ofFr f).own h.r (fun k hk q => h.ne k q hk), (fun k hk q => by
    rcases f.o with e | ⟨g, e, hg⟩
    · exact h.ne k (e ▸ hk) q
    · have e2 : k = g := Option.some.inj (hk.symm.trans e)
      have := (h.r.lt k q).2
      omega), Nat.le_trans h.b f.g.size⟩
theorem right {u' : Value} (h : TwoV T w base v xs u ys) (f : Fr.Fr w w' u u') (o : w'.ownsRow base T 1 u' zs.length zs) : TwoV T w' base v xs u' zs := (h.swap.left f o).swap
theorem chgL (h : TwoV T w base v xs u ys) (f : Fr.Fr w w' v v') : Chg (fun k => base ≤ k) w w' := (Chg.ofFr f).mono fun i _ hi => (h.l.lt i hi).1
end TwoV
theorem own_app1 {T : TypeId} {w : World} {base : Nat} {v : Value} {xs ys zs : List Value} (hz : xs ++ ys = zs) (h : w.ownsRow base T 1 v (xs.length + ys.length) (xs ++ ys)) : w.ownsRow base T 1 v zs.length zs := by
  subst hz
  rw [List.length_append]
  exact h
/-- What a row of a call's own is as a source, from the k-th element on. -/
theorem own_srcd {T : TypeId} {w : World} {base n c k : Nat} {a : Option Addr} {xs : List Value} (h : w.ownsRow base T 1 (.slice a n c) n xs) (hk : k ≤ n) : (a = none ∧ xs = []) ∨ ∃ g, a = some ⟨g, 0, none⟩ ∧ Fr.Src w (some ⟨g, k, none⟩) (xs.drop k) ∧ Fr.Src w (some ⟨g, 0, none⟩) (xs.take k) := by
  rcases h.2 with ⟨h1, h2⟩ | ⟨g, cap, cur, hv, hb, hg, hn, hm, hs, ht⟩
  · injection h1 with e1 e2 e3
    subst e1
    exact .inl ⟨rfl, List.eq_nil_of_length_eq_zero (by rw [h.1]; omega)⟩
  · injection hv with e1 e2 e3
    subst e1
    refine .inr ⟨g, rfl, .inr ⟨_, rfl, fun j u hj => ?_⟩, .inr ⟨_, rfl, fun j u hj => ?_⟩⟩
    · rw [List.getElem?_drop] at hj
      have := h.cells (g := g) rfl (k + j) u hj
      rw [Args.addr_add0, Nat.zero_add] at this
      rw [Args.addr_add0]
      exact this
    · rw [List.getElem?_take] at hj
      split at hj
      · exact h.cells (g := g) rfl j u hj
      · cases hj
theorem own_app2 {T : TypeId} {w : World} {base m : Nat} {v : Value} {xs ys zs : List Value} (hz : xs ++ ys = zs) (hm : ys.length = m) (h : w.ownsRow base T 1 v (xs.length + m) (xs ++ ys)) : w.ownsRow base T 1 v zs.length zs := by
  subst hm
  exact own_app1 hz h
theorem own_src0 {T : TypeId} {w : World} {base n c : Nat} {a : Option Addr} {xs : List Value} (h : w.ownsRow base T 1 (.slice a n c) n xs) : Fr.Src w a xs := by
  rcases own_srcd h (Nat.zero_le _) with ⟨h1, h2⟩ | ⟨g, h1, h2, _⟩
  · exact .inl ⟨h1, h2⟩
  · rw [h1]; exact h2
end Go.Proofs.YtjcdmnogmpjkkaaDoor
