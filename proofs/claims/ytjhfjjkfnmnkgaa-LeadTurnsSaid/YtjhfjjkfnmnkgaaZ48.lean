/- My own texts RlP, OwnSet, TwoV, Rl1, Rl2, RlC, RlW, laid in one file. -/
import Derived.Test.YtjhfjjkfnmnkgaaZ38
import Derived.Test.YtjhfjjkfnmnkgaaSlSet
import Derived.Test.YtjhfjjkfnmnkgaaZ2
import Derived.Test.YtjhfjjkfnmnkgaaZ29
import Derived.Test.YtjhfjjkfnmnkgaaZ1
import Derived.Test.YtjhfjjkfnmnkgaaZ42
import Derived.Laws.MakeOwn
import Derived.Test.YtjhfjjkfnmnkgaaZ44

/- Shares on the way from some to others: plainly. -/
namespace Go.Proofs.Ytjhfjjkfnmnkgaa
set_option maxRecDepth 100000
set_option linter.unusedVariables false
set_option linter.unusedSimpArgs false
set_option linter.unnecessarySimpa false
open Go.RowKit Go.Args

/-- What the first one of that name weighs. -/
def wtL : List Shr → ByteArray → Int
  | [], _ => 0
  | s :: r, n => if s.rev = n then s.w else wtL r n
theorem wtL_step {l : List Shr} {k : Nat} {s : Shr} (h : l[k]? = some s) (n : ByteArray) : wtL (l.drop k) n = if s.rev = n then s.w else wtL (l.drop (k + 1)) n := by
  obtain ⟨hl, e⟩ := List.getElem?_eq_some_iff.1 h
  rw [List.drop_eq_getElem_cons hl, e, wtL]
theorem wtL_mem : ∀ {l : List Shr} {n : ByteArray}, (∃ s, s ∈ l ∧ s.rev = n) → ∃ s, s ∈ l ∧ s.rev = n ∧ wtL l n = s.w
  | [], n, h => by obtain ⟨s, hs, _⟩ := h; cases hs
  | x :: r, n, h => by
    by_cases e : x.rev = n
    · exact ⟨x, by simp, e, by rw [wtL, if_pos e]⟩
    · obtain ⟨s, hs, h2⟩ := h
      rcases List.mem_cons.1 hs with rfl | hs
      · exact absurd h2 e
      · obtain ⟨y, h3, h4, h5⟩ := wtL_mem (l := r) ⟨s, hs, h2⟩
        exact ⟨y, by simp [h3], h4, by rw [wtL, if_neg e, h5]⟩
theorem wtL_none : ∀ {l : List Shr} {n : ByteArray}, (∀ s, s ∈ l → s.rev ≠ n) → wtL l n = 0
  | [], n, _ => rfl
  | x :: r, n, h => by rw [wtL, if_neg (h x (by simp)), wtL_none (fun s hs => h s (by simp [hs]))]
theorem wtL_cases (l : List Shr) (n : ByteArray) : (∃ s, s ∈ l ∧ s.rev = n ∧ wtL l n = s.w) ∨ ((∀ s, s ∈ l → s.rev ≠ n) ∧ wtL l n = 0) := by
  by_cases h : ∃ s, s ∈ l ∧ s.rev = n
  · exact .inl (wtL_mem h)
  · have h' : ∀ s, s ∈ l → s.rev ≠ n := fun s hs e => h ⟨s, hs, e⟩
    exact .inr ⟨h', wtL_none h'⟩
/-- Strictly rising, by bytes. -/
def Asc (l : List ByteArray) : Prop := l.Pairwise (fun a b => ltS a b = true)
theorem ltS_ne {a b : ByteArray} (h : ltS a b = true) : a ≠ b := fun e => by subst e; rw [ltS_irr] at h; cases h
theorem ltS_tri (a b : ByteArray) : ltS a b = true ∨ a = b ∨ ltS b a = true := by
  have h := le_not a b
  cases e1 : ltS a b
  · right
    by_cases e2 : a = b
    · exact .inl e2
    · right
      have h1 : Op.bytesLess a.toList b.toList = false := e1
      have h2 : (a.toList == b.toList) = false := neS_iff.2 e2
      rw [h1, h2] at h
      cases h3 : ltS b a
      · rw [h3] at h; cases h
      · rfl
  · exact .inl rfl
theorem ltS_asym {a b : ByteArray} (h : ltS a b = true) : ltS b a = false := by
  cases e : ltS b a
  · rfl
  · have := ltS_tr h e; rw [ltS_irr] at this; cases this
theorem Asc.uniq : ∀ {l m : List ByteArray}, Asc l → Asc m → (∀ x, x ∈ l ↔ x ∈ m) → l = m
  | [], [], _, _, _ => rfl
  | [], y :: m, _, _, h => by have := (h y).2 (by simp); cases this
  | x :: l, [], _, _, h => by have := (h x).1 (by simp); cases this
  | x :: l, y :: m, hl, hm, h => by
    obtain ⟨h1, h2⟩ := List.pairwise_cons.1 hl
    obtain ⟨h3, h4⟩ := List.pairwise_cons.1 hm
    have e : x = y := by
      rcases List.mem_cons.1 ((h x).1 (by simp)) with e | e
      · exact e
      · rcases List.mem_cons.1 ((h y).2 (by simp)) with e' | e'
        · exact e'.symm
        · have := ltS_tr (h1 y e') (h3 x e); rw [ltS_irr] at this; cases this
    subst e
    rw [Asc.uniq h2 h4 (fun z => ?_)]
    have hz := h z
    constructor
    · intro q
      rcases List.mem_cons.1 (hz.1 (by simp [q])) with e | e
      · subst e; exact absurd rfl (ltS_ne (h1 _ q))
      · exact e
    · intro q
      rcases List.mem_cons.1 (hz.2 (by simp [q])) with e | e
      · subst e; exact absurd rfl (ltS_ne (h3 _ q))
      · exact e
/-- A name put where it stands, once. -/
def insN : List ByteArray → ByteArray → List ByteArray
  | [], x => [x]
  | y :: r, x => if ltS y x then y :: insN r x else if y = x then y :: r else x :: y :: r
theorem insN_mem : ∀ (l : List ByteArray) (x y : ByteArray), y ∈ insN l x ↔ y ∈ l ∨ y = x
  | [], x, y => by simp [insN]
  | z :: r, x, y => by
    rw [insN]
    split
    · rw [List.mem_cons, insN_mem r x y, List.mem_cons, or_assoc]
    · split
      · rename_i e; subst e; rw [List.mem_cons]; exact ⟨fun h => .inl h, fun h => h.elim id (fun e => .inl e)⟩
      · rw [List.mem_cons, or_comm]
theorem insN_asc : ∀ {l : List ByteArray} (x : ByteArray), Asc l → Asc (insN l x)
  | [], x, _ => List.pairwise_singleton _ _
  | z :: r, x, h => by
    obtain ⟨h1, h2⟩ := List.pairwise_cons.1 h
    rw [insN]
    split
    · rename_i hz
      refine List.pairwise_cons.2 ⟨fun y hy => ?_, insN_asc x h2⟩
      rcases (insN_mem r x y).1 hy with q | q
      · exact h1 y q
      · rw [q]; exact hz
    · rename_i hz
      split
      · exact h
      · rename_i e
        have hx : ltS x z = true := by
          rcases ltS_tri z x with q | q | q
          · exact absurd q hz
          · exact absurd q e
          · exact q
        refine List.pairwise_cons.2 ⟨fun y hy => ?_, h⟩
        rcases List.mem_cons.1 hy with rfl | q
        · exact hx
        · exact ltS_tr hx (h1 y q)
theorem insN_len (l : List ByteArray) (x : ByteArray) : (insN l x).length ≤ l.length + 1 := by
  induction l with
  | nil => simp [insN]
  | cons y r ih => rw [insN]; split <;> (try split) <;> simp <;> omega
/-- The names of so many, put one by one. -/
def putN (N : List ByteArray) (l : List Shr) : List ByteArray := l.foldl (fun N s => insN N s.rev) N
theorem putN_step {l : List Shr} {k : Nat} {s : Shr} (N : List ByteArray) (h : l[k]? = some s) : putN N (l.take (k + 1)) = insN (putN N (l.take k)) s.rev := by
  unfold putN
  rw [List.take_add_one, h, List.foldl_append]; rfl
theorem putN_mem (l : List Shr) : ∀ (N : List ByteArray) (y : ByteArray), y ∈ putN N l ↔ y ∈ N ∨ ∃ s, s ∈ l ∧ s.rev = y := by
  induction l with
  | nil => intro N y; simp [putN]
  | cons x r ih =>
    intro N y
    have e : putN N (x :: r) = putN (insN N x.rev) r := rfl
    rw [e, ih, insN_mem, or_assoc]
    refine or_congr Iff.rfl ⟨?_, ?_⟩
    · rintro (h | ⟨s, hs, h⟩)
      · exact ⟨x, by simp, h.symm⟩
      · exact ⟨s, by simp [hs], h⟩
    · rintro ⟨s, hs, h⟩
      rcases List.mem_cons.1 hs with rfl | hs
      · exact .inl h.symm
      · exact .inr ⟨s, hs, h⟩
theorem putN_asc (l : List Shr) : ∀ {N : List ByteArray}, Asc N → Asc (putN N l) := by
  induction l with
  | nil => intro N h; exact h
  | cons x r ih => intro N h; exact ih (insN_asc x.rev h)
theorem putN_len (l : List Shr) : ∀ (N : List ByteArray), (putN N l).length ≤ N.length + l.length := by
  induction l with
  | nil => intro N; simp [putN]
  | cons x r ih =>
    intro N
    have e : putN N (x :: r) = putN (insN N x.rev) r := rfl
    have h1 := ih (insN N x.rev)
    have h2 := insN_len N x.rev
    rw [e, List.length_cons]; omega
/-- All names, by names. -/
def namesL (from' to : List Shr) : List ByteArray := putN (putN [] from') to
theorem namesL_asc (a b : List Shr) : Asc (namesL a b) := putN_asc b (putN_asc a List.Pairwise.nil)
theorem namesL_mem (a b : List Shr) (y : ByteArray) : y ∈ namesL a b ↔ (∃ s, s ∈ a ∧ s.rev = y) ∨ ∃ s, s ∈ b ∧ s.rev = y := by
  unfold namesL
  rw [putN_mem, putN_mem]; simp
theorem namesL_len (a b : List Shr) : (namesL a b).length ≤ a.length + b.length := by
  unfold namesL
  have h1 := putN_len b (putN [] a)
  have h2 := putN_len a []
  simp at h2; omega
section
variable (A B : ByteArray → Int) (t n : Int)
/-- By how much those that are to grow have grown together. -/
def gsum : List ByteArray → Int
  | [] => 0
  | x :: r => (if 0 < B x - A x then (B x - A x) * t / n else 0) + gsum r
/-- What one weighs while g are still to be lost, and how much it loses. -/
def lost1 (g : Int) (x : ByteArray) : Int := if B x < A x then min (A x - B x) g else 0
def now1 (g : Int) (x : ByteArray) : Int := if A x < B x then A x + (B x - A x) * t / n else A x - lost1 A B g x
def outN : List ByteArray → Int → List Shr
  | [], _ => []
  | x :: r, g => (if 0 < now1 A B t n g x then [⟨x, now1 A B t n g x⟩] else []) ++ outN r (g - lost1 A B g x)
end
/-- The Shares when so much of the whole way is gone. -/
def rollL (from' to : List Shr) (t n : Int) : List Shr :=
  if n ≤ 0 ∨ t ≥ n then to else if t ≤ 0 then from' else
    outN (wtL from') (wtL to) t n (namesL from' to) (gsum (wtL from') (wtL to) t n (namesL from' to))
end Go.Proofs.Ytjhfjjkfnmnkgaa

/- A row of a call's own: one cell of it written; what is read of it. No program is named here. -/
namespace Go
set_option linter.unusedVariables false
set_option linter.unusedSimpArgs false
open Go.RowKit Go.Args

theorem own_set {w : World} {base e sz n c g : Nat} {xs : List Value} (h : w.ownsRow base e sz (.slice (some ⟨g, 0, none⟩) n c) n xs) {j : Nat} (hj : j < xs.length) (u : Value) :
    (w.setCell ⟨g, j, none⟩ u).ownsRow base e sz (.slice (some ⟨g, 0, none⟩) n c) n (xs.set j u) := by
  obtain ⟨h0, h1⟩ := h
  refine ⟨by rw [List.length_set]; exact h0, ?_⟩
  rcases h1 with ⟨h1, _⟩ | ⟨g', cap, cur, hv, hb, hg, hn, hm, hs, ht⟩
  · cases h1
  · injection hv with e1 e2 e3
    injection e1 with e1
    injection e1 with e1
    subst e1 e3
    have B : Blk w g cur e := hg
    refine .inr ⟨g, c, cur.setIfInBounds j u, rfl, hb, B.set j u, hn, hm, by simpa using hs, ?_⟩
    rw [← ht]
    simp only [Array.toList_setIfInBounds]
    rw [List.take_set]
theorem own_cell {w : World} {base e sz n c g : Nat} {xs : List Value} (h : w.ownsRow base e sz (.slice (some ⟨g, 0, none⟩) n c) n xs) {j : Nat} {u : Value} (hj : xs[j]? = some u) : w.cell? ⟨g, j, none⟩ = some u := by
  have hc := h.cells (g := g) rfl j u hj
  rw [addr_add0, Nat.zero_add] at hc
  exact hc
theorem own_free {w : World} {base e sz n c g : Nat} {xs : List Value} (h : w.ownsRow base e sz (.slice (some ⟨g, 0, none⟩) n c) n xs) (j : Nat) : w.frozen? ⟨g, j, none⟩ = false := by
  rcases h.2 with ⟨h1, _⟩ | ⟨g', cap, cur, hv, hb, hg, hn, hm, hs, ht⟩
  · cases h1
  · injection hv with e1 e2 e3
    injection e1 with e1
    injection e1 with e1
    subst e1
    have B : Blk w g cur e := hg
    exact B.free j
theorem own_lt {w : World} {base e sz n c g : Nat} {xs : List Value} (h : w.ownsRow base e sz (.slice (some ⟨g, 0, none⟩) n c) n xs) : base ≤ g ∧ g < w.heap.size := h.lt g rfl
/-- One element of a row, one cell of it another one. -/
theorem flat_set {α : Type} {cells : α → List Value} {n : Nat} (hcl : ∀ x, (cells x).length = n) {v : Value} {x x' : α} {j : Nat} (hj : j < n) (hx : cells x' = (cells x).set j v) :
    ∀ {l : List α} {k : Nat}, l[k]? = some x → (l.flatMap cells).set (k * n + j) v = (l.set k x').flatMap cells
  | [], k, h => by simp at h
  | y :: l, 0, h => by
    simp only [List.getElem?_cons_zero, Option.some.injEq] at h
    subst h
    rw [List.set_cons_zero, List.flatMap_cons, List.flatMap_cons, hx, Nat.zero_mul, Nat.zero_add, List.set_append_left _ _ (by rw [hcl]; exact hj)]
  | y :: l, k + 1, h => by
    rw [List.getElem?_cons_succ] at h
    have ih := flat_set hcl hj hx h
    rw [List.set_cons_succ, List.flatMap_cons, List.flatMap_cons, List.set_append_right _ _ (by rw [hcl, Nat.succ_mul]; omega), hcl, show (k + 1) * n + j - n = k * n + j by rw [Nat.succ_mul]; omega, ih]
theorem flat_at {α : Type} {cells : α → List Value} {n : Nat} (hcl : ∀ x, (cells x).length = n) {x : α} {j : Nat} {v : Value} (hv : (cells x)[j]? = some v) :
    ∀ {l : List α} {k : Nat}, l[k]? = some x → (l.flatMap cells)[k * n + j]? = some v
  | [], k, h => by simp at h
  | y :: l, 0, h => by
    simp only [List.getElem?_cons_zero, Option.some.injEq] at h
    subst h
    rw [List.flatMap_cons, Nat.zero_mul, Nat.zero_add, List.getElem?_append_left (List.getElem?_eq_some_iff.1 hv).1]
    exact hv
  | y :: l, k + 1, h => by
    rw [List.getElem?_cons_succ] at h
    have ih := flat_at hcl hv h
    rw [List.flatMap_cons, List.getElem?_append_right (by rw [hcl, Nat.succ_mul]; omega), hcl, show (k + 1) * n + j - n = k * n + j by rw [Nat.succ_mul]; omega]
    exact ih
end Go

/- Two rows of a call's own, of elements of one cell, that grow side by side, in whatever order. No program is named here. -/
namespace Go.Proofs.Ytjhfjjkfnmnkgaa
set_option linter.unusedVariables false
set_option linter.unusedSimpArgs false
open Go.RowKit

theorem own_nc1 {w : World} {b base n : Nat} {T : TypeId} {cs : List Value} (hc : w.heap[b]? = some (.cells cs.toArray T (0, 0))) (hn : cs.length = n) (hb : base ≤ b) (hm : n ≤ maxLen) : w.ownsRow base T 1 (.slice (some ⟨b, 0, none⟩) n n) n cs := by
  subst hn
  exact ⟨by simp, .inr ⟨b, cs.length, cs.toArray, rfl, hb, hc, Nat.le_refl _, hm, by simp, by simp⟩⟩
structure TwoV (T : TypeId) (w : World) (base : Nat) (v : Value) (xs : List Value) (u : Value) (ys : List Value) : Prop where
  l : w.ownsRow base T 1 v xs.length xs
  r : w.ownsRow base T 1 u ys.length ys
  ne : ∀ k, v.ownBlock = some k → ¬ u.ownBlock = some k
  b : base ≤ w.heap.size
namespace TwoV
variable {T : TypeId} {w w' : World} {base n : Nat} {v u v' : Value} {xs ys zs : List Value} {cs : List Value}
theorem none (w : World) : TwoV T w w.heap.size (.slice none 0 0) [] (.slice none 0 0) [] :=
  ⟨⟨rfl, .inl ⟨rfl, rfl⟩⟩, ⟨rfl, .inl ⟨rfl, rfl⟩⟩, (fun k h => by cases h), Nat.le_refl _⟩
theorem grow (h : TwoV T w base v xs u ys) (g : Grow.G w w') : TwoV T w' base v xs u ys := ⟨own_later h.l g, own_later h.r g, h.ne, Nat.le_trans h.b g.size⟩
theorem newL (h : TwoV T w base v [] u ys) (g : Grow.G w w') (hc : w'.heap[w.heap.size]? = some (.cells xs.toArray T (0, 0))) (hn : xs.length = n) (hm : n ≤ maxLen) :
    TwoV T w' base (.slice (some ⟨w.heap.size, 0, Option.none⟩) n n) xs u ys := by
  subst hn
  exact ⟨own_nc1 hc rfl h.b hm, own_later h.r g, (fun k hk q => by have e : w.heap.size = k := Option.some.inj hk; have := (h.r.lt _ q).2; omega), Nat.le_trans h.b g.size⟩
theorem swap (h : TwoV T w base v xs u ys) : TwoV T w base u ys v xs := ⟨h.r, h.l, fun k hk q => h.ne k q hk, h.b⟩
theorem newR (h : TwoV T w base v xs u []) (g : Grow.G w w') (hc : w'.heap[w.heap.size]? = some (.cells ys.toArray T (0, 0))) (hn : ys.length = n) (hm : n ≤ maxLen) :
    TwoV T w' base v xs (.slice (some ⟨w.heap.size, 0, Option.none⟩) n n) ys := (h.swap.newL g hc hn hm).swap
theorem left (h : TwoV T w base v xs u ys) (f : Fr.Fr w w' v v') (o : w'.ownsRow base T 1 v' zs.length zs) : TwoV T w' base v' zs u ys :=
  ⟨o, (Chg.ofFr f).own h.r (fun k hk q => h.ne k q hk), (fun k hk q => by
    rcases f.o with e | ⟨g, e, hg⟩
    · exact h.ne k (e ▸ hk) q
    · have e2 : k = g := Option.some.inj (hk.symm.trans e)
      have := (h.r.lt k q).2
      omega), Nat.le_trans h.b f.g.size⟩
theorem right {u' : Value} (h : TwoV T w base v xs u ys) (f : Fr.Fr w w' u u') (o : w'.ownsRow base T 1 u' zs.length zs) : TwoV T w' base v xs u' zs := (h.swap.left f o).swap
theorem chgL (h : TwoV T w base v xs u ys) (f : Fr.Fr w w' v v') : Chg (fun k => base ≤ k) w w' := (Chg.ofFr f).mono fun i _ hi => (h.l.lt i hi).1
theorem chgR {u' : Value} (h : TwoV T w base v xs u ys) (f : Fr.Fr w w' u u') : Chg (fun k => base ≤ k) w w' := h.swap.chgL f
end TwoV
theorem own_app1 {T : TypeId} {w : World} {base : Nat} {v : Value} {xs ys zs : List Value} (hz : xs ++ ys = zs) (h : w.ownsRow base T 1 v (xs.length + ys.length) (xs ++ ys)) : w.ownsRow base T 1 v zs.length zs := by
  subst hz
  rw [List.length_append]
  exact h
/-- What a row of a call's own is as a source, from the k-th element on. -/
theorem own_srcd {T : TypeId} {w : World} {base n c k : Nat} {a : Option Addr} {xs : List Value} (h : w.ownsRow base T 1 (.slice a n c) n xs) (hk : k ≤ n) : (a = none ∧ xs = []) ∨ ∃ g, a = some ⟨g, 0, none⟩ ∧ Fr.Src w (some ⟨g, k, none⟩) (xs.drop k) ∧ Fr.Src w (some ⟨g, 0, none⟩) (xs.take k) := by
  rcases h.2 with ⟨h1, h2⟩ | ⟨g, cap, cur, hv, hb, hg, hn, hm, hs, ht⟩
  · injection h1 with e1 e2 e3
    subst e1
    exact .inl ⟨rfl, List.eq_nil_of_length_eq_zero (by rw [h.1]; omega)⟩
  · injection hv with e1 e2 e3
    subst e1
    refine .inr ⟨g, rfl, .inr ⟨_, rfl, fun j u hj => ?_⟩, .inr ⟨_, rfl, fun j u hj => ?_⟩⟩
    · rw [List.getElem?_drop] at hj
      have := h.cells (g := g) rfl (k + j) u hj
      rw [Args.addr_add0, Nat.zero_add] at this
      rw [Args.addr_add0]
      exact this
    · rw [List.getElem?_take] at hj
      split at hj
      · exact h.cells (g := g) rfl j u hj
      · cases hj
theorem own_app2 {T : TypeId} {w : World} {base m : Nat} {v : Value} {xs ys zs : List Value} (hz : xs ++ ys = zs) (hm : ys.length = m) (h : w.ownsRow base T 1 v (xs.length + m) (xs ++ ys)) : w.ownsRow base T 1 v zs.length zs := by
  subst hm
  exact own_app1 hz h
theorem own_src0 {T : TypeId} {w : World} {base n c : Nat} {a : Option Addr} {xs : List Value} (h : w.ownsRow base T 1 (.slice a n c) n xs) : Fr.Src w a xs := by
  rcases own_srcd h (Nat.zero_le _) with ⟨h1, h2⟩ | ⟨g, h1, h2, _⟩
  · exact .inl ⟨h1, h2⟩
  · rw [h1]; exact h2
end Go.Proofs.Ytjhfjjkfnmnkgaa

/- What a Share weighs: roll.Weight, damperref6.Weight; chapter 6's within. -/
namespace Go.Proofs.Ytjhfjjkfnmnkgaa
set_option maxRecDepth 100000
set_option linter.unusedVariables false
set_option linter.unusedSimpArgs false
set_option linter.unnecessarySimpa false
open Go.RowKit Go.Args

set_option maxHeartbeats 4000000 in
theorem rweight_any (a : Option Addr) (l : List Shr) (c : Nat) (n : ByteArray) (w : World) (hl : l.length ≤ 1000000) (h : ShSl w a l) :
    Calls Try.prog 24 #[.slice a l.length c, .string n] w fun e w' => e = .returned (.int .i64 (wtL l n)) ∧ w = w' := by
  have HS := Lib.hid h
  clear h
  go_enter Try.func24, Try.ntmps24
  go_wp2_with fail
  go_loopw [5] (fun i wr => ∃ k : Nat, k ≤ l.length ∧ i = .int .i64 k ∧ Hid (wtL l n = wtL (l.drop k) n) ∧ wr = w) (fun i _ => l.length - (intOf i).toNat)
  case atStart => exact ⟨0, by omega, rfl, Lib.hid rfl, rfl⟩
  case round =>
    obtain ⟨k, hk, rfl, HW, rfl⟩ := hrel
    by_cases hlt : k < l.length
    · obtain ⟨s, hs⟩ : ∃ s, l[k]? = some s := ⟨_, List.getElem?_eq_getElem hlt⟩
      obtain ⟨sb, off, rfl, hc⟩ := ShSl.at HS.out hs
      obtain ⟨c0, c1⟩ := hc _ (Grow.G.refl _)
      have ST := HW.out.trans (wtL_step hs n)
      obtain ⟨rv, x⟩ := s
      dsimp only at *
      clear hs hc HW
      have d0 : decide ((k : Int) < (l.length : Int)) = true := decide_eq_true (by omega)
      have hk1 : IntKind.i64.wrap ((k : Int) + 1) = (k : Int) + 1 := IntWalk.i64_in _ ⟨by omega, by omega⟩
      have k1 : (0 : Int) ≤ (k : Int) := by omega
      have k2 : (k : Int) < (l.length : Int) := by omega
      by_cases e : rv = n
      · rw [if_pos e] at ST
        have E : (rv.toList == n.toList) = true := eqS_iff.2 e
        have ST := Lib.hid ST
        clear e
        go_wp2_with fail
        go_ret
        exact ⟨ret_i64 ST.out.symm, rfl⟩
      · rw [if_neg e] at ST
        have E : (rv.toList == n.toList) = false := neS_iff.2 e
        have ST := Lib.hid ST
        clear e
        go_wp2_with fail
        go_roundw
        case rel => exact ⟨k + 1, by omega, by go_num, ST, trivial⟩
        case measure => simp [intOf]; omega
    · have d0 : decide ((k : Int) < (l.length : Int)) = false := decide_eq_false (by omega)
      have hz : l.drop k = [] := List.drop_eq_nil_of_le (by omega)
      have ST := HW.out
      rw [hz] at ST
      have ST := Lib.hid ST
      clear hz HW
      go_wp2_with fail
      go_ret
      exact ⟨ret_i64 ST.out.symm, rfl⟩

set_option maxHeartbeats 4000000 in
theorem rown_any (s : Shr) (w : World) (hs : s.rev.size ≤ 140737488351232) :
    Calls Try.prog 57 #[.agg #[.string s.rev, .int .i64 s.w]] w fun e w' => e = .returned (.agg #[.string s.rev, .int .i64 s.w]) ∧ Grow.G w w' := by
  obtain ⟨rv, x⟩ := s
  dsimp only at *
  have CL := Lib.hid (fun w => clone_any rv w (by omega))
  go_enter Try.func57, Try.ntmps57
  go_wp2_with fail
  refine (CL.out _).mono ?_
  rintro e wn1 ⟨rfl, hb1⟩
  have HM1 := (((Mem.nil w).alloc' [.string rv, .int .i64 x] 53 rfl).alloc' [.string ⟨#[]⟩, .int .i64 0] 53 (g := w.heap.size + 1) (by simp)).grow hb1
  simp only [K0, K1, L1, L2, K2, K3, K4, K5, K6, K7, Nat.reduceAdd, Nat.reduceSub] at HM1
  have HM := Lib.hid HM1
  clear HM1 hb1
  go_wp2_with ((refine Mem.store 0 (t := 9) rfl rfl rfl rfl (vs := [.string rv]) rfl (n := 1) (by kernel_rfl) HM.out rfl rfl (by simp) rfl ?_; intro wm1 HMm Cwm1))
  simp only [K0, K1, L1, L2, K2, K3, K4, K5, K6, K7, Nat.reduceAdd, Nat.reduceSub] at HMm
  replace HM := Lib.hid HMm
  clear HMm
  refine Stay.go ?_
  go_wp2_with (first | (refine Mem.loadAll 0 (t := 53) rfl rfl rfl Try.underlying53 (n := 2) (by kernel_rfl) HM.out rfl rfl ?_) | (refine Mem.storeAll 1 (t := 53) rfl rfl rfl rfl (n := 2) (by kernel_rfl) HM.out rfl rfl rfl rfl ?_; intro wm2 HMm Cwm2))
  simp only [K0, K1, L1, L2, K2, K3, K4, K5, K6, K7, Nat.reduceAdd, Nat.reduceSub] at HMm
  replace HM := Lib.hid HMm
  clear HMm
  refine Stay.go ?_
  have BF := HM.out.blk (i := 1) rfl
  go_wp2_with fail
  refine bodyPost_ret (v := .agg #[.string rv, .int .i64 x]) (by simp [results, Try.results57, go_sem, BF.cell]) rfl ?_
  exact ⟨rfl, HM.out.below⟩
set_option maxHeartbeats 4000000 in
theorem rstart_any (s : Shr) (w : World) (hs : wf64 s.w) (hs2 : -1000000 ≤ s.w) :
    Calls Try.prog 68 #[.agg #[.string s.rev, .int .i64 s.w]] w fun e w' => e = .returned (.agg #[.string s.rev, .int .i64 s.w, .int .i64 (-s.w)]) ∧ Grow.G w w' := by
  obtain ⟨rv, x⟩ := s
  dsimp only at *
  have hk1 : IntKind.i64.wrap (-x) = -x := IntWalk.i64_in _ ⟨by unfold wf64 at hs; omega, by omega⟩
  go_enter Try.func68, Try.ntmps68
  go_wp2_with fail
  have BF : Blk ((w.alloc (.cells #[.string rv, .int .i64 x] 53)).alloc (.cells #[.string rv, .int .i64 x, .int .i64 (-x)] 106)) (w.heap.size + 1) #[.string rv, .int .i64 x, .int .i64 (-x)] 106 := Blk.new' (by simp)
  refine bodyPost_ret (v := .agg #[.string rv, .int .i64 x, .int .i64 (-x)]) (by simp [results, Try.results68, go_sem, BF.cell]) rfl ?_
  exact ⟨rfl, Grow.G.alloc (Grow.G.alloc (Grow.G.refl _) _) _⟩
set_option maxHeartbeats 4000000 in
theorem rend_any (s : Shr) (w : World) :
    Calls Try.prog 69 #[.agg #[.string s.rev, .int .i64 s.w]] w fun e w' => e = .returned (.agg #[.string s.rev, .int .i64 0, .int .i64 s.w]) ∧ Grow.G w w' := by
  obtain ⟨rv, x⟩ := s
  dsimp only at *
  go_enter Try.func69, Try.ntmps69
  go_wp2_with fail
  have BF : Blk ((w.alloc (.cells #[.string rv, .int .i64 x] 53)).alloc (.cells #[.string rv, .int .i64 0, .int .i64 x] 106)) (w.heap.size + 1) #[.string rv, .int .i64 0, .int .i64 x] 106 := Blk.new' (by simp)
  refine bodyPost_ret (v := .agg #[.string rv, .int .i64 0, .int .i64 x]) (by simp [results, Try.results69, go_sem, BF.cell]) rfl ?_
  exact ⟨rfl, Grow.G.alloc (Grow.G.alloc (Grow.G.refl _) _) _⟩
set_option maxHeartbeats 4000000 in
theorem rbefore_any (r1 r2 : ByteArray) (a1 a2 b1 b2 : Int) (w : World) :
    Calls Try.prog 70 #[.agg #[.string r1, .int .i64 a1, .int .i64 a2], .agg #[.string r2, .int .i64 b1, .int .i64 b2]] w fun e w' => e = .returned (.bool (ltS r1 r2)) ∧ Grow.G w w' := by
  go_enter Try.func70, Try.ntmps70
  go_wp2_with fail
  go_ret
  exact ⟨rfl, Grow.G.alloc (Grow.G.alloc (Grow.G.refl _) _) _⟩

structure Wy where
  rev : ByteArray
  w : Int
  c : Int
def Wy.cells (x : Wy) : List Value := [.string x.rev, .int .i64 x.w, .int .i64 x.c]
abbrev WySl (w : World) (a : Option Addr) (l : List Wy) : Prop := SlOf w Wy.cells 3 a l
def stW (s : Shr) : Wy := ⟨s.rev, s.w, -s.w⟩
def enW (s : Shr) : Wy := ⟨s.rev, 0, s.w⟩
theorem infoWy : (Try.prog.info? 106).map (fun i => (i.zero, i.size, i.bytes)) = some (some (.agg #[.string ⟨#[]⟩, .int .i64 0, .int .i64 0]), 3, 32) := by kernel_rfl
theorem infoSh : (Try.prog.info? 53).map (fun i => (i.zero, i.size, i.bytes)) = some (some (.agg #[.string ⟨#[]⟩, .int .i64 0]), 2, 24) := by kernel_rfl
def zrS (n : Nat) : List Value := (madeCells #[.string ⟨#[]⟩, .int .i64 0] (n * 2)).toList
def zrW (n : Nat) : List Value := (madeCells #[.string ⟨#[]⟩, .int .i64 0, .int .i64 0] (n * 3)).toList
theorem zrS_len (n : Nat) : (zrS n).length = n * 2 := by unfold zrS; rw [Array.length_toList, size_madeCells]
theorem zrW_len (n : Nat) : (zrW n).length = n * 3 := by unfold zrW; rw [Array.length_toList, size_madeCells]
theorem make_shr (n : Nat) (hn : n ≤ 10000) (w : World) : (Instr.makeSlice 37 (.int .i64 n) (.int .i64 n)).run Try.prog w = .ok (.slice (some ⟨w.heap.size, 0, none⟩) n n) (w.alloc (.cells (zrS n).toArray 53)) := by
  obtain ⟨i0, hi, hz0, hz1, hz2⟩ := info_parts infoSh
  have RM := run_makeSlice (P := Try.prog) w 37 53 i0 _ Try.underlying37 hi hz0 .i64 .i64 n n (by omega) (by omega) (by rw [hz1]; omega) (by rw [hz2]; omega) (by omega)
  rw [RM, hz1, Int.toNat_natCast]
  unfold zrS; rfl
theorem make_way (n : Nat) (hn : n ≤ 10000) (w : World) : (Instr.makeSlice 97 (.int .i64 n) (.int .i64 n)).run Try.prog w = .ok (.slice (some ⟨w.heap.size, 0, none⟩) n n) (w.alloc (.cells (zrW n).toArray 106)) := by
  obtain ⟨i0, hi, hz0, hz1, hz2⟩ := info_parts infoWy
  have RM := run_makeSlice (P := Try.prog) w 97 106 i0 _ Try.underlying97 hi hz0 .i64 .i64 n n (by omega) (by omega) (by rw [hz1]; omega) (by rw [hz2]; omega) (by omega)
  rw [RM, hz1, Int.toNat_natCast]
  unfold zrW; rfl
theorem make_way0 (n : Nat) (hn : n ≤ 10000) (w : World) : (Instr.makeSlice 97 (.int .i64 0) (.int .i64 n)).run Try.prog w = .ok (.slice (some ⟨w.heap.size, 0, none⟩) 0 n) (w.alloc (.cells (zrW n).toArray 106)) := by
  obtain ⟨i0, hi, hz0, hz1, hz2⟩ := info_parts infoWy
  have RM := run_makeSlice (P := Try.prog) w 97 106 i0 _ Try.underlying97 hi hz0 .i64 .i64 0 n (by omega) (by omega) (by rw [hz1]; omega) (by rw [hz2]; omega) (by omega)
  rw [RM, hz1, Int.toNat_natCast]
  unfold zrW; rfl
/-- A store into a block known whole; the walk stops behind it. -/
theorem storeS {P : Program} {ops : Array Oper} {rest : List Oper} {o : Oper} {a : Act} {w : World} {Q : Exit → Act → World → Prop} {t : TypeId} {p x : Operand} (ho : o.op = .store t p x) (hgd : o.guard = none)
    {g off : Nat} (hp : a.eval p = .pointer (some ⟨g, off, none⟩)) {v : Value} (hx : a.eval x = v) {cs : List Value} {T : TypeId} (hb : Blk w g cs.toArray T)
    (hs : (P.info? t).isSome = true ∧ P.cellsOf t = v.cells.size) (hfit : off + v.cells.size ≤ cs.length) (h1 : ∀ u ∈ v.cells.toList, u.oneCell' = true)
    (h : ∀ w', Blk w' g (cs.take off ++ v.cells.toList ++ cs.drop (off + v.cells.toList.length)).toArray T → Chg (fun k => k = g) w w' → Stay (wpList P ops Q rest (a.put o.dst undef) w')) : wpList P ops Q (o :: rest) a w :=
  Box.store ho hgd hp hx hb hs (by simpa using hfit) h1 fun w' hb' hc => h w' (by simpa using hb') hc
/-- A block of elements as such. -/
theorem SlOf.blk {α : Type} {cells : α → List Value} {n : Nat} {w : World} {b : Nat} {l : List α} {T : TypeId} (hcl : ∀ x, (cells x).length = n) {more : List Value} (h : Blk w b (l.flatMap cells ++ more).toArray T) : SlOf w cells n (some ⟨b, 0, none⟩) l := by
  refine .inr ⟨b, 0, rfl, fun i x hi j v hj => ?_⟩
  rw [Nat.zero_add]
  refine Blk.at (cs := l.flatMap cells ++ more) h ?_
  have key : ∀ (l : List α) (i : Nat), l[i]? = some x → (l.flatMap cells)[i * n + j]? = some v := by
    intro l
    induction l with
    | nil => intro i hi; simp at hi
    | cons y l ih =>
      intro i hi
      rw [List.flatMap_cons]
      cases i with
      | zero =>
        simp only [List.getElem?_cons_zero, Option.some.injEq] at hi
        subst hi
        rw [Nat.zero_mul, Nat.zero_add, List.getElem?_append_left (List.getElem?_eq_some_iff.1 hj).1]
        exact hj
      | succ i =>
        rw [List.getElem?_cons_succ] at hi
        rw [List.getElem?_append_right (by rw [hcl, Nat.succ_mul]; omega), hcl, show (i + 1) * n + j - n = i * n + j by rw [Nat.succ_mul]; omega]
        exact ih i hi
  have h1 := key l i hi
  rw [List.getElem?_append_left (List.getElem?_eq_some_iff.1 h1).1]
  exact h1
theorem flat_len {α : Type} {cells : α → List Value} {n : Nat} (hcl : ∀ x, (cells x).length = n) (l : List α) : (l.flatMap cells).length = l.length * n := by
  induction l with
  | nil => simp
  | cons y l ih => rw [List.flatMap_cons, List.length_append, hcl, ih, List.length_cons, Nat.succ_mul]; omega
/-- One element more of a row that is made, cell by cell. -/
theorem made_step {α : Type} {cells : α → List Value} {n : Nat} (hcl : ∀ x, (cells x).length = n) {l : List α} {k : Nat} {x : α} (hk : l[k]? = some x) {zs : List Value} {o : Nat} (ho : o = k * n) :
    ((l.take k).flatMap cells ++ zs.drop (k * n)).take o ++ cells x ++ ((l.take k).flatMap cells ++ zs.drop (k * n)).drop (o + (cells x).length) = (l.take (k + 1)).flatMap cells ++ zs.drop ((k + 1) * n) := by
  subst ho
  have hkl := (List.getElem?_eq_some_iff.1 hk).1
  have e1 : ((l.take k).flatMap cells).length = k * n := by rw [flat_len hcl, List.length_take, Nat.min_eq_left (by omega)]
  have e2 : (l.take (k + 1)).flatMap cells = (l.take k).flatMap cells ++ cells x := by
    rw [List.take_add_one, hk, List.flatMap_append]; simp
  rw [e2, List.take_append_of_le_length (by omega), List.take_of_length_le (by omega), hcl, List.drop_append, e1, List.drop_eq_nil_of_le (by omega), List.nil_append, List.drop_drop, Nat.succ_mul, show k * n + (k * n + n - k * n) = k * n + n by omega]

def leW (a b : Wy) : Bool := !ltS b.rev a.rev
def mrgW (a b : List Wy) : List Wy := List.merge a b leW
theorem mrgW_nil (b : List Wy) : mrgW [] b = b := by simp [mrgW]
theorem mrgW_nil' (a : List Wy) : mrgW a [] = a := by simp [mrgW]
theorem mrgW_cons (x y : Wy) (a b : List Wy) : mrgW (x :: a) (y :: b) = if ltS y.rev x.rev = true then y :: mrgW (x :: a) b else x :: mrgW a (y :: b) := by
  unfold mrgW
  rw [List.cons_merge_cons]
  unfold leW
  cases e : ltS y.rev x.rev <;> simp
theorem mrgW_len (a b : List Wy) : (mrgW a b).length = a.length + b.length := by
  unfold mrgW; rw [List.length_merge]
theorem leW_tr (a b c : Wy) (h : leW a b = true) (k : leW b c = true) : leW a c = true := by
  unfold leW at *
  cases e : ltS c.rev a.rev
  · rfl
  · exfalso
    cases e1 : ltS b.rev a.rev
    · cases e2 : ltS c.rev b.rev
      · rcases ltS_tri a.rev b.rev with q | q | q
        · have := ltS_tr e q; rw [e2] at this; cases this
        · rw [q] at e; rw [e2] at e; cases e
        · rw [e1] at q; cases q
      · rw [e2] at k; cases k
    · rw [e1] at h; cases h
theorem leW_tot (a b : Wy) : (leW a b || leW b a) = true := by
  unfold leW
  cases e : ltS b.rev a.rev
  · rfl
  · rw [ltS_asym e]; rfl
/-- What those of a name are together. -/
def tot (f : Wy → Int) : List Wy → ByteArray → Int
  | [], _ => 0
  | x :: r, n => (if x.rev = n then f x else 0) + tot f r n
theorem tot_append (f : Wy → Int) (a b : List Wy) (n : ByteArray) : tot f (a ++ b) n = tot f a n + tot f b n := by
  induction a with
  | nil => simp [tot]
  | cons x a ih => rw [List.cons_append, tot, tot, ih]; omega
theorem tot_perm (f : Wy → Int) {a b : List Wy} (h : a.Perm b) (n : ByteArray) : tot f a n = tot f b n := by
  induction h with
  | nil => rfl
  | cons x _ ih => rw [tot, tot, ih]
  | swap x y l => simp only [tot]; omega
  | trans _ _ h1 h2 => rw [h1, h2]
theorem tot_none (f : Wy → Int) : ∀ {l : List Wy} {n : ByteArray}, (∀ x, x ∈ l → x.rev ≠ n) → tot f l n = 0
  | [], _, _ => rfl
  | x :: r, n, h => by rw [tot, if_neg (h x (by simp)), tot_none f (fun y hy => h y (by simp [hy]))]; rfl
theorem tot_at (f : Wy → Int) : ∀ {l : List Wy}, Asc (l.map (·.rev)) → ∀ x, x ∈ l → tot f l x.rev = f x
  | [], _, x, hx => by cases hx
  | y :: r, h, x, hx => by
    obtain ⟨h1, h2⟩ := List.pairwise_cons.1 h
    rcases List.mem_cons.1 hx with rfl | hx
    · rw [tot, if_pos rfl, tot_none f (fun z hz e => ltS_ne (h1 z.rev (List.mem_map_of_mem hz)) e.symm)]; simp
    · rw [tot, if_neg (fun e => ltS_ne (h1 x.rev (List.mem_map_of_mem hx)) e), tot_at f h2 x hx]; simp
/-- One more behind those that are so far: added to the last one, if that has its name. -/
def cstep (l : List Wy) (x : Wy) : List Wy :=
  match l.getLast? with
  | some y => if y.rev = x.rev then l.dropLast ++ [⟨y.rev, y.w + x.w, y.c + x.c⟩] else l ++ [x]
  | none => l ++ [x]
def combW (L : List Wy) : List Wy := L.foldl cstep []
theorem combW_step {L : List Wy} {k : Nat} {x : Wy} (h : L[k]? = some x) : combW (L.take (k + 1)) = cstep (combW (L.take k)) x := by
  unfold combW
  rw [List.take_add_one, h, List.foldl_append]; rfl
theorem cstep_nil (x : Wy) : cstep [] x = [x] := rfl
theorem cstep_snoc (i : List Wy) (y x : Wy) : cstep (i ++ [y]) x = if y.rev = x.rev then i ++ [⟨y.rev, y.w + x.w, y.c + x.c⟩] else i ++ [y] ++ [x] := by
  unfold cstep
  rw [List.getLast?_append]; simp
theorem cstep_facts {l : List Wy} {x : Wy} (ha : Asc (l.map (·.rev))) (hle : ∀ y, y ∈ l → leW y x = true) :
    Asc ((cstep l x).map (·.rev)) ∧ (∀ n, n ∈ (cstep l x).map (·.rev) ↔ n ∈ l.map (·.rev) ∨ n = x.rev) ∧ (∀ n, tot (·.w) (cstep l x) n = tot (·.w) l n + tot (·.w) [x] n) ∧ (∀ n, tot (·.c) (cstep l x) n = tot (·.c) l n + tot (·.c) [x] n) := by
  rcases List.eq_nil_or_concat l with rfl | ⟨i, y, rfl⟩
  · rw [cstep_nil]
    exact ⟨List.pairwise_singleton _ _, fun n => by simp, fun n => by simp [tot], fun n => by simp [tot]⟩
  · rw [List.concat_eq_append] at *
    rw [cstep_snoc]
    by_cases e : y.rev = x.rev
    · rw [if_pos e]
      have em : (i ++ [(⟨y.rev, y.w + x.w, y.c + x.c⟩ : Wy)]).map (·.rev) = (i ++ [y]).map (·.rev) := by simp
      rw [em]
      refine ⟨ha, fun n => ⟨.inl, fun h => h.elim id (fun h => by rw [h, ← e]; simp)⟩, fun n => ?_, fun n => ?_⟩
      · rw [tot_append, tot_append]
        simp only [tot]
        rw [← e]
        split <;> omega
      · rw [tot_append, tot_append]
        simp only [tot]
        rw [← e]
        split <;> omega
    · rw [if_neg e]
      refine ⟨?_, fun n => by simp [or_assoc], fun n => tot_append _ _ _ _, fun n => tot_append _ _ _ _⟩
      have hy : ltS y.rev x.rev = true := by
        have h := hle y (by simp)
        unfold leW at h
        rcases ltS_tri y.rev x.rev with q | q | q
        · exact q
        · exact absurd q e
        · rw [q] at h; cases h
      rw [List.map_append]
      refine List.pairwise_append.2 ⟨ha, List.pairwise_singleton _ _, fun a hm b hb => ?_⟩
      rw [List.map_append] at ha hm
      have hb : b = x.rev := by simpa using hb
      rw [hb]
      rcases List.mem_append.1 hm with q | q
      · exact ltS_tr ((List.pairwise_append.1 ha).2.2 a q y.rev (by simp)) hy
      · have q : a = y.rev := by simpa using q
        rw [q]; exact hy
theorem cstep_le {l : List Wy} {x z : Wy} (hle : ∀ y, y ∈ l → leW y z = true) (hx : leW x z = true) : ∀ y, y ∈ cstep l x → leW y z = true := by
  rcases List.eq_nil_or_concat l with rfl | ⟨i, v, rfl⟩
  · rw [cstep_nil]; intro y hy; rw [List.mem_singleton] at hy; rw [hy]; exact hx
  · rw [List.concat_eq_append] at *
    rw [cstep_snoc]
    split
    · intro y hy
      rcases List.mem_append.1 hy with q | q
      · exact hle y (by simp [q])
      · rw [List.mem_singleton] at q
        have := hle v (by simp)
        rw [q]; exact this
    · intro y hy
      rcases List.mem_append.1 hy with q | q
      · exact hle y q
      · rw [List.mem_singleton] at q; rw [q]; exact hx
theorem comb_facts : ∀ (L acc : List Wy), L.Pairwise (fun a b => leW a b = true) → Asc (acc.map (·.rev)) → (∀ x, x ∈ L → ∀ y, y ∈ acc → leW y x = true) →
    Asc ((L.foldl cstep acc).map (·.rev)) ∧ (∀ n, n ∈ (L.foldl cstep acc).map (·.rev) ↔ n ∈ acc.map (·.rev) ∨ n ∈ L.map (·.rev)) ∧ (∀ n, tot (·.w) (L.foldl cstep acc) n = tot (·.w) acc n + tot (·.w) L n) ∧ (∀ n, tot (·.c) (L.foldl cstep acc) n = tot (·.c) acc n + tot (·.c) L n)
  | [], acc, _, ha, _ => ⟨ha, fun n => by simp, fun n => by simp [tot], fun n => by simp [tot]⟩
  | x :: L, acc, hp, ha, hle => by
    obtain ⟨h1, h2⟩ := List.pairwise_cons.1 hp
    obtain ⟨c1, c2, c3, c4⟩ := cstep_facts ha (hle x (by simp))
    obtain ⟨d1, d2, d3, d4⟩ := comb_facts L (cstep acc x) h2 c1 (fun z hz => cstep_le (fun y hy => hle z (by simp [hz]) y hy) (h1 z hz))
    rw [List.foldl_cons]
    refine ⟨d1, fun n => ?_, fun n => ?_, fun n => ?_⟩
    · rw [d2, c2, List.map_cons, List.mem_cons, or_assoc]
    · rw [d3, c3]; simp only [tot]; omega
    · rw [d4, c4]; simp only [tot]; omega
theorem asc_revs {l : List Shr} (h : l.Pairwise (fun s t => ltS s.rev t.rev = true)) : Asc (l.map (·.rev)) := List.pairwise_map.2 h
theorem tot_st {a : List Shr} (h : Asc (a.map (·.rev))) (n : ByteArray) : tot (·.w) (a.map stW) n = wtL a n ∧ tot (·.c) (a.map stW) n = -wtL a n := by
  induction a with
  | nil => exact ⟨rfl, rfl⟩
  | cons x r ih =>
    obtain ⟨h1, h2⟩ := List.pairwise_cons.1 h
    obtain ⟨i1, i2⟩ := ih h2
    rw [List.map_cons, tot, tot, i1, i2, wtL]
    by_cases e : x.rev = n
    · have z : wtL r n = 0 := wtL_none (fun s hs q => ltS_ne (h1 s.rev (List.mem_map_of_mem hs)) (e.trans q.symm))
      rw [if_pos e, if_pos (show (stW x).rev = n from e), if_pos (show (stW x).rev = n from e), z]
      exact ⟨by show x.w + 0 = x.w; omega, by show -x.w + -0 = -x.w; omega⟩
    · rw [if_neg e, if_neg (show ¬ (stW x).rev = n from e), if_neg (show ¬ (stW x).rev = n from e)]
      exact ⟨by omega, by omega⟩
theorem tot_en {a : List Shr} (h : Asc (a.map (·.rev))) (n : ByteArray) : tot (·.w) (a.map enW) n = 0 ∧ tot (·.c) (a.map enW) n = wtL a n := by
  induction a with
  | nil => exact ⟨rfl, rfl⟩
  | cons x r ih =>
    obtain ⟨h1, h2⟩ := List.pairwise_cons.1 h
    obtain ⟨i1, i2⟩ := ih h2
    rw [List.map_cons, tot, tot, i1, i2, wtL]
    by_cases e : x.rev = n
    · have z : wtL r n = 0 := wtL_none (fun s hs q => ltS_ne (h1 s.rev (List.mem_map_of_mem hs)) (e.trans q.symm))
      rw [if_pos e, if_pos (show (enW x).rev = n from e), if_pos (show (enW x).rev = n from e), z]
      exact ⟨by show (0 : Int) + 0 = 0; omega, by show x.w + 0 = x.w; omega⟩
    · rw [if_neg e, if_neg (show ¬ (enW x).rev = n from e), if_neg (show ¬ (enW x).rev = n from e)]
      exact ⟨by omega, by omega⟩
/-- The ways of all names, as they are when nothing is gone. -/
def waysL (a b : List Shr) : List Wy := (namesL a b).map (fun n => ⟨n, wtL a n, wtL b n - wtL a n⟩)
theorem ways_eq {a b : List Shr} (ha : Asc (a.map (·.rev))) (hb : Asc (b.map (·.rev))) : combW (mrgW (a.map stW) (b.map enW)) = waysL a b := by
  have pa : (a.map stW).Pairwise (fun x y => leW x y = true) := by
    rw [List.pairwise_map]
    refine (List.pairwise_map.1 ha).imp fun {x y} h => ?_
    show (!ltS y.rev x.rev) = true
    rw [ltS_asym h]; rfl
  have pb : (b.map enW).Pairwise (fun x y => leW x y = true) := by
    rw [List.pairwise_map]
    refine (List.pairwise_map.1 hb).imp fun {x y} h => ?_
    show (!ltS y.rev x.rev) = true
    rw [ltS_asym h]; rfl
  have pm : (mrgW (a.map stW) (b.map enW)).Pairwise (fun x y => leW x y = true) := List.pairwise_merge leW_tr leW_tot _ _ pa pb
  have hp : (mrgW (a.map stW) (b.map enW)).Perm (a.map stW ++ b.map enW) := List.merge_perm_append _
  obtain ⟨c1, c2, c3, c4⟩ := comb_facts _ [] pm List.Pairwise.nil (fun x _ y hy => by cases hy)
  have hn : (combW (mrgW (a.map stW) (b.map enW))).map (·.rev) = namesL a b := by
    refine Asc.uniq c1 (namesL_asc a b) (fun x => ?_)
    rw [show x ∈ List.map (fun x => x.rev) (combW (mrgW (a.map stW) (b.map enW))) ↔ _ from c2 x, namesL_mem]
    have hm : x ∈ List.map (fun x => x.rev) (mrgW (a.map stW) (b.map enW)) ↔ x ∈ List.map (fun x => x.rev) (a.map stW ++ b.map enW) := (hp.map _).mem_iff
    rw [hm, List.map_append, List.mem_append, List.map_map, List.map_map]
    simp only [List.mem_map, Function.comp, List.map_nil, List.not_mem_nil, false_or]
    exact Iff.rfl
  unfold waysL
  rw [← hn, List.map_map]
  refine (List.map_id _).symm.trans (List.map_congr_left fun x hx => ?_)
  have e1 := tot_at (·.w) c1 x hx
  have e2 := tot_at (·.c) c1 x hx
  have f1 : tot (·.w) (mrgW (a.map stW) (b.map enW)) x.rev = wtL a x.rev := by rw [tot_perm _ hp, tot_append, (tot_st ha _).1, (tot_en hb _).1]; omega
  have f2 : tot (·.c) (mrgW (a.map stW) (b.map enW)) x.rev = wtL b x.rev - wtL a x.rev := by rw [tot_perm _ hp, tot_append, (tot_st ha _).2, (tot_en hb _).2]; omega
  have g1 := c3 x.rev
  have g2 := c4 x.rev
  rw [f1] at g1
  rw [f2] at g2
  obtain ⟨rv, x1, x2⟩ := x
  simp only [tot, Int.zero_add, Function.comp, id] at *
  have g1' : x1 = wtL a rv := e1.symm.trans g1
  have g2' : x2 = wtL b rv - wtL a rv := e2.symm.trans g2
  rw [← g2', ← g1']
/-- Grown, lost, what is left. -/
def grow1 (t n : Int) (x : Wy) : Wy := ⟨x.rev, x.w + max x.c 0 * t / n, x.c⟩
def growS (t n : Int) : List Wy → Int
  | [] => 0
  | x :: r => max x.c 0 * t / n + growS t n r
def by1 (g : Int) (x : Wy) : Int := min (max (-x.c) 0) g
def loseL : List Wy → Int → List Wy
  | [], _ => []
  | x :: r, g => ⟨x.rev, x.w - by1 g x, x.c⟩ :: loseL r (g - by1 g x)
def wgt (x : Wy) : List Shr := if 0 < x.w then [⟨x.rev, x.w⟩] else []
def weightyL (l : List Wy) : List Shr := l.flatMap wgt
theorem gsum_nonneg {A B : ByteArray → Int} {t n : Int} (ht : 0 ≤ t) (hn : 0 < n) (N : List ByteArray) : 0 ≤ gsum A B t n N := by
  induction N with
  | nil => exact Int.le_refl _
  | cons x r ih =>
    rw [gsum]
    split
    · rename_i h
      have := Int.ediv_nonneg (Int.mul_nonneg (Int.le_of_lt h) ht) (Int.le_of_lt hn)
      omega
    · omega
theorem growS_eq (A B : ByteArray → Int) (t n : Int) (N : List ByteArray) : growS t n (N.map fun x => ⟨x, A x, B x - A x⟩) = gsum A B t n N := by
  induction N with
  | nil => rfl
  | cons x r ih =>
    rw [List.map_cons, growS, gsum, ih]
    dsimp only
    by_cases h : 0 < B x - A x
    · rw [if_pos h, Int.max_eq_left (Int.le_of_lt h)]
    · rw [if_neg h, Int.max_eq_right (by omega), Int.zero_mul, Int.zero_ediv]
theorem roll_out (A B : ByteArray → Int) (t n : Int) : ∀ (N : List ByteArray) (g : Int), 0 ≤ g → weightyL (loseL ((N.map fun x => (⟨x, A x, B x - A x⟩ : Wy)).map (grow1 t n)) g) = outN A B t n N g
  | [], g, _ => rfl
  | x :: r, g, hg => by
    rw [List.map_cons, List.map_cons, loseL]
    have e : by1 g (grow1 t n ⟨x, A x, B x - A x⟩) = lost1 A B g x := by
      unfold by1 grow1 lost1
      dsimp only
      split <;> omega
    have e2 : (grow1 t n ⟨x, A x, B x - A x⟩).w - lost1 A B g x = now1 A B t n g x := by
      unfold grow1 now1 lost1
      dsimp only
      by_cases h : A x < B x
      · rw [if_pos h, if_neg (by omega), Int.max_eq_left (by omega)]; omega
      · rw [if_neg h, Int.max_eq_right (by omega), Int.zero_mul, Int.zero_ediv]; omega
    have hg2 : 0 ≤ g - lost1 A B g x := by unfold lost1; split <;> omega
    rw [e, weightyL, List.flatMap_cons, e2, outN]
    have := roll_out A B t n r _ hg2
    rw [weightyL] at this
    rw [this]; rfl
theorem roll_eq {a b : List Shr} {t n : Int} (ha : Asc (a.map (·.rev))) (hb : Asc (b.map (·.rev))) (h1 : ¬ (n ≤ 0 ∨ t ≥ n)) (h2 : ¬ t ≤ 0) :
    weightyL (loseL ((waysL a b).map (grow1 t n)) (growS t n (waysL a b))) = rollL a b t n := by
  unfold rollL waysL
  rw [if_neg h1, if_neg h2, growS_eq, roll_out _ _ _ _ _ _ (gsum_nonneg (by omega) (by omega) _)]
end Go.Proofs.Ytjhfjjkfnmnkgaa
