/- My own texts SameL, KeepP, FrIn, Tail, laid in one file. -/
import Derived.Test.YtjhfjjkfnmnkgaaZ2
import Derived.Test.YtjhfjjkfnmnkgaaZ36
import Derived.OwnWalkIn

/- Two rows that are the same, element by element. No program is named here. -/
namespace Go.Proofs.Ytjhfjjkfnmnkgaa
set_option linter.unusedVariables false
open Go.RowKit
theorem news_at {w : World} {b : Nat} {cs : List Value} {T : TypeId} {fr : Nat × Nat} (h : w.heap[b]? = some (.cells cs.toArray T fr)) : ∀ j u, cs[j]? = some u → w.cell? ((⟨b, 0, none⟩ : Addr).add j) = some u := by
  intro j u hj
  have e : (⟨b, 0, none⟩ : Addr).add j = ⟨b, j, none⟩ := by unfold Addr.add; split <;> simp_all
  rw [e]
  simp [World.cell?, h, hj]
section
variable {α : Type} (d : α) (q : α → α → Bool)
def sameL (xs ys : List α) : Bool := decide (xs.length = ys.length) && (List.range xs.length).all fun i => q (xs.getD i d) (ys.getD i d)
variable {d q}
theorem sameL_iff (hq : ∀ x y, q x y = true ↔ x = y) {xs ys : List α} : sameL d q xs ys = true ↔ xs = ys := by
  unfold sameL
  rw [Bool.and_eq_true, decide_eq_true_iff, List.all_eq_true]
  constructor
  · rintro ⟨hl, ha⟩
    refine List.ext_getElem hl fun i h1 h2 => ?_
    have := (hq _ _).1 (ha i (List.mem_range.2 h1))
    simpa [List.getD, h1, h2] using this
  · rintro rfl
    exact ⟨rfl, fun i _ => (hq _ _).2 rfl⟩
theorem sameL_no {xs ys : List α} {k : Nat} (hk : k < xs.length) (h : q (xs.getD k d) (ys.getD k d) = false) : sameL d q xs ys = false := by
  rw [Bool.eq_false_iff]; intro e
  unfold sameL at e
  rw [Bool.and_eq_true, List.all_eq_true] at e
  rw [e.2 k (List.mem_range.2 hk)] at h; cases h
theorem sameL_len {xs ys : List α} (h : xs.length ≠ ys.length) : sameL d q xs ys = false := by
  unfold sameL; rw [decide_eq_false h]; rfl
theorem sameL_yes {xs ys : List α} (hl : xs.length = ys.length) (h : ∀ i, i < xs.length → q (xs.getD i d) (ys.getD i d) = true) : sameL d q xs ys = true := by
  unfold sameL; rw [decide_eq_true hl, Bool.true_and, List.all_eq_true]
  exact fun i hi => h i (List.mem_range.1 hi)
end
end Go.Proofs.Ytjhfjjkfnmnkgaa

/- Ranges over functions that read blocks of a set in between: what a round must leave alone. No program is named here. -/
namespace Go.Iter
set_option linter.unusedVariables false
set_option linter.unusedSimpArgs false
open Go.RowKit

theorem zip1 (p : Tmp) (v : Value) (t : Array Value) : ((#[p] : Array Tmp).zip #[v]).foldl (fun t (p, v) => t.setIfInBounds p v) t = t.setIfInBounds p v := by simp [← Array.foldl_toList, Array.toList_zip]
/-- The blocks of p stand. -/
def KeepP (p : Nat → Prop) (A B : World) : Prop := A.heap.size ≤ B.heap.size ∧ ∀ k, p k → k < A.heap.size → B.heap[k]? = A.heap[k]?
namespace KeepP
variable {p : Nat → Prop} {A B C : World}
theorem trans (h : KeepP p A B) (k : KeepP p B C) : KeepP p A C := ⟨Nat.le_trans h.1 k.1, fun i hi hs => (k.2 i hi (Nat.lt_of_lt_of_le hs h.1)).trans (h.2 i hi hs)⟩
theorem grow (h : Grow.G A B) : KeepP p A B := ⟨h.size, fun k _ hk => h.block k hk⟩
theorem book {n : Nat} (h : Book n A B) (hp : ∀ k, p k → k < n) : KeepP p A B :=
  ⟨h.size, fun k hk hs => by rw [h.same k _ (Array.getElem?_eq_getElem hs) (.inr (hp k hk)), Array.getElem?_eq_getElem hs]⟩
theorem chg {G : Nat → Prop} (h : Chg G A B) (hp : ∀ k, p k → ¬ G k) : KeepP p A B := ⟨h.size, fun k hk hs => h.block k hs (hp k hk)⟩
theorem blk (h : KeepP p A B) {g : Nat} {cs : Array Value} {T : TypeId} (hb : Blk A g cs T) (hg : p g) : Blk B g cs T := (h.2 g hg hb.lt).trans hb
theorem cell (h : KeepP p A B) {b o : Nat} {v : Value} (hc : A.cell? ⟨b, o, none⟩ = some v) (hb : p b) : B.cell? ⟨b, o, none⟩ = some v := by
  have hl : b < A.heap.size := by
    rcases Nat.lt_or_ge b A.heap.size with h' | h'
    · exact h'
    · simp [World.cell?, Array.getElem?_eq_none h'] at hc
  exact (World.cell?_of_block (w := A) (w' := B) (a := ⟨b, o, none⟩) (h.2 b hb hl)).trans hc
end KeepP
/-- The block that a row of some elements lies in. -/
def blkOf {α : Type} (l : List α) (a : Option Addr) (k : Nat) : Prop := l ≠ [] ∧ ∃ off, a = some ⟨k, off, none⟩
theorem blkOf.lt {α : Type} {cells : α → List Value} {n : Nat} {a : Option Addr} {l : List α} {w : World} {k : Nat} (h : blkOf l a k) (hs : SlOf w cells n a l) (hc : ∀ x, 0 < (cells x).length) : k < w.heap.size := by
  obtain ⟨hl, off, ha⟩ := h
  rcases hs with h0 | ⟨b, o, ha', hcell⟩
  · exact (hl h0).elim
  · rw [ha] at ha'
    cases ha'
    cases l with
    | nil => exact (hl rfl).elim
    | cons x l =>
      have h1 := hcell 0 x rfl 0 _ (List.getElem?_eq_getElem (hc x))
      rcases Nat.lt_or_ge k w.heap.size with h' | h'
      · exact h'
      · simp [World.cell?, Array.getElem?_eq_none h'] at h1
theorem KeepP.slOf {p : Nat → Prop} {A B : World} {α : Type} {cells : α → List Value} {n : Nat} {a : Option Addr} {l : List α} (h : KeepP p A B) (hs : SlOf A cells n a l) (hp : ∀ k, blkOf l a k → p k) : SlOf B cells n a l := by
  by_cases hl : l = []
  · exact .inl hl
  · exact hs.imp id fun ⟨b, off, ha, hc⟩ => ⟨b, off, ha, fun i x hi j v hj => h.cell (hc i x hi j v hj) (hp b ⟨hl, off, ha⟩)⟩
end Go.Iter

/- An append onto a row of the call's own, in a fence: its exact frame. No program is named here. -/
namespace Go.Fr
set_option linter.unusedVariables false
open Go.Lib

end Go.Fr

/- A region that draws its order, whose last operations wait for all the others: the others as anywhere, the last ones in their order (a round of the caller's may be among them). No program is named here. -/
namespace Go.Tail
set_option linter.unusedVariables false
set_option linter.unusedSimpArgs false
open Go.RowKit

def noGuard (ops : Array Oper) : Bool := ops.all fun o => o.guard.isNone
theorem noGuard_at {ops : Array Oper} (h : noGuard ops = true) {i : Nat} {o : Oper} (hi : ops[i]? = some o) : o.guard = none := by
  unfold noGuard at h
  rw [Array.all_eq_true] at h
  obtain ⟨hlt, rfl⟩ := Array.getElem?_eq_some_iff.1 hi
  simpa using h i hlt
theorem wanted_at {ops : Array Oper} (h : noGuard ops = true) {i : Nat} {o : Oper} (hi : ops[i]? = some o) (y : Nat → Option Bool) : Region.wanted o y = true := by
  unfold Region.wanted
  rw [noGuard_at h hi]
def subs : Nat → List (List Bool)
  | 0 => [[]]
  | m + 1 => (subs m).flatMap fun l => [false :: l, true :: l]
theorem mem_subs : ∀ (m : Nat) (L : List Bool), L.length = m → L ∈ subs m
  | 0, L, h => by rw [List.eq_nil_of_length_eq_zero h]; simp [subs]
  | m + 1, [], h => by simp at h
  | m + 1, b :: L, h => by
    have ih := mem_subs m L (by simpa using h)
    unfold subs
    rw [List.mem_flatMap]
    exact ⟨L, ih, by cases b <;> simp⟩
/-- The first m operations are ready as if there were no others; the others wait for them all, and one for another. -/
def okB (md : Region.Mode) (ops : Array Oper) (m : Nat) : Bool :=
  noGuard ops && decide (m ≤ ops.size) &&
  ((subs m).all fun L => (L.all id || !Evo.closedB md (ops.toList.take m).toArray L.toArray) || (decide (Region.ready md ops (L ++ List.replicate (ops.size - m) false).toArray = Region.ready md (ops.toList.take m).toArray L.toArray) && !(Region.ready md (ops.toList.take m).toArray L.toArray).isEmpty)) &&
  ((List.range (ops.size - m)).all fun j => decide (Region.ready md ops (List.replicate (m + j) true ++ List.replicate (ops.size - m - j) false).toArray = [m + j])) &&
  decide (Region.ready md ops (List.replicate ops.size true).toArray = [])
theorem closedB_of {md : Region.Mode} {ops : Array Oper} {listed : Array Bool} (h : Evo.Closed md ops listed) : Evo.closedB md ops listed = true := by
  unfold Evo.closedB
  rw [List.all_eq_true]
  intro j _
  cases e : listed.getD j false with
  | false => rfl
  | true =>
    rw [Bool.not_true, Bool.false_or, List.all_eq_true]
    exact h j e
section
variable {P : Program} {ops : Array Oper} {Q : Exit → Act → World → Prop} {n : Nat} {md : Region.Mode}
theorem op_wide {Q' : Exit → Act → World → Prop} {o : Oper} (hd : ∀ c, o.op ≠ .defer c) {a : Act} {w : World} {K K' : Act → World → Prop} (hK : ∀ a w, K a w → K' a w) (h : o.wp P a w K (Round.Calm Q')) : o.wpIn Fence.wide n P a w K' Q := by
  unfold Oper.wpIn
  refine ⟨fun _ _ => trivial, ?_⟩
  rw [show Fence.wide.round = none from rfl, Oper.semAt_none]
  unfold Oper.wp at h
  generalize (execOp a.eval o).run P w = r at h ⊢
  cases r with
  | ok x w' =>
    cases x with
    | value v => exact hK _ _ h
    | skip => exact hK _ _ h
    | defer d => exact hK _ _ h
    | enter f args =>
      refine ⟨fun h => by simp [Fence.wide] at h, ?_⟩
      refine callsIn_wide.2 (Calls.mono h fun e w'' he => ?_)
      cases e with
      | returned v => exact hK _ _ he
      | panicked ch => exact he.elim
      | outgrown => exact (Round.no_lets he).elim
    | row row args =>
      refine ⟨fun h => by simp [Fence.wide] at h, ?_⟩
      exact fun c cs _ => let ⟨v, w'', r, s⟩ := h c cs; ⟨v, w'', hK _ _ r, stepsIn_wide.2 s⟩
    | round l f tmps assign body => exact h.elim
    | _ => exact h.elim
  | halt x w' =>
    cases x <;> exact h.elim
theorem set_at (l r : List Bool) (i : Nat) (h : i < l.length) : ((l ++ r).toArray.setIfInBounds i true) = (l.set i true ++ r).toArray := by
  rw [List.setIfInBounds_toArray, List.set_append_left _ _ h]
theorem count_set : ∀ (l : List Bool) (i : Nat), l[i]? = some false → (l.set i true).count false + 1 = l.count false
  | [], i, h => by simp at h
  | b :: l, 0, h => by simp at h; subst h; simp
  | b :: l, i + 1, h => by
    have ih := count_set l i (by simpa using h)
    rw [List.set_cons_succ, List.count_cons, List.count_cons]
    omega
theorem count_zero : ∀ (l : List Bool), l.count false = 0 → l = List.replicate l.length true
  | [], _ => rfl
  | b :: l, h => by
    rw [List.count_cons] at h
    have ih := count_zero l (by omega)
    cases b with
    | false => simp at h
    | true => rw [List.length_cons, List.replicate_succ, ← ih]
/-- The last ones, in their order. -/
theorem forced {m : Nat} (hb : okB md ops m = true) : ∀ (t j : Nat) (a : Act) (w : World), m + j + t = ops.size → wpListIn Fence.wide n P ops Q (ops.toList.drop (m + j)) a w →
    wpAnyIn Fence.wide n P md ops Q t (List.replicate (m + j) true ++ List.replicate t false).toArray a w
  | 0, j, a, w, ht, h => by
    simp only [okB, Bool.and_eq_true, decide_eq_true_eq] at hb
    rw [List.drop_eq_nil_of_le (by simp; omega)] at h
    refine ⟨?_, h⟩
    rw [List.replicate_zero, List.append_nil, show m + j = ops.size by omega]
    exact hb.2
  | t + 1, j, a, w, ht, h => by
    have hb0 := hb
    simp only [okB, Bool.and_eq_true, decide_eq_true_eq] at hb
    have hr := List.all_eq_true.1 hb.1.2 j (List.mem_range.2 (by omega))
    rw [decide_eq_true_eq, show ops.size - m - j = t + 1 by omega] at hr
    unfold wpAnyIn
    rw [hr]
    refine ⟨fun e => (List.cons_ne_nil _ _ e).elim, fun i hi => ?_⟩
    rw [List.mem_singleton] at hi
    subst hi
    have hlt : m + j < ops.size := by omega
    have ho : ops[m + j]? = some ops[m + j] := Array.getElem?_eq_getElem hlt
    have hl : ops.toList.drop (m + j) = ops[m + j] :: ops.toList.drop (m + (j + 1)) := by
      rw [List.drop_eq_getElem_cons (by simpa using hlt)]
      simp [Nat.add_assoc]
    rw [hl] at h
    unfold wpListIn at h
    rw [if_pos (wanted_at hb.1.1.1.1 ho _)] at h
    unfold wpOpIn
    simp only [ho, wanted_at hb.1.1.1.1 ho, if_true]
    refine Oper.wpIn_mono (fun a' w' h' => ?_) h
    have hs : ((List.replicate (m + j) true ++ List.replicate (t + 1) false).toArray.setIfInBounds (m + j) true) = (List.replicate (m + (j + 1)) true ++ List.replicate t false).toArray := by
      rw [List.setIfInBounds_toArray, List.set_append_right _ _ (by simp), List.length_replicate, Nat.sub_self, List.replicate_succ, List.set_cons_zero, ← Nat.add_assoc, List.replicate_succ', List.append_assoc]
      rfl
    rw [hs]
    exact forced hb0 t (j + 1) a' w' (by omega) h'
/-- What the others leave. -/
def next (n : Nat) (P : Program) (ops : Array Oper) (m : Nat) (Q : Exit → Act → World → Prop) : Exit → Act → World → Prop
  | .normal, a, w => wpListIn Fence.wide n P ops Q (ops.toList.drop m) a w
  | _, _, _ => False
theorem front {m : Nat} (hb : okB md ops m = true) (hd : Round.noDefer ops = true) : ∀ (fuel : Nat) (L : List Bool) (a : Act) (w : World), L.length = m → L.count false = fuel → Evo.Closed md (ops.toList.take m).toArray L.toArray →
    wpAny P md (ops.toList.take m).toArray (Round.Calm (next n P ops m Q)) fuel L.toArray a w → wpAnyIn Fence.wide n P md ops Q (fuel + (ops.size - m)) (L ++ List.replicate (ops.size - m) false).toArray a w
  | 0, L, a, w, hL, hc, _, h => by
    have hm : m ≤ ops.size := by simp only [okB, Bool.and_eq_true, decide_eq_true_eq] at hb; exact hb.1.1.1.2
    have h2 : next n P ops m Q .normal a w := h.2
    rw [count_zero L hc, hL, Nat.zero_add]
    exact forced hb (ops.size - m) 0 a w (by omega) h2
  | fuel + 1, L, a, w, hL, hc, hcl, h => by
    have hb0 := hb
    simp only [okB, Bool.and_eq_true, decide_eq_true_eq] at hb
    have hm : m ≤ ops.size := hb.1.1.1.2
    have hr := List.all_eq_true.1 hb.1.1.2 L (mem_subs m L hL)
    rw [Bool.or_eq_true] at hr
    have hnot : ¬ L.all id = true := fun e => by
      have : L.count false = 0 := by
        rw [List.count_eq_zero]
        intro hm
        have := List.all_eq_true.1 e false hm
        cases this
      omega
    have hr := hr.resolve_left (fun e => by
      rw [Bool.or_eq_true] at e
      rcases e with e | e
      · exact hnot e
      · rw [closedB_of hcl] at e; cases e)
    rw [Bool.and_eq_true, decide_eq_true_eq] at hr
    have hne : Region.ready md (ops.toList.take m).toArray L.toArray = [] → False := fun e => by
      have h2 := hr.2
      rw [e] at h2
      cases h2
    replace hr := hr.1
    rw [show fuel + 1 + (ops.size - m) = (fuel + (ops.size - m)) + 1 by omega]
    unfold wpAnyIn
    rw [hr]
    refine ⟨fun e => (hne e).elim, fun i hi => ?_⟩
    have h1 := h.2 i hi
    obtain ⟨hun, oi, hoi, _⟩ := mem_ready.1 hi
    have hil : i < L.length := by
      rcases Nat.lt_or_ge i L.length with h' | h'
      · exact h'
      · rw [Array.getD_eq_getD_getElem?, Array.getElem?_eq_none (by simpa using h')] at hun; cases hun
    have hoi2 : ops[i]? = some oi := by
      rw [List.getElem?_toArray, List.getElem?_take] at hoi
      split at hoi
      · simpa using hoi
      · cases hoi
    unfold wpOp at h1
    simp only [hoi, wanted_at hb.1.1.1.1 hoi2, if_true] at h1
    unfold wpOpIn
    simp only [hoi2, wanted_at hb.1.1.1.1 hoi2, if_true]
    have hLi : L[i]? = some false := by
      rw [Array.getD_eq_getD_getElem?] at hun
      rw [List.getElem?_toArray, List.getElem?_eq_getElem hil, Option.getD_some] at hun
      rw [List.getElem?_eq_getElem hil, hun]
    have hcs := count_set L i hLi
    rcases h1 with h1 | ⟨_, h1⟩
    · refine op_wide (Round.noDefer_at hd hoi2) (fun a' w' h' => ?_) h1
      rw [set_at L _ i hil]
      refine front hb0 hd fuel (L.set i true) a' w' (by simpa using hL) (by omega) (by rw [← List.setIfInBounds_toArray]; exact Evo.closed_set hcl hi) ?_
      rwa [List.setIfInBounds_toArray] at h'
    · exact (Round.no_lets h1).elim
/-- The whole region. -/
theorem region (m : Nat) {id : Nat} {a : Act} {w : World} {S E : World → World → Prop} {ℓ : Option Nat} (hm : P.follows .mixedOrders = true) (hd : Round.noDefer ops = true) (hb : okB .any ops m = true)
    (ok : Evo2.Okay P S E .any (ops.toList.take m).toArray (Round.Calm (next n P ops m Q)) ℓ)
    (h : Evo2.Okay P S E .any (ops.toList.take m).toArray (Round.Calm (next n P ops m Q)) ℓ → Evo2.wpX P S E .any (ops.toList.take m).toArray (Round.Calm (next n P ops m Q)) ℓ m (Array.replicate m false) a w) : (Code.region id ops true).wpIn Fence.wide n P Q a w := by
  refine wpIn_region_any hm ?_
  have hs : m ≤ ops.size := by simp only [okB, Bool.and_eq_true, decide_eq_true_eq] at hb; exact hb.1.1.1.2
  have h1 := Evo2.wpX.any ok.pre _ _ _ _ ((h ok).mono ok.pre (ok.pre.drawn w))
  have h2 := front (Q := Q) (n := n) hb hd m (List.replicate m false) a { w with drawn := w.drawn + 1 } (by simp) (by simp) (fun j hj => by
    exfalso
    rw [List.toArray_replicate, Array.getD_eq_getD_getElem?, Array.getElem?_replicate] at hj
    split at hj <;> cases hj) (by rw [List.toArray_replicate]; exact h1)
  have e1 : m + (ops.size - m) = ops.size := by omega
  have e2 : (List.replicate m false ++ List.replicate (ops.size - m) false).toArray = Array.replicate ops.size false := by
    rw [List.replicate_append_replicate, e1, List.toArray_replicate]
  rw [e1, e2] at h2
  exact h2
end
end Go.Tail
