/- My own texts Sep, Heap, HoldE, HeapF, laid in one file. -/
import Derived.Test.YtifkombocmdmfaaZ2

/- States in memory by their footprints: what two of them that have nothing in common do to one another. No program is named here. -/
namespace Go
set_option linter.unusedVariables false
set_option linter.unusedSimpArgs false
open Go.RowKit

/-- A predicate of a world and a set of blocks that hangs on these blocks alone. -/
structure Foot (A : World → (Nat → Prop) → Prop) : Prop where
  lt : ∀ {w : World} {F : Nat → Prop}, A w F → ∀ k, F k → k < w.heap.size
  frame : ∀ {w w' : World} {F G : Nat → Prop}, A w F → Chg G w w' → (∀ k, F k → ¬ G k) → A w' F
def Apart (F G : Nat → Prop) : Prop := ∀ k, F k → ¬ G k
/-- What is new in a footprint lies beyond all that was there. -/
def Fresh (w : World) (F F' : Nat → Prop) : Prop := ∀ k, F' k → F k ∨ w.heap.size ≤ k
section
variable {A B : World → (Nat → Prop) → Prop} {w w' w'' : World} {F F' F'' F₁ F₁' F₂ G : Nat → Prop}
theorem Apart.symm (h : Apart F G) : Apart G F := fun k hk hf => h k hf hk
theorem Apart.mono (h : Apart F G) {F₀ : Nat → Prop} (hs : ∀ k, F₀ k → F k) : Apart F₀ G := fun k hk => h k (hs k hk)
theorem Fresh.refl (w : World) (F : Nat → Prop) : Fresh w F F := fun k h => .inl h
theorem Fresh.trans (h : Fresh w F F') (k : Fresh w' F' F'') (g : w.heap.size ≤ w'.heap.size) : Fresh w F F'' := fun i hi => (k i hi).elim (h i) (fun q => .inr (Nat.le_trans g q))
theorem Fresh.sub (h : Fresh w F F') (hs : ∀ k, F k → G k) : Fresh w G F' := fun i hi => (h i hi).imp (hs i) id
theorem Chg.more (h : Chg F w w') (fr : Fresh w F F') (k : Chg F' w' w'') : Chg F w w'' := h.join k fun i hi hf => (fr i hf).elim id (fun q => absurd q (by omega))
theorem Chg.sub (h : Chg F w w') (hs : ∀ k, F k → G k) : Chg G w w' := h.mono fun i _ => hs i
theorem Chg.base (h : Chg F w w') {B : Nat} (hB : B ≤ w.heap.size) (hF : ∀ k, F k → B ≤ k) : Below B w w' := h.below hB fun k hk hf => by have := hF k hf; omega
theorem Fresh.base (h : Fresh w F F') {B : Nat} (hB : B ≤ w.heap.size) (hF : ∀ k, F k → B ≤ k) : ∀ k, F' k → B ≤ k := fun k hk => (h k hk).elim (hF k) (Nat.le_trans hB)
/-- What a call does to its own footprint leaves another one alone. -/
theorem Foot.keep (hB : Foot B) (b : B w F₂) (ap : Apart F₁ F₂) (c : Chg F₁ w w') (fr : Fresh w F₁ F₁') : B w' F₂ ∧ Apart F₁' F₂ :=
  ⟨hB.frame b c ap.symm, fun k h1 h2 => (fr k h1).elim (fun h => ap k h h2) (fun h => by have := hB.lt b k h2; omega)⟩
theorem Foot.grow (hA : Foot A) (a : A w F) (g : Grow.G w w') : A w' F := hA.frame a (Chg.grow (G := fun _ => False) g) (fun _ _ => id)
/-- Two side by side. -/
def Sep (A B : World → (Nat → Prop) → Prop) (w : World) (F : Nat → Prop) : Prop := ∃ F₁ F₂, A w F₁ ∧ B w F₂ ∧ Apart F₁ F₂ ∧ ∀ k, F k ↔ F₁ k ∨ F₂ k
/-- A block known whole. -/
def BlkF (g : Nat) (cs : List Value) (T : TypeId) (w : World) (F : Nat → Prop) : Prop := Blk w g cs.toArray T ∧ ∀ k, F k ↔ k = g
theorem BlkF.foot (g : Nat) (cs : List Value) (T : TypeId) : Foot (BlkF g cs T) where
  lt := fun ⟨h, e⟩ k hk => by rw [(e k).1 hk]; exact h.lt
  frame := fun ⟨h, e⟩ c hs => ⟨h.chg c (hs g ((e g).2 rfl)), e⟩
/-- A row of the call's own. -/
def RowF (base : Nat) (e : TypeId) (sz : Nat) (v : Value) (n : Nat) (xs : List Value) (w : World) (F : Nat → Prop) : Prop := w.ownsRow base e sz v n xs ∧ ∀ k, F k ↔ v.ownBlock = some k
theorem RowF.foot (base : Nat) (e : TypeId) (sz : Nat) (v : Value) (n : Nat) (xs : List Value) : Foot (RowF base e sz v n xs) where
  lt := fun ⟨h, q⟩ k hk => (h.lt k ((q k).1 hk)).2
  frame := fun ⟨h, q⟩ c hs => ⟨c.own h fun k hk => hs k ((q k).2 hk), q⟩
/-- Many side by side: the i-th of them is A i. -/
def SepL {α : Type} (A : α → World → (Nat → Prop) → Prop) (l : List α) (w : World) (F : Nat → Prop) : Prop :=
  ∃ Fs : List (Nat → Prop), Fs.length = l.length ∧ (∀ (i : Nat) (x : α) (f : Nat → Prop), l[i]? = some x → Fs[i]? = some f → A x w f) ∧ Fs.Pairwise Apart ∧ ∀ k, F k ↔ ∃ f, f ∈ Fs ∧ f k
theorem SepL.foot {α : Type} {A : α → World → (Nat → Prop) → Prop} (hA : ∀ x, Foot (A x)) (l : List α) : Foot (SepL A l) where
  lt := fun ⟨Fs, hl, ha, _, e⟩ k hk => by
    obtain ⟨f, hf, hk⟩ := (e k).1 hk
    obtain ⟨i, hi⟩ := List.getElem?_of_mem hf
    have hil := (List.getElem?_eq_some_iff.1 hi).1
    exact (hA _).lt (ha i (l[i]'(by omega)) f (List.getElem?_eq_getElem _) hi) k hk
  frame := fun ⟨Fs, hl, ha, hp, e⟩ c hs => ⟨Fs, hl, fun i x f hx hf => (hA x).frame (ha i x f hx hf) c fun k hk => hs k ((e k).2 ⟨f, List.mem_of_getElem? hf, hk⟩), hp, e⟩
end

abbrev Hp := World → (Nat → Prop) → Prop
/-- Nothing. -/
def Emp : Hp := fun _ F => ∀ k, ¬ F k
theorem Emp.foot : Foot Emp := ⟨fun h k hk => (h k hk).elim, fun h _ _ => h⟩
/-- The call's own blocks L, and the state A, apart from them, all behind w0. -/
structure Hold (w0 w : World) (L : List MBox) (A : Hp) : Prop where
  mem : Mem w0 w L
  st : ∃ F, A w F ∧ (∀ k, F k → w0.heap.size ≤ k) ∧ ∀ b ∈ L, ¬ F b.1
/-- What a call on a state leaves. -/
def EndS (w w' : World) (F : Nat → Prop) (A' : Hp) : Prop := ∃ F', A' w' F' ∧ Chg F w w' ∧ Fresh w F F'
section
variable {A B C D : Hp} {w : World} {F : Nat → Prop}
theorem Sep.under (h : Sep A B w F) (f : ∀ F, B w F → C w F) : Sep A C w F := by
  obtain ⟨F1, F2, a, b, ap, e⟩ := h
  exact ⟨F1, F2, a, f F2 b, ap, e⟩
theorem Sep.over (h : Sep A B w F) (f : ∀ F, A w F → C w F) : Sep C B w F := by
  obtain ⟨F1, F2, a, b, ap, e⟩ := h
  exact ⟨F1, F2, f F1 a, b, ap, e⟩
end
namespace Hold
variable {w0 w w' : World} {L : List MBox} {A A' B B' : Hp} {P : Program} {f : FuncId} {args : Array Value}
theorem nil (w : World) : Hold w w [] Emp := ⟨Mem.nil w, fun _ => False, fun _ => id, fun _ h => h.elim, fun b hb => by cases hb⟩
theorem of (hm : Mem w0 w L) {F : Nat → Prop} (h : A w F) (hb : ∀ k, F k → w0.heap.size ≤ k) (hL : ∀ b ∈ L, ¬ F b.1) : Hold w0 w L A := ⟨hm, F, h, hb, hL⟩
theorem below (h : Hold w0 w L A) : Grow.G w0 w := h.mem.below
theorem grow (h : Hold w0 w L A) (hA : Foot A) (g : Grow.G w w') : Hold w0 w' L A := by
  obtain ⟨F, h1, h2, h3⟩ := h.st
  exact ⟨h.mem.grow g, F, hA.grow h1 g, h2, h3⟩
theorem alloc' (h : Hold w0 w L A) (hA : Foot A) (cs : List Value) (T : TypeId) {g : Nat} (hg : g = w.heap.size) : Hold w0 (w.alloc (.cells cs.toArray T)) (L ++ [(g, cs, T)]) A := by
  obtain ⟨F, h1, h2, h3⟩ := h.st
  refine ⟨h.mem.alloc' cs T hg, F, hA.grow h1 (Grow.G.alloc (Grow.G.refl _) _), h2, fun b hb => ?_⟩
  rcases List.mem_append.1 hb with hb | hb
  · exact h3 b hb
  · rw [List.mem_singleton] at hb
    subst hb hg
    exact fun q => by have := hA.lt h1 _ q; exact Nat.lt_irrefl _ this
/-- One more block of its own, made by a call. -/
theorem add (h : Hold w0 w L A) (hA : Foot A) (g : Grow.G w w') {b : Nat} {cs : List Value} {T : TypeId} (hb : Blk w' b cs.toArray T) (hn : w.heap.size ≤ b) : Hold w0 w' (L ++ [(b, cs, T)]) A := by
  obtain ⟨F, h1, h2, h3⟩ := h.st
  have hm := h.mem.grow g
  refine ⟨⟨hm.below, fun x hx => ?_, ?_⟩, F, hA.grow h1 g, h2, fun x hx => ?_⟩
  · rcases List.mem_append.1 hx with hx | hx
    · exact hm.blks x hx
    · rw [List.mem_singleton] at hx; subst hx; exact ⟨hb, Nat.le_trans h.mem.size hn⟩
  · rw [List.pairwise_append]
    refine ⟨hm.ne, by simp, fun x hx y hy => ?_⟩
    rw [List.mem_singleton] at hy
    subst hy
    have := (h.mem.blks x hx).1.lt
    exact fun e => by have e : x.1 = b := e; omega
  · rcases List.mem_append.1 hx with hx | hx
    · exact h3 x hx
    · rw [List.mem_singleton] at hx; subst hx
      exact fun q => by have := hA.lt h1 _ q; exact absurd this (by show ¬ b < _; omega)
theorem set (h : Hold w0 w L A) (hA : Foot A) {i g : Nat} {cs cs' : List Value} {T : TypeId} (hi : L[i]? = some (g, cs, T)) (hb : Blk w' g cs'.toArray T) (hc : Chg (fun k => k = g) w w') : Hold w0 w' (L.set i (g, cs', T)) A := by
  obtain ⟨F, h1, h2, h3⟩ := h.st
  have hg : ¬ F g := h3 _ (List.mem_of_getElem? hi)
  refine ⟨h.mem.set hi hb hc, F, hA.frame h1 hc (fun k hk e => by have e : k = g := e; subst e; exact hg hk), h2, fun b hb => ?_⟩
  rcases List.mem_or_eq_of_mem_set hb with hb | hb
  · exact h3 b hb
  · subst hb; exact hg
/-- Fewer blocks. -/
theorem sub {L' : List MBox} (h : Hold w0 w L A) (hs : L'.Sublist L) : Hold w0 w L' A := by
  obtain ⟨F, h1, h2, h3⟩ := h.st
  exact ⟨⟨h.mem.below, fun b hb => h.mem.blks b (hs.subset hb), h.mem.ne.sublist hs⟩, F, h1, h2, fun b hb => h3 b (hs.subset hb)⟩
theorem take (h : Hold w0 w L A) (n : Nat) : Hold w0 w (L.take n) A := h.sub (List.take_sublist n L)
/-- A call on the state. -/
theorem call {R : Ending → World → Prop} (h : Hold w0 w L A) (hA' : Foot A') (hc : ∀ F, A w F → Calls P f args w fun e w' => R e w' ∧ EndS w w' F A') : Calls P f args w fun e w' => R e w' ∧ Hold w0 w' L A' := by
  obtain ⟨F, h1, h2, h3⟩ := h.st
  refine (hc F h1).mono ?_
  rintro e w' ⟨hr, F', q1, q2, q3⟩
  refine ⟨hr, h.mem.chg q2 (fun k hk hf => by have := h2 k hf; omega) h3, F', q1, q3.base h.mem.size h2, fun b hb hf => ?_⟩
  rcases q3 _ hf with q | q
  · exact h3 b hb q
  · have := (h.mem.blks b hb).1.lt
    omega
theorem mono (h : Hold w0 w L A) (hs : ∀ F, A w F → ∃ F', B w F' ∧ ∀ k, F' k ↔ F k) : Hold w0 w L B := by
  obtain ⟨F, h1, h2, h3⟩ := h.st
  obtain ⟨F', h4, h5⟩ := hs F h1
  exact ⟨h.mem, F', h4, fun k hk => h2 k ((h5 k).1 hk), fun b hb q => h3 b hb ((h5 _).1 q)⟩
theorem swap (h : Hold w0 w L (Sep A B)) : Hold w0 w L (Sep B A) := h.mono fun F ⟨F1, F2, a, b, ap, e⟩ => ⟨F, ⟨F2, F1, b, a, ap.symm, fun k => (e k).trans Or.comm⟩, fun k => Iff.rfl⟩
theorem map (h : Hold w0 w L A) (f : ∀ F, A w F → B w F) : Hold w0 w L B := h.mono fun F a => ⟨F, f F a, fun k => Iff.rfl⟩
/-- A new state beside the others. -/
theorem beside (h : Hold w0 w L A) (hA : Foot A) {F₁ : Nat → Prop} (g : Grow.G w w') (hb : B w' F₁) (hF : ∀ k, F₁ k → w.heap.size ≤ k) : Hold w0 w' L (Sep B A) := by
  obtain ⟨F, h1, h2, h3⟩ := h.st
  refine ⟨h.mem.grow g, fun k => F₁ k ∨ F k, ⟨F₁, F, hb, hA.grow h1 g, fun k q1 q2 => ?_, fun k => Iff.rfl⟩, fun k hk => ?_, fun b hb hk => ?_⟩
  · have := hA.lt h1 k q2; have := hF k q1; omega
  · rcases hk with hk | hk
    · exact Nat.le_trans h.mem.size (hF k hk)
    · exact h2 k hk
  · rcases hk with hk | hk
    · have := (h.mem.blks b hb).1.lt; have := hF _ hk; omega
    · exact h3 b hb hk
end Hold
section
variable {P : Program} {ops : Array Oper} {rest : List Oper} {o : Oper} {a : Act} {Q : Exit → Act → World → Prop} {w0 w : World} {L : List MBox} {A : Hp}
theorem Hold.storeAll (i : Nat) {t : TypeId} {p x : Operand} (hA : Foot A) (ho : o.op = .store t p x) (hgd : o.guard = none)
    {g : Nat} (hp : a.eval p = .pointer (some ⟨g, 0, none⟩)) {vs : List Value} (hx : a.eval x = .agg vs.toArray) {n : Nat} (hs : (P.info? t).map (·.size) = some n)
    (hm : Hold w0 w L A) {cs : List Value} {T : TypeId} (hi : L[i]? = some (g, cs, T)) (hn : vs.length = n) (hfit : cs.length = n) (h1 : vs.all (·.oneCell') = true)
    (h : ∀ w', Hold w0 w' (L.set i (g, vs, T)) A → Chg (fun k => k = g) w w' → Stay (wpList P ops Q rest (a.put o.dst undef) w')) : wpList P ops Q (o :: rest) a w :=
  Box.storeAll ho hgd hp hx hs (hm.mem.blk hi) hn (by simpa using hfit) h1 fun w' hb hc => h w' (hm.set hA hi hb hc) hc
theorem Hold.store (i : Nat) {t : TypeId} {p x : Operand} (hA : Foot A) (ho : o.op = .store t p x) (hgd : o.guard = none)
    {g off : Nat} (hp : a.eval p = .pointer (some ⟨g, off, none⟩)) {v : Value} (hx : a.eval x = v) {vs : List Value} (hv : v.cells = vs.toArray) {n : Nat} (hs : (P.info? t).map (·.size) = some n)
    (hm : Hold w0 w L A) {cs : List Value} {T : TypeId} (hi : L[i]? = some (g, cs, T)) (hn : vs.length = n) (hfit : off + n ≤ cs.length) (h1 : vs.all (·.oneCell') = true)
    (h : ∀ w', Hold w0 w' (L.set i (g, cs.take off ++ vs ++ cs.drop (off + vs.length), T)) A → Chg (fun k => k = g) w w' → Stay (wpList P ops Q rest (a.put o.dst undef) w')) : wpList P ops Q (o :: rest) a w := by
  refine Mem.store i ho hgd hp hx hv hs hm.mem hi hn hfit h1 fun w' hm' hc => h w' ?_ hc
  have hil := (List.getElem?_eq_some_iff.1 hi).1
  exact hm.set hA hi (hm'.blk (i := i) (by rw [List.getElem?_set, if_pos rfl, if_pos hil])) hc
end
/-- A block of so many cells at least, whatever lies in it. -/
def AnyF (b n : Nat) (T : TypeId) : Hp := fun w F => (∃ cs, Blk w b cs T ∧ n ≤ cs.size) ∧ ∀ k, F k ↔ k = b
theorem AnyF.foot (b n : Nat) (T : TypeId) : Foot (AnyF b n T) where
  lt := fun ⟨⟨cs, h, _⟩, e⟩ k hk => by rw [(e k).1 hk]; exact h.lt
  frame := fun ⟨⟨cs, h, hn⟩, e⟩ c hs => ⟨⟨cs, h.chg c (hs b ((e b).2 rfl)), hn⟩, e⟩
section
variable {P : Program} {ops : Array Oper} {rest : List Oper} {o : Oper} {a : Act} {Q : Exit → Act → World → Prop} {w0 w : World} {L : List MBox} {A : Hp}
end
end Go

/- What a call holds: a call that tells of something; states forgotten, turned round; a step on one of them. No program is named here. -/
namespace Go
set_option linter.unusedVariables false
open Go.RowKit
section
variable {P : Program} {f : FuncId} {args : Array Value} {w0 w w' : World} {L : List MBox} {A B C : Hp} {ι : Type} {D : Hp} {F : Nat → Prop}
/-- A step on the state. -/
theorem Hold.step {A' : Hp} (h : Hold w0 w L A) (hc : ∀ F, A w F → EndS w w' F A') : Hold w0 w' L A' := by
  obtain ⟨F, h1, h2, h3⟩ := h.st
  obtain ⟨F', q1, q2, q3⟩ := hc F h1
  refine ⟨h.mem.chg q2 (fun k hk hf => by have := h2 k hf; omega) h3, F', q1, q3.base h.mem.size h2, fun b hb hf => ?_⟩
  rcases q3 _ hf with q | q
  · exact h3 b hb q
  · have := (h.mem.blks b hb).1.lt
    omega
end
end Go

/- A held state with its footprint named, for regions that draw their order; a call's own blocks in another order. No program is named here. -/
namespace Go
set_option linter.unusedVariables false
open Go.RowKit

structure HoldF (w0 w : World) (L : List MBox) (A : Hp) (F : Nat → Prop) : Prop where
  mem : Mem w0 w L
  st : A w F
  lo : ∀ k, F k → w0.heap.size ≤ k
  ap : ∀ b ∈ L, ¬ F b.1
section
variable {P : Program} {f : FuncId} {args : Array Value} {w0 w w' : World} {L L' : List MBox} {A A' : Hp} {F : Nat → Prop}
theorem Hold.named (h : Hold w0 w L A) : ∃ F, HoldF w0 w L A F := by
  obtain ⟨F, h1, h2, h3⟩ := h.st
  exact ⟨F, h.mem, h1, h2, h3⟩
theorem HoldF.grow (h : HoldF w0 w L A F) (hA : Foot A) (g : Grow.G w w') : HoldF w0 w' L A F := ⟨h.mem.grow g, hA.grow h.st g, h.lo, h.ap⟩
/-- What a call on the state leaves: the state, and all but its footprint. -/
theorem HoldF.call {R : Ending → World → Prop} (h : HoldF w0 w L A F) (hc : ∀ F, A w F → Calls P f args w fun e w' => R e w' ∧ EndS w w' F A') : Calls P f args w fun e w' => R e w' ∧ Hold w0 w' L A' ∧ Chg F w w' := by
  refine (hc F h.st).mono ?_
  rintro e w' ⟨hr, F', q1, q2, q3⟩
  refine ⟨hr, ⟨h.mem.chg q2 (fun k hk hf => by have := h.lo k hf; omega) h.ap, F', q1, q3.base h.mem.size h.lo, fun b hb hf => ?_⟩, q2⟩
  rcases q3 _ hf with q | q
  · exact h.ap b hb q
  · have := (h.mem.blks b hb).1.lt
    omega
/-- A cell of a block of its own stands, whatever is done to the state. -/
theorem HoldF.cell (h : HoldF w0 w L A F) (c : Chg F w w') {i g : Nat} {cs : List Value} {T : TypeId} (hi : L[i]? = some (g, cs, T)) {o : Nat} {v : Value} (hv : cs[o]? = some v) : w'.cell? ⟨g, o, none⟩ = some v :=
  c.cell (h.mem.cell hi hv) (h.ap _ (List.mem_of_getElem? hi))
theorem HoldF.blk (h : HoldF w0 w L A F) (c : Chg F w w') {i g : Nat} {cs : List Value} {T : TypeId} (hi : L[i]? = some (g, cs, T)) : Blk w' g cs.toArray T :=
  (h.mem.blk hi).chg c (h.ap _ (List.mem_of_getElem? hi))
theorem Hold.perm (h : Hold w0 w L A) (hp : L.Perm L') : Hold w0 w L' A := by
  obtain ⟨F, h1, h2, h3⟩ := h.st
  exact ⟨⟨h.mem.below, fun b hb => h.mem.blks b (hp.mem_iff.2 hb), h.mem.ne.perm hp (fun {a b} q => fun e => q e.symm)⟩, F, h1, h2, fun b hb => h3 b (hp.mem_iff.2 hb)⟩
end
section
variable {α : Type} (x y z : α)
end
end Go
