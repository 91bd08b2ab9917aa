/- My own texts Sep, Heap, HeapF, HoldE, IterP, OwnStr, MapV, UpAt, laid in one file. -/
import Derived.Test.YtjhfjjkfnmnkgaaZ2
import Derived.Maps.OwnSet
import Derived.StringKeys

/- States in memory by their footprints: what two of them that have nothing in common do to one another. No program is named here. -/
namespace Go
set_option linter.unusedVariables false
set_option linter.unusedSimpArgs false
open Go.RowKit

/-- A predicate of a world and a set of blocks that hangs on these blocks alone. -/
structure Foot (A : World → (Nat → Prop) → Prop) : Prop where
  lt : ∀ {w : World} {F : Nat → Prop}, A w F → ∀ k, F k → k < w.heap.size
  frame : ∀ {w w' : World} {F G : Nat → Prop}, A w F → Chg G w w' → (∀ k, F k → ¬ G k) → A w' F
def Apart (F G : Nat → Prop) : Prop := ∀ k, F k → ¬ G k
/-- What is new in a footprint lies beyond all that was there. -/
def Fresh (w : World) (F F' : Nat → Prop) : Prop := ∀ k, F' k → F k ∨ w.heap.size ≤ k
section
variable {A B : World → (Nat → Prop) → Prop} {w w' w'' : World} {F F' F'' F₁ F₁' F₂ G : Nat → Prop}
theorem Apart.symm (h : Apart F G) : Apart G F := fun k hk hf => h k hf hk
theorem Apart.mono (h : Apart F G) {F₀ : Nat → Prop} (hs : ∀ k, F₀ k → F k) : Apart F₀ G := fun k hk => h k (hs k hk)
theorem Fresh.refl (w : World) (F : Nat → Prop) : Fresh w F F := fun k h => .inl h
theorem Fresh.trans (h : Fresh w F F') (k : Fresh w' F' F'') (g : w.heap.size ≤ w'.heap.size) : Fresh w F F'' := fun i hi => (k i hi).elim (h i) (fun q => .inr (Nat.le_trans g q))
theorem Fresh.sub (h : Fresh w F F') (hs : ∀ k, F k → G k) : Fresh w G F' := fun i hi => (h i hi).imp (hs i) id
theorem Chg.more (h : Chg F w w') (fr : Fresh w F F') (k : Chg F' w' w'') : Chg F w w'' := h.join k fun i hi hf => (fr i hf).elim id (fun q => absurd q (by omega))
theorem Chg.sub (h : Chg F w w') (hs : ∀ k, F k → G k) : Chg G w w' := h.mono fun i _ => hs i
theorem Chg.base (h : Chg F w w') {B : Nat} (hB : B ≤ w.heap.size) (hF : ∀ k, F k → B ≤ k) : Below B w w' := h.below hB fun k hk hf => by have := hF k hf; omega
theorem Fresh.base (h : Fresh w F F') {B : Nat} (hB : B ≤ w.heap.size) (hF : ∀ k, F k → B ≤ k) : ∀ k, F' k → B ≤ k := fun k hk => (h k hk).elim (hF k) (Nat.le_trans hB)
/-- What a call does to its own footprint leaves another one alone. -/
theorem Foot.keep (hB : Foot B) (b : B w F₂) (ap : Apart F₁ F₂) (c : Chg F₁ w w') (fr : Fresh w F₁ F₁') : B w' F₂ ∧ Apart F₁' F₂ :=
  ⟨hB.frame b c ap.symm, fun k h1 h2 => (fr k h1).elim (fun h => ap k h h2) (fun h => by have := hB.lt b k h2; omega)⟩
theorem Foot.grow (hA : Foot A) (a : A w F) (g : Grow.G w w') : A w' F := hA.frame a (Chg.grow (G := fun _ => False) g) (fun _ _ => id)
/-- Two side by side. -/
def Sep (A B : World → (Nat → Prop) → Prop) (w : World) (F : Nat → Prop) : Prop := ∃ F₁ F₂, A w F₁ ∧ B w F₂ ∧ Apart F₁ F₂ ∧ ∀ k, F k ↔ F₁ k ∨ F₂ k
theorem Foot.sep (hA : Foot A) (hB : Foot B) : Foot (Sep A B) where
  lt := fun ⟨F₁, F₂, a, b, _, e⟩ k hk => ((e k).1 hk).elim (hA.lt a k) (hB.lt b k)
  frame := fun ⟨F₁, F₂, a, b, ap, e⟩ c h => ⟨F₁, F₂, hA.frame a c fun k hk => h k ((e k).2 (.inl hk)), hB.frame b c fun k hk => h k ((e k).2 (.inr hk)), ap, e⟩
/-- A block known whole. -/
def BlkF (g : Nat) (cs : List Value) (T : TypeId) (w : World) (F : Nat → Prop) : Prop := Blk w g cs.toArray T ∧ ∀ k, F k ↔ k = g
theorem BlkF.foot (g : Nat) (cs : List Value) (T : TypeId) : Foot (BlkF g cs T) where
  lt := fun ⟨h, e⟩ k hk => by rw [(e k).1 hk]; exact h.lt
  frame := fun ⟨h, e⟩ c hs => ⟨h.chg c (hs g ((e g).2 rfl)), e⟩
/-- A row of the call's own. -/
def RowF (base : Nat) (e : TypeId) (sz : Nat) (v : Value) (n : Nat) (xs : List Value) (w : World) (F : Nat → Prop) : Prop := w.ownsRow base e sz v n xs ∧ ∀ k, F k ↔ v.ownBlock = some k
theorem RowF.foot (base : Nat) (e : TypeId) (sz : Nat) (v : Value) (n : Nat) (xs : List Value) : Foot (RowF base e sz v n xs) where
  lt := fun ⟨h, q⟩ k hk => (h.lt k ((q k).1 hk)).2
  frame := fun ⟨h, q⟩ c hs => ⟨c.own h fun k hk => hs k ((q k).2 hk), q⟩
/-- Many side by side: the i-th of them is A i. -/
def SepL {α : Type} (A : α → World → (Nat → Prop) → Prop) (l : List α) (w : World) (F : Nat → Prop) : Prop :=
  ∃ Fs : List (Nat → Prop), Fs.length = l.length ∧ (∀ (i : Nat) (x : α) (f : Nat → Prop), l[i]? = some x → Fs[i]? = some f → A x w f) ∧ Fs.Pairwise Apart ∧ ∀ k, F k ↔ ∃ f, f ∈ Fs ∧ f k
theorem SepL.foot {α : Type} {A : α → World → (Nat → Prop) → Prop} (hA : ∀ x, Foot (A x)) (l : List α) : Foot (SepL A l) where
  lt := fun ⟨Fs, hl, ha, _, e⟩ k hk => by
    obtain ⟨f, hf, hk⟩ := (e k).1 hk
    obtain ⟨i, hi⟩ := List.getElem?_of_mem hf
    have hil := (List.getElem?_eq_some_iff.1 hi).1
    exact (hA _).lt (ha i (l[i]'(by omega)) f (List.getElem?_eq_getElem _) hi) k hk
  frame := fun ⟨Fs, hl, ha, hp, e⟩ c hs => ⟨Fs, hl, fun i x f hx hf => (hA x).frame (ha i x f hx hf) c fun k hk => hs k ((e k).2 ⟨f, List.mem_of_getElem? hf, hk⟩), hp, e⟩
end

abbrev Hp := World → (Nat → Prop) → Prop
/-- Nothing. -/
def Emp : Hp := fun _ F => ∀ k, ¬ F k
theorem Emp.foot : Foot Emp := ⟨fun h k hk => (h k hk).elim, fun h _ _ => h⟩
/-- The call's own blocks L, and the state A, apart from them, all behind w0. -/
structure Hold (w0 w : World) (L : List MBox) (A : Hp) : Prop where
  mem : Mem w0 w L
  st : ∃ F, A w F ∧ (∀ k, F k → w0.heap.size ≤ k) ∧ ∀ b ∈ L, ¬ F b.1
/-- What a call on a state leaves. -/
def EndS (w w' : World) (F : Nat → Prop) (A' : Hp) : Prop := ∃ F', A' w' F' ∧ Chg F w w' ∧ Fresh w F F'
section
variable {A B C D : Hp} {w : World} {F : Nat → Prop}
theorem Sep.rot (h : Sep A (Sep B C) w F) : Sep B (Sep A C) w F := by
  obtain ⟨F1, F2, a, ⟨F3, F4, b, c, ap2, e2⟩, ap, e⟩ := h
  exact ⟨F3, fun k => F1 k ∨ F4 k, b, ⟨F1, F4, a, c, fun k q1 q2 => ap k q1 ((e2 k).2 (.inr q2)), fun k => Iff.rfl⟩, fun k q1 q2 => q2.elim (fun q => ap k q ((e2 k).2 (.inl q1))) (fun q => ap2 k q1 q), fun k => by rw [e, e2]; exact ⟨fun q => q.elim (fun q => .inr (.inl q)) (fun q => q.elim .inl (fun q => .inr (.inr q))), fun q => q.elim (fun q => .inr (.inl q)) (fun q => q.elim .inl (fun q => .inr (.inr q)))⟩⟩
theorem Sep.under (h : Sep A B w F) (f : ∀ F, B w F → C w F) : Sep A C w F := by
  obtain ⟨F1, F2, a, b, ap, e⟩ := h
  exact ⟨F1, F2, a, f F2 b, ap, e⟩
theorem Sep.over (h : Sep A B w F) (f : ∀ F, A w F → C w F) : Sep C B w F := by
  obtain ⟨F1, F2, a, b, ap, e⟩ := h
  exact ⟨F1, F2, f F1 a, b, ap, e⟩
theorem Sep.fst (h : Sep A B w F) : ∃ F, A w F := by obtain ⟨F1, F2, a, b, ap, e⟩ := h; exact ⟨F1, a⟩
end
namespace Hold
variable {w0 w w' : World} {L : List MBox} {A A' B B' : Hp} {P : Program} {f : FuncId} {args : Array Value}
theorem nil (w : World) : Hold w w [] Emp := ⟨Mem.nil w, fun _ => False, fun _ => id, fun _ h => h.elim, fun b hb => by cases hb⟩
theorem of (hm : Mem w0 w L) {F : Nat → Prop} (h : A w F) (hb : ∀ k, F k → w0.heap.size ≤ k) (hL : ∀ b ∈ L, ¬ F b.1) : Hold w0 w L A := ⟨hm, F, h, hb, hL⟩
theorem below (h : Hold w0 w L A) : Grow.G w0 w := h.mem.below
theorem grow (h : Hold w0 w L A) (hA : Foot A) (g : Grow.G w w') : Hold w0 w' L A := by
  obtain ⟨F, h1, h2, h3⟩ := h.st
  exact ⟨h.mem.grow g, F, hA.grow h1 g, h2, h3⟩
theorem alloc' (h : Hold w0 w L A) (hA : Foot A) (cs : List Value) (T : TypeId) {g : Nat} (hg : g = w.heap.size) : Hold w0 (w.alloc (.cells cs.toArray T)) (L ++ [(g, cs, T)]) A := by
  obtain ⟨F, h1, h2, h3⟩ := h.st
  refine ⟨h.mem.alloc' cs T hg, F, hA.grow h1 (Grow.G.alloc (Grow.G.refl _) _), h2, fun b hb => ?_⟩
  rcases List.mem_append.1 hb with hb | hb
  · exact h3 b hb
  · rw [List.mem_singleton] at hb
    subst hb hg
    exact fun q => by have := hA.lt h1 _ q; exact Nat.lt_irrefl _ this
/-- One more block of its own, made by a call. -/
theorem add (h : Hold w0 w L A) (hA : Foot A) (g : Grow.G w w') {b : Nat} {cs : List Value} {T : TypeId} (hb : Blk w' b cs.toArray T) (hn : w.heap.size ≤ b) : Hold w0 w' (L ++ [(b, cs, T)]) A := by
  obtain ⟨F, h1, h2, h3⟩ := h.st
  have hm := h.mem.grow g
  refine ⟨⟨hm.below, fun x hx => ?_, ?_⟩, F, hA.grow h1 g, h2, fun x hx => ?_⟩
  · rcases List.mem_append.1 hx with hx | hx
    · exact hm.blks x hx
    · rw [List.mem_singleton] at hx; subst hx; exact ⟨hb, Nat.le_trans h.mem.size hn⟩
  · rw [List.pairwise_append]
    refine ⟨hm.ne, by simp, fun x hx y hy => ?_⟩
    rw [List.mem_singleton] at hy
    subst hy
    have := (h.mem.blks x hx).1.lt
    exact fun e => by have e : x.1 = b := e; omega
  · rcases List.mem_append.1 hx with hx | hx
    · exact h3 x hx
    · rw [List.mem_singleton] at hx; subst hx
      exact fun q => by have := hA.lt h1 _ q; exact absurd this (by show ¬ b < _; omega)
theorem set (h : Hold w0 w L A) (hA : Foot A) {i g : Nat} {cs cs' : List Value} {T : TypeId} (hi : L[i]? = some (g, cs, T)) (hb : Blk w' g cs'.toArray T) (hc : Chg (fun k => k = g) w w') : Hold w0 w' (L.set i (g, cs', T)) A := by
  obtain ⟨F, h1, h2, h3⟩ := h.st
  have hg : ¬ F g := h3 _ (List.mem_of_getElem? hi)
  refine ⟨h.mem.set hi hb hc, F, hA.frame h1 hc (fun k hk e => by have e : k = g := e; subst e; exact hg hk), h2, fun b hb => ?_⟩
  rcases List.mem_or_eq_of_mem_set hb with hb | hb
  · exact h3 b hb
  · subst hb; exact hg
/-- Fewer blocks. -/
theorem sub {L' : List MBox} (h : Hold w0 w L A) (hs : L'.Sublist L) : Hold w0 w L' A := by
  obtain ⟨F, h1, h2, h3⟩ := h.st
  exact ⟨⟨h.mem.below, fun b hb => h.mem.blks b (hs.subset hb), h.mem.ne.sublist hs⟩, F, h1, h2, fun b hb => h3 b (hs.subset hb)⟩
theorem take (h : Hold w0 w L A) (n : Nat) : Hold w0 w (L.take n) A := h.sub (List.take_sublist n L)
/-- A call on the state. -/
theorem call {R : Ending → World → Prop} (h : Hold w0 w L A) (hA' : Foot A') (hc : ∀ F, A w F → Calls P f args w fun e w' => R e w' ∧ EndS w w' F A') : Calls P f args w fun e w' => R e w' ∧ Hold w0 w' L A' := by
  obtain ⟨F, h1, h2, h3⟩ := h.st
  refine (hc F h1).mono ?_
  rintro e w' ⟨hr, F', q1, q2, q3⟩
  refine ⟨hr, h.mem.chg q2 (fun k hk hf => by have := h2 k hf; omega) h3, F', q1, q3.base h.mem.size h2, fun b hb hf => ?_⟩
  rcases q3 _ hf with q | q
  · exact h3 b hb q
  · have := (h.mem.blks b hb).1.lt
    omega
theorem mono (h : Hold w0 w L A) (hs : ∀ F, A w F → ∃ F', B w F' ∧ ∀ k, F' k ↔ F k) : Hold w0 w L B := by
  obtain ⟨F, h1, h2, h3⟩ := h.st
  obtain ⟨F', h4, h5⟩ := hs F h1
  exact ⟨h.mem, F', h4, fun k hk => h2 k ((h5 k).1 hk), fun b hb q => h3 b hb ((h5 _).1 q)⟩
theorem swap (h : Hold w0 w L (Sep A B)) : Hold w0 w L (Sep B A) := h.mono fun F ⟨F1, F2, a, b, ap, e⟩ => ⟨F, ⟨F2, F1, b, a, ap.symm, fun k => (e k).trans Or.comm⟩, fun k => Iff.rfl⟩
theorem map (h : Hold w0 w L A) (f : ∀ F, A w F → B w F) : Hold w0 w L B := h.mono fun F a => ⟨F, f F a, fun k => Iff.rfl⟩
theorem rot {C : Hp} (h : Hold w0 w L (Sep A (Sep B C))) : Hold w0 w L (Sep B (Sep A C)) := h.map fun F q => q.rot
/-- A new state beside the others. -/
theorem beside (h : Hold w0 w L A) (hA : Foot A) {F₁ : Nat → Prop} (g : Grow.G w w') (hb : B w' F₁) (hF : ∀ k, F₁ k → w.heap.size ≤ k) : Hold w0 w' L (Sep B A) := by
  obtain ⟨F, h1, h2, h3⟩ := h.st
  refine ⟨h.mem.grow g, fun k => F₁ k ∨ F k, ⟨F₁, F, hb, hA.grow h1 g, fun k q1 q2 => ?_, fun k => Iff.rfl⟩, fun k hk => ?_, fun b hb hk => ?_⟩
  · have := hA.lt h1 k q2; have := hF k q1; omega
  · rcases hk with hk | hk
    · exact Nat.le_trans h.mem.size (hF k hk)
    · exact h2 k hk
  · rcases hk with hk | hk
    · have := (h.mem.blks b hb).1.lt; have := hF _ hk; omega
    · exact h3 b hb hk
/-- .. behind the first of two. -/
theorem beside2 {C : Hp} (h : Hold w0 w L (Sep A B)) (hA : Foot A) (hB : Foot B) {F₁ : Nat → Prop} (g : Grow.G w w') (hc : C w' F₁) (hF : ∀ k, F₁ k → w.heap.size ≤ k) : Hold w0 w' L (Sep A (Sep C B)) := by
  obtain ⟨F, ⟨Fa, Fb, ha, hb, ap, e⟩, h2, h3⟩ := h.st
  have hlt : ∀ k, F k → k < w.heap.size := fun k hk => ((e k).1 hk).elim (hA.lt ha k) (hB.lt hb k)
  refine ⟨h.mem.grow g, fun k => Fa k ∨ (F₁ k ∨ Fb k), ⟨Fa, fun k => F₁ k ∨ Fb k, hA.grow ha g, ⟨F₁, Fb, hc, hB.grow hb g, fun k q1 q2 => ?_, fun k => Iff.rfl⟩, fun k q1 q2 => ?_, fun k => Iff.rfl⟩, fun k hk => ?_, fun b hb' hk => ?_⟩
  · have := hlt k ((e k).2 (.inr q2)); have := hF k q1; omega
  · rcases q2 with q2 | q2
    · have := hlt k ((e k).2 (.inl q1)); have := hF k q2; omega
    · exact ap k q1 q2
  · rcases hk with hk | hk | hk
    · exact h2 k ((e k).2 (.inl hk))
    · exact Nat.le_trans h.mem.size (hF k hk)
    · exact h2 k ((e k).2 (.inr hk))
  · rcases hk with hk | hk | hk
    · exact h3 b hb' ((e _).2 (.inl hk))
    · have := (h.mem.blks b hb').1.lt; have := hF _ hk; omega
    · exact h3 b hb' ((e _).2 (.inr hk))
/-- What can be seen of a state. -/
theorem see {p : Prop} (h : Hold w0 w L A) (hp : ∀ F, A w F → p) : p := by
  obtain ⟨F, h1, _⟩ := h.st
  exact hp F h1
end Hold
section
variable {P : Program} {ops : Array Oper} {rest : List Oper} {o : Oper} {a : Act} {Q : Exit → Act → World → Prop} {w0 w : World} {L : List MBox} {A : Hp}
theorem Hold.storeAll (i : Nat) {t : TypeId} {p x : Operand} (hA : Foot A) (ho : o.op = .store t p x) (hgd : o.guard = none)
    {g : Nat} (hp : a.eval p = .pointer (some ⟨g, 0, none⟩)) {vs : List Value} (hx : a.eval x = .agg vs.toArray) {n : Nat} (hs : (P.info? t).map (·.size) = some n)
    (hm : Hold w0 w L A) {cs : List Value} {T : TypeId} (hi : L[i]? = some (g, cs, T)) (hn : vs.length = n) (hfit : cs.length = n) (h1 : vs.all (·.oneCell') = true)
    (h : ∀ w', Hold w0 w' (L.set i (g, vs, T)) A → Chg (fun k => k = g) w w' → Stay (wpList P ops Q rest (a.put o.dst undef) w')) : wpList P ops Q (o :: rest) a w :=
  Box.storeAll ho hgd hp hx hs (hm.mem.blk hi) hn (by simpa using hfit) h1 fun w' hb hc => h w' (hm.set hA hi hb hc) hc
theorem Hold.store (i : Nat) {t : TypeId} {p x : Operand} (hA : Foot A) (ho : o.op = .store t p x) (hgd : o.guard = none)
    {g off : Nat} (hp : a.eval p = .pointer (some ⟨g, off, none⟩)) {v : Value} (hx : a.eval x = v) {vs : List Value} (hv : v.cells = vs.toArray) {n : Nat} (hs : (P.info? t).map (·.size) = some n)
    (hm : Hold w0 w L A) {cs : List Value} {T : TypeId} (hi : L[i]? = some (g, cs, T)) (hn : vs.length = n) (hfit : off + n ≤ cs.length) (h1 : vs.all (·.oneCell') = true)
    (h : ∀ w', Hold w0 w' (L.set i (g, cs.take off ++ vs ++ cs.drop (off + vs.length), T)) A → Chg (fun k => k = g) w w' → Stay (wpList P ops Q rest (a.put o.dst undef) w')) : wpList P ops Q (o :: rest) a w := by
  refine Mem.store i ho hgd hp hx hv hs hm.mem hi hn hfit h1 fun w' hm' hc => h w' ?_ hc
  have hil := (List.getElem?_eq_some_iff.1 hi).1
  exact hm.set hA hi (hm'.blk (i := i) (by rw [List.getElem?_set, if_pos rfl, if_pos hil])) hc
end
/-- A block of so many cells at least, whatever lies in it. -/
def AnyF (b n : Nat) (T : TypeId) : Hp := fun w F => (∃ cs, Blk w b cs T ∧ n ≤ cs.size) ∧ ∀ k, F k ↔ k = b
theorem AnyF.foot (b n : Nat) (T : TypeId) : Foot (AnyF b n T) where
  lt := fun ⟨⟨cs, h, _⟩, e⟩ k hk => by rw [(e k).1 hk]; exact h.lt
  frame := fun ⟨⟨cs, h, hn⟩, e⟩ c hs => ⟨⟨cs, h.chg c (hs b ((e b).2 rfl)), hn⟩, e⟩
section
variable {P : Program} {ops : Array Oper} {rest : List Oper} {o : Oper} {a : Act} {Q : Exit → Act → World → Prop} {w0 w : World} {L : List MBox} {A : Hp}
end
end Go

/- A held state with its footprint named, for regions that draw their order; a call's own blocks in another order. No program is named here. -/
namespace Go
set_option linter.unusedVariables false
open Go.RowKit

structure HoldF (w0 w : World) (L : List MBox) (A : Hp) (F : Nat → Prop) : Prop where
  mem : Mem w0 w L
  st : A w F
  lo : ∀ k, F k → w0.heap.size ≤ k
  ap : ∀ b ∈ L, ¬ F b.1
section
variable {P : Program} {f : FuncId} {args : Array Value} {w0 w w' : World} {L L' : List MBox} {A A' : Hp} {F : Nat → Prop}
theorem Hold.named (h : Hold w0 w L A) : ∃ F, HoldF w0 w L A F := by
  obtain ⟨F, h1, h2, h3⟩ := h.st
  exact ⟨F, h.mem, h1, h2, h3⟩
theorem HoldF.hold (h : HoldF w0 w L A F) : Hold w0 w L A := ⟨h.mem, F, h.st, h.lo, h.ap⟩
theorem HoldF.grow (h : HoldF w0 w L A F) (hA : Foot A) (g : Grow.G w w') : HoldF w0 w' L A F := ⟨h.mem.grow g, hA.grow h.st g, h.lo, h.ap⟩
/-- What a call on the state leaves: the state, and all but its footprint. -/
theorem HoldF.call {R : Ending → World → Prop} (h : HoldF w0 w L A F) (hc : ∀ F, A w F → Calls P f args w fun e w' => R e w' ∧ EndS w w' F A') : Calls P f args w fun e w' => R e w' ∧ Hold w0 w' L A' ∧ Chg F w w' := by
  refine (hc F h.st).mono ?_
  rintro e w' ⟨hr, F', q1, q2, q3⟩
  refine ⟨hr, ⟨h.mem.chg q2 (fun k hk hf => by have := h.lo k hf; omega) h.ap, F', q1, q3.base h.mem.size h.lo, fun b hb hf => ?_⟩, q2⟩
  rcases q3 _ hf with q | q
  · exact h.ap b hb q
  · have := (h.mem.blks b hb).1.lt
    omega
/-- A cell of a block of its own stands, whatever is done to the state. -/
theorem HoldF.cell (h : HoldF w0 w L A F) (c : Chg F w w') {i g : Nat} {cs : List Value} {T : TypeId} (hi : L[i]? = some (g, cs, T)) {o : Nat} {v : Value} (hv : cs[o]? = some v) : w'.cell? ⟨g, o, none⟩ = some v :=
  c.cell (h.mem.cell hi hv) (h.ap _ (List.mem_of_getElem? hi))
theorem HoldF.blk (h : HoldF w0 w L A F) (c : Chg F w w') {i g : Nat} {cs : List Value} {T : TypeId} (hi : L[i]? = some (g, cs, T)) : Blk w' g cs.toArray T :=
  (h.mem.blk hi).chg c (h.ap _ (List.mem_of_getElem? hi))
end
section
variable {α : Type} (x y z : α)
end
end Go

/- What a call holds: a call that tells of something; states forgotten, turned round; a step on one of them. No program is named here. -/
namespace Go
set_option linter.unusedVariables false
open Go.RowKit
section
variable {P : Program} {f : FuncId} {args : Array Value} {w0 w w' : World} {L : List MBox} {A B C : Hp} {ι : Type} {D : Hp} {F : Nat → Prop}
theorem Sep.assoc {F : Nat → Prop} (h : Sep (Sep A B) C w F) : Sep A (Sep B C) w F := by
  obtain ⟨F1, F2, ⟨F3, F4, a, b, ap2, e2⟩, c, ap, e⟩ := h
  refine ⟨F3, fun k => F4 k ∨ F2 k, a, ⟨F4, F2, b, c, fun k q1 q2 => ap k ((e2 k).2 (.inr q1)) q2, fun k => Iff.rfl⟩, fun k q1 q2 => q2.elim (fun q => ap2 k q1 q) (fun q => ap k ((e2 k).2 (.inl q1)) q), fun k => ?_⟩
  rw [e, e2]
  exact ⟨fun q => q.elim (fun q => q.elim .inl (fun q => .inr (.inl q))) (fun q => .inr (.inr q)), fun q => q.elim (fun q => .inl (.inl q)) (fun q => q.elim (fun q => .inl (.inr q)) .inr)⟩
/-- A state of which some is forgotten. -/
theorem Hold.weak (h : Hold w0 w L A) (f : ∀ F, A w F → ∃ F', B w F' ∧ ∀ k, F' k → F k) : Hold w0 w L B := by
  obtain ⟨F, h1, h2, h3⟩ := h.st
  obtain ⟨F', q1, q2⟩ := f F h1
  exact ⟨h.mem, F', q1, fun k hk => h2 k (q2 k hk), fun b hb q => h3 b hb (q2 _ q)⟩
theorem Sep.weakR (h : Sep A B w F) (f : ∀ F, B w F → ∃ F', C w F' ∧ ∀ k, F' k → F k) : ∃ F', Sep A C w F' ∧ ∀ k, F' k → F k := by
  obtain ⟨F1, F2, a, b, ap, e⟩ := h
  obtain ⟨F', q1, q2⟩ := f F2 b
  exact ⟨fun k => F1 k ∨ F' k, ⟨F1, F', a, q1, fun k h1 h2 => ap k h1 (q2 k h2), fun k => Iff.rfl⟩, fun k hk => (e k).2 (hk.imp id (q2 k))⟩
theorem Sep.dropL (h : Sep A B w F) : ∃ F', B w F' ∧ ∀ k, F' k → F k := by
  obtain ⟨F1, F2, a, b, ap, e⟩ := h
  exact ⟨F2, b, fun k hk => (e k).2 (.inr hk)⟩
theorem Sep.dropL2 (h : Sep A (Sep B C) w F) : ∃ F', C w F' ∧ ∀ k, F' k → F k := by
  obtain ⟨F1, q1, q2⟩ := h.dropL
  obtain ⟨F2, q3, q4⟩ := q1.dropL
  exact ⟨F2, q3, fun k hk => q2 k (q4 k hk)⟩
theorem Hold.rot2 (h : Hold w0 w L (Sep A (Sep B (Sep C D)))) : Hold w0 w L (Sep C (Sep A (Sep B D))) := (h.map fun F q => q.under fun F q => q.rot).rot
/-- A step on the state. -/
theorem Hold.step {A' : Hp} (h : Hold w0 w L A) (hc : ∀ F, A w F → EndS w w' F A') : Hold w0 w' L A' := by
  obtain ⟨F, h1, h2, h3⟩ := h.st
  obtain ⟨F', q1, q2, q3⟩ := hc F h1
  refine ⟨h.mem.chg q2 (fun k hk hf => by have := h2 k hf; omega) h3, F', q1, q3.base h.mem.size h2, fun b hb hf => ?_⟩
  rcases q3 _ hf with q | q
  · exact h3 b hb q
  · have := (h.mem.blks b hb).1.lt
    omega
theorem Sep.stepL {A' : Hp} (hB : Foot B) (hc : ∀ F, A w F → EndS w w' F A') : ∀ F, Sep A B w F → EndS w w' F (Sep A' B) := by
  rintro F ⟨F1, F2, a, b, ap, e⟩
  obtain ⟨F', q1, q2, q3⟩ := hc F1 a
  obtain ⟨b', ap'⟩ := hB.keep b ap q2 q3
  refine ⟨fun k => F' k ∨ F2 k, ⟨F', F2, q1, b', ap', fun k => Iff.rfl⟩, q2.sub fun k hk => (e k).2 (.inl hk), fun k hk => ?_⟩
  rcases hk with hk | hk
  · exact (q3 k hk).imp (fun q => (e k).2 (.inl q)) id
  · exact .inl ((e k).2 (.inr hk))
end
end Go

/- A range over a function that keeps rows of its own while the caller's rounds write. No program is named here. -/
namespace Go.Iter
set_option linter.unusedVariables false
open Go.RowKit

/-- The iterator's own blocks: cells, laid behind n. -/
def Prv (n : Nat) (p : Nat → Prop) (W : World) : Prop := ∀ k, p k → n ≤ k ∧ ∃ o : Obj, W.heap[k]? = some o ∧ o.isCells = true
theorem Prv.book {n m : Nat} {p : Nat → Prop} {A B : World} (h : Prv n p A) (k : Book m A B) : Prv n p B := fun i hi => by
  obtain ⟨h1, o, h2, h3⟩ := h i hi
  exact ⟨h1, o, k.same i o h2 (.inl h3), h3⟩
theorem Prv.same {n m : Nat} {p : Nat → Prop} {A B : World} (h : Prv n p A) (k : Book m A B) : ∀ i, p i → B.heap[i]? = A.heap[i]? := fun i hi => by
  obtain ⟨h1, o, h2, h3⟩ := h i hi
  rw [k.same i o h2 (.inl h3), h2]
theorem Prv.mono {n n' : Nat} {p : Nat → Prop} {A : World} (h : Prv n p A) (hn : n' ≤ n) : Prv n' p A := fun i hi => ⟨Nat.le_trans hn (h i hi).1, (h i hi).2⟩
theorem Prv.keep {n : Nat} {p : Nat → Prop} {A B : World} (h : Prv n p A) (k : ∀ i, p i → B.heap[i]? = A.heap[i]?) : Prv n p B := fun i hi => by
  obtain ⟨h1, o, h2, h3⟩ := h i hi
  exact ⟨h1, o, (k i hi).trans h2, h3⟩
end Go.Iter

/- Rows of a call's own: kept, read. -/
namespace Go.Proofs.Ytjhfjjkfnmnkgaa
set_option maxRecDepth 100000
set_option linter.unusedVariables false
set_option linter.unusedSimpArgs false
set_option linter.unnecessarySimpa false
open Go.RowKit

theorem own_book' {w w' : World} {base e sz n m : Nat} {v : Value} {xs : List Value} (ho : w.ownsRow base e sz v n xs) (h : Iter.Book m w w') : w'.ownsRow base e sz v n xs := by
  refine ⟨ho.1, ho.2.imp id ?_⟩
  rintro ⟨k, cap, cur, hv, hb, hh, rest⟩
  exact ⟨k, cap, cur, hv, hb, h.same k _ hh (.inl rfl), rest⟩
theorem own_cells' {w : World} {base e sz n k : Nat} {v : Value} {xs : List Value} {o : Obj} (ho : w.ownsRow base e sz v n xs) (hv : v.ownBlock = some k) (hk : w.heap[k]? = some o) : o.isCells = true := by
  rcases ho.2 with ⟨rfl, _⟩ | ⟨b, cap, cur, rfl, hb, hh, rest⟩
  · cases hv
  · have : b = k := Option.some.inj hv
    subst this
    rw [hh] at hk; cases hk; rfl
theorem own_blk_types {w : World} {base e sz n k : Nat} {v : Value} {xs : List Value} {cs : Array Value} {T : TypeId} (h : w.ownsRow base e sz v n xs) (hb : Blk w k cs T) (hne : e ≠ T) : ¬ v.ownBlock = some k := by
  rcases h.2 with ⟨rfl, _⟩ | ⟨b, cap, cur, rfl, _, hh, _⟩
  · intro q; cases q
  · intro q
    have e1 : b = k := Option.some.inj q
    subst e1
    unfold Blk at hb
    rw [hh] at hb
    cases hb
    exact hne rfl
end Go.Proofs.Ytjhfjjkfnmnkgaa

/- Maps as functions from keys to values: looked up, written, struck, in straight code and in regions that draw. No program is named here. -/
namespace Go.MapV
set_option linter.unusedVariables false
set_option linter.unusedSimpArgs false
open Go.Maps Go.RowKit

/-- How an element reads: as itself. -/
def RV (v : Value) : Option (DataW Value × List MemPlace) := some (.held v, [])
def valOr : Option Value → DataW Value → DataW Value
  | some v, _ => .held v
  | none, z => z
/-- Block b is a map of at most n entries, which has at each key what f has. -/
def MapB (P : Program) (k : TypeId) (w : World) (b n : Nat) (f : Lit → Option Value) : Prop :=
  ∃ D : DataW Value, w.ownsMap P k RV b n D ∧ ∀ kl z, D.atKey kl z = valOr (f kl) z
/-- A map that may be nil. -/
def MapN (P : Program) (k : TypeId) (w : World) (m : Option Nat) (n : Nat) (f : Lit → Option Value) : Prop :=
  match m with
  | none => ∀ kl, f kl = none
  | some b => MapB P k w b n f
section
variable {P : Program} {k t e : TypeId} {w w' : World} {b n : Nat} {f f' : Lit → Option Value} {m : Option Nat}
theorem MapB.lt (h : MapB P k w b n f) : b < w.heap.size := by obtain ⟨D, h, _⟩ := h; exact h.lt
theorem MapB.blk (h : MapB P k w b n f) (e : w'.heap[b]? = w.heap[b]?) : MapB P k w' b n f := by
  obtain ⟨D, ⟨es, clock, hb, r⟩, ha⟩ := h
  exact ⟨D, ⟨es, clock, e.trans hb, r⟩, ha⟩
theorem MapB.chg {G : Nat → Prop} (h : MapB P k w b n f) (c : Chg G w w') (hg : ¬ G b) : MapB P k w' b n f := h.blk (c.block b h.lt hg)
theorem MapN.chg {G : Nat → Prop} (h : MapN P k w m n f) (c : Chg G w w') (hg : ∀ b, m = some b → ¬ G b) : MapN P k w' m n f := by
  cases m with
  | none => exact h
  | some b => exact MapB.chg h c (hg b rfl)
theorem MapN.grow (h : MapN P k w m n f) (c : Grow.G w w') : MapN P k w' m n f := h.chg (Chg.grow (G := fun _ => False) c) (fun _ _ => id)
theorem MapB.book {j : Nat} (h : MapB P k w b n f) (c : Iter.Book j w w') (hj : b < j) : MapB P k w' b n f := by
  obtain ⟨D, ⟨es, clock, hb, r⟩, ha⟩ := h
  exact ⟨D, ⟨es, clock, c.same b _ hb (.inr hj), r⟩, ha⟩
theorem MapN.book {j : Nat} (h : MapN P k w m n f) (c : Iter.Book j w w') (hj : ∀ b, m = some b → b < j) : MapN P k w' m n f := by
  cases m with
  | none => exact h
  | some b => exact MapB.book h c (hj b rfl)
theorem MapB.mono {n' : Nat} (h : MapB P k w b n f) (hn : n ≤ n') : MapB P k w b n' f := by obtain ⟨D, h, a⟩ := h; exact ⟨D, h.mono hn, a⟩
theorem MapN.mono {n' : Nat} (h : MapN P k w m n f) (hn : n ≤ n') : MapN P k w m n' f := by
  cases m with
  | none => exact h
  | some b => exact MapB.mono h hn
theorem MapN.lt (h : MapN P k w m n f) : ∀ b, m = some b → b < w.heap.size := fun b e => by subst e; exact MapB.lt h
/-- A map's block is no row of cells. -/
theorem MapB.notCells (h : MapB P k w b n f) {cs : Array Value} {T : TypeId} {r : Nat × Nat} : w.heap[b]? ≠ some (.cells cs T r) := by
  obtain ⟨D, ⟨es, clock, hb, r⟩, ha⟩ := h
  rw [hb]; exact fun e => by cases e
theorem MapB.ne (h : MapB P k w b n f) {g : Nat} {cs : Array Value} {T : TypeId} (hb : Blk w g cs T) : b ≠ g := fun e => h.notCells (e ▸ hb)
theorem has_eq {D : DataW Value} (ha : ∀ kl z, D.atKey kl z = valOr (f kl) z) (kl : Lit) : Maps.has D kl = (f kl).isSome := by
  cases hf : f kl with
  | none => exact has_false_of_atKey fun z => by rw [ha, hf]; rfl
  | some v => exact has_true_of_atKey (y := .held v) fun z => by rw [ha, hf]; rfl
theorem valOr_held {o : Option Value} {z : Value} : valOr o (.held z) = .held (o.getD z) := by cases o <;> rfl
theorem run_look (h : MapN P k w m n f) (K : Keyed P k) (ht : P.underlying t = some (.map k e)) {z : Value} (hz : (zeroValue e).run P w = .ok z w) {key : Value} {kl : Lit} (hkey : keyOf P k key = some kl) :
    (Instr.lookup t (.map m) key true).run P w = .ok (.tuple #[(f kl).getD z, .bool (f kl).isSome]) w ∧ (Instr.lookup t (.map m) key false).run P w = .ok ((f kl).getD z) w := by
  cases m with
  | none =>
    have h1 := look_nil true K ht hz hkey
    have h2 := look_nil false K ht hz hkey
    have h : f kl = none := h kl
    rw [h]
    exact ⟨h1, h2⟩
  | some b =>
    obtain ⟨D, hown, ha⟩ := h
    obtain ⟨v, ps, h1, hv⟩ := hown.look_ok K ht hz (zd := .held z) (zp := []) rfl hkey
    obtain ⟨v', ps', h2, hv'⟩ := hown.lookup K ht hz (zd := .held z) (zp := []) rfl hkey
    rw [ha, valOr_held] at hv hv'
    have e1 : v = (f kl).getD z := by simpa [RV] using congrArg (Option.map Prod.fst) hv
    have e2 : v' = (f kl).getD z := by simpa [RV] using congrArg (Option.map Prod.fst) hv'
    subst e1 e2
    rw [has_eq ha] at h1
    exact ⟨h1, h2⟩
theorem chg_turned (h : w.mapTurned w' b) : Chg (fun j => j = b) w w' := by
  have g := h.grown
  exact ⟨g.os, g.tape, g.output, g.size, fun i hi hn => g.block i hi (fun e => hn (by simpa using e))⟩
theorem run_put (h : MapB P k w b n f) (K : Keyed P k) (ht : P.underlying t = some (.map k e)) (hn : n < maxLen) {key val : Value} {kl : Lit} (hkey : keyOf P k key = some kl) (h1 : f' kl = some val) (h2 : ∀ x, x ≠ kl → f' x = f x) :
    ∃ w', (Instr.mapUpdate t (.map (some b)) key val).run P w = .ok () w' ∧ MapB P k w' b (n + 1) f' ∧ Chg (fun j => j = b) w w' := by
  obtain ⟨D, hown, ha⟩ := h
  obtain ⟨w', hr, h3, h4⟩ := hown.store K ht hn hkey (d := .held val) (ps := []) rfl
  refine ⟨w', hr, ⟨_, h3, fun x z => ?_⟩, chg_turned h4⟩
  by_cases e : x = kl
  · subst e
    rw [atKey_put_same hown.isMap (K.key hkey), h1]; rfl
  · rw [atKey_put_other e, ha, h2 x e]
theorem run_del (h : MapN P k w m n f) (K : Keyed P k) (ht : P.underlying t = some (.map k e)) {key : Value} {kl : Lit} (hkey : keyOf P k key = some kl) (h1 : f' kl = none) (h2 : ∀ x, x ≠ kl → f' x = f x) (ty : TypeId) :
    ∃ w', (Builtin.delete_ #[t, k] ty #[.map m, key]).run P w = .ok (.tuple #[]) w' ∧ MapN P k w' m n f' ∧ Chg (fun j => some j = m) w w' := by
  cases m with
  | none =>
    refine ⟨w, drop_nil K ht hkey ty, fun x => ?_, Chg.refl _ _⟩
    by_cases e : x = kl
    · subst e; exact h1
    · rw [h2 x e]; exact h x
  | some b =>
    obtain ⟨D, hown, ha⟩ := h
    obtain ⟨w', hr, h3, h4⟩ := hown.drop K ht hkey ty
    refine ⟨w', hr, ⟨_, h3, fun x z => ?_⟩, (chg_turned h4).mono fun i _ e => by rw [e]⟩
    by_cases e : x = kl
    · subst e
      rw [atKey_del_same, h1]; rfl
    · rw [atKey_del_other e, ha, h2 x e]
/-- A new map. -/
theorem MapB.made (w : World) (P : Program) (k : TypeId) : MapB P k (w.alloc (.map #[] 0)) w.heap.size 0 (fun _ => none) :=
  ⟨.map [], World.ownsMap_made w P k RV, fun kl z => rfl⟩
theorem MapB.same (h : MapB P k w b n f) (e : ∀ x, f' x = f x) : MapB P k w b n f' := by
  obtain ⟨D, h, ha⟩ := h
  exact ⟨D, h, fun x z => by rw [e]; exact ha x z⟩
theorem MapN.same (h : MapN P k w m n f) (e : ∀ x, f' x = f x) : MapN P k w m n f' := by
  cases m with
  | none => exact fun x => (e x).trans (h x)
  | some b => exact MapB.same h e
end
/-! ### at the operation -/
section
variable {P : Program} {w : World} {ops : Array Oper} {rest : List Oper} {o : Oper} {a : Act} {Q : Exit → Act → World → Prop} {t k e : TypeId} {m x y : Operand} {n b : Nat} {f f' : Lit → Option Value} {mb : Option Nat}
theorem look2 (ho : o.op = Op.lookup t m x true) (hg : o.guard = none) (K : Keyed P k) (ht : P.underlying t = some (.map k e)) {z : Value} (hz : ∀ w, (zeroValue e).run P w = .ok z w) (hm : a.eval m = .map mb) (h : MapN P k w mb n f)
    {key : Value} (hx : a.eval x = key) {kl : Lit} (hkey : keyOf P k key = some kl) (hK : wpList P ops Q rest (a.put o.dst (.tuple #[(f kl).getD z, .bool (f kl).isSome])) w) : wpList P ops Q (o :: rest) a w := by
  refine wpList_plain hg fun K' hK' => ?_
  unfold Oper.wp
  simp [execOp, ho, hm, hx, (run_look h K ht (hz w) hkey).1, Result.andThen]
  exact hK' _ _ hK
/-- .. what is there told apart. -/
theorem look2v (v : Value) (c : Bool) (ho : o.op = Op.lookup t m x true) (hg : o.guard = none) (K : Keyed P k) (ht : P.underlying t = some (.map k e)) {z : Value} (hz : ∀ w, (zeroValue e).run P w = .ok z w) (hm : a.eval m = .map mb) (h : MapN P k w mb n f)
    {key : Value} (hx : a.eval x = key) {kl : Lit} (hkey : keyOf P k key = some kl) (hv : (f kl).getD z = v) (hc : (f kl).isSome = c) (hK : wpList P ops Q rest (a.put o.dst (.tuple #[v, .bool c])) w) : wpList P ops Q (o :: rest) a w := by
  subst hv hc
  exact look2 ho hg K ht hz hm h hx hkey hK
/-- Operation o looks up a key in a map. -/
def looks (ρ : Operand → Value) (o : Oper) (t : TypeId) (c : Bool) (mb : Option Nat) (key : Value) : Prop := match o.op with
  | .lookup t' m x c' => t' = t ∧ c' = c ∧ ρ m = .map mb ∧ ρ x = key
  | _ => False
theorem put (ho : o.op = Op.mapUpdate t m x y) (hg : o.guard = none) (K : Keyed P k) (ht : P.underlying t = some (.map k e)) (hm : a.eval m = .map (some b)) (h : MapB P k w b n f) (hn : n < maxLen)
    {key val : Value} (hx : a.eval x = key) (hv : a.eval y = val) {kl : Lit} (hkey : keyOf P k key = some kl) (h1 : f' kl = some val) (h2 : ∀ x, x ≠ kl → f' x = f x)
    (hK : ∀ w', MapB P k w' b (n + 1) f' → Chg (fun j => j = b) w w' → wpList P ops Q rest (a.put o.dst undef) w') : wpList P ops Q (o :: rest) a w := by
  refine wpList_plain hg fun K' hK' => ?_
  obtain ⟨w', hr, r1, r2⟩ := run_put h K ht hn hkey h1 h2
  unfold Oper.wp
  simp [execOp, ho, hm, hx, hv, hr, Result.andThen]
  exact hK' _ _ (hK w' r1 r2)
theorem del (ho : o.op = Op.call { callee := Callee.builtin Builtin.delete, args := #[m, x], argTypes := #[t, k] }) (hg : o.guard = none) (K : Keyed P k) (ht : P.underlying t = some (.map k e)) (hm : a.eval m = .map mb) (h : MapN P k w mb n f)
    {key : Value} (hx : a.eval x = key) {kl : Lit} (hkey : keyOf P k key = some kl) (h1 : f' kl = none) (h2 : ∀ x, x ≠ kl → f' x = f x)
    (hK : ∀ w', MapN P k w' mb n f' → Chg (fun j => some j = mb) w w' → wpList P ops Q rest (a.put o.dst (.tuple #[])) w') : wpList P ops Q (o :: rest) a w := by
  refine wpList_plain hg fun K' hK' => ?_
  obtain ⟨w', hr, r1, r2⟩ := run_del h K ht hkey h1 h2 o.type
  unfold Oper.wp
  simp [execOp, ho, resolve, invoke, builtin, hm, hx, hr, Result.andThen]
  exact hK' _ _ (hK w' r1 r2)
/-- A store into a map that ends a drawn region, or stands in it. -/
theorem up {i : Nat} {K0 : Act → World → Prop} (hi : ops.toList.drop i = o :: rest) (hw : Region.wanted o (yielded ops a.tmps) = true) (ho : o.op = Op.mapUpdate t m x y) (K : Keyed P k) (ht : P.underlying t = some (.map k e)) (hm : a.eval m = .map (some b)) (h : MapB P k w b n f) (hn : n < maxLen)
    {key val : Value} (hx : a.eval x = key) (hv : a.eval y = val) {kl : Lit} (hkey : keyOf P k key = some kl) (h1 : f' kl = some val) (h2 : ∀ x, x ≠ kl → f' x = f x)
    (hK : ∀ w', MapB P k w' b (n + 1) f' → Chg (fun j => j = b) w w' → K0 (a.put o.dst undef) w') : wpOp P ops Q i K0 a w := by
  obtain ⟨w', hr, r1, r2⟩ := run_put h K ht hn hkey h1 h2
  refine Evo2.runs hi hw fun K' hK' => ?_
  have : (execOp a.eval o).run P w = .ok .skip w' ∨ (execOp a.eval o).run P w = .ok (.value undef) w' := by
    simp [execOp, ho, hm, hx, hv, hr, Result.andThen]
  rcases this with e | e <;> rw [e] <;> exact hK'.out _ _ (hK w' r1 r2)
end
/-! ### keys that are strings -/
def strK (s : ByteArray) : Lit := .string s.data.toList
def onS (g : ByteArray → Option Value) : Lit → Option Value
  | .string x => g ⟨x.toArray⟩
  | _ => none
theorem onS_ne {g g' : ByteArray → Option Value} {s : ByteArray} (h : ∀ x, x ≠ s → g' x = g x) : ∀ x, x ≠ strK s → onS g' x = onS g x := by
  intro x hx
  cases x with
  | string b => exact h _ fun e => hx (by rw [← e]; simp [strK])
  | _ => rfl
theorem onS_none {kl : Lit} : onS (fun _ => none) kl = none := by cases kl <;> rfl
theorem keyS {P : Program} {k : TypeId} (hk : P.underlying k = some .string) {s : ByteArray} (hs : s.size ≤ maxLen) : keyOf P k (.string s) = some (strK s) := WideMaps.keyOf_string_mk hk hs
end Go.MapV

/- A store into a part of a known block, in a region that draws its order. No program is named here. -/
namespace Go.Proofs.Ytjhfjjkfnmnkgaa
set_option linter.unusedVariables false
set_option linter.unusedSimpArgs false
open Go.RowKit
/-- A part of a block is written in a drawn region. -/
theorem upStoreAt {P : Program} {ops : Array Oper} {Q : Exit → Act → World → Prop} {i : Nat} {o : Oper} {rest : List Oper} {a : Act} {w : World} {K : Act → World → Prop} (hi : ops.toList.drop i = o :: rest) (hw : Region.wanted o (yielded ops a.tmps) = true) {t : TypeId} {p x : Operand} (ho : o.op = .store t p x)
    {g off : Nat} (hp : a.eval p = .pointer (some ⟨g, off, none⟩)) {v : Value} (hx : a.eval x = v) {cs : Array Value} {T : TypeId} (hb : Blk w g cs T)
    (hs : (P.info? t).isSome = true ∧ P.cellsOf t = v.cells.size) (hfit : off + v.cells.size ≤ cs.size) (h1 : ∀ u ∈ v.cells.toList, u.oneCell' = true)
    (h : ∀ w', Blk w' g (cs.toList.take off ++ v.cells.toList ++ cs.toList.drop (off + v.cells.toList.length)).toArray T → Chg (fun k => k = g) w w' → K (a.put o.dst undef) w') : wpOp P ops Q i K a w := by
  obtain ⟨w', hr, hb', hch⟩ := Box.run_store (P := P) (t := t) (off := off) w hb v hs hfit h1
  refine Evo2.runs hi hw fun K' hK' => ?_
  have : (execOp a.eval o).run P w = .ok .skip w' ∨ (execOp a.eval o).run P w = .ok (.value undef) w' := by
    unfold execOp
    simp only [ho, hp, hx, Sem.run_bind, Sem.run_pure, Result.andThen_ok, hr]
    simp
  rcases this with e | e <;> rw [e] <;> exact hK'.out _ _ (h w' hb' hch)
end Go.Proofs.Ytjhfjjkfnmnkgaa
