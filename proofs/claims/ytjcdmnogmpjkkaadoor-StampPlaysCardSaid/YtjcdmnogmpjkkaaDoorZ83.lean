/- My own texts HoldP, MapF, IterQ, laid in one file. -/
import Derived.Test.YtjcdmnogmpjkkaaDoorZ63
import Derived.Test.YtjcdmnogmpjkkaaDoorZ29
import Derived.Test.YtjcdmnogmpjkkaaDoorZ54

/- Many states side by side, one of them taken out and laid back; a block of a state written, in a Hold. No program is named here. -/
namespace Go
set_option linter.unusedVariables false
open Go.RowKit
theorem Sep.assoc' {A B C : Hp} {w : World} {F : Nat → Prop} (h : Sep A (Sep B C) w F) : Sep (Sep A B) C w F := by
  obtain ⟨F1, F2, a, ⟨F3, F4, b, c, ap2, e2⟩, ap, e⟩ := h
  refine ⟨fun k => F1 k ∨ F3 k, F4, ⟨F1, F3, a, b, fun k h1 h3 => ap k h1 ((e2 k).2 (.inl h3)), fun k => Iff.rfl⟩, c, fun k hk h4 => ?_, fun k => ?_⟩
  · rcases hk with hk | hk
    · exact ap k hk ((e2 k).2 (.inr h4))
    · exact ap2 k hk h4
  · rw [e, e2, or_assoc]
section
variable {α : Type} {A : α → World → (Nat → Prop) → Prop} {p q : List α} {x : α} {w : World} {F : Nat → Prop}
theorem SepL.out (h : SepL A (p ++ x :: q) w F) : Sep (A x) (SepL A (p ++ q)) w F := by
  obtain ⟨Fs, hl, ha, hp, e⟩ := h
  rw [List.length_append, List.length_cons] at hl
  obtain ⟨P, f, Q, rfl, hP⟩ : ∃ P f Q, Fs = P ++ f :: Q ∧ P.length = p.length := by
    have hi : p.length < Fs.length := by omega
    exact ⟨Fs.take p.length, Fs[p.length], Fs.drop (p.length + 1), by rw [← List.drop_eq_getElem_cons hi, List.take_append_drop], by rw [List.length_take]; omega⟩
  have hQ : Q.length = q.length := by rw [List.length_append, List.length_cons] at hl; omega
  rw [List.pairwise_append, List.pairwise_cons] at hp
  obtain ⟨p1, ⟨p2, p3⟩, p4⟩ := hp
  refine ⟨f, fun k => ∃ g, g ∈ P ++ Q ∧ g k, ha p.length x f (by simp) (by rw [← hP]; simp), ⟨P ++ Q, by simp [hP, hQ], fun i y g hy hg => ?_, ?_, fun k => Iff.rfl⟩, fun k hk ⟨g, hg, hgk⟩ => ?_, fun k => ?_⟩
  · rcases Nat.lt_or_ge i p.length with hi | hi
    · rw [List.getElem?_append_left hi] at hy
      rw [List.getElem?_append_left (by omega)] at hg
      exact ha i y g (by rw [List.getElem?_append_left hi]; exact hy) (by rw [List.getElem?_append_left (by omega)]; exact hg)
    · rw [List.getElem?_append_right hi] at hy
      rw [List.getElem?_append_right (by omega), hP] at hg
      refine ha (i + 1) y g ?_ ?_
      · rw [List.getElem?_append_right (by omega), show i + 1 - p.length = (i - p.length) + 1 by omega, List.getElem?_cons_succ]; exact hy
      · rw [List.getElem?_append_right (by omega), hP, show i + 1 - p.length = (i - p.length) + 1 by omega, List.getElem?_cons_succ]; exact hg
  · rw [List.pairwise_append]
    exact ⟨p1, p3, fun a ha b hb => p4 a ha b (List.mem_cons_of_mem _ hb)⟩
  · rcases List.mem_append.1 hg with hg | hg
    · exact p4 g hg f List.mem_cons_self k hgk hk
    · exact p2 g hg k hk hgk
  · rw [e]
    constructor
    · rintro ⟨g, hg, hk⟩
      rcases List.mem_append.1 hg with hg | hg
      · exact .inr ⟨g, List.mem_append_left _ hg, hk⟩
      · rcases List.mem_cons.1 hg with rfl | hg
        · exact .inl hk
        · exact .inr ⟨g, List.mem_append_right _ hg, hk⟩
    · rintro (hk | ⟨g, hg, hk⟩)
      · exact ⟨f, by simp, hk⟩
      · refine ⟨g, ?_, hk⟩
        rcases List.mem_append.1 hg with hg | hg
        · exact List.mem_append_left _ hg
        · exact List.mem_append_right _ (List.mem_cons_of_mem _ hg)
theorem SepL.inn (h : Sep (A x) (SepL A (p ++ q)) w F) : SepL A (p ++ x :: q) w F := by
  obtain ⟨f, G, hx, ⟨Fs, hl, ha, hp, e2⟩, ap, e⟩ := h
  rw [List.length_append] at hl
  obtain ⟨P, Q, rfl, hP⟩ : ∃ P Q, Fs = P ++ Q ∧ P.length = p.length := ⟨Fs.take p.length, Fs.drop p.length, (List.take_append_drop _ _).symm, by rw [List.length_take]; omega⟩
  have hQ : Q.length = q.length := by rw [List.length_append] at hl; omega
  rw [List.pairwise_append] at hp
  obtain ⟨p1, p3, p4⟩ := hp
  have apG : ∀ g, g ∈ P ++ Q → Apart f g := fun g hg k hk hgk => ap k hk ((e2 k).2 ⟨g, hg, hgk⟩)
  refine ⟨P ++ f :: Q, by simp [hP, hQ], fun i y g hy hg => ?_, ?_, fun k => ?_⟩
  · rcases Nat.lt_trichotomy i p.length with hi | hi | hi
    · rw [List.getElem?_append_left hi] at hy
      rw [List.getElem?_append_left (by omega)] at hg
      exact ha i y g (by rw [List.getElem?_append_left hi]; exact hy) (by rw [List.getElem?_append_left (by omega)]; exact hg)
    · subst hi
      rw [List.getElem?_append_right (Nat.le_refl _), Nat.sub_self, List.getElem?_cons_zero] at hy
      rw [List.getElem?_append_right (by omega), hP, Nat.sub_self, List.getElem?_cons_zero] at hg
      cases hy; cases hg
      exact hx
    · rw [List.getElem?_append_right (by omega), show i - p.length = (i - 1 - p.length) + 1 by omega, List.getElem?_cons_succ] at hy
      rw [List.getElem?_append_right (by omega), hP, show i - p.length = (i - 1 - p.length) + 1 by omega, List.getElem?_cons_succ] at hg
      refine ha (i - 1) y g ?_ ?_
      · rw [List.getElem?_append_right (by omega)]; exact hy
      · rw [List.getElem?_append_right (by omega), hP]; exact hg
  · rw [List.pairwise_append, List.pairwise_cons]
    refine ⟨p1, ⟨fun g hg => apG g (List.mem_append_right _ hg), p3⟩, fun a ha b hb => ?_⟩
    rcases List.mem_cons.1 hb with rfl | hb
    · exact (apG a (List.mem_append_left _ ha)).symm
    · exact p4 a ha b hb
  · rw [e, e2]
    constructor
    · rintro (hk | ⟨g, hg, hk⟩)
      · exact ⟨f, by simp, hk⟩
      · refine ⟨g, ?_, hk⟩
        rcases List.mem_append.1 hg with hg | hg
        · exact List.mem_append_left _ hg
        · exact List.mem_append_right _ (List.mem_cons_of_mem _ hg)
    · rintro ⟨g, hg, hk⟩
      rcases List.mem_append.1 hg with hg | hg
      · exact .inr ⟨g, List.mem_append_left _ hg, hk⟩
      · rcases List.mem_cons.1 hg with rfl | hg
        · exact .inl hk
        · exact .inr ⟨g, List.mem_append_right _ hg, hk⟩
/-- Some of many. -/
theorem SepL.sub {l l' : List α} (hs : l'.Sublist l) : ∀ {F : Nat → Prop}, SepL A l w F → ∃ F', SepL A l' w F' ∧ ∀ k, F' k → F k := by
  induction hs with
  | slnil => exact fun h => ⟨_, h, fun _ => id⟩
  | cons a _ ih =>
    intro F h
    obtain ⟨f, G, _, hG, _, e⟩ := SepL.out (p := []) h
    obtain ⟨F', h', hs'⟩ := ih hG
    exact ⟨F', h', fun k hk => (e k).2 (.inr (hs' k hk))⟩
  | cons_cons a _ ih =>
    intro F h
    obtain ⟨f, G, hf, hG, ap, e⟩ := SepL.out (p := []) h
    obtain ⟨F', h', hs'⟩ := ih hG
    exact ⟨fun k => f k ∨ F' k, SepL.inn (p := []) ⟨f, F', hf, h', fun k h1 h2 => ap k h1 (hs' k h2), fun k => Iff.rfl⟩, fun k hk => (e k).2 (hk.imp id (hs' k))⟩
end
/-- Parted by what is so of each. -/
theorem SepL.part {α : Type} {A : α → World → (Nat → Prop) → Prop} {w : World} (f : α → Bool) : ∀ {l : List α} {F : Nat → Prop}, SepL A l w F → Sep (SepL A (l.filter f)) (SepL A (l.filter fun x => !f x)) w F
  | [], F, h => by
    obtain ⟨Fs, hl, _, _, e⟩ := h
    have : Fs = [] := List.eq_nil_of_length_eq_zero hl
    subst this
    exact ⟨fun _ => False, fun _ => False, SepL.nil w, SepL.nil w, fun _ q _ => q, fun k => by rw [e]; simp⟩
  | x :: l, F, h => by
    obtain ⟨f1, G, hx, hG, ap, e⟩ := SepL.out (p := []) h
    obtain ⟨G1, G2, h1, h2, ap2, e2⟩ := SepL.part f hG
    cases q : f x with
    | true =>
      rw [List.filter_cons_of_pos q, List.filter_cons_of_neg (by rw [q]; decide)]
      exact ⟨fun k => f1 k ∨ G1 k, G2, SepL.inn (p := []) ⟨f1, G1, hx, h1, fun k q1 q2 => ap k q1 ((e2 k).2 (.inl q2)), fun k => Iff.rfl⟩, h2, fun k q1 q2 => q1.elim (fun q1 => ap k q1 ((e2 k).2 (.inr q2))) (fun q1 => ap2 k q1 q2), fun k => by rw [e, e2, or_assoc]⟩
    | false =>
      rw [List.filter_cons_of_neg (by rw [q]; decide), List.filter_cons_of_pos (by rw [q]; rfl)]
      exact ⟨G1, fun k => f1 k ∨ G2 k, h1, SepL.inn (p := []) ⟨f1, G2, hx, h2, fun k q1 q2 => ap k q1 ((e2 k).2 (.inr q2)), fun k => Iff.rfl⟩, fun k q1 q2 => q2.elim (fun q2 => ap k q2 ((e2 k).2 (.inl q1))) (fun q2 => ap2 k q1 q2), fun k => by rw [e, e2]; exact ⟨fun h => h.elim (fun h => .inr (.inl h)) (fun h => h.elim .inl (fun h => .inr (.inr h))), fun h => h.elim (fun h => .inr (.inl h)) (fun h => h.elim .inl (fun h => .inr (.inr h)))⟩⟩
section
variable {P : Program} {ops : Array Oper} {rest : List Oper} {o : Oper} {a : Act} {Q : Exit → Act → World → Prop} {w0 w : World} {L : List MBox} {A : Hp}
/-- A store into a block that the state knows whole. -/
theorem Hold.setB {t : TypeId} {p x : Operand} (hA : Foot A) (ho : o.op = .store t p x) (hgd : o.guard = none)
    {g off : Nat} (hp : a.eval p = .pointer (some ⟨g, off, none⟩)) {v : Value} (hx : a.eval x = v) {vs : List Value} (hv : v.cells = vs.toArray) {n : Nat} (hs : (P.info? t).map (·.size) = some n)
    {cs : List Value} {T : TypeId} (hm : Hold w0 w L (Sep (BlkF g cs T) A)) (hn : vs.length = n) (hfit : off + n ≤ cs.length) (h1 : vs.all (·.oneCell') = true)
    (h : ∀ w', Hold w0 w' L (Sep (BlkF g (cs.take off ++ vs ++ cs.drop (off + vs.length)) T) A) → Stay (wpList P ops Q rest (a.put o.dst undef) w')) : wpList P ops Q (o :: rest) a w := by
  have hc : P.cellsOf t = n := by
    unfold Program.cellsOf
    cases hi : P.info? t with
    | none => rw [hi] at hs; cases hs
    | some i => rw [hi] at hs; simpa using hs
  obtain ⟨F, ⟨F1, F2, ⟨hb, e1⟩, ha, ap, e⟩, h2, h3⟩ := hm.st
  have hvl : v.cells.toList = vs := by rw [hv]
  have hvs : v.cells.size = n := by rw [hv]; simpa using hn
  refine Box.store ho hgd hp hx hb ⟨by cases hi : P.info? t with
    | none => rw [hi] at hs; cases hs
    | some i => rfl, by rw [hc, hvs]⟩ (by rw [hvs]; simpa using hfit) (by rw [hvl]; exact fun u hu => by simpa using List.all_eq_true.1 h1 u hu) fun w' hb' hch => h w' ?_
  have hg : F1 g := (e1 g).2 rfl
  have hFg : F g := (e g).2 (.inl hg)
  refine ⟨hm.mem.chg hch (fun k hk q => by have q : k = g := q; subst q; have := h2 _ hFg; omega) (fun b hb q => by have q : b.1 = g := q; rw [← q] at hFg; exact h3 b hb hFg), F, ⟨F1, F2, ⟨by rw [hvl] at hb'; simpa using hb', e1⟩, hA.frame ha hch (fun k hk q => by have q : k = g := q; subst q; exact ap _ hg hk), ap, e⟩, h2, h3⟩
end
end Go

/- A map keyed by numbers as a state of its own: which keys it has, what lies there. No program is named here. -/
namespace Go.MapV
set_option linter.unusedVariables false
set_option linter.unusedSimpArgs false
open Go.Maps Go.RowKit

def keysM (l : List Int) (v : Int → Value) : Int → Option Value := fun x => if x ∈ l then some (v x) else none
theorem keysM_some (l : List Int) (v : Int → Value) (x : Int) : x ∈ l ↔ (keysM l v x).isSome = true := by
  unfold keysM
  split <;> simp_all
theorem onZ_same {g g' : Int → Option Value} (h : ∀ x, g' x = g x) : ∀ kl, onZ g' kl = onZ g kl := by
  have : g' = g := funext h
  subst this
  exact fun _ => rfl
/-- Block b is a map that has the keys of l, each once, and there what v says. -/
def MapL (P : Program) (k : TypeId) (w : World) (b : Nat) (l : List Int) (v : Int → Value) : Prop := l.Nodup ∧ MapB P k w b l.length (onZ (keysM l v))
def MapF (P : Program) (k : TypeId) (b : Nat) (l : List Int) (v : Int → Value) : Hp := fun w F => MapL P k w b l v ∧ ∀ j, F j ↔ j = b
section
variable {P : Program} {k t e : TypeId} {w w' : World} {b : Nat} {l l' : List Int} {v v' : Int → Value} {F : Nat → Prop}
theorem MapL.lt (h : MapL P k w b l v) : b < w.heap.size := h.2.lt
theorem MapL.chg {G : Nat → Prop} (h : MapL P k w b l v) (c : Chg G w w') (hg : ¬ G b) : MapL P k w' b l v := ⟨h.1, h.2.chg c hg⟩
theorem MapL.grow (h : MapL P k w b l v) (c : Grow.G w w') : MapL P k w' b l v := h.chg (Chg.grow (G := fun _ => False) c) id
theorem MapL.blk (h : MapL P k w b l v) (e : w'.heap[b]? = w.heap[b]?) : MapL P k w' b l v := ⟨h.1, h.2.blk e⟩
theorem MapF.foot (P : Program) (k : TypeId) (b : Nat) (l : List Int) (v : Int → Value) : Foot (MapF P k b l v) where
  lt := fun ⟨h, q⟩ j hj => by rw [(q j).1 hj]; exact h.lt
  frame := fun ⟨h, q⟩ c hs => ⟨h.chg c (hs b ((q b).2 rfl)), q⟩
/-- The same map, told otherwise. -/
theorem MapL.same (h : MapL P k w b l v) (hk : P.underlying k = some (.int .i64)) (hn : l'.Nodup) (hm : ∀ x, x ∈ l' ↔ x ∈ l) (hv : ∀ x, x ∈ l → v' x = v x) : MapL P k w b l' v' := by
  refine ⟨hn, (h.2.same (f' := onZ (keysM l' v')) (onZ_same fun x => ?_)).tightZ hk hn (keysM_some l' v')⟩
  unfold keysM
  by_cases hx : x ∈ l
  · rw [if_pos hx, if_pos ((hm x).2 hx), hv x hx]
  · rw [if_neg hx, if_neg fun q => hx ((hm x).1 q)]
theorem MapF.same (h : MapF P k b l v w F) (hk : P.underlying k = some (.int .i64)) (hn : l'.Nodup) (hm : ∀ x, x ∈ l' ↔ x ∈ l) (hv : ∀ x, x ∈ l → v' x = v x) : MapF P k b l' v' w F :=
  ⟨h.1.same hk hn hm hv, h.2⟩
end
section
variable {P : Program} {ops : Array Oper} {rest : List Oper} {o : Oper} {a : Act} {Q : Exit → Act → World → Prop} {w0 w : World} {L : List MBox} {A : Hp} {k t e : TypeId} {b : Nat} {l : List Int} {v : Int → Value}
/-- A new map. -/
theorem MapL.made (w : World) (P : Program) (k : TypeId) (v : Int → Value) : MapL P k (w.alloc (.map #[] 0)) w.heap.size [] v :=
  ⟨List.nodup_nil, (MapB.made w P k).same fun kl => by cases kl <;> first | rfl | (rename_i q z; cases q <;> rfl)⟩
end
end Go.MapV

/- A range over a function that keeps rows of its own and reads a state in between, while the caller's rounds write; it may itself hand on what another one hands it. No program is named here. -/
namespace Go.Iter
set_option linter.unusedVariables false
open Go.RowKit

theorem Book.mono {n n' : Nat} {A B : World} (h : Book n A B) (hn : n' ≤ n) : Book n' A B := ⟨h.os, h.tape, h.output, h.size, fun k o hk ho => h.same k o hk (ho.imp id fun q => by omega)⟩
theorem Rest.mono {n n' : Nat} {A B : World} (h : Rest n A B) (hn : n ≤ n') : Rest n' A B := ⟨h.size, fun k o hk ho q => h.same k o hk ho (by omega)⟩
theorem Rest.putObj {n k : Nat} {A : World} (o : Obj) (hk : k < n) : Rest n A (A.putObj k o) := ⟨by simp, fun j o2 hj _ hn => (World.putObj_heap_other (by omega)).trans hj⟩
/-- What an iterator promises that keeps blocks p of its own, laid since it began, and reads what Kp keeps: as long as each round of what may come is good, and leaves these alone, it comes to its end, or to where a round has said no more. -/
def SeqQ {α : Type} (P : Program) (gf : FuncId) (lb : Array Value) (encs : α → Array Value) (Ok : List α → α → World → Prop) (Kp : World → World → Prop) (S : List α → Prop) (w : World) : Prop :=
  ∀ (l : Nat) (J Jx : (Nat → Prop) → List α → World → Prop) (W : World), Grow.G w W → (∀ p s A B, J p s A → Book W.heap.size A B → J p s B) → (∀ p s A B, Jx p s A → Book W.heap.size A B → Jx p s B) →
    (∀ p pre x W1, J p pre W1 → Ok pre x W1 → YieldAt Fence.wide 0 P l (encs x) W1 fun e W' => (e = .returned (.bool true) ∧ J p (pre ++ [x]) W' ∧ (∀ k, p k → W'.heap[k]? = W1.heap[k]?) ∧ Kp W1 W' ∧ Rest W.heap.size W1 W') ∨ (e = .returned (.bool false) ∧ Jx p (pre ++ [x]) W' ∧ Rest W.heap.size W1 W')) →
    (∀ p W', Grow.G W W' → Prv W.heap.size p W' → J p [] W') → Calls P gf (#[.func (.yield l) #[] #[]] ++ lb) W fun e W' => (∃ v, e = .returned v) ∧ ∃ p, ((∃ xs, S xs ∧ J p xs W') ∨ (∃ pre, Jx p pre W'))
/-- How a round's body may be left. -/
def endPQ {α : Type} (n : Nat) (p : Nat → Prop) (Kp : World → World → Prop) (I : List α → World → Prop) (Ix : Code → List α → World → Prop) (xs : List α) (W : World) : Exit → Act → World → Prop
  | .normal, _, W' => Rest n W W' ∧ (∀ k, p k → W'.heap[k]? = W.heap[k]?) ∧ Kp W W' ∧ I xs W'
  | .ret, _, W' => Rest n W W' ∧ Ix .ret xs W'
  | .exit id, _, W' => Rest n W W' ∧ Ix (.exit id) xs W'
  | .goto t, _, W' => Rest n W W' ∧ Ix (.goto t) xs W'
  | .panic _, _, _ => False
  | .outgrown, _, _ => False

theorem rangeQ {α : Type} {P : Program} {g : Operand} {ps : Array Tmp} {assign body : Code} {Q : Exit → Act → World → Prop} {a : Act} {w w0 : World} {gf : FuncId} {lb : Array Value}
    {encs : α → Array Value} {Ok : List α → α → World → Prop} {Kp : World → World → Prop} {S : List α → Prop}
    (hg : a.eval g = .func (.func gf) #[] lb) (eg : ∀ args w, (callFunc gf args).run P w = .ok (.enter gf args) w)
    (hseq : SeqQ P gf lb encs Ok Kp S w0) (hw : Grow.G w0 w) (hps : ∀ x, (encs x).size = ps.size)
    (hOk : ∀ s x A B, Ok s x A → Book w.heap.size A B → Ok s x B)
    (hKt : ∀ {A B C : World}, Kp A B → Kp B C → Kp A C) (hKb : ∀ {A B : World}, Book w.heap.size A B → Kp A B)
    (I : (Nat → Prop) → List α → World → Prop) (Ix : (Nat → Prop) → Code → List α → World → Prop)
    (hI : ∀ p s A B, I p s A → Book w.heap.size A B → I p s B) (hIx : ∀ p c s A B, Ix p c s A → Book w.heap.size A B → Ix p c s B) (h0 : ∀ p W', Grow.G w W' → Prv w.heap.size p W' → I p [] W')
    (hround : ∀ (p : Nat → Prop) (l : Nat) (pre : List α) (x : α) (W : World), w.heap.size ≤ l → I p pre W → Ok pre x W → Prv w.heap.size p W →
      assign.wpIn (Fence.wide.inRound l) 0 P (Exit.then (fun a₁ W₁ => Grow.G W W₁ ∧ ∀ W₂, Book w.heap.size W₁ W₂ → Ok pre x W₂ → body.wpIn (Fence.wide.inRound l) 0 P (endPQ w.heap.size p Kp (I p) (Ix p) (pre ++ [x]) W₂) a₁ W₂) (fun _ _ _ => False))
        { tmps := (ps.zip (encs x)).foldl (fun t (p, v) => t.setIfInBounds p v) a.tmps, defers := [] } W)
    (hdone : ∀ (p : Nat → Prop) (xs : List α) (W : World), S xs → I p xs W → W.heap[w.heap.size]? = some (.deferred (some [])) → Q .normal { a with defers := { target := .collected w.heap.size, args := #[] } :: a.defers } W)
    (hstop : ∀ (p : Nat → Prop) (c : Code) (pre : List α) (W : World), Ix p c pre W → W.heap[w.heap.size]? = some (.deferred (some [])) → c.wpIn Fence.wide 0 P Q { a with defers := { target := .collected w.heap.size, args := #[] } :: a.defers } W) :
    (Code.rangeFunc g ps assign body).wpIn Fence.wide 0 P Q a w := by
  refine wpIn_rangeFunc ?_
  intro fn hfn
  obtain ⟨rec, hrec⟩ : ∃ rec : LoopState → Option Code → Loop, rec = fun st pe => { state := st, pending := pe, fn, tmps := a.tmps, params := ps, assign, body, defers := w.heap.size } := ⟨_, rfl⟩
  obtain ⟨W1, hW1⟩ : ∃ W1, (w.alloc (.deferred (some []))).alloc (.loop (rec .ready none)) = W1 := ⟨_, rfl⟩
  have hG : Grow.G w W1 := by rw [← hW1]; exact Grow.G.alloc (Grow.G.alloc (Grow.G.refl _) _) _
  have hsz : W1.heap.size = w.heap.size + 2 := by rw [← hW1]; simp
  have hL1 : W1.heap[w.heap.size + 1]? = some (.loop (rec .ready none)) := by
    rw [← hW1]; have := World.alloc_heap_new (w.alloc (.deferred (some []))) (.loop (rec .ready none)); rwa [World.size_alloc] at this
  have hK1 : W1.heap[w.heap.size]? = some (.deferred (some [])) := by
    rw [← hW1]; exact (Below.heap_alloc _ _ _ (by simp)).trans (World.alloc_heap_new w _)
  refine ⟨w.heap.size + 1, [{ target := .collected w.heap.size, args := #[] }], W1, { target := .fn (.func gf) lb, args := #[.func (.yield (w.heap.size + 1)) #[] #[]] }, W1, gf,
    #[.func (.yield (w.heap.size + 1)) #[] #[]] ++ lb, W1, ?_, ?_, ?_, ?_, (fun h => by simp [Fence.wide] at h), ?_⟩
  · rw [← hW1, hrec]; exact run_enterLoop_outer _ _ _ _ _
  · simp only [resolve, hg]
    simp [go_sem]
  · intro f' hf'; trivial
  · simp [invoke, go_sem, eg]
  · -- the iterator, at the caller's invariant and the book-keeping beside it
    refine callsIn_wide.2 ((hseq (w.heap.size + 1)
      (fun p pre W => I p pre W ∧ W.heap[w.heap.size + 1]? = some (.loop (rec .ready none)) ∧ W.heap[w.heap.size]? = some (.deferred (some [])) ∧ Prv w.heap.size p W)
      (fun p pre W => ∃ c, Ix p c pre W ∧ W.heap[w.heap.size + 1]? = some (.loop (rec .done (some c))) ∧ W.heap[w.heap.size]? = some (.deferred (some [])))
      W1 (hw.trans hG) ?_ ?_ ?_ ?_).mono ?_)
    · rintro p s A B ⟨h1, h2, h3, h4⟩ hb
      exact ⟨hI _ _ _ _ h1 (hb.mono hG.size), hb.same _ _ h2 (.inr (by omega)), hb.same _ _ h3 (.inr (by omega)), h4.book hb⟩
    · rintro p s A B ⟨c, h1, h2, h3⟩ hb
      exact ⟨c, hIx _ _ _ _ _ h1 (hb.mono hG.size), hb.same _ _ h2 (.inr (by omega)), hb.same _ _ h3 (.inr (by omega))⟩
    · -- one round
      rintro p pre x W ⟨hi, hl, hk, hpv⟩ hok
      have hy := run_yield (P := P) (args := encs x) hl (by rw [hrec]; exact hps x)
      rw [hrec] at hy
      refine ⟨fn, _, assign, body, hy, roundIn_of_wpIn hfn ?_⟩
      refine wpIn_mono (hround p _ pre x W (by omega) hi hok hpv) ?_
      rintro e a₁ W₁ hp
      cases e with
      | normal =>
        obtain ⟨hg1, hb⟩ := hp
        have hl1 : W₁.heap[w.heap.size + 1]? = some (.loop (rec .ready none)) := (hg1.block _ (Array.getElem?_eq_some_iff.1 hl).1).trans hl
        have hk1 : W₁.heap[w.heap.size]? = some (.deferred (some [])) := (hg1.block _ (Array.getElem?_eq_some_iff.1 hk).1).trans hk
        have hlt := (Array.getElem?_eq_some_iff.1 hl1).1
        refine ⟨_, run_beginRound hl1 (by rw [hrec]), ?_⟩
        have hbk : Book w.heap.size W₁ (W₁.putObj (w.heap.size + 1) (.loop { rec .ready none with state := .busy })) := Book.putObj _ hl1 rfl (by omega)
        have hl2 : (W₁.putObj (w.heap.size + 1) (.loop { rec .ready none with state := .busy })).heap[w.heap.size + 1]? = some (.loop { rec .ready none with state := .busy }) := World.putObj_heap_same hlt
        have hk2 : (W₁.putObj (w.heap.size + 1) (.loop { rec .ready none with state := .busy })).heap[w.heap.size]? = some (.deferred (some [])) := (World.putObj_heap_other (by omega)).trans hk1
        have hok2 := hOk _ _ _ _ hok ((Book.grow hg1).trans hbk)
        have hbk0 := (Book.grow (n := w.heap.size) hg1).trans hbk
        have hp0 := hpv.same hbk0
        have hpv2 := hpv.book hbk0
        have hkp := hKb hbk0
        have hr0 : Rest W1.heap.size W (W₁.putObj (w.heap.size + 1) (.loop { rec .ready none with state := .busy })) := (Rest.grow hg1).trans (Rest.putObj _ (by omega))
        refine wpIn_mono (hb _ hbk hok2) ?_
        have fin : ∀ (jump : Option Code) (W3 : World), Rest w.heap.size (W₁.putObj (w.heap.size + 1) (.loop { rec .ready none with state := .busy })) W3 →
            (Instr.endRound (w.heap.size + 1) jump).run P W3 = .ok (.bool jump.isNone) (W3.putObj (w.heap.size + 1) (.loop (rec (if jump.isNone then .ready else .done) jump))) ∧
            W3.heap[w.heap.size + 1]? = some (.loop { rec .ready none with state := .busy }) ∧
            (W3.putObj (w.heap.size + 1) (.loop (rec (if jump.isNone then .ready else .done) jump))).heap[w.heap.size + 1]? = some (.loop (rec (if jump.isNone then .ready else .done) jump)) ∧
            (W3.putObj (w.heap.size + 1) (.loop (rec (if jump.isNone then .ready else .done) jump))).heap[w.heap.size]? = some (.deferred (some [])) ∧
            Rest W1.heap.size W (W3.putObj (w.heap.size + 1) (.loop (rec (if jump.isNone then .ready else .done) jump))) := fun jump W3 hk3 => by
          have hl3 := hk3.same _ _ hl2 rfl (by omega)
          have := run_endRound (P := P) jump hl3
          rw [hrec] at this ⊢
          exact ⟨this, by rw [hrec] at hl3; exact hl3, World.putObj_heap_same (Array.getElem?_eq_some_iff.1 hl3).1, (World.putObj_heap_other (by omega)).trans (hk3.same _ _ hk2 rfl (by omega)), (hr0.trans (hk3.mono (by omega))).trans (Rest.putObj _ (by omega))⟩
        rintro e a3 W3 hp
        cases e with
        | normal =>
          obtain ⟨hk3, hkp3, hkq3, hi3⟩ := hp
          obtain ⟨hr, hl3, hl4, hk4, hr4⟩ := fin none W3 hk3
          have hb3 : Book w.heap.size W3 (W3.putObj (w.heap.size + 1) (.loop (rec .ready none))) := Book.putObj _ hl3 rfl (by omega)
          have hpv3 := hpv2.keep hkp3
          exact ⟨_, _, hr, .inl ⟨rfl, ⟨hI _ _ _ _ hi3 hb3, hl4, hk4, hpv3.book hb3⟩, (fun k hk => ((hpv3.same hb3 k hk).trans (hkp3 k hk)).trans (hp0 k hk)), hKt hkp (hKt hkq3 (hKb hb3)), hr4⟩⟩
        | ret =>
          obtain ⟨hk3, hi3⟩ := hp
          obtain ⟨hr, hl3, hl4, hk4, hr4⟩ := fin (some .ret) W3 hk3
          exact ⟨_, _, hr, .inr ⟨rfl, ⟨.ret, hIx _ _ _ _ _ hi3 (Book.putObj _ hl3 rfl (by omega)), hl4, hk4⟩, hr4⟩⟩
        | exit id =>
          obtain ⟨hk3, hi3⟩ := hp
          obtain ⟨hr, hl3, hl4, hk4, hr4⟩ := fin (some (.exit id)) W3 hk3
          exact ⟨_, _, hr, .inr ⟨rfl, ⟨.exit id, hIx _ _ _ _ _ hi3 (Book.putObj _ hl3 rfl (by omega)), hl4, hk4⟩, hr4⟩⟩
        | goto t =>
          obtain ⟨hk3, hi3⟩ := hp
          obtain ⟨hr, hl3, hl4, hk4, hr4⟩ := fin (some (.goto t)) W3 hk3
          exact ⟨_, _, hr, .inr ⟨rfl, ⟨.goto t, hIx _ _ _ _ _ hi3 (Book.putObj _ hl3 rfl (by omega)), hl4, hk4⟩, hr4⟩⟩
        | panic ch => exact hp.elim
        | outgrown => exact hp.elim
      | ret => exact hp.elim
      | exit id => exact hp.elim
      | goto t => exact hp.elim
      | panic ch => exact hp.elim
      | outgrown => exact hp.elim
    · intro p W' hg' hpv
      have hpv := hpv.mono (n' := w.heap.size) hG.size
      exact ⟨h0 p W' (hG.trans hg') hpv, (hg'.block _ (Array.getElem?_eq_some_iff.1 hL1).1).trans hL1, (hg'.block _ (Array.getElem?_eq_some_iff.1 hK1).1).trans hK1, hpv⟩
    · -- behind the iterator
      rintro e W2 ⟨⟨v, rfl⟩, p, (⟨xs, hS, hi, hl, hk, _⟩ | ⟨pre, c, hi, hl, hk⟩)⟩
      · exact ⟨none, _, by have := run_endLoop (P := P) hl (by rw [hrec]; simp); rw [hrec] at this; exact this,
          hdone p xs _ hS (hI _ _ _ _ hi (Book.putObj _ hl rfl (by omega))) ((World.putObj_heap_other (by omega)).trans hk)⟩
      · exact ⟨some c, _, by have := run_endLoop (P := P) hl (by rw [hrec]; simp); rw [hrec] at this; exact this,
          hstop p c pre _ (hIx _ _ _ _ _ hi (Book.putObj _ hl rfl (by omega))) ((World.putObj_heap_other (by omega)).trans hk)⟩
end Go.Iter
