/- My own texts HoldP, MapF, IterQ, TailG, MapIn, GrowD, SortRow, HoldL, laid in one file. -/
import Derived.Test.YtfnpghekkhnjkaaZ63
import Derived.Test.YtfnpghekkhnjkaaZ29
import Derived.Test.YtfnpghekkhnjkaaZ54
import Derived.Test.YtfnpghekkhnjkaaZ37
import Derived.Maps.OwnIn
import Derived.Test.YtfnpghekkhnjkaaZ2
import Derived.Sort.Grow
import Derived.Deep.Draws
import Derived.Test.YtfnpghekkhnjkaaZ48
import Derived.Shelf.SlSortCmp.NoneTotal

/- Many states side by side, one of them taken out and laid back; a block of a state written, in a Hold. No program is named here. -/
namespace Go
set_option linter.unusedVariables false
open Go.RowKit
theorem Sep.assoc' {A B C : Hp} {w : World} {F : Nat → Prop} (h : Sep A (Sep B C) w F) : Sep (Sep A B) C w F := by
  obtain ⟨F1, F2, a, ⟨F3, F4, b, c, ap2, e2⟩, ap, e⟩ := h
  refine ⟨fun k => F1 k ∨ F3 k, F4, ⟨F1, F3, a, b, fun k h1 h3 => ap k h1 ((e2 k).2 (.inl h3)), fun k => Iff.rfl⟩, c, fun k hk h4 => ?_, fun k => ?_⟩
  · rcases hk with hk | hk
    · exact ap k hk ((e2 k).2 (.inr h4))
    · exact ap2 k hk h4
  · rw [e, e2, or_assoc]
section
variable {α : Type} {A : α → World → (Nat → Prop) → Prop} {p q : List α} {x : α} {w : World} {F : Nat → Prop}
theorem SepL.out (h : SepL A (p ++ x :: q) w F) : Sep (A x) (SepL A (p ++ q)) w F := by
  obtain ⟨Fs, hl, ha, hp, e⟩ := h
  rw [List.length_append, List.length_cons] at hl
  obtain ⟨P, f, Q, rfl, hP⟩ : ∃ P f Q, Fs = P ++ f :: Q ∧ P.length = p.length := by
    have hi : p.length < Fs.length := by omega
    exact ⟨Fs.take p.length, Fs[p.length], Fs.drop (p.length + 1), by rw [← List.drop_eq_getElem_cons hi, List.take_append_drop], by rw [List.length_take]; omega⟩
  have hQ : Q.length = q.length := by rw [List.length_append, List.length_cons] at hl; omega
  rw [List.pairwise_append, List.pairwise_cons] at hp
  obtain ⟨p1, ⟨p2, p3⟩, p4⟩ := hp
  refine ⟨f, fun k => ∃ g, g ∈ P ++ Q ∧ g k, ha p.length x f (by simp) (by rw [← hP]; simp), ⟨P ++ Q, by simp [hP, hQ], fun i y g hy hg => ?_, ?_, fun k => Iff.rfl⟩, fun k hk ⟨g, hg, hgk⟩ => ?_, fun k => ?_⟩
  · rcases Nat.lt_or_ge i p.length with hi | hi
    · rw [List.getElem?_append_left hi] at hy
      rw [List.getElem?_append_left (by omega)] at hg
      exact ha i y g (by rw [List.getElem?_append_left hi]; exact hy) (by rw [List.getElem?_append_left (by omega)]; exact hg)
    · rw [List.getElem?_append_right hi] at hy
      rw [List.getElem?_append_right (by omega), hP] at hg
      refine ha (i + 1) y g ?_ ?_
      · rw [List.getElem?_append_right (by omega), show i + 1 - p.length = (i - p.length) + 1 by omega, List.getElem?_cons_succ]; exact hy
      · rw [List.getElem?_append_right (by omega), hP, show i + 1 - p.length = (i - p.length) + 1 by omega, List.getElem?_cons_succ]; exact hg
  · rw [List.pairwise_append]
    exact ⟨p1, p3, fun a ha b hb => p4 a ha b (List.mem_cons_of_mem _ hb)⟩
  · rcases List.mem_append.1 hg with hg | hg
    · exact p4 g hg f List.mem_cons_self k hgk hk
    · exact p2 g hg k hk hgk
  · rw [e]
    constructor
    · rintro ⟨g, hg, hk⟩
      rcases List.mem_append.1 hg with hg | hg
      · exact .inr ⟨g, List.mem_append_left _ hg, hk⟩
      · rcases List.mem_cons.1 hg with rfl | hg
        · exact .inl hk
        · exact .inr ⟨g, List.mem_append_right _ hg, hk⟩
    · rintro (hk | ⟨g, hg, hk⟩)
      · exact ⟨f, by simp, hk⟩
      · refine ⟨g, ?_, hk⟩
        rcases List.mem_append.1 hg with hg | hg
        · exact List.mem_append_left _ hg
        · exact List.mem_append_right _ (List.mem_cons_of_mem _ hg)
theorem SepL.inn (h : Sep (A x) (SepL A (p ++ q)) w F) : SepL A (p ++ x :: q) w F := by
  obtain ⟨f, G, hx, ⟨Fs, hl, ha, hp, e2⟩, ap, e⟩ := h
  rw [List.length_append] at hl
  obtain ⟨P, Q, rfl, hP⟩ : ∃ P Q, Fs = P ++ Q ∧ P.length = p.length := ⟨Fs.take p.length, Fs.drop p.length, (List.take_append_drop _ _).symm, by rw [List.length_take]; omega⟩
  have hQ : Q.length = q.length := by rw [List.length_append] at hl; omega
  rw [List.pairwise_append] at hp
  obtain ⟨p1, p3, p4⟩ := hp
  have apG : ∀ g, g ∈ P ++ Q → Apart f g := fun g hg k hk hgk => ap k hk ((e2 k).2 ⟨g, hg, hgk⟩)
  refine ⟨P ++ f :: Q, by simp [hP, hQ], fun i y g hy hg => ?_, ?_, fun k => ?_⟩
  · rcases Nat.lt_trichotomy i p.length with hi | hi | hi
    · rw [List.getElem?_append_left hi] at hy
      rw [List.getElem?_append_left (by omega)] at hg
      exact ha i y g (by rw [List.getElem?_append_left hi]; exact hy) (by rw [List.getElem?_append_left (by omega)]; exact hg)
    · subst hi
      rw [List.getElem?_append_right (Nat.le_refl _), Nat.sub_self, List.getElem?_cons_zero] at hy
      rw [List.getElem?_append_right (by omega), hP, Nat.sub_self, List.getElem?_cons_zero] at hg
      cases hy; cases hg
      exact hx
    · rw [List.getElem?_append_right (by omega), show i - p.length = (i - 1 - p.length) + 1 by omega, List.getElem?_cons_succ] at hy
      rw [List.getElem?_append_right (by omega), hP, show i - p.length = (i - 1 - p.length) + 1 by omega, List.getElem?_cons_succ] at hg
      refine ha (i - 1) y g ?_ ?_
      · rw [List.getElem?_append_right (by omega)]; exact hy
      · rw [List.getElem?_append_right (by omega), hP]; exact hg
  · rw [List.pairwise_append, List.pairwise_cons]
    refine ⟨p1, ⟨fun g hg => apG g (List.mem_append_right _ hg), p3⟩, fun a ha b hb => ?_⟩
    rcases List.mem_cons.1 hb with rfl | hb
    · exact (apG a (List.mem_append_left _ ha)).symm
    · exact p4 a ha b hb
  · rw [e, e2]
    constructor
    · rintro (hk | ⟨g, hg, hk⟩)
      · exact ⟨f, by simp, hk⟩
      · refine ⟨g, ?_, hk⟩
        rcases List.mem_append.1 hg with hg | hg
        · exact List.mem_append_left _ hg
        · exact List.mem_append_right _ (List.mem_cons_of_mem _ hg)
    · rintro ⟨g, hg, hk⟩
      rcases List.mem_append.1 hg with hg | hg
      · exact .inr ⟨g, List.mem_append_left _ hg, hk⟩
      · rcases List.mem_cons.1 hg with rfl | hg
        · exact .inl hk
        · exact .inr ⟨g, List.mem_append_right _ hg, hk⟩
/-- Some of many. -/
theorem SepL.sub {l l' : List α} (hs : l'.Sublist l) : ∀ {F : Nat → Prop}, SepL A l w F → ∃ F', SepL A l' w F' ∧ ∀ k, F' k → F k := by
  induction hs with
  | slnil => exact fun h => ⟨_, h, fun _ => id⟩
  | cons a _ ih =>
    intro F h
    obtain ⟨f, G, _, hG, _, e⟩ := SepL.out (p := []) h
    obtain ⟨F', h', hs'⟩ := ih hG
    exact ⟨F', h', fun k hk => (e k).2 (.inr (hs' k hk))⟩
  | cons_cons a _ ih =>
    intro F h
    obtain ⟨f, G, hf, hG, ap, e⟩ := SepL.out (p := []) h
    obtain ⟨F', h', hs'⟩ := ih hG
    exact ⟨fun k => f k ∨ F' k, SepL.inn (p := []) ⟨f, F', hf, h', fun k h1 h2 => ap k h1 (hs' k h2), fun k => Iff.rfl⟩, fun k hk => (e k).2 (hk.imp id (hs' k))⟩
end
/-- Parted by what is so of each. -/
theorem SepL.part {α : Type} {A : α → World → (Nat → Prop) → Prop} {w : World} (f : α → Bool) : ∀ {l : List α} {F : Nat → Prop}, SepL A l w F → Sep (SepL A (l.filter f)) (SepL A (l.filter fun x => !f x)) w F
  | [], F, h => by
    obtain ⟨Fs, hl, _, _, e⟩ := h
    have : Fs = [] := List.eq_nil_of_length_eq_zero hl
    subst this
    exact ⟨fun _ => False, fun _ => False, SepL.nil w, SepL.nil w, fun _ q _ => q, fun k => by rw [e]; simp⟩
  | x :: l, F, h => by
    obtain ⟨f1, G, hx, hG, ap, e⟩ := SepL.out (p := []) h
    obtain ⟨G1, G2, h1, h2, ap2, e2⟩ := SepL.part f hG
    cases q : f x with
    | true =>
      rw [List.filter_cons_of_pos q, List.filter_cons_of_neg (by rw [q]; decide)]
      exact ⟨fun k => f1 k ∨ G1 k, G2, SepL.inn (p := []) ⟨f1, G1, hx, h1, fun k q1 q2 => ap k q1 ((e2 k).2 (.inl q2)), fun k => Iff.rfl⟩, h2, fun k q1 q2 => q1.elim (fun q1 => ap k q1 ((e2 k).2 (.inr q2))) (fun q1 => ap2 k q1 q2), fun k => by rw [e, e2, or_assoc]⟩
    | false =>
      rw [List.filter_cons_of_neg (by rw [q]; decide), List.filter_cons_of_pos (by rw [q]; rfl)]
      exact ⟨G1, fun k => f1 k ∨ G2 k, h1, SepL.inn (p := []) ⟨f1, G2, hx, h2, fun k q1 q2 => ap k q1 ((e2 k).2 (.inr q2)), fun k => Iff.rfl⟩, fun k q1 q2 => q2.elim (fun q2 => ap k q2 ((e2 k).2 (.inl q1))) (fun q2 => ap2 k q1 q2), fun k => by rw [e, e2]; exact ⟨fun h => h.elim (fun h => .inr (.inl h)) (fun h => h.elim .inl (fun h => .inr (.inr h))), fun h => h.elim (fun h => .inr (.inl h)) (fun h => h.elim .inl (fun h => .inr (.inr h)))⟩⟩
theorem Sep.weakL {A B C : Hp} {w : World} {F : Nat → Prop} (h : Sep A B w F) (f : ∀ F, A w F → ∃ F', C w F' ∧ ∀ k, F' k → F k) : ∃ F', Sep C B w F' ∧ ∀ k, F' k → F k := by
  obtain ⟨F1, F2, a, b, ap, e⟩ := h
  obtain ⟨F', c, hs⟩ := f F1 a
  exact ⟨fun k => F' k ∨ F2 k, ⟨F', F2, c, b, fun k h1 h2 => ap k (hs k h1) h2, fun k => Iff.rfl⟩, fun k hk => (e k).2 (hk.imp (hs k) id)⟩
section
variable {P : Program} {ops : Array Oper} {rest : List Oper} {o : Oper} {a : Act} {Q : Exit → Act → World → Prop} {w0 w : World} {L : List MBox} {A : Hp}
/-- A store into a block that the state knows whole. -/
theorem Hold.setB {t : TypeId} {p x : Operand} (hA : Foot A) (ho : o.op = .store t p x) (hgd : o.guard = none)
    {g off : Nat} (hp : a.eval p = .pointer (some ⟨g, off, none⟩)) {v : Value} (hx : a.eval x = v) {vs : List Value} (hv : v.cells = vs.toArray) {n : Nat} (hs : (P.info? t).map (·.size) = some n)
    {cs : List Value} {T : TypeId} (hm : Hold w0 w L (Sep (BlkF g cs T) A)) (hn : vs.length = n) (hfit : off + n ≤ cs.length) (h1 : vs.all (·.oneCell') = true)
    (h : ∀ w', Hold w0 w' L (Sep (BlkF g (cs.take off ++ vs ++ cs.drop (off + vs.length)) T) A) → Stay (wpList P ops Q rest (a.put o.dst undef) w')) : wpList P ops Q (o :: rest) a w := by
  have hc : P.cellsOf t = n := by
    unfold Program.cellsOf
    cases hi : P.info? t with
    | none => rw [hi] at hs; cases hs
    | some i => rw [hi] at hs; simpa using hs
  obtain ⟨F, ⟨F1, F2, ⟨hb, e1⟩, ha, ap, e⟩, h2, h3⟩ := hm.st
  have hvl : v.cells.toList = vs := by rw [hv]
  have hvs : v.cells.size = n := by rw [hv]; simpa using hn
  refine Box.store ho hgd hp hx hb ⟨by cases hi : P.info? t with
    | none => rw [hi] at hs; cases hs
    | some i => rfl, by rw [hc, hvs]⟩ (by rw [hvs]; simpa using hfit) (by rw [hvl]; exact fun u hu => by simpa using List.all_eq_true.1 h1 u hu) fun w' hb' hch => h w' ?_
  have hg : F1 g := (e1 g).2 rfl
  have hFg : F g := (e g).2 (.inl hg)
  refine ⟨hm.mem.chg hch (fun k hk q => by have q : k = g := q; subst q; have := h2 _ hFg; omega) (fun b hb q => by have q : b.1 = g := q; rw [← q] at hFg; exact h3 b hb hFg), F, ⟨F1, F2, ⟨by rw [hvl] at hb'; simpa using hb', e1⟩, hA.frame ha hch (fun k hk q => by have q : k = g := q; subst q; exact ap _ hg hk), ap, e⟩, h2, h3⟩
end
end Go

/- A map keyed by numbers as a state of its own: which keys it has, what lies there. No program is named here. -/
namespace Go.MapV
set_option linter.unusedVariables false
set_option linter.unusedSimpArgs false
open Go.Maps Go.RowKit

def keysM (l : List Int) (v : Int → Value) : Int → Option Value := fun x => if x ∈ l then some (v x) else none
theorem keysM_some (l : List Int) (v : Int → Value) (x : Int) : x ∈ l ↔ (keysM l v x).isSome = true := by
  unfold keysM
  split <;> simp_all
theorem keysM_in {l : List Int} {v : Int → Value} {x : Int} (h : x ∈ l) : onZ (keysM l v) (intK x) = some (v x) := by
  show keysM l v x = _
  unfold keysM; rw [if_pos h]
theorem keysM_out {l : List Int} {v : Int → Value} {x : Int} (h : x ∉ l) : onZ (keysM l v) (intK x) = none := by
  show keysM l v x = _
  unfold keysM; rw [if_neg h]
theorem onZ_same {g g' : Int → Option Value} (h : ∀ x, g' x = g x) : ∀ kl, onZ g' kl = onZ g kl := by
  have : g' = g := funext h
  subst this
  exact fun _ => rfl
/-- Block b is a map that has the keys of l, each once, and there what v says. -/
def MapL (P : Program) (k : TypeId) (w : World) (b : Nat) (l : List Int) (v : Int → Value) : Prop := l.Nodup ∧ MapB P k w b l.length (onZ (keysM l v))
def MapF (P : Program) (k : TypeId) (b : Nat) (l : List Int) (v : Int → Value) : Hp := fun w F => MapL P k w b l v ∧ ∀ j, F j ↔ j = b
section
variable {P : Program} {k t e : TypeId} {w w' : World} {b : Nat} {l l' : List Int} {v v' : Int → Value} {F : Nat → Prop}
theorem MapL.lt (h : MapL P k w b l v) : b < w.heap.size := h.2.lt
theorem MapL.chg {G : Nat → Prop} (h : MapL P k w b l v) (c : Chg G w w') (hg : ¬ G b) : MapL P k w' b l v := ⟨h.1, h.2.chg c hg⟩
theorem MapL.grow (h : MapL P k w b l v) (c : Grow.G w w') : MapL P k w' b l v := h.chg (Chg.grow (G := fun _ => False) c) id
theorem MapL.blk (h : MapL P k w b l v) (e : w'.heap[b]? = w.heap[b]?) : MapL P k w' b l v := ⟨h.1, h.2.blk e⟩
theorem MapF.foot (P : Program) (k : TypeId) (b : Nat) (l : List Int) (v : Int → Value) : Foot (MapF P k b l v) where
  lt := fun ⟨h, q⟩ j hj => by rw [(q j).1 hj]; exact h.lt
  frame := fun ⟨h, q⟩ c hs => ⟨h.chg c (hs b ((q b).2 rfl)), q⟩
/-- The same map, told otherwise. -/
theorem MapL.same (h : MapL P k w b l v) (hk : P.underlying k = some (.int .i64)) (hn : l'.Nodup) (hm : ∀ x, x ∈ l' ↔ x ∈ l) (hv : ∀ x, x ∈ l → v' x = v x) : MapL P k w b l' v' := by
  refine ⟨hn, (h.2.same (f' := onZ (keysM l' v')) (onZ_same fun x => ?_)).tightZ hk hn (keysM_some l' v')⟩
  unfold keysM
  by_cases hx : x ∈ l
  · rw [if_pos hx, if_pos ((hm x).2 hx), hv x hx]
  · rw [if_neg hx, if_neg fun q => hx ((hm x).1 q)]
theorem MapF.same (h : MapF P k b l v w F) (hk : P.underlying k = some (.int .i64)) (hn : l'.Nodup) (hm : ∀ x, x ∈ l' ↔ x ∈ l) (hv : ∀ x, x ∈ l → v' x = v x) : MapF P k b l' v' w F :=
  ⟨h.1.same hk hn hm hv, h.2⟩
theorem MapL.mapN (h : MapL P k w b l v) : MapN P k w (some b) l.length (onZ (keysM l v)) := h.2
/-- A step on one map of a state. -/
theorem hold_mapStep {w0 : World} {L : List MBox} {A : Hp} (hA : Foot A) (H : Hold w0 w L (Sep (MapF P k b l v) A)) (h : MapL P k w' b l' v') (c : Chg (fun j => j = b) w w') : Hold w0 w' L (Sep (MapF P k b l' v') A) :=
  H.step (Sep.stepL hA fun F ⟨_, q⟩ => ⟨F, ⟨h, q⟩, c.sub fun j e => (q j).2 e, Fresh.refl _ _⟩)
end
section
variable {P : Program} {ops : Array Oper} {rest : List Oper} {o : Oper} {a : Act} {Q : Exit → Act → World → Prop} {w0 w : World} {L : List MBox} {A : Hp} {k t e : TypeId} {b : Nat} {l : List Int} {v : Int → Value}
/-- Less in a map of a state. -/
theorem Hold.delF {m x : Operand} (hA : Foot A) (ho : o.op = Op.call { callee := Callee.builtin Builtin.delete, args := #[m, x], argTypes := #[t, k] }) (hg : o.guard = none) (ht : P.underlying t = some (.map k e)) (hk : P.underlying k = some (.int .i64)) (hm : a.eval m = .map (some b))
    (H : Hold w0 w L (Sep (MapF P k b l v) A)) {key : Int} (hx : a.eval x = .int .i64 key) (h1 : -9223372036854775808 ≤ key) (h2 : key ≤ 9223372036854775807)
    (l' : List Int) (v' : Int → Value) (hl : l'.Nodup) (hl' : ∀ z, z ∈ l' ↔ z ∈ l ∧ z ≠ key) (hv2 : ∀ z, z ∈ l' → v' z = v z)
    (K : ∀ w', Hold w0 w' L (Sep (MapF P k b l' v') A) → Stay (wpList P ops Q rest (a.put o.dst (.tuple #[])) w')) : wpList P ops Q (o :: rest) a w := by
  have hB := H.see fun F ⟨_, _, q, _⟩ => q.1
  refine del (mb := some b) (f' := onZ (keysM l' v')) ho hg (int_keyed hk) ht hm hB.mapN hx (keyZ hk h1 h2) (keysM_out fun q => ((hl' key).1 q).2 rfl) (onZ_ne fun z hz => ?_) fun w' M C => K w' (hold_mapStep hA H ⟨hl, MapB.tightZ (show MapB P k w' b l.length _ from M) hk hl (keysM_some l' v')⟩ (C.mono fun j _ e => Option.some.inj e))
  unfold keysM
  by_cases q : z ∈ l'
  · rw [if_pos q, if_pos ((hl' z).1 q).1, hv2 z q]
  · rw [if_neg q, if_neg fun r => q ((hl' z).2 ⟨r, hz⟩)]
/-- A new map. -/
theorem MapL.made (w : World) (P : Program) (k : TypeId) (v : Int → Value) : MapL P k (w.alloc (.map #[] 0)) w.heap.size [] v :=
  ⟨List.nodup_nil, (MapB.made w P k).same fun kl => by cases kl <;> first | rfl | (rename_i q z; cases q <;> rfl)⟩
end
end Go.MapV

/- A range over a function that keeps rows of its own and reads a state in between, while the caller's rounds write; it may itself hand on what another one hands it. No program is named here. -/
namespace Go.Iter
set_option linter.unusedVariables false
open Go.RowKit

theorem Book.mono {n n' : Nat} {A B : World} (h : Book n A B) (hn : n' ≤ n) : Book n' A B := ⟨h.os, h.tape, h.output, h.size, fun k o hk ho => h.same k o hk (ho.imp id fun q => by omega)⟩
theorem Rest.mono {n n' : Nat} {A B : World} (h : Rest n A B) (hn : n ≤ n') : Rest n' A B := ⟨h.size, fun k o hk ho q => h.same k o hk ho (by omega)⟩
theorem Rest.putObj {n k : Nat} {A : World} (o : Obj) (hk : k < n) : Rest n A (A.putObj k o) := ⟨by simp, fun j o2 hj _ hn => (World.putObj_heap_other (by omega)).trans hj⟩
/-- What an iterator promises that keeps blocks p of its own, laid since it began, and reads what Kp keeps: as long as each round of what may come is good, and leaves these alone, it comes to its end, or to where a round has said no more. -/
def SeqQ {α : Type} (P : Program) (gf : FuncId) (lb : Array Value) (encs : α → Array Value) (Ok : List α → α → World → Prop) (Kp : World → World → Prop) (S : List α → Prop) (w : World) : Prop :=
  ∀ (l : Nat) (J Jx : (Nat → Prop) → List α → World → Prop) (W : World), Grow.G w W → (∀ p s A B, J p s A → Book W.heap.size A B → J p s B) → (∀ p s A B, Jx p s A → Book W.heap.size A B → Jx p s B) →
    (∀ p pre x W1, J p pre W1 → Ok pre x W1 → YieldAt Fence.wide 0 P l (encs x) W1 fun e W' => (e = .returned (.bool true) ∧ J p (pre ++ [x]) W' ∧ (∀ k, p k → W'.heap[k]? = W1.heap[k]?) ∧ Kp W1 W' ∧ Rest W.heap.size W1 W') ∨ (e = .returned (.bool false) ∧ Jx p (pre ++ [x]) W' ∧ Rest W.heap.size W1 W')) →
    (∀ p W', Grow.G W W' → Prv W.heap.size p W' → J p [] W') → Calls P gf (#[.func (.yield l) #[] #[]] ++ lb) W fun e W' => (∃ v, e = .returned v) ∧ ∃ p, ((∃ xs, S xs ∧ J p xs W') ∨ (∃ pre, Jx p pre W'))
/-- How a round's body may be left. -/
def endPQ {α : Type} (n : Nat) (p : Nat → Prop) (Kp : World → World → Prop) (I : List α → World → Prop) (Ix : Code → List α → World → Prop) (xs : List α) (W : World) : Exit → Act → World → Prop
  | .normal, _, W' => Rest n W W' ∧ (∀ k, p k → W'.heap[k]? = W.heap[k]?) ∧ Kp W W' ∧ I xs W'
  | .ret, _, W' => Rest n W W' ∧ Ix .ret xs W'
  | .exit id, _, W' => Rest n W W' ∧ Ix (.exit id) xs W'
  | .goto t, _, W' => Rest n W W' ∧ Ix (.goto t) xs W'
  | .panic _, _, _ => False
  | .outgrown, _, _ => False

theorem rangeQ {α : Type} {P : Program} {g : Operand} {ps : Array Tmp} {assign body : Code} {Q : Exit → Act → World → Prop} {a : Act} {w w0 : World} {gf : FuncId} {lb : Array Value}
    {encs : α → Array Value} {Ok : List α → α → World → Prop} {Kp : World → World → Prop} {S : List α → Prop}
    (hg : a.eval g = .func (.func gf) #[] lb) (eg : ∀ args w, (callFunc gf args).run P w = .ok (.enter gf args) w)
    (hseq : SeqQ P gf lb encs Ok Kp S w0) (hw : Grow.G w0 w) (hps : ∀ x, (encs x).size = ps.size)
    (hOk : ∀ s x A B, Ok s x A → Book w.heap.size A B → Ok s x B)
    (hKt : ∀ {A B C : World}, Kp A B → Kp B C → Kp A C) (hKb : ∀ {A B : World}, Book w.heap.size A B → Kp A B)
    (I : (Nat → Prop) → List α → World → Prop) (Ix : (Nat → Prop) → Code → List α → World → Prop)
    (hI : ∀ p s A B, I p s A → Book w.heap.size A B → I p s B) (hIx : ∀ p c s A B, Ix p c s A → Book w.heap.size A B → Ix p c s B) (h0 : ∀ p W', Grow.G w W' → Prv w.heap.size p W' → I p [] W')
    (hround : ∀ (p : Nat → Prop) (l : Nat) (pre : List α) (x : α) (W : World), w.heap.size ≤ l → I p pre W → Ok pre x W → Prv w.heap.size p W →
      assign.wpIn (Fence.wide.inRound l) 0 P (Exit.then (fun a₁ W₁ => Grow.G W W₁ ∧ ∀ W₂, Book w.heap.size W₁ W₂ → Ok pre x W₂ → body.wpIn (Fence.wide.inRound l) 0 P (endPQ w.heap.size p Kp (I p) (Ix p) (pre ++ [x]) W₂) a₁ W₂) (fun _ _ _ => False))
        { tmps := (ps.zip (encs x)).foldl (fun t (p, v) => t.setIfInBounds p v) a.tmps, defers := [] } W)
    (hdone : ∀ (p : Nat → Prop) (xs : List α) (W : World), S xs → I p xs W → W.heap[w.heap.size]? = some (.deferred (some [])) → Q .normal { a with defers := { target := .collected w.heap.size, args := #[] } :: a.defers } W)
    (hstop : ∀ (p : Nat → Prop) (c : Code) (pre : List α) (W : World), Ix p c pre W → W.heap[w.heap.size]? = some (.deferred (some [])) → c.wpIn Fence.wide 0 P Q { a with defers := { target := .collected w.heap.size, args := #[] } :: a.defers } W) :
    (Code.rangeFunc g ps assign body).wpIn Fence.wide 0 P Q a w := by
  refine wpIn_rangeFunc ?_
  intro fn hfn
  obtain ⟨rec, hrec⟩ : ∃ rec : LoopState → Option Code → Loop, rec = fun st pe => { state := st, pending := pe, fn, tmps := a.tmps, params := ps, assign, body, defers := w.heap.size } := ⟨_, rfl⟩
  obtain ⟨W1, hW1⟩ : ∃ W1, (w.alloc (.deferred (some []))).alloc (.loop (rec .ready none)) = W1 := ⟨_, rfl⟩
  have hG : Grow.G w W1 := by rw [← hW1]; exact Grow.G.alloc (Grow.G.alloc (Grow.G.refl _) _) _
  have hsz : W1.heap.size = w.heap.size + 2 := by rw [← hW1]; simp
  have hL1 : W1.heap[w.heap.size + 1]? = some (.loop (rec .ready none)) := by
    rw [← hW1]; have := World.alloc_heap_new (w.alloc (.deferred (some []))) (.loop (rec .ready none)); rwa [World.size_alloc] at this
  have hK1 : W1.heap[w.heap.size]? = some (.deferred (some [])) := by
    rw [← hW1]; exact (Below.heap_alloc _ _ _ (by simp)).trans (World.alloc_heap_new w _)
  refine ⟨w.heap.size + 1, [{ target := .collected w.heap.size, args := #[] }], W1, { target := .fn (.func gf) lb, args := #[.func (.yield (w.heap.size + 1)) #[] #[]] }, W1, gf,
    #[.func (.yield (w.heap.size + 1)) #[] #[]] ++ lb, W1, ?_, ?_, ?_, ?_, (fun h => by simp [Fence.wide] at h), ?_⟩
  · rw [← hW1, hrec]; exact run_enterLoop_outer _ _ _ _ _
  · simp only [resolve, hg]
    simp [go_sem]
  · intro f' hf'; trivial
  · simp [invoke, go_sem, eg]
  · -- the iterator, at the caller's invariant and the book-keeping beside it
    refine callsIn_wide.2 ((hseq (w.heap.size + 1)
      (fun p pre W => I p pre W ∧ W.heap[w.heap.size + 1]? = some (.loop (rec .ready none)) ∧ W.heap[w.heap.size]? = some (.deferred (some [])) ∧ Prv w.heap.size p W)
      (fun p pre W => ∃ c, Ix p c pre W ∧ W.heap[w.heap.size + 1]? = some (.loop (rec .done (some c))) ∧ W.heap[w.heap.size]? = some (.deferred (some [])))
      W1 (hw.trans hG) ?_ ?_ ?_ ?_).mono ?_)
    · rintro p s A B ⟨h1, h2, h3, h4⟩ hb
      exact ⟨hI _ _ _ _ h1 (hb.mono hG.size), hb.same _ _ h2 (.inr (by omega)), hb.same _ _ h3 (.inr (by omega)), h4.book hb⟩
    · rintro p s A B ⟨c, h1, h2, h3⟩ hb
      exact ⟨c, hIx _ _ _ _ _ h1 (hb.mono hG.size), hb.same _ _ h2 (.inr (by omega)), hb.same _ _ h3 (.inr (by omega))⟩
    · -- one round
      rintro p pre x W ⟨hi, hl, hk, hpv⟩ hok
      have hy := run_yield (P := P) (args := encs x) hl (by rw [hrec]; exact hps x)
      rw [hrec] at hy
      refine ⟨fn, _, assign, body, hy, roundIn_of_wpIn hfn ?_⟩
      refine wpIn_mono (hround p _ pre x W (by omega) hi hok hpv) ?_
      rintro e a₁ W₁ hp
      cases e with
      | normal =>
        obtain ⟨hg1, hb⟩ := hp
        have hl1 : W₁.heap[w.heap.size + 1]? = some (.loop (rec .ready none)) := (hg1.block _ (Array.getElem?_eq_some_iff.1 hl).1).trans hl
        have hk1 : W₁.heap[w.heap.size]? = some (.deferred (some [])) := (hg1.block _ (Array.getElem?_eq_some_iff.1 hk).1).trans hk
        have hlt := (Array.getElem?_eq_some_iff.1 hl1).1
        refine ⟨_, run_beginRound hl1 (by rw [hrec]), ?_⟩
        have hbk : Book w.heap.size W₁ (W₁.putObj (w.heap.size + 1) (.loop { rec .ready none with state := .busy })) := Book.putObj _ hl1 rfl (by omega)
        have hl2 : (W₁.putObj (w.heap.size + 1) (.loop { rec .ready none with state := .busy })).heap[w.heap.size + 1]? = some (.loop { rec .ready none with state := .busy }) := World.putObj_heap_same hlt
        have hk2 : (W₁.putObj (w.heap.size + 1) (.loop { rec .ready none with state := .busy })).heap[w.heap.size]? = some (.deferred (some [])) := (World.putObj_heap_other (by omega)).trans hk1
        have hok2 := hOk _ _ _ _ hok ((Book.grow hg1).trans hbk)
        have hbk0 := (Book.grow (n := w.heap.size) hg1).trans hbk
        have hp0 := hpv.same hbk0
        have hpv2 := hpv.book hbk0
        have hkp := hKb hbk0
        have hr0 : Rest W1.heap.size W (W₁.putObj (w.heap.size + 1) (.loop { rec .ready none with state := .busy })) := (Rest.grow hg1).trans (Rest.putObj _ (by omega))
        refine wpIn_mono (hb _ hbk hok2) ?_
        have fin : ∀ (jump : Option Code) (W3 : World), Rest w.heap.size (W₁.putObj (w.heap.size + 1) (.loop { rec .ready none with state := .busy })) W3 →
            (Instr.endRound (w.heap.size + 1) jump).run P W3 = .ok (.bool jump.isNone) (W3.putObj (w.heap.size + 1) (.loop (rec (if jump.isNone then .ready else .done) jump))) ∧
            W3.heap[w.heap.size + 1]? = some (.loop { rec .ready none with state := .busy }) ∧
            (W3.putObj (w.heap.size + 1) (.loop (rec (if jump.isNone then .ready else .done) jump))).heap[w.heap.size + 1]? = some (.loop (rec (if jump.isNone then .ready else .done) jump)) ∧
            (W3.putObj (w.heap.size + 1) (.loop (rec (if jump.isNone then .ready else .done) jump))).heap[w.heap.size]? = some (.deferred (some [])) ∧
            Rest W1.heap.size W (W3.putObj (w.heap.size + 1) (.loop (rec (if jump.isNone then .ready else .done) jump))) := fun jump W3 hk3 => by
          have hl3 := hk3.same _ _ hl2 rfl (by omega)
          have := run_endRound (P := P) jump hl3
          rw [hrec] at this ⊢
          exact ⟨this, by rw [hrec] at hl3; exact hl3, World.putObj_heap_same (Array.getElem?_eq_some_iff.1 hl3).1, (World.putObj_heap_other (by omega)).trans (hk3.same _ _ hk2 rfl (by omega)), (hr0.trans (hk3.mono (by omega))).trans (Rest.putObj _ (by omega))⟩
        rintro e a3 W3 hp
        cases e with
        | normal =>
          obtain ⟨hk3, hkp3, hkq3, hi3⟩ := hp
          obtain ⟨hr, hl3, hl4, hk4, hr4⟩ := fin none W3 hk3
          have hb3 : Book w.heap.size W3 (W3.putObj (w.heap.size + 1) (.loop (rec .ready none))) := Book.putObj _ hl3 rfl (by omega)
          have hpv3 := hpv2.keep hkp3
          exact ⟨_, _, hr, .inl ⟨rfl, ⟨hI _ _ _ _ hi3 hb3, hl4, hk4, hpv3.book hb3⟩, (fun k hk => ((hpv3.same hb3 k hk).trans (hkp3 k hk)).trans (hp0 k hk)), hKt hkp (hKt hkq3 (hKb hb3)), hr4⟩⟩
        | ret =>
          obtain ⟨hk3, hi3⟩ := hp
          obtain ⟨hr, hl3, hl4, hk4, hr4⟩ := fin (some .ret) W3 hk3
          exact ⟨_, _, hr, .inr ⟨rfl, ⟨.ret, hIx _ _ _ _ _ hi3 (Book.putObj _ hl3 rfl (by omega)), hl4, hk4⟩, hr4⟩⟩
        | exit id =>
          obtain ⟨hk3, hi3⟩ := hp
          obtain ⟨hr, hl3, hl4, hk4, hr4⟩ := fin (some (.exit id)) W3 hk3
          exact ⟨_, _, hr, .inr ⟨rfl, ⟨.exit id, hIx _ _ _ _ _ hi3 (Book.putObj _ hl3 rfl (by omega)), hl4, hk4⟩, hr4⟩⟩
        | goto t =>
          obtain ⟨hk3, hi3⟩ := hp
          obtain ⟨hr, hl3, hl4, hk4, hr4⟩ := fin (some (.goto t)) W3 hk3
          exact ⟨_, _, hr, .inr ⟨rfl, ⟨.goto t, hIx _ _ _ _ _ hi3 (Book.putObj _ hl3 rfl (by omega)), hl4, hk4⟩, hr4⟩⟩
        | panic ch => exact hp.elim
        | outgrown => exact hp.elim
      | ret => exact hp.elim
      | exit id => exact hp.elim
      | goto t => exact hp.elim
      | panic ch => exact hp.elim
      | outgrown => exact hp.elim
    · intro p W' hg' hpv
      have hpv := hpv.mono (n' := w.heap.size) hG.size
      exact ⟨h0 p W' (hG.trans hg') hpv, (hg'.block _ (Array.getElem?_eq_some_iff.1 hL1).1).trans hL1, (hg'.block _ (Array.getElem?_eq_some_iff.1 hK1).1).trans hK1, hpv⟩
    · -- behind the iterator
      rintro e W2 ⟨⟨v, rfl⟩, p, (⟨xs, hS, hi, hl, hk, _⟩ | ⟨pre, c, hi, hl, hk⟩)⟩
      · exact ⟨none, _, by have := run_endLoop (P := P) hl (by rw [hrec]; simp); rw [hrec] at this; exact this,
          hdone p xs _ hS (hI _ _ _ _ hi (Book.putObj _ hl rfl (by omega))) ((World.putObj_heap_other (by omega)).trans hk)⟩
      · exact ⟨some c, _, by have := run_endLoop (P := P) hl (by rw [hrec]; simp); rw [hrec] at this; exact this,
          hstop p c pre _ (hIx _ _ _ _ _ hi (Book.putObj _ hl rfl (by omega))) ((World.putObj_heap_other (by omega)).trans hk)⟩
end Go.Iter

/- As Tail, quicker to check, guards among the operations: the first m operations of a region that draws its order as anywhere, the others, which wait for them all, in their order. No program is named here. -/
namespace Go.TailG
set_option linter.unusedVariables false
set_option linter.unusedSimpArgs false
open Go.RowKit
open Go.Evo (deps clos Closed clos_listed mem_deps closed_set)

def guardB (ops : Array Oper) (i : Nat) : Bool := match ops[i]? with
  | some o => (match o.guard with | none => true | some (j, _) => decide (j < i))
  | none => true
def okG (md : Region.Mode) (ops : Array Oper) (m : Nat) : Bool :=
  decide (m < ops.size) && ((List.range ops.size).all fun i => ((deps md ops i).all fun k => decide (k < i)) && guardB ops i) &&
  ((List.range m).all fun j => (clos md ops 12 (deps md ops m)).contains j) && ((List.range (ops.size - m - 1)).all fun j => (deps md ops (m + j + 1)).contains (m + j))
section
variable {P : Program} {ops : Array Oper} {Q : Exit → Act → World → Prop} {n m : Nat} {md : Region.Mode}
theorem okG_m (h : okG md ops m = true) : m < ops.size := by
  simp only [okG, Bool.and_eq_true, decide_eq_true_eq] at h; exact h.1.1.1
theorem okG_dep (h : okG md ops m = true) {i k : Nat} (hi : i < ops.size) (hk : k ∈ deps md ops i) : k < i := by
  simp only [okG, Bool.and_eq_true] at h
  have := List.all_eq_true.1 h.1.1.2 i (List.mem_range.2 hi)
  rw [Bool.and_eq_true] at this
  simpa using List.all_eq_true.1 this.1 k hk
theorem okG_guard (h : okG md ops m = true) {i : Nat} {o : Oper} (ho : ops[i]? = some o) {j : Nat} {b : Bool} (hg : o.guard = some (j, b)) : j < i := by
  simp only [okG, Bool.and_eq_true] at h
  have := List.all_eq_true.1 h.1.1.2 i (List.mem_range.2 (Array.getElem?_eq_some_iff.1 ho).1)
  rw [Bool.and_eq_true] at this
  have h2 := this.2
  unfold guardB at h2
  rw [ho] at h2
  simp only [hg, decide_eq_true_eq] at h2
  exact h2
theorem okG_all (h : okG md ops m = true) {j : Nat} (hj : j < m) : j ∈ clos md ops 12 (deps md ops m) := by
  simp only [okG, Bool.and_eq_true] at h
  simpa using List.all_eq_true.1 h.1.2 j (List.mem_range.2 hj)
theorem okG_next (h : okG md ops m = true) {i : Nat} (h1 : m < i) (h2 : i < ops.size) : i - 1 ∈ deps md ops i := by
  simp only [okG, Bool.and_eq_true] at h
  have := List.all_eq_true.1 h.2 (i - m - 1) (List.mem_range.2 (by omega))
  rw [show m + (i - m - 1) + 1 = i by omega, show m + (i - m - 1) = i - 1 by omega] at this
  simpa using this
theorem dep_mem {o : Oper} {i : Nat} (ho : ops[i]? = some o) {e : Edge} (he : e ∈ o.after) (hb : Region.binds md e = true) : e.on ∈ deps md ops i := by
  unfold Evo.deps
  rw [ho]
  exact List.mem_map.2 ⟨e, List.mem_filter.2 ⟨by simpa using he, hb⟩, rfl⟩
/-- One whose deps are all done, and which is not, may be chosen. -/
theorem ready_of {listed : Array Bool} {i : Nat} {o : Oper} (ho : ops[i]? = some o) (hu : listed.getD i true = false) (hd : ∀ k, k ∈ deps md ops i → listed.getD k false = true) : i ∈ Region.ready md ops listed :=
  mem_ready.2 ⟨hu, o, ho, fun e he hb => hd _ (dep_mem ho he hb)⟩
theorem getD_lo {L : List Bool} {r i : Nat} (h : i < L.length) (b : Bool) : (L ++ List.replicate r false).toArray.getD i b = L[i] := by
  rw [Array.getD_eq_getD_getElem?, List.getElem?_toArray, List.getElem?_append_left h, List.getElem?_eq_getElem h]; rfl
theorem getD_hi {L : List Bool} {r i : Nat} (h1 : L.length ≤ i) (h2 : i < L.length + r) (b : Bool) : (L ++ List.replicate r false).toArray.getD i b = false := by
  rw [Array.getD_eq_getD_getElem?, List.getElem?_toArray, List.getElem?_append_right h1, List.getElem?_replicate, if_pos (by omega)]; rfl
theorem take_at {i : Nat} (h : i < m) : (ops.toList.take m).toArray[i]? = ops[i]? := by
  rw [List.getElem?_toArray, List.getElem?_take, if_pos h]; simp
theorem wanted_take (hb : okG md ops m = true) {i : Nat} {o : Oper} (ho : ops[i]? = some o) (hi : i < m) (t : Array Value) : Region.wanted o (yielded (ops.toList.take m).toArray t) = Region.wanted o (yielded ops t) := by
  unfold Region.wanted
  cases hg : o.guard with
  | none => rfl
  | some q =>
    obtain ⟨j, b⟩ := q
    have := okG_guard hb ho hg
    show (yielded _ t j == some b) = (yielded _ t j == some b)
    unfold yielded
    rw [take_at (by omega)]
theorem least_false : ∀ (L : List Bool), 0 < L.count false → ∃ i, ∃ h : i < L.length, L[i] = false ∧ ∀ j (hj : j < i), L[j]'(by omega) = true
  | [], h => by simp at h
  | false :: L, _ => ⟨0, by simp, rfl, fun j hj => by omega⟩
  | true :: L, h => by
    rw [List.count_cons] at h
    obtain ⟨i, hi, e, ha⟩ := least_false L (by simpa using h)
    refine ⟨i + 1, by simpa using hi, by simpa using e, fun j hj => ?_⟩
    cases j with
    | zero => rfl
    | succ j => simpa using ha j (by omega)
/-- The last ones, in their order. -/
theorem forced (hb : okG md ops m = true) : ∀ (t j : Nat) (a : Act) (w : World), m + j + t = ops.size → wpListIn Fence.wide n P ops Q (ops.toList.drop (m + j)) a w →
    wpAnyIn Fence.wide n P md ops Q t (List.replicate (m + j) true ++ List.replicate t false).toArray a w
  | 0, j, a, w, ht, h => by
    rw [List.drop_eq_nil_of_le (by simp; omega)] at h
    refine ⟨?_, h⟩
    refine List.eq_nil_iff_forall_not_mem.2 fun i hi => ?_
    obtain ⟨hu, o, ho, _⟩ := mem_ready.1 hi
    have hlt := (Array.getElem?_eq_some_iff.1 ho).1
    rw [getD_lo (by simp; omega)] at hu
    simp at hu
  | t + 1, j, a, w, ht, h => by
    have hlt : m + j < ops.size := by omega
    have ho : ops[m + j]? = some ops[m + j] := Array.getElem?_eq_getElem hlt
    have hrd : m + j ∈ Region.ready md ops (List.replicate (m + j) true ++ List.replicate (t + 1) false).toArray := by
      refine ready_of ho (getD_hi (by simp) (by simp) true) fun k hk => ?_
      have := okG_dep hb hlt hk
      rw [getD_lo (by simpa using this)]
      simp
    have hun : ∀ i, i ∈ Region.ready md ops (List.replicate (m + j) true ++ List.replicate (t + 1) false).toArray → i = m + j := fun i hi => by
      obtain ⟨hu, o, ho', _⟩ := mem_ready.1 hi
      have hil := (Array.getElem?_eq_some_iff.1 ho').1
      rcases Nat.lt_trichotomy i (m + j) with q | q | q
      · rw [getD_lo (by simpa using q)] at hu; simp at hu
      · exact q
      · have h1 := mem_deps hi _ (okG_next hb (by omega) hil)
        rw [getD_hi (by simp; omega) (by simp; omega)] at h1; cases h1
    unfold wpAnyIn
    refine ⟨fun e => (by rw [e] at hrd; cases hrd), fun i hi => ?_⟩
    obtain rfl := hun i hi
    have hl : ops.toList.drop (m + j) = ops[m + j] :: ops.toList.drop (m + (j + 1)) := by
      rw [List.drop_eq_getElem_cons (by simpa using hlt)]
      simp [Nat.add_assoc]
    rw [hl] at h
    have hs : ((List.replicate (m + j) true ++ List.replicate (t + 1) false).toArray.setIfInBounds (m + j) true) = (List.replicate (m + (j + 1)) true ++ List.replicate t false).toArray := by
      rw [List.setIfInBounds_toArray, List.set_append_right _ _ (by simp), List.length_replicate, Nat.sub_self, List.replicate_succ, List.set_cons_zero, ← Nat.add_assoc, List.replicate_succ', List.append_assoc]
      rfl
    unfold wpListIn at h
    unfold wpOpIn
    simp only [ho]
    rw [hs]
    split at h
    · rename_i hw
      rw [if_pos hw]
      exact Oper.wpIn_mono (fun a' w' h' => forced hb t (j + 1) a' w' (by omega) h') h
    · rename_i hw
      rw [if_neg hw]
      exact ⟨h.1, forced hb t (j + 1) _ w (by omega) h.2⟩
theorem front (hb : okG md ops m = true) (hd : Round.noDefer ops = true) : ∀ (fuel : Nat) (L : List Bool) (a : Act) (w : World), L.length = m → L.count false = fuel → Closed md ops (L ++ List.replicate (ops.size - m) false).toArray →
    wpAny P md (ops.toList.take m).toArray (Round.Calm (Tail.next n P ops m Q)) fuel L.toArray a w → wpAnyIn Fence.wide n P md ops Q (fuel + (ops.size - m)) (L ++ List.replicate (ops.size - m) false).toArray a w
  | 0, L, a, w, hL, hc, _, h => by
    have hm := okG_m hb
    have h2 : Tail.next n P ops m Q .normal a w := h.2
    rw [Tail.count_zero L hc, hL, Nat.zero_add]
    exact forced hb (ops.size - m) 0 a w (by omega) h2
  | fuel + 1, L, a, w, hL, hc, hcl, h => by
    have hm := okG_m hb
    obtain ⟨i0, hi0, e0, hb0⟩ := least_false L (by omega)
    have hlow : ∀ i, i ∈ Region.ready md ops (L ++ List.replicate (ops.size - m) false).toArray → i < m := fun i hi => by
      obtain ⟨hu, o, ho', _⟩ := mem_ready.1 hi
      have hil := (Array.getElem?_eq_some_iff.1 ho').1
      rcases Nat.lt_trichotomy i m with q | q | q
      · exact q
      · exfalso
        subst q
        have h1 := clos_listed hcl 12 _ (mem_deps hi) i0 (okG_all hb (by omega))
        rw [getD_lo hi0, e0] at h1; cases h1
      · exfalso
        have h1 := mem_deps hi _ (okG_next hb q hil)
        rw [getD_hi (by omega) (by omega)] at h1; cases h1
    have hne : Region.ready md ops (L ++ List.replicate (ops.size - m) false).toArray ≠ [] := fun e => by
      have : i0 ∈ Region.ready md ops (L ++ List.replicate (ops.size - m) false).toArray := by
        refine ready_of (Array.getElem?_eq_getElem (by omega)) (by rw [getD_lo hi0]; exact e0) fun k hk => ?_
        have := okG_dep hb (by omega) hk
        rw [getD_lo (by omega)]
        exact hb0 k this
      rw [e] at this; cases this
    rw [show fuel + 1 + (ops.size - m) = (fuel + (ops.size - m)) + 1 by omega]
    unfold wpAnyIn
    refine ⟨fun e => (hne e).elim, fun i hi => ?_⟩
    have him := hlow i hi
    obtain ⟨hun, oi, hoi, hall⟩ := mem_ready.1 hi
    have hil : i < L.length := by omega
    rw [getD_lo hil] at hun
    have hi' : i ∈ Region.ready md (ops.toList.take m).toArray L.toArray := by
      refine mem_ready.2 ⟨by rw [Array.getD_eq_getD_getElem?, List.getElem?_toArray, List.getElem?_eq_getElem hil, hun]; rfl, oi, by rw [take_at him]; exact hoi, fun e he hbi => ?_⟩
      have h1 := hall e he hbi
      have h2 := okG_dep hb (by omega) (dep_mem hoi he hbi)
      rw [getD_lo (by omega)] at h1
      rw [Array.getD_eq_getD_getElem?, List.getElem?_toArray, List.getElem?_eq_getElem (by omega), h1]; rfl
    have h1 := h.2 i hi'
    have hcs := Tail.count_set L i (by rw [List.getElem?_eq_getElem hil, hun])
    have hset := Tail.set_at L (List.replicate (ops.size - m) false) i hil
    have hcl2 := closed_set hcl hi
    rw [hset] at hcl2
    unfold wpOp at h1
    unfold wpOpIn
    rw [take_at him] at h1
    simp only [hoi] at h1 ⊢
    rw [wanted_take hb hoi him] at h1
    split at h1
    · rename_i hw
      rw [if_pos hw]
      rcases h1 with h1 | ⟨_, h1⟩
      · refine Tail.op_wide (Round.noDefer_at hd hoi) (fun a' w' h' => ?_) h1
        rw [hset]
        refine front hb hd fuel (L.set i true) a' w' (by simpa using hL) (by omega) hcl2 ?_
        rwa [List.setIfInBounds_toArray] at h'
      · exact (Round.no_lets h1).elim
    · rename_i hw
      rw [if_neg hw, hset]
      refine ⟨fun _ _ => trivial, front hb hd fuel (L.set i true) _ w (by simpa using hL) (by omega) hcl2 ?_⟩
      rwa [List.setIfInBounds_toArray] at h1
/-- The whole region. -/
theorem region (m : Nat) {id : Nat} {a : Act} {w : World} {S E : World → World → Prop} {ℓ : Option Nat} (hm : P.follows .mixedOrders = true) (hd : Round.noDefer ops = true) (hb : okG .any ops m = true)
    (ok : Evo2.Okay P S E .any (ops.toList.take m).toArray (Round.Calm (Tail.next n P ops m Q)) ℓ)
    (h : Evo2.Okay P S E .any (ops.toList.take m).toArray (Round.Calm (Tail.next n P ops m Q)) ℓ → Evo2.wpX P S E .any (ops.toList.take m).toArray (Round.Calm (Tail.next n P ops m Q)) ℓ m (Array.replicate m false) a w) : (Code.region id ops true).wpIn Fence.wide n P Q a w := by
  refine wpIn_region_any hm ?_
  have hs := okG_m hb
  have h1 := Evo2.wpX.any ok.pre _ _ _ _ ((h ok).mono ok.pre (ok.pre.drawn w))
  have e1 : m + (ops.size - m) = ops.size := by omega
  have e2 : (List.replicate m false ++ List.replicate (ops.size - m) false).toArray = Array.replicate ops.size false := by
    rw [List.replicate_append_replicate, e1, List.toArray_replicate]
  have h2 := front (Q := Q) (n := n) hb hd m (List.replicate m false) a { w with drawn := w.drawn + 1 } (by simp) (by simp) (fun j hj => by
    exfalso
    rw [e2, Array.getD_eq_getD_getElem?, Array.getElem?_replicate] at hj
    split at hj <;> cases hj) (by rw [List.toArray_replicate]; exact h1)
  rw [e1, e2] at h2
  exact h2
theorem regionL (m : Nat) {l : List Oper} {id : Nat} {a : Act} {w : World} {S E : World → World → Prop} {ℓ : Option Nat} (hm : P.follows .mixedOrders = true) (hd : Round.noDefer l.toArray = true) (hb : okG .any l.toArray m = true)
    (ok : Evo2.Okay P S E .any (l.take m).toArray (Round.Calm (Tail.next n P l.toArray m Q)) ℓ)
    (h : Evo2.Okay P S E .any (l.take m).toArray (Round.Calm (Tail.next n P l.toArray m Q)) ℓ → Evo2.wpX P S E .any (l.take m).toArray (Round.Calm (Tail.next n P l.toArray m Q)) ℓ m (Array.replicate m false) a w) : (Code.region id l.toArray true).wpIn Fence.wide n P Q a w := by
  exact region (ops := l.toArray) m hm hd hb ok h
end
end Go.TailG

/- Maps looked up in a fence. No program is named here. -/
namespace Go.MapV
set_option linter.unusedVariables false
open Go.Maps Go.RowKit
section
variable {F : Fence} {nF : Nat} {P : Program} {w : World} {ops : Array Oper} {rest : List Oper} {o : Oper} {a : Act} {Q : Exit → Act → World → Prop} {t k e : TypeId} {m x : Operand} {n : Nat} {f : Lit → Option Value} {mb : Option Nat}
theorem look1v_in (v : Value) (ho : o.op = Op.lookup t m x false) (hg : o.guard = none) (K : Keyed P k) (ht : P.underlying t = some (.map k e)) {z : Value} (hz : ∀ w, (zeroValue e).run P w = .ok z w) (hm : a.eval m = .map mb) (h : MapN P k w mb n f)
    {key : Value} (hx : a.eval x = key) {kl : Lit} (hkey : keyOf P k key = some kl) (hv : (f kl).getD z = v) (hK : wpListIn F nF P ops Q rest (a.put o.dst v) w) : wpListIn F nF P ops Q (o :: rest) a w := by
  subst hv
  refine wpListIn_plain hg fun K' hK' => ?_
  unfold Oper.wpIn
  refine ⟨by simp [Oper.about, ho], ?_⟩
  rw [Oper.semAt_plain F _ _ (by rw [ho]; intro c hc'; cases hc')]
  simp [execOp, ho, hm, hx, (run_look h K ht (hz w) hkey).2, Result.andThen]
  exact hK' _ _ hK
end
end Go.MapV

/- A world that has grown out of another one, some draws on: as the library's sort asks it of a comparison. No program is named here. -/
namespace Go
set_option linter.unusedVariables false
open Go.RowKit
def GD (w w' : World) : Prop := Grow.G w w' ∧ w.drawn ≤ w'.drawn
namespace GD
theorem refl (w : World) : GD w w := ⟨Grow.G.refl w, Nat.le_refl _⟩
theorem trans {a b c : World} (h : GD a b) (k : GD b c) : GD a c := ⟨h.1.trans k.1, Nat.le_trans h.2 k.2⟩
theorem alloc (w : World) (o : Obj) : GD w (w.alloc o) := ⟨Grow.G.alloc (Grow.G.refl w) o, Nat.le_refl _⟩
theorem pre : Evo2.Pre GD GD := ⟨refl, trans, trans, fun h => h, fun w => ⟨Grow.G.drawn _, Nat.le_succ _⟩⟩
theorem same {P : Program} {f : FuncId} {args : Array Value} {w : World} {r : Ending} (h : Calls P f args w fun e w' => e = r ∧ w' = w) : Calls P f args w fun e w' => e = r ∧ GD w w' :=
  h.mono fun e w' ⟨q1, q2⟩ => ⟨q1, q2 ▸ refl w⟩
theorem grown {w w' : World} (h : GD w w') : ∃ q os, w' = Go.Sort.grow (w.drewN q) os := by
  obtain ⟨g, hd⟩ := h
  refine ⟨w'.drawn - w.drawn, w'.heap.extract w.heap.size w'.heap.size, ?_⟩
  have e1 : w'.heap = w.heap ++ w'.heap.extract w.heap.size w'.heap.size := by
    apply Array.ext_getElem?
    intro i
    rcases Nat.lt_or_ge i w.heap.size with h | h
    · rw [Array.getElem?_append_left h]; exact g.block i h
    · rw [Array.getElem?_append_right h, Array.getElem?_extract]
      have := g.size
      by_cases q : i < w'.heap.size
      · rw [if_pos (by omega)]; congr 1; omega
      · rw [if_neg (by omega), Array.getElem?_eq_none (by omega)]
  have e2 : w.drawn + (w'.drawn - w.drawn) = w'.drawn := by omega
  unfold Go.Sort.grow World.drewN
  rw [e2]
  show w' = World.mk (w.heap ++ w'.heap.extract w.heap.size w'.heap.size) w.tape w'.drawn w.os w.output
  rw [← e1, ← g.tape, ← g.os, ← g.output]
end GD
end Go

/- A row of structs of a call's own, sorted by the library: what lies there then. No program is named here. -/
namespace Go.SortRow
set_option linter.unusedVariables false
set_option linter.unusedSimpArgs false
open Go.RowKit
open Go.Sort (flatK size_flatK get_flatK setMany get_setMany size_setMany ext_get! putRowK HoldsK putRow putRow_self setCells_putRow grow SWO PermIn SortedIn)

section
variable {α : Type} [Inhabited α] {enc : α → List Value} {k : Nat}
omit [Inhabited α] in
theorem flat_len (hk : ∀ x, (enc x).length = k) : ∀ l : List α, (l.flatMap enc).length = l.length * k
  | [] => by simp
  | x :: l => by rw [List.flatMap_cons, List.length_append, hk, flat_len hk l, List.length_cons, Nat.succ_mul]; omega
theorem flat_list (hk : ∀ x, (enc x).length = k) (d : Array α) : (flatK enc k d).toList = d.toList.flatMap enc := by
  refine List.ext_getElem? fun t => ?_
  rcases Nat.lt_or_ge t (d.size * k) with h | h
  · have hk0 : 0 < k := by
      rcases Nat.eq_zero_or_pos k with e | e
      · rw [e, Nat.mul_zero] at h; omega
      · exact e
    have h1 : t / k < d.size := (Nat.div_lt_iff_lt_mul hk0).2 h
    have h2 : t % k < k := Nat.mod_lt _ hk0
    have e1 : (flatK enc k d)[t]? = some ((enc d[t / k]!)[t % k]!) := by
      rw [← get_flatK enc k d t h, Array.getElem?_eq_getElem (by rw [size_flatK]; exact h), getElem!_pos _ _ (by rw [size_flatK]; exact h)]
    have e2 : (enc d[t / k]!)[t % k]? = some ((enc d[t / k]!)[t % k]!) := by
      rw [getElem!_pos (enc d[t / k]!) (t % k) (by rw [hk]; exact h2), List.getElem?_eq_getElem]
    have e3 : d.toList[t / k]? = some d[t / k]! := by
      rw [getElem!_pos d _ h1, Array.getElem?_toList, Array.getElem?_eq_getElem h1]
    have e4 := flat_at hk e2 e3
    rw [Nat.mul_comm, Nat.div_add_mod] at e4
    rw [e4, Array.getElem?_toList, e1]
  · rw [List.getElem?_eq_none (by rw [Array.length_toList, size_flatK]; exact h), List.getElem?_eq_none (by rw [flat_len hk, Array.length_toList]; exact h)]
theorem own_setCells {base e sz n c g : Nat} : ∀ (vs : List Value) (s : Nat) {w : World} {xs : List Value}, w.ownsRow base e sz (.slice (some ⟨g, 0, none⟩) n c) n xs → s + vs.length ≤ xs.length →
    (w.setCells g s vs).ownsRow base e sz (.slice (some ⟨g, 0, none⟩) n c) n (xs.take s ++ vs ++ xs.drop (s + vs.length)) ∧ Chg (fun j => j = g) w (w.setCells g s vs)
  | [], s, w, xs, h, _ => ⟨by simpa [World.setCells] using h, Chg.refl _ _⟩
  | v :: r, s, w, xs, h, hs => by
    have hs' : s < xs.length := by simp at hs; omega
    obtain ⟨q1, q2⟩ := own_setCells r (s + 1) (own_set h hs' v) (by rw [List.length_set]; simp at hs; omega)
    refine ⟨?_, (Chg.setCell (G := fun j => j = g) (Chg.refl _ _) (fun _ => rfl) s v).trans q2⟩
    have e1 : (xs.set s v).take (s + 1) = xs.take s ++ [v] := by
      rw [List.set_eq_take_append_cons_drop, if_pos hs', List.take_append, List.length_take, Nat.min_eq_left (Nat.le_of_lt hs'), List.take_of_length_le (by rw [List.length_take]; omega), show s + 1 - s = 1 by omega]
      simp
    have e2 : (xs.set s v).drop (s + 1 + r.length) = xs.drop (s + (v :: r).length) := by
      rw [List.drop_set_of_lt (by omega), List.length_cons]
      congr 1; omega
    rw [e1, e2, List.append_assoc] at q1
    simpa [World.setCells] using q1
theorem setMany_all {F : Array Value} {vs : List Value} (h : vs.length = F.size) : setMany F 0 vs = vs.toArray := by
  refine ext_get! (by rw [size_setMany]; simp [h]) fun t ht => ?_
  rw [size_setMany] at ht
  rw [get_setMany vs 0 F t ht, if_pos ⟨Nat.zero_le _, by omega⟩]
  simp
/-- What a sort leaves: the row holds the elements so, nothing else is turned. -/
theorem own_sorted {w : World} {base e n c g : Nat} (hk : ∀ x, (enc x).length = k) {d d' : Array α} (h : w.ownsRow base e k (.slice (some ⟨g, 0, none⟩) n c) n (d.toList.flatMap enc)) (hs : d'.size = d.size) (m : Nat) (os : Array Obj) :
    (Go.Proofs.sortWorldK enc k w g 0 m d' os).ownsRow base e k (.slice (some ⟨g, 0, none⟩) n c) n (d'.toList.flatMap enc) ∧ Chg (fun j => j = g) w (Go.Proofs.sortWorldK enc k w g 0 m d' os) := by
  have hlen : (d'.toList.flatMap enc).length = (d.toList.flatMap enc).length := by rw [flat_len hk, flat_len hk, Array.length_toList, Array.length_toList, hs]
  have g0 : Grow.G w (Go.Sort.ahead w m) := Grow.G.drawn _
  have h1 := (Chg.grow (G := fun _ => False) g0).own h (fun _ _ => id)
  have hH : Go.Sort.Holds id (Go.Sort.ahead w m) g 0 (flatK enc k d) := fun j hj => by
    rw [Nat.zero_add]
    refine ⟨own_cell h1 ?_, own_free h1 j⟩
    rw [← flat_list hk, Array.getElem?_toList, Array.getElem?_eq_getElem hj, getElem!_pos (flatK enc k d) j hj]; rfl
  obtain ⟨q1, q2⟩ := own_setCells (d'.toList.flatMap enc) 0 h1 (by omega)
  have hF : (d'.toList.flatMap enc).length = (flatK enc k d).size := by rw [hlen, ← flat_list hk, Array.length_toList]
  have e0 := setCells_putRow (Go.Sort.ahead w m) g 0 (d'.toList.flatMap enc) 0 (flatK enc k d) (by omega)
  rw [putRow_self id _ g 0 _ hH, setMany_all hF, Nat.add_zero] at e0
  have e2 : (d'.toList.flatMap enc).toArray = flatK enc k d' := by rw [← flat_list hk]
  rw [e2] at e0
  rw [e0, List.take_zero, List.nil_append, Nat.zero_add, hlen, List.drop_length, List.append_nil] at q1
  rw [e0] at q2
  have g1 : Grow.G (putRowK enc k (Go.Sort.ahead w m) g 0 d') (Go.Proofs.sortWorldK enc k w g 0 m d' os) :=
    ⟨rfl, rfl, rfl, by show _ ≤ (grow _ os).heap.size; rw [Go.Sort.size_grow]; omega, fun j hj => by
      show (_ ++ os)[j]? = _
      exact Array.getElem?_append_left hj⟩
  exact ⟨(Chg.grow (G := fun _ => False) g1).own q1 (fun _ _ => id), (Chg.grow g0).trans (q2.trans (Chg.grow g1))⟩
/-- A permutation, sorted, as lists. -/
theorem perm_list {d d' : Array α} (h : PermIn 0 d.size d d') : d'.toList.Perm d.toList := by
  obtain ⟨hs, _, hp⟩ := h
  rw [show d'.extract 0 d.size = d' by rw [← hs]; exact Array.extract_size, Array.extract_size] at hp
  exact hp
theorem sorted_list {lt : α → α → Bool} {d : Array α} (h : SortedIn lt 0 d.size d) : d.toList.Pairwise fun a b => lt b a = false := by
  rw [List.pairwise_iff_getElem]
  intro i j hi hj hij
  rw [Array.length_toList] at hi hj
  have := h i j (Nat.zero_le _) hij hj
  rw [getElem!_pos d i hi, getElem!_pos d j hj] at this
  simpa using this
end
end Go.SortRow

/- A held state with the footprint of its first part named, for regions that draw their order. No program is named here. -/
namespace Go
set_option linter.unusedVariables false
open Go.RowKit

structure HoldL (w0 w : World) (L : List MBox) (A B : Hp) (F1 : Nat → Prop) : Prop where
  mem : Mem w0 w L
  a : A w F1
  st : ∃ F2, B w F2 ∧ Apart F1 F2 ∧ (∀ k, F1 k ∨ F2 k → w0.heap.size ≤ k) ∧ ∀ b ∈ L, ¬ F1 b.1 ∧ ¬ F2 b.1
section
variable {P : Program} {f : FuncId} {args : Array Value} {w0 w w' : World} {L : List MBox} {A A' B : Hp} {F1 : Nat → Prop}
theorem Hold.namedL (h : Hold w0 w L (Sep A B)) : ∃ F1, HoldL w0 w L A B F1 := by
  obtain ⟨F, ⟨F1, F2, a, b, ap, e⟩, h2, h3⟩ := h.st
  exact ⟨F1, h.mem, a, F2, b, ap, fun k hk => h2 k ((e k).2 hk), fun x hx => ⟨fun q => h3 x hx ((e _).2 (.inl q)), fun q => h3 x hx ((e _).2 (.inr q))⟩⟩
theorem HoldL.hold (h : HoldL w0 w L A B F1) : Hold w0 w L (Sep A B) := by
  obtain ⟨F2, b, ap, h2, h3⟩ := h.st
  exact ⟨h.mem, fun k => F1 k ∨ F2 k, ⟨F1, F2, h.a, b, ap, fun k => Iff.rfl⟩, h2, fun x hx q => q.elim (h3 x hx).1 (h3 x hx).2⟩
theorem HoldL.grow (h : HoldL w0 w L A B F1) (hA : Foot A) (hB : Foot B) (g : Grow.G w w') : HoldL w0 w' L A B F1 := by
  obtain ⟨F2, b, ap, h2, h3⟩ := h.st
  exact ⟨h.mem.grow g, hA.grow h.a g, F2, hB.grow b g, ap, h2, h3⟩
theorem HoldL.call {R : Ending → World → Prop} (h : HoldL w0 w L A B F1) (hB : Foot B) (hc : Calls P f args w fun e w' => R e w' ∧ EndS w w' F1 A') : Calls P f args w fun e w' => R e w' ∧ Hold w0 w' L (Sep A' B) ∧ Chg F1 w w' := by
  obtain ⟨F2, b, ap, h2, h3⟩ := h.st
  refine hc.mono ?_
  rintro e w' ⟨hr, F', q1, q2, q3⟩
  obtain ⟨b', ap'⟩ := hB.keep b ap q2 q3
  refine ⟨hr, ⟨h.mem.chg q2 (fun k hk hf => by have := h2 k (.inl hf); omega) (fun x hx q => (h3 x hx).1 q), fun k => F' k ∨ F2 k, ⟨F', F2, q1, b', ap', fun k => Iff.rfl⟩, fun k hk => ?_, fun x hx q => ?_⟩, q2⟩
  · rcases hk with hk | hk
    · rcases q3 k hk with q | q
      · exact h2 k (.inl q)
      · exact Nat.le_trans h.mem.size q
    · exact h2 k (.inr hk)
  · rcases q with q | q
    · rcases q3 _ q with r | r
      · exact (h3 x hx).1 r
      · have := (h.mem.blks x hx).1.lt; omega
    · exact (h3 x hx).2 q
theorem HoldL.not (h : HoldL w0 w L A B F1) {k : Nat} (hk : ∀ F2, B w F2 → F2 k) : ¬ F1 k := by
  obtain ⟨F2, b, ap, _⟩ := h.st
  exact fun q => ap k q (hk F2 b)
end
end Go
