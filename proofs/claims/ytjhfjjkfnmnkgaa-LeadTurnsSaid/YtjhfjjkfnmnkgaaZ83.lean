/- My own texts HoldP, laid in one file. -/
import Derived.Test.YtjhfjjkfnmnkgaaZ63
import Derived.Test.YtjhfjjkfnmnkgaaZ29

/- Many states side by side, one of them taken out and laid back; a block of a state written, in a Hold. No program is named here. -/
namespace Go
set_option linter.unusedVariables false
open Go.RowKit
theorem Sep.assoc' {A B C : Hp} {w : World} {F : Nat → Prop} (h : Sep A (Sep B C) w F) : Sep (Sep A B) C w F := by
  obtain ⟨F1, F2, a, ⟨F3, F4, b, c, ap2, e2⟩, ap, e⟩ := h
  refine ⟨fun k => F1 k ∨ F3 k, F4, ⟨F1, F3, a, b, fun k h1 h3 => ap k h1 ((e2 k).2 (.inl h3)), fun k => Iff.rfl⟩, c, fun k hk h4 => ?_, fun k => ?_⟩
  · rcases hk with hk | hk
    · exact ap k hk ((e2 k).2 (.inr h4))
    · exact ap2 k hk h4
  · rw [e, e2, or_assoc]
section
variable {α : Type} {A : α → World → (Nat → Prop) → Prop} {p q : List α} {x : α} {w : World} {F : Nat → Prop}
theorem SepL.out (h : SepL A (p ++ x :: q) w F) : Sep (A x) (SepL A (p ++ q)) w F := by
  obtain ⟨Fs, hl, ha, hp, e⟩ := h
  rw [List.length_append, List.length_cons] at hl
  obtain ⟨P, f, Q, rfl, hP⟩ : ∃ P f Q, Fs = P ++ f :: Q ∧ P.length = p.length := by
    have hi : p.length < Fs.length := by omega
    exact ⟨Fs.take p.length, Fs[p.length], Fs.drop (p.length + 1), by rw [← List.drop_eq_getElem_cons hi, List.take_append_drop], by rw [List.length_take]; omega⟩
  have hQ : Q.length = q.length := by rw [List.length_append, List.length_cons] at hl; omega
  rw [List.pairwise_append, List.pairwise_cons] at hp
  obtain ⟨p1, ⟨p2, p3⟩, p4⟩ := hp
  refine ⟨f, fun k => ∃ g, g ∈ P ++ Q ∧ g k, ha p.length x f (by simp) (by rw [← hP]; simp), ⟨P ++ Q, by simp [hP, hQ], fun i y g hy hg => ?_, ?_, fun k => Iff.rfl⟩, fun k hk ⟨g, hg, hgk⟩ => ?_, fun k => ?_⟩
  · rcases Nat.lt_or_ge i p.length with hi | hi
    · rw [List.getElem?_append_left hi] at hy
      rw [List.getElem?_append_left (by omega)] at hg
      exact ha i y g (by rw [List.getElem?_append_left hi]; exact hy) (by rw [List.getElem?_append_left (by omega)]; exact hg)
    · rw [List.getElem?_append_right hi] at hy
      rw [List.getElem?_append_right (by omega), hP] at hg
      refine ha (i + 1) y g ?_ ?_
      · rw [List.getElem?_append_right (by omega), show i + 1 - p.length = (i - p.length) + 1 by omega, List.getElem?_cons_succ]; exact hy
      · rw [List.getElem?_append_right (by omega), hP, show i + 1 - p.length = (i - p.length) + 1 by omega, List.getElem?_cons_succ]; exact hg
  · rw [List.pairwise_append]
    exact ⟨p1, p3, fun a ha b hb => p4 a ha b (List.mem_cons_of_mem _ hb)⟩
  · rcases List.mem_append.1 hg with hg | hg
    · exact p4 g hg f List.mem_cons_self k hgk hk
    · exact p2 g hg k hk hgk
  · rw [e]
    constructor
    · rintro ⟨g, hg, hk⟩
      rcases List.mem_append.1 hg with hg | hg
      · exact .inr ⟨g, List.mem_append_left _ hg, hk⟩
      · rcases List.mem_cons.1 hg with rfl | hg
        · exact .inl hk
        · exact .inr ⟨g, List.mem_append_right _ hg, hk⟩
    · rintro (hk | ⟨g, hg, hk⟩)
      · exact ⟨f, by simp, hk⟩
      · refine ⟨g, ?_, hk⟩
        rcases List.mem_append.1 hg with hg | hg
        · exact List.mem_append_left _ hg
        · exact List.mem_append_right _ (List.mem_cons_of_mem _ hg)
theorem SepL.inn (h : Sep (A x) (SepL A (p ++ q)) w F) : SepL A (p ++ x :: q) w F := by
  obtain ⟨f, G, hx, ⟨Fs, hl, ha, hp, e2⟩, ap, e⟩ := h
  rw [List.length_append] at hl
  obtain ⟨P, Q, rfl, hP⟩ : ∃ P Q, Fs = P ++ Q ∧ P.length = p.length := ⟨Fs.take p.length, Fs.drop p.length, (List.take_append_drop _ _).symm, by rw [List.length_take]; omega⟩
  have hQ : Q.length = q.length := by rw [List.length_append] at hl; omega
  rw [List.pairwise_append] at hp
  obtain ⟨p1, p3, p4⟩ := hp
  have apG : ∀ g, g ∈ P ++ Q → Apart f g := fun g hg k hk hgk => ap k hk ((e2 k).2 ⟨g, hg, hgk⟩)
  refine ⟨P ++ f :: Q, by simp [hP, hQ], fun i y g hy hg => ?_, ?_, fun k => ?_⟩
  · rcases Nat.lt_trichotomy i p.length with hi | hi | hi
    · rw [List.getElem?_append_left hi] at hy
      rw [List.getElem?_append_left (by omega)] at hg
      exact ha i y g (by rw [List.getElem?_append_left hi]; exact hy) (by rw [List.getElem?_append_left (by omega)]; exact hg)
    · subst hi
      rw [List.getElem?_append_right (Nat.le_refl _), Nat.sub_self, List.getElem?_cons_zero] at hy
      rw [List.getElem?_append_right (by omega), hP, Nat.sub_self, List.getElem?_cons_zero] at hg
      cases hy; cases hg
      exact hx
    · rw [List.getElem?_append_right (by omega), show i - p.length = (i - 1 - p.length) + 1 by omega, List.getElem?_cons_succ] at hy
      rw [List.getElem?_append_right (by omega), hP, show i - p.length = (i - 1 - p.length) + 1 by omega, List.getElem?_cons_succ] at hg
      refine ha (i - 1) y g ?_ ?_
      · rw [List.getElem?_append_right (by omega)]; exact hy
      · rw [List.getElem?_append_right (by omega), hP]; exact hg
  · rw [List.pairwise_append, List.pairwise_cons]
    refine ⟨p1, ⟨fun g hg => apG g (List.mem_append_right _ hg), p3⟩, fun a ha b hb => ?_⟩
    rcases List.mem_cons.1 hb with rfl | hb
    · exact (apG a (List.mem_append_left _ ha)).symm
    · exact p4 a ha b hb
  · rw [e, e2]
    constructor
    · rintro (hk | ⟨g, hg, hk⟩)
      · exact ⟨f, by simp, hk⟩
      · refine ⟨g, ?_, hk⟩
        rcases List.mem_append.1 hg with hg | hg
        · exact List.mem_append_left _ hg
        · exact List.mem_append_right _ (List.mem_cons_of_mem _ hg)
    · rintro ⟨g, hg, hk⟩
      rcases List.mem_append.1 hg with hg | hg
      · exact .inr ⟨g, List.mem_append_left _ hg, hk⟩
      · rcases List.mem_cons.1 hg with rfl | hg
        · exact .inl hk
        · exact .inr ⟨g, List.mem_append_right _ hg, hk⟩
/-- Some of many. -/
theorem SepL.sub {l l' : List α} (hs : l'.Sublist l) : ∀ {F : Nat → Prop}, SepL A l w F → ∃ F', SepL A l' w F' ∧ ∀ k, F' k → F k := by
  induction hs with
  | slnil => exact fun h => ⟨_, h, fun _ => id⟩
  | cons a _ ih =>
    intro F h
    obtain ⟨f, G, _, hG, _, e⟩ := SepL.out (p := []) h
    obtain ⟨F', h', hs'⟩ := ih hG
    exact ⟨F', h', fun k hk => (e k).2 (.inr (hs' k hk))⟩
  | cons_cons a _ ih =>
    intro F h
    obtain ⟨f, G, hf, hG, ap, e⟩ := SepL.out (p := []) h
    obtain ⟨F', h', hs'⟩ := ih hG
    exact ⟨fun k => f k ∨ F' k, SepL.inn (p := []) ⟨f, F', hf, h', fun k h1 h2 => ap k h1 (hs' k h2), fun k => Iff.rfl⟩, fun k hk => (e k).2 (hk.imp id (hs' k))⟩
end
/-- Parted by what is so of each. -/
theorem SepL.part {α : Type} {A : α → World → (Nat → Prop) → Prop} {w : World} (f : α → Bool) : ∀ {l : List α} {F : Nat → Prop}, SepL A l w F → Sep (SepL A (l.filter f)) (SepL A (l.filter fun x => !f x)) w F
  | [], F, h => by
    obtain ⟨Fs, hl, _, _, e⟩ := h
    have : Fs = [] := List.eq_nil_of_length_eq_zero hl
    subst this
    exact ⟨fun _ => False, fun _ => False, SepL.nil w, SepL.nil w, fun _ q _ => q, fun k => by rw [e]; simp⟩
  | x :: l, F, h => by
    obtain ⟨f1, G, hx, hG, ap, e⟩ := SepL.out (p := []) h
    obtain ⟨G1, G2, h1, h2, ap2, e2⟩ := SepL.part f hG
    cases q : f x with
    | true =>
      rw [List.filter_cons_of_pos q, List.filter_cons_of_neg (by rw [q]; decide)]
      exact ⟨fun k => f1 k ∨ G1 k, G2, SepL.inn (p := []) ⟨f1, G1, hx, h1, fun k q1 q2 => ap k q1 ((e2 k).2 (.inl q2)), fun k => Iff.rfl⟩, h2, fun k q1 q2 => q1.elim (fun q1 => ap k q1 ((e2 k).2 (.inr q2))) (fun q1 => ap2 k q1 q2), fun k => by rw [e, e2, or_assoc]⟩
    | false =>
      rw [List.filter_cons_of_neg (by rw [q]; decide), List.filter_cons_of_pos (by rw [q]; rfl)]
      exact ⟨G1, fun k => f1 k ∨ G2 k, h1, SepL.inn (p := []) ⟨f1, G2, hx, h2, fun k q1 q2 => ap k q1 ((e2 k).2 (.inr q2)), fun k => Iff.rfl⟩, fun k q1 q2 => q2.elim (fun q2 => ap k q2 ((e2 k).2 (.inl q1))) (fun q2 => ap2 k q1 q2), fun k => by rw [e, e2]; exact ⟨fun h => h.elim (fun h => .inr (.inl h)) (fun h => h.elim .inl (fun h => .inr (.inr h))), fun h => h.elim (fun h => .inr (.inl h)) (fun h => h.elim .inl (fun h => .inr (.inr h)))⟩⟩
theorem Sep.weakL {A B C : Hp} {w : World} {F : Nat → Prop} (h : Sep A B w F) (f : ∀ F, A w F → ∃ F', C w F' ∧ ∀ k, F' k → F k) : ∃ F', Sep C B w F' ∧ ∀ k, F' k → F k := by
  obtain ⟨F1, F2, a, b, ap, e⟩ := h
  obtain ⟨F', c, hs⟩ := f F1 a
  exact ⟨fun k => F' k ∨ F2 k, ⟨F', F2, c, b, fun k h1 h2 => ap k (hs k h1) h2, fun k => Iff.rfl⟩, fun k hk => (e k).2 (hk.imp (hs k) id)⟩
section
variable {P : Program} {ops : Array Oper} {rest : List Oper} {o : Oper} {a : Act} {Q : Exit → Act → World → Prop} {w0 w : World} {L : List MBox} {A : Hp}
/-- A store into a block that the state knows whole. -/
theorem Hold.setB {t : TypeId} {p x : Operand} (hA : Foot A) (ho : o.op = .store t p x) (hgd : o.guard = none)
    {g off : Nat} (hp : a.eval p = .pointer (some ⟨g, off, none⟩)) {v : Value} (hx : a.eval x = v) {vs : List Value} (hv : v.cells = vs.toArray) {n : Nat} (hs : (P.info? t).map (·.size) = some n)
    {cs : List Value} {T : TypeId} (hm : Hold w0 w L (Sep (BlkF g cs T) A)) (hn : vs.length = n) (hfit : off + n ≤ cs.length) (h1 : vs.all (·.oneCell') = true)
    (h : ∀ w', Hold w0 w' L (Sep (BlkF g (cs.take off ++ vs ++ cs.drop (off + vs.length)) T) A) → Stay (wpList P ops Q rest (a.put o.dst undef) w')) : wpList P ops Q (o :: rest) a w := by
  have hc : P.cellsOf t = n := by
    unfold Program.cellsOf
    cases hi : P.info? t with
    | none => rw [hi] at hs; cases hs
    | some i => rw [hi] at hs; simpa using hs
  obtain ⟨F, ⟨F1, F2, ⟨hb, e1⟩, ha, ap, e⟩, h2, h3⟩ := hm.st
  have hvl : v.cells.toList = vs := by rw [hv]
  have hvs : v.cells.size = n := by rw [hv]; simpa using hn
  refine Box.store ho hgd hp hx hb ⟨by cases hi : P.info? t with
    | none => rw [hi] at hs; cases hs
    | some i => rfl, by rw [hc, hvs]⟩ (by rw [hvs]; simpa using hfit) (by rw [hvl]; exact fun u hu => by simpa using List.all_eq_true.1 h1 u hu) fun w' hb' hch => h w' ?_
  have hg : F1 g := (e1 g).2 rfl
  have hFg : F g := (e g).2 (.inl hg)
  refine ⟨hm.mem.chg hch (fun k hk q => by have q : k = g := q; subst q; have := h2 _ hFg; omega) (fun b hb q => by have q : b.1 = g := q; rw [← q] at hFg; exact h3 b hb hFg), F, ⟨F1, F2, ⟨by rw [hvl] at hb'; simpa using hb', e1⟩, hA.frame ha hch (fun k hk q => by have q : k = g := q; subst q; exact ap _ hg hk), ap, e⟩, h2, h3⟩
end
end Go
