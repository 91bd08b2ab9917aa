/- My own texts SepL, laid in one file. -/
import Derived.Test.YtjhfjjkfnmnkgaaZ29

/- Many states side by side: one of them opened, another one in its place, one more. No program is named here. -/
namespace Go
set_option linter.unusedVariables false
open Go.RowKit
section
variable {α : Type} {A : α → World → (Nat → Prop) → Prop} {l : List α} {w w' : World} {F F' f f' : Nat → Prop} {i : Nat} {x x' : α}
theorem pw_apart {Fs : List (Nat → Prop)} (h : Fs.Pairwise Apart) {i j : Nat} {a b : Nat → Prop} (hi : Fs[i]? = some a) (hj : Fs[j]? = some b) (hne : i ≠ j) : Apart a b := by
  obtain ⟨h1, e1⟩ := List.getElem?_eq_some_iff.1 hi
  obtain ⟨h2, e2⟩ := List.getElem?_eq_some_iff.1 hj
  subst e1 e2
  rcases Nat.lt_or_gt_of_ne hne with q | q
  · exact List.pairwise_iff_getElem.1 h i j h1 h2 q
  · exact (List.pairwise_iff_getElem.1 h j i h2 h1 q).symm
/-- One of many, and the others. -/
theorem SepL.open (hA : ∀ x, Foot (A x)) (h : SepL A l w F) (hi : l[i]? = some x) : ∃ f F2, A x w f ∧ Apart f F2 ∧ (∀ k, F k ↔ f k ∨ F2 k) ∧
    ∀ (w' : World) (f' G : Nat → Prop) (x' : α), A x' w' f' → Chg G w w' → (∀ k, F2 k → ¬ G k) → Apart f' F2 → SepL A (l.set i x') w' (fun k => f' k ∨ F2 k) := by
  obtain ⟨Fs, hl, ha, hp, e⟩ := h
  have hil := (List.getElem?_eq_some_iff.1 hi).1
  obtain ⟨f, hf⟩ : ∃ f, Fs[i]? = some f := ⟨_, List.getElem?_eq_getElem (by omega)⟩
  refine ⟨f, fun k => ∃ j g, j ≠ i ∧ Fs[j]? = some g ∧ g k, ha i x f hi hf, fun k hk ⟨j, g, hj, hg, hgk⟩ => pw_apart hp hf hg (fun q => hj q.symm) k hk hgk, fun k => ?_, fun w' f' G x' ha' hc hG hap => ?_⟩
  · rw [e]
    constructor
    · rintro ⟨g, hg, hk⟩
      obtain ⟨j, hj⟩ := List.getElem?_of_mem hg
      by_cases q : j = i
      · subst q; rw [hf] at hj; cases hj; exact .inl hk
      · exact .inr ⟨j, g, q, hj, hk⟩
    · rintro (hk | ⟨j, g, _, hg, hk⟩)
      · exact ⟨f, List.mem_of_getElem? hf, hk⟩
      · exact ⟨g, List.mem_of_getElem? hg, hk⟩
  · have hset : ∀ (j : Nat) (g : Nat → Prop), (Fs.set i f')[j]? = some g → (j = i ∧ g = f') ∨ (j ≠ i ∧ Fs[j]? = some g) := by
      intro j g hg
      by_cases q : j = i
      · subst q
        rw [List.getElem?_set_self (by omega)] at hg
        cases hg; exact .inl ⟨rfl, rfl⟩
      · rw [List.getElem?_set_ne (fun r => q r.symm)] at hg
        exact .inr ⟨q, hg⟩
    refine ⟨Fs.set i f', by rw [List.length_set, List.length_set, hl], fun j y g hy hg => ?_, ?_, fun k => ?_⟩
    · rcases hset j g hg with ⟨q, rfl⟩ | ⟨q, hg'⟩
      · subst q
        rw [List.getElem?_set_self hil] at hy
        cases hy; exact ha'
      · rw [List.getElem?_set_ne (fun r => q r.symm)] at hy
        exact (hA y).frame (ha j y g hy hg') hc fun k hk => hG k ⟨j, g, q, hg', hk⟩
    · rw [List.pairwise_iff_getElem]
      intro a b ha1 hb1 hab
      have ga := List.getElem?_eq_getElem ha1
      have gb := List.getElem?_eq_getElem hb1
      rcases hset a _ ga with ⟨qa, ea⟩ | ⟨qa, ga'⟩
      · rcases hset b _ gb with ⟨qb, eb⟩ | ⟨qb, gb'⟩
        · omega
        · rw [ea]; exact fun k hk hb => hap k hk ⟨b, _, qb, gb', hb⟩
      · rcases hset b _ gb with ⟨qb, eb⟩ | ⟨qb, gb'⟩
        · rw [eb]; exact fun k hk hb => hap k hb ⟨a, _, qa, ga', hk⟩
        · exact pw_apart hp ga' gb' (by omega)
    · constructor
      · rintro (hk | ⟨j, g, q, hg, hk⟩)
        · exact ⟨f', List.mem_of_getElem? (List.getElem?_set_self (by omega)), hk⟩
        · exact ⟨g, List.mem_of_getElem? (by rw [List.getElem?_set_ne (fun r => q r.symm)]; exact hg), hk⟩
      · rintro ⟨g, hg, hk⟩
        obtain ⟨j, hj⟩ := List.getElem?_of_mem hg
        rcases hset j g hj with ⟨q, rfl⟩ | ⟨q, hg'⟩
        · exact .inl hk
        · exact .inr ⟨j, g, q, hg', hk⟩
theorem SepL.nil (w : World) : SepL A [] w (fun _ => False) := ⟨[], rfl, fun i x f hx => by simp at hx, List.Pairwise.nil, fun k => by simp⟩
end
end Go
