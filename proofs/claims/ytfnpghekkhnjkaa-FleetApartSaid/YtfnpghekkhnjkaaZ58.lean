/- My own texts Pd8, laid in one file. -/
import Derived.Test.YtfnpghekkhnjkaaZ56
import Derived.Test.YtfnpghekkhnjkaaZ57
import Derived.Test.YtfnpghekkhnjkaaZ29

/- Pods among what a law holds; rows of numbers that are the same; damperlaw7's known. -/
namespace Go.Proofs.Ytfnpghekkhnjkaa
set_option maxRecDepth 100000
set_option linter.unusedVariables false
set_option linter.unusedSimpArgs false
set_option linter.unnecessarySimpa false
open Go.RowKit Go.MapV Go.Maps

/-- A row of numbers is no part of a pod. -/
theorem PdIn.noRow {w : World} {g : Nat} {s : Pd} {m : Option Nat} {base n : Nat} {v : Value} {xs : List Value} (h : PdIn w g s m) (ho : w.ownsRow base 3 1 v n xs) : ∀ k, PdF g m k → v.ownBlock ≠ some k := by
  rintro k (rfl | hk) e
  · exact own_blk_types ho h.hb (by decide) e
  · have hm := h.hm
    rw [← hk] at hm
    obtain ⟨D, ⟨es, clock, hb, _⟩, _⟩ := hm
    rcases ho.2 with ⟨h1, _⟩ | ⟨g', cap, cur, hv, _, hg, _⟩
    · rw [h1] at e; cases e
    · rw [hv] at e
      have e : some g' = some k := e
      cases e
      rw [hg] at hb; cases hb
theorem pkill_told (g : Nat) (s : Pd) (w : World) (F : Nat → Prop) (h : PdP g s w F) :
    Calls Try.prog 40 #[pz g] w fun e w' => ∃ v, e = .returned (.tuple #[v, .int .i64 s.kill]) ∧ EndS w w' F (Sep (PdP g s.aftKill) (IntF v s.lost)) := by
  refine (pkill_any g s w F h).mono ?_
  rintro e w' ⟨v, rfl, ho, hb, F', ⟨m', hI, he⟩, c, fr⟩
  refine ⟨v, rfl, fun k => F' k ∨ v.ownBlock = some k, ⟨F', fun k => v.ownBlock = some k, ⟨m', hI, he⟩, ⟨own_base ho (Nat.zero_le _), fun k => Iff.rfl⟩, fun k q1 q2 => hI.noRow ho k ((he k).1 q1) q2, fun k => Iff.rfl⟩, c, fun k hk => ?_⟩
  rcases hk with hk | hk
  · exact fr k hk
  · exact .inr (hb k hk)
section
variable {w0 w : World} {L : List MBox} {A B : Hp} {g : Nat} {s s' : Pd} {er : Int}
theorem hold_pup (h : Hold w0 w L (Sep (PdP g s) B)) (hB : Foot B) (he : s.up = er := by rfl) (hs : s.aftUp = s' := by rfl) : Calls Try.prog 36 #[pz g] w fun e w' => e = .returned (.int .i64 er) ∧ Hold w0 w' L (Sep (PdP g s') B) := by
  subst he hs
  exact h.call ((PdP.foot _ _).sep hB) (Sep.callL hB fun F hS => pup_any g s w F hS)
theorem hold_pkill (h : Hold w0 w L (Sep (PdP g s) B)) (hB : Foot B) (he : s.kill = er := by rfl) (hs : s.aftKill = s' := by rfl) : Calls Try.prog 40 #[pz g] w fun e w' => ∃ v, e = .returned (.tuple #[v, .int .i64 er]) ∧ Hold w0 w' L (Sep (PdP g s') (Sep (IntF v s.lost) B)) := by
  subst he hs
  refine (Hold.callE h (Sep.callLE hB fun F hS => pkill_told g s w F hS)).mono ?_
  rintro e w' ⟨v, rfl, hh⟩
  exact ⟨v, rfl, hh.map fun F q => q.assoc⟩
/-! ### the second form's, behind another state -/
theorem hold_rpup (h : Hold w0 w L (Sep A (Sep (RpP g s) B))) (hA : Foot A) (hB : Foot B) (he : s.up = er := by rfl) (hs : s.aftUp = s' := by rfl) : Calls Try.prog 47 #[pz g] w fun e w' => e = .returned (.int .i64 er) ∧ Hold w0 w' L (Sep A (Sep (RpP g s') B)) := by
  subst he hs
  exact (h.rot.call ((RpP.foot _ _).sep (hA.sep hB)) (Sep.callL (hA.sep hB) fun F hS => rpup_any g s w F hS)).mono fun e w' ⟨q1, q2⟩ => ⟨q1, q2.rot⟩
theorem hold_rptake (h : Hold w0 w L (Sep A (Sep (RpP g s) B))) (hA : Foot A) (hB : Foot B) (x : Int) (hx : wf64 x) (he : s.take x = er := by rfl) (hs : s.aftTake x = s' := by rfl) : Calls Try.prog 51 #[pz g, .int .i64 x] w fun e w' => e = .returned (.int .i64 er) ∧ Hold w0 w' L (Sep A (Sep (RpP g s') B)) := by
  subst he hs
  exact (h.rot.call ((RpP.foot _ _).sep (hA.sep hB)) (Sep.callL (hA.sep hB) fun F hS => rptake_any g s x w F hS hx)).mono fun e w' ⟨q1, q2⟩ => ⟨q1, q2.rot⟩
end
end Go.Proofs.Ytfnpghekkhnjkaa
