/- My own texts CopyB, Past, laid in one file. -/
import Derived.Test.YtnkekdmikopdgaaZ2
import Derived.Test.YtnkekdmikopdgaaZ8
import Derived.Test.YtnkekdmikopdgaaZ4

/- Bytes copied by an append onto nothing; what is read of a row of bytes of the call's own. -/
namespace Go.Proofs.Ytnkekdmikopdgaa
set_option maxRecDepth 100000
set_option linter.unusedVariables false
set_option linter.unusedSimpArgs false
set_option linter.unnecessarySimpa false
open Go.RowKit

theorem own_bysl {w : World} {base n c : Nat} {a : Option Addr} {z : List Int} (h : OwnB w base (.slice a n c) z) : n = z.length ∧ ∃ sb, BySl w sb a c z := by
  rcases h.2 with ⟨h0, h1⟩ | ⟨g, cap, cur, hv, hb, hg, hn, rest⟩
  · cases h0
    have : z = [] := List.eq_nil_of_length_eq_zero h1
    subst this
    exact ⟨rfl, 0, .inl ⟨rfl, rfl, rfl⟩⟩
  · injection hv with e1 e2 e3
    subst e1 e2 e3
    refine ⟨rfl, g, .inr ⟨0, rfl, hn, fun i hi => ?_⟩⟩
    have := h.cells (g := g) rfl i (.int .u8 (z.getD i 0)) (by simp [List.getD, hi])
    have e2 : (⟨g, 0, none⟩ : Addr).add i = ⟨g, 0 + i, none⟩ := by rw [Nat.zero_add]; unfold Addr.add; split <;> simp_all
    rwa [e2] at this
theorem own_cap {w : World} {base n c : Nat} {a : Option Addr} {z : List Int} (h : OwnB w base (.slice a n c) z) (hz : 1 ≤ z.length) : ∃ b, a = some ⟨b, 0, none⟩ ∧ n = z.length ∧ z.length ≤ c ∧ base ≤ b := by
  rcases h.2 with ⟨h0, h1⟩ | ⟨g, cap, cur, hv, hb, hg, hn, rest⟩
  · omega
  · injection hv with e1 e2 e3
    subst e1 e2 e3
    exact ⟨g, rfl, rfl, hn, hb⟩
/-- As Parse, Cut want it. -/
theorem own_sb {w : World} {base n c : Nat} {a : Option Addr} {z : List Int} (h : OwnB w base (.slice a n c) z) (hw : 0 < w.heap.size) : n = z.length ∧ ∃ sb, sb < w.heap.size ∧ BySl w sb a c z ∧ (z = [] ∨ ∃ off, a = some ⟨sb, off, none⟩ ∧ z.length ≤ c ∧ sb < w.heap.size ∧ ∀ i, i < z.length → w.cell? ⟨sb, off + i, none⟩ = some (.int .u8 (z.getD i 0))) := by
  obtain ⟨h1, sb, h2⟩ := own_bysl h
  refine ⟨h1, ?_⟩
  rcases h2 with ⟨e1, e2, e3⟩ | ⟨off, e1, e2, e3⟩
  · exact ⟨0, hw, .inl ⟨e1, e2, e3⟩, .inl e2⟩
  · by_cases hz : z = []
    · subst hz
      subst e1
      rcases h.2 with ⟨h0, _⟩ | ⟨g, cap, cur, hv, hb, hg, hn, rest⟩
      · cases h0
      · injection hv with q1 q2 q3
        injection q1 with q1
        injection q1 with q1
        subst q1
        exact ⟨sb, Chg.lt_of hg, .inr ⟨off, rfl, e2, e3⟩, .inl rfl⟩
    · have hl : 0 < z.length := List.length_pos_iff.2 hz
      have hlt : sb < w.heap.size := by
        have := e3 0 hl
        rcases Nat.lt_or_ge sb w.heap.size with h' | h'
        · exact h'
        · simp [World.cell?, Array.getElem?_eq_none h'] at this
      exact ⟨sb, hlt, .inr ⟨off, e1, e2, e3⟩, .inr ⟨off, e1, e2, hlt, e3⟩⟩
theorem bts_one {z : List Int} : ∀ u ∈ z.map (Value.int .u8), u.oneCell' = true := by
  intro u hu
  obtain ⟨x, _, rfl⟩ := List.mem_map.1 hu
  rfl

theorem cv_own {w : World} {base n c : Nat} {a : Option Addr} {z : List Int} (h : OwnB w base (.slice a n c) z) : (convert 22 9 (.slice a n c)).run Try.prog w = .ok (.string (strOfNums z)) w := by
  obtain ⟨h1, sb, h2⟩ := own_bysl h
  subst h1
  exact cv_bytes h2
theorem chg_none {w w' : World} (h : Chg (fun _ => False) w w') : Grow.G w w' := h.toGrow (fun _ _ => id)
end Go.Proofs.Ytnkekdmikopdgaa
