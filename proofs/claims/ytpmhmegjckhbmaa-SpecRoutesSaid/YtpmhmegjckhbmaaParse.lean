/- The parts of a revision's name, as a function that can be run. -/
import Derived.Test.YtpmhmegjckhbmaaKnown
namespace Go.Proofs.Ytpmhmegjckhbmaa
set_option linter.unusedVariables false
set_option linter.unusedSimpArgs false
open Go.RowKit

def numLB (l : List UInt8) : Bool := !l.isEmpty && (l.head? != some 48) && l.all fun c => decide (48 ≤ c.toNat) && decide (c.toNat ≤ 57)
theorem numLB_iff (l : List UInt8) : numLB l = true ↔ numL l := by
  unfold numLB numL dgU
  simp only [Bool.and_eq_true, Bool.not_eq_true', List.isEmpty_eq_false_iff, bne_iff_ne, List.all_eq_true, decide_eq_true_eq, ne_eq, and_assoc]
def parse (s : ByteArray) : Option (ByteArray × Nat) :=
  if Lib.lastIndexByte s 45 < 0 then none else
  if nameB 16 (s.extract 0 (Lib.lastIndexByte s 45).toNat) && numLB (s.extract ((Lib.lastIndexByte s 45).toNat + 1) s.size).data.toList && decide (valL (s.extract ((Lib.lastIndexByte s 45).toNat + 1) s.size).data.toList ≤ 999999)
  then some (s.extract 0 (Lib.lastIndexByte s 45).toNat, valL (s.extract ((Lib.lastIndexByte s 45).toNat + 1) s.size).data.toList) else none
theorem parse_spec (s : ByteArray) : (∃ c n, parse s = some (c, n) ∧ IsRev s c n) ∨ (parse s = none ∧ ∀ c n, ¬ IsRev s c n) := by
  unfold parse
  rcases Lib.lastIndexByte_spec s 45 with ⟨e1, hn⟩ | ⟨i, hi, e1, hc, hn⟩
  · rw [e1, if_pos (by decide)]
    refine .inr ⟨rfl, fun c n h => ?_⟩
    have := h.size
    have h1 := h.dash
    exact hn c.size (by omega) (by show ((byteAt s c.size : Nat) : Int) = 45; omega)
  · rw [e1, if_neg (by omega), Int.toNat_natCast]
    have hd : byteAt s i = 45 := by have : ((byteAt s i : Nat) : Int) = 45 := hc; omega
    have hl : ∀ j, i < j → j < s.size → byteAt s j ≠ 45 := fun j h1 h2 e => hn j h1 h2 (by show ((byteAt s j : Nat) : Int) = 45; omega)
    split
    · rename_i h
      simp only [Bool.and_eq_true, decide_eq_true_eq, numLB_iff] at h
      exact .inl ⟨_, _, rfl, isRev_of i hi hd h.1.1 (isNum_of h.1.2 h.2)⟩
    · rename_i h
      refine .inr ⟨rfl, fun c n hr => h ?_⟩
      have e := hr.at i hi hd hl
      simp only [Bool.and_eq_true, decide_eq_true_eq, numLB_iff]
      have hx : s.extract (i + 1) s.size = digS n.toNat := by rw [← e]; exact hr.right
      rw [hx, digS_list]
      have h3 := hr.num
      have := hr.2.2.1
      exact ⟨⟨by rw [← e, hr.left]; exact hr.1, h3.1⟩, by rw [h3.2]; omega⟩
theorem parse_yes {s c : ByteArray} {n : Nat} (h : parse s = some (c, n)) : IsRev s c n := by
  rcases parse_spec s with ⟨c', n', e, hr⟩ | ⟨e, _⟩
  · rw [h] at e; cases e; exact hr
  · rw [h] at e; cases e
theorem parse_no {s : ByteArray} (h : parse s = none) : ∀ c n, ¬ IsRev s c n := by
  rcases parse_spec s with ⟨c', n', e, hr⟩ | ⟨_, hr⟩
  · rw [h] at e; cases e
  · exact hr
end Go.Proofs.Ytpmhmegjckhbmaa
