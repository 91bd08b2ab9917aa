/- My own texts Rl10, laid in one file. -/
import Derived.Test.YtjhfjjkfnmnkgaaZ51
import Derived.Test.YtjhfjjkfnmnkgaaZ2

/- damperref6.Shares. -/
namespace Go.Proofs.Ytjhfjjkfnmnkgaa
set_option maxRecDepth 100000
set_option linter.unusedVariables false
set_option linter.unusedSimpArgs false
set_option linter.unnecessarySimpa false
open Go.RowKit Go.Args

section
variable (A B : ByteArray → Int) (t n : Int)
def lossN : List ByteArray → Int → Int
  | [], g => g
  | x :: r, g => lossN r (g - lost1 A B g x)
theorem outN_len (N : List ByteArray) (g : Int) : (outN A B t n N g).length ≤ N.length := by
  induction N generalizing g with
  | nil => simp [outN]
  | cons x N ih =>
    have := ih (g - lost1 A B g x)
    rw [outN, List.length_append, List.length_cons]
    split <;> simp <;> omega
end
theorem gsum_le {A B : ByteArray → Int} {t n : Int} (h0 : 0 < t) (h1 : t < n) (hA : ∀ x, 0 ≤ A x) (hB : ∀ x, B x ≤ 1000) (N : List ByteArray) : 0 ≤ gsum A B t n N ∧ gsum A B t n N ≤ 1000 * N.length := by
  induction N with
  | nil => simp [gsum]
  | cons x N ih =>
    rw [gsum, List.length_cons]
    have h3 := by_le (c := B x - A x) h0 h1
    have := hA x
    have := hB x
    split
    · rename_i h
      rw [Int.max_eq_left (by omega)] at h3
      omega
    · omega
end Go.Proofs.Ytjhfjjkfnmnkgaa
