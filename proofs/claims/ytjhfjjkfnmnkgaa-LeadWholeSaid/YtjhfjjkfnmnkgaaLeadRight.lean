
/- The walk of LeadRight. -/
import Derived.Test.YtjhfjjkfnmnkgaaZ98L
namespace Go.Proofs.Ytjhfjjkfnmnkgaa
set_option maxRecDepth 100000
set_option linter.unusedVariables false
set_option linter.unusedSimpArgs false
set_option linter.unnecessarySimpa false
open Go.RowKit Go.Args

theorem rev13 (j : Nat) (hj : j < 6) : ([.string (revK 0), .string (revK 1), .string (revK 2), .string (revK 3), .string (revK 4), .string (revK 5)] : List Value)[j]? = some (.string (revK j)) := by
  match j, hj with
  | 0, _ => rfl
  | 1, _ => rfl
  | 2, _ => rfl
  | 3, _ => rfl
  | 4, _ => rfl
  | 5, _ => rfl
theorem right_true {a b : Option Addr} {sh : List Shr} {c d : Nat} (w : World) (h1 : ShSl w a sh ∧ TgSl w b ([] : List Tgo)) (s : Sd sh) :
    Calls Try.prog 23 #[.agg #[.slice a sh.length c, .slice b 0 d]] w fun e w' => e = .returned (.bool true) ∧ Grow.G w w' :=
  (rright_any a sh c b [] d w (by have := s.len; omega) (by decide) h1.1 h1.2 (sd_okS s) (fun t ht => by cases ht)).mono fun e w' ⟨q1, q2⟩ => ⟨by rw [q1]; unfold rightB; rw [s.sound]; rfl, q2⟩
end Go.Proofs.Ytjhfjjkfnmnkgaa
