
/- What every row's frame wants: how the arguments that came in read. -/
import Derived.Test.YtjcdmnogmpjkkaaDoorZ1
import Derived.ProofKit
import Derived.Lib.LaidTab
import Derived.SizedLaws
import Derived.OpenShut
namespace Go.Proofs.YtjcdmnogmpjkkaaDoor
set_option maxRecDepth 100000
set_option linter.unusedVariables false
set_option linter.unusedSimpArgs false
set_option linter.unnecessarySimpa false
open Go.ChangeShapes Go.WideShapes Go.ChangeAt Go.RowKit

theorem laidMet_tail {P : Program} {x : String × DataW Unit} {rest : List (String × DataW Unit)} {W : World} (h : laidMet P (x :: rest) W) : laidMet P rest W := by
  obtain ⟨ps, ⟨g', t', cs, fuel, p, q, hg', ht', hvar, hd, hr, hps⟩, hn, hall⟩ := h
  subst hps
  refine ⟨q, hr, ?_, fun b off hm => hall b off (List.mem_append.2 (.inr hm))⟩
  rw [List.nodup_append] at hn
  exact hn.2.1
end Go.Proofs.YtjcdmnogmpjkkaaDoor
