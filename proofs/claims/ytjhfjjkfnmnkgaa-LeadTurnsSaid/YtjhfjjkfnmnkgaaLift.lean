
/- What every row's frame wants: how the arguments that came in read. -/
import Derived.Test.YtjhfjjkfnmnkgaaZ1
import Derived.ProofKit
import Derived.Lib.LaidTab
import Derived.SizedLaws
import Derived.OpenShut
namespace Go.Proofs.Ytjhfjjkfnmnkgaa
set_option maxRecDepth 100000
set_option linter.unusedVariables false
set_option linter.unusedSimpArgs false
set_option linter.unnecessarySimpa false
open Go.ChangeShapes Go.WideShapes Go.ChangeAt Go.RowKit

theorem wf64_of {n : Int} (h : (Lit.int .i64 n).wf = true) : wf64 n := by
  have := Go.bounds_i64 h
  exact ⟨by omega, by omega⟩
theorem intSlice_of {H : Type} {enc : TypeId × Value → H} {P : Program} {W : World} {base : Nat} {sp : Nat → Bool} {held : Bool} {t e : TypeId} {fuel : Nat} {a : Option Addr} {len cap : Nat} {x : DataW H × List MemPlace}
    (ht : P.underlying t = some (.slice e)) (he : P.underlying e = some (.int .i64)) (hc : P.cellsOf e = 1) (h : DataW.trod enc P W base sp held fuel t (Value.slice a len cap).cells.toList = some x) :
    ∃ zs, IntSlice W (.slice a len cap) zs := by
  rcases open_ints ht he hc h with ⟨hcs, _⟩ | ⟨y, l, c, zs, hcs, _, hl, hm, hz, _, hcell, hwz⟩
  · simp [Value.cells] at hcs
    obtain ⟨rfl, rfl, rfl⟩ := hcs
    exact ⟨[], .inr ⟨rfl, _, _, rfl⟩⟩
  · simp [Value.cells] at hcs
    obtain ⟨rfl, rfl, rfl⟩ := hcs
    have hlz : len ≤ zs.length := by rw [hz]; split <;> omega
    have hg : ∀ i, i < len → (zs.take len).getD i 0 = zs.getD i 0 := fun i hi => by
      simp [List.getD, List.getElem?_take, hi]
    have hwf : ∀ i, wf64 ((zs.take len).getD i 0) := fun i => by
      rcases Nat.lt_or_ge i (zs.take len).length with h1 | h1
      · have : (zs.take len).getD i 0 ∈ zs := by
          rw [List.getD_eq_getElem?_getD, List.getElem?_eq_getElem h1]
          exact List.mem_of_mem_take (List.getElem_mem h1)
        exact wf64_of (hwz _ this)
      · rw [List.getD_eq_getElem?_getD, List.getElem?_eq_none h1]; exact ⟨by decide, by decide⟩
    have hlen : (zs.take len).length = len := by rw [List.length_take]; omega
    cases len with
    | zero => exact ⟨[], .inr ⟨rfl, _, _, rfl⟩⟩
    | succ k =>
      obtain ⟨b, off, spot⟩ := y
      have hc0 := hcell 0 (by omega)
      have hspot : spot = none := by simpa [Addr.add] using World.cell?_spot hc0
      subst hspot
      refine ⟨zs.take (k + 1), .inl ⟨b, off, cap, by rw [hlen], ⟨fun i hi => ?_, hwf, by rw [hlen]; omega⟩⟩⟩
      rw [hlen] at hi
      rw [hg i hi]
      have := hcell i (by omega)
      rw [← this]
      congr 1
      unfold Addr.add
      split <;> simp_all
end Go.Proofs.Ytjhfjjkfnmnkgaa
