/- Blocks of bytes laid out; a world whose blocks are known. -/
import Derived.Test.YtnkekdmikopdgaaGreatZ17
import Derived.Test.YtnkekdmikopdgaaGreatZ5
namespace Go.Proofs.YtnkekdmikopdgaaGreat
set_option maxRecDepth 100000
set_option linter.unusedVariables false
set_option linter.unusedSimpArgs false
set_option linter.unnecessarySimpa false
open Go.RowKit

theorem calls_hide {P : Program} {f : FuncId} {args : Array Value} {w0 W : World} {L : List MBox} {Q : Ending → World → Prop} (hm : Mem w0 W L) (h : ∀ W, Mem w0 W L → Calls P f args W Q) : Calls P f args W Q := h W hm
theorem by_blk {w : World} {b : Nat} {zs : List Int} (h : Blk w b ((zs.map (Value.int .u8)).toArray) 5) : BySl w b (some ⟨b, 0, none⟩) zs.length zs ∧ (zs = [] ∨ ∃ off, (some ⟨b, 0, none⟩ : Option Addr) = some ⟨b, off, none⟩ ∧ zs.length ≤ zs.length ∧ b < w.heap.size ∧ ∀ i, i < zs.length → w.cell? ⟨b, off + i, none⟩ = some (.int .u8 (zs.getD i 0))) := by
  have hc : ∀ i, i < zs.length → w.cell? ⟨b, 0 + i, none⟩ = some (.int .u8 (zs.getD i 0)) := fun i hi => by
    rw [Nat.zero_add]
    refine h.at ?_
    simp [List.getD, hi]
  exact ⟨.inr ⟨0, rfl, Nat.le_refl _, hc⟩, .inr ⟨0, rfl, Nat.le_refl _, h.lt, hc⟩⟩
end Go.Proofs.YtnkekdmikopdgaaGreat
