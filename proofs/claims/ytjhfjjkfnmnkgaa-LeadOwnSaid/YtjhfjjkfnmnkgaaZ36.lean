/- My own texts RdI, SlOf, laid in one file. -/
import Derived.Test.YtjhfjjkfnmnkgaaZ2
import Derived.Test.YtjhfjjkfnmnkgaaZ1

/- Small things on how arguments read. -/
namespace Go.Proofs.Ytjhfjjkfnmnkgaa
set_option maxRecDepth 100000
set_option linter.unusedVariables false
set_option linter.unusedSimpArgs false
open Go.ChangeShapes Go.WideShapes Go.ChangeAt Go.RowKit Go.Args

section
variable {H : Type} {enc : TypeId × Value → H} {W : World}
end
end Go.Proofs.Ytjhfjjkfnmnkgaa

/- A row of elements of several cells each, that came in from without: what it reads, the load of one. No program is named here. -/
namespace Go
set_option linter.unusedVariables false
set_option linter.unusedSimpArgs false
open Go.RowKit Go.ChangeShapes Go.WideShapes Go.ChangeAt Go.Args

/-- Elements of n cells each, one behind another from (b, off) on. -/
def SlOf {α : Type} (w : World) (cells : α → List Value) (n : Nat) (a : Option Addr) (xs : List α) : Prop :=
  xs = [] ∨ ∃ b off, a = some ⟨b, off, none⟩ ∧ ∀ i x, xs[i]? = some x → ∀ j v, (cells x)[j]? = some v → w.cell? ⟨b, off + i * n + j, none⟩ = some v
namespace SlOf
section
variable {α : Type} {w w' : World} {cells : α → List Value} {n : Nat} {a : Option Addr} {xs : List α}
theorem later (h : SlOf w cells n a xs) (g : Grow.G w w') : SlOf w' cells n a xs :=
  h.imp id fun ⟨b, off, ha, hc⟩ => ⟨b, off, ha, fun i x hi j v hj => cell_later g (hc i x hi j v hj)⟩
/-- The row's place, when there is one element. -/
theorem spot (h : SlOf w cells n a xs) {i : Nat} (hi : i < xs.length) : ∃ b off, a = some ⟨b, off, none⟩ ∧ ∀ i x, xs[i]? = some x → ∀ j v, (cells x)[j]? = some v → w.cell? ⟨b, off + i * n + j, none⟩ = some v := by
  rcases h with rfl | h
  · simp at hi
  · exact h
theorem run_load {P : Program} {b off : Nat} {cs : List Value} {t : TypeId} {fs : Array Field} (hc : ∀ j v, cs[j]? = some v → w.cell? ⟨b, off + j, none⟩ = some v) (ht : P.underlying t = some (.struct fs)) {m : Nat} (hs : (P.info? t).map (·.size) = some m) (hl : cs.length = m) :
    (Instr.loadAt t (.pointer (some ⟨b, off, none⟩))).run P w = .ok (.agg cs.toArray) w := by
  obtain ⟨i, hi, e⟩ := Option.map_eq_some_iff.1 hs
  have h := run_loadCells_list (P := P) w ⟨b, off, none⟩ cs (fun j v hj => by rw [addr_add0]; exact hc j v hj)
  simp only [Instr.loadAt, Instr.sureAddr, loadVar, isAgg, Sem.run_bind, Sem.run_pure, Result.andThen_ok, run_underlying ht, run_sizeOf _ hi, if_true]
  have hc : P.cellsOf t = m := by unfold Program.cellsOf; rw [hi]; exact e
  rw [hc, ← hl, h]
  rfl
/-- The load of an element (its cells by hc), with a guard or without. -/
theorem load {P : Program} {ops : Array Oper} {rest : List Oper} {o : Oper} {x : Act} {Q : Exit → Act → World → Prop} {b off : Nat} {cs : List Value} {t : TypeId} {p : Operand} (ho : o.op = .load t p) (hw : Region.wanted o (yielded ops x.tmps) = true)
    (hp : x.eval p = .pointer (some ⟨b, off, none⟩)) {fs : Array Field} (ht : P.underlying t = some (.struct fs)) {m : Nat} (hs : (P.info? t).map (·.size) = some m)
    (hc : ∀ j v, cs[j]? = some v → w.cell? ⟨b, off + j, none⟩ = some v) (hl : cs.length = m)
    (h : wpList P ops Q rest (x.put o.dst (.agg cs.toArray)) w) : wpList P ops Q (o :: rest) x w := by
  have hr := run_load (P := P) hc ht hs hl
  refine wpList_step fun K hK => ?_
  rw [if_pos hw]
  unfold Oper.wp execOp
  simp only [ho, hp, Sem.run_bind, Sem.run_pure, Result.andThen_ok, hr]
  exact hK _ _ h
end
section
variable {H : Type} {enc : TypeId × Value → H} {P : Program} {W : World}
end
end SlOf
end Go
