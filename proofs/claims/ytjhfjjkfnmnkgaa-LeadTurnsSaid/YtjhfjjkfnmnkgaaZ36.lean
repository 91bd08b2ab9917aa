/- My own texts RdI, SlOf, laid in one file. -/
import Derived.Test.YtjhfjjkfnmnkgaaZ2
import Derived.Test.YtjhfjjkfnmnkgaaZ1

/- Small things on how arguments read. -/
namespace Go.Proofs.Ytjhfjjkfnmnkgaa
set_option maxRecDepth 100000
set_option linter.unusedVariables false
set_option linter.unusedSimpArgs false
open Go.ChangeShapes Go.WideShapes Go.ChangeAt Go.RowKit Go.Args

theorem wf64_i {n : Int} (h : (Lit.int .i64 n).wf = true) : wf64 n := by
  have := Go.bounds_i64 h
  exact ⟨by omega, by omega⟩
section
variable {H : Type} {enc : TypeId × Value → H} {W : World}
theorem rd_i64 {cs : List Value} {d : DataW H} (h : Rd enc Try.prog W 3 cs d) : ∃ n, cs = [.int .i64 n] ∧ wf64 n := by
  obtain ⟨n, h1, h2⟩ := h.int Try.underlying3
  exact ⟨n, h1, wf64_i h2⟩
theorem list6 {α : Type} {l : List α} (h : l.length = 6) : ∃ a b c d e f, l = [a, b, c, d, e, f] := by
  match l, h with
  | [a, b, c, d, e, f], _ => exact ⟨a, b, c, d, e, f, rfl⟩
theorem choose_list {α : Type} (d : α) : ∀ (n : Nat) (p : Nat → α → Prop), (∀ i, i < n → ∃ x, p i x) → ∃ l : List α, l.length = n ∧ ∀ i, i < n → p i (l.getD i d)
  | 0, _, _ => ⟨[], rfl, fun i h => by omega⟩
  | n + 1, p, h => by
    obtain ⟨x, hx⟩ := h 0 (by omega)
    obtain ⟨l, hl, hp⟩ := choose_list d n (fun i => p (i + 1)) (fun i hi => h (i + 1) (by omega))
    refine ⟨x :: l, by simp [hl], fun i hi => ?_⟩
    cases i with
    | zero => exact hx
    | succ i => simpa using hp i (by omega)
end
end Go.Proofs.Ytjhfjjkfnmnkgaa

/- A row of elements of several cells each, that came in from without: what it reads, the load of one. No program is named here. -/
namespace Go
set_option linter.unusedVariables false
set_option linter.unusedSimpArgs false
open Go.RowKit Go.ChangeShapes Go.WideShapes Go.ChangeAt Go.Args

/-- Elements of n cells each, one behind another from (b, off) on. -/
def SlOf {α : Type} (w : World) (cells : α → List Value) (n : Nat) (a : Option Addr) (xs : List α) : Prop :=
  xs = [] ∨ ∃ b off, a = some ⟨b, off, none⟩ ∧ ∀ i x, xs[i]? = some x → ∀ j v, (cells x)[j]? = some v → w.cell? ⟨b, off + i * n + j, none⟩ = some v
namespace SlOf
section
variable {α : Type} {w w' : World} {cells : α → List Value} {n : Nat} {a : Option Addr} {xs : List α}
theorem later (h : SlOf w cells n a xs) (g : Grow.G w w') : SlOf w' cells n a xs :=
  h.imp id fun ⟨b, off, ha, hc⟩ => ⟨b, off, ha, fun i x hi j v hj => cell_later g (hc i x hi j v hj)⟩
/-- The row's place, when there is one element. -/
theorem spot (h : SlOf w cells n a xs) {i : Nat} (hi : i < xs.length) : ∃ b off, a = some ⟨b, off, none⟩ ∧ ∀ i x, xs[i]? = some x → ∀ j v, (cells x)[j]? = some v → w.cell? ⟨b, off + i * n + j, none⟩ = some v := by
  rcases h with rfl | h
  · simp at hi
  · exact h
theorem run_load {P : Program} {b off : Nat} {cs : List Value} {t : TypeId} {fs : Array Field} (hc : ∀ j v, cs[j]? = some v → w.cell? ⟨b, off + j, none⟩ = some v) (ht : P.underlying t = some (.struct fs)) {m : Nat} (hs : (P.info? t).map (·.size) = some m) (hl : cs.length = m) :
    (Instr.loadAt t (.pointer (some ⟨b, off, none⟩))).run P w = .ok (.agg cs.toArray) w := by
  obtain ⟨i, hi, e⟩ := Option.map_eq_some_iff.1 hs
  have h := run_loadCells_list (P := P) w ⟨b, off, none⟩ cs (fun j v hj => by rw [addr_add0]; exact hc j v hj)
  simp only [Instr.loadAt, Instr.sureAddr, loadVar, isAgg, Sem.run_bind, Sem.run_pure, Result.andThen_ok, run_underlying ht, run_sizeOf _ hi, if_true]
  have hc : P.cellsOf t = m := by unfold Program.cellsOf; rw [hi]; exact e
  rw [hc, ← hl, h]
  rfl
/-- The load of an element (its cells by hc), with a guard or without. -/
theorem load {P : Program} {ops : Array Oper} {rest : List Oper} {o : Oper} {x : Act} {Q : Exit → Act → World → Prop} {b off : Nat} {cs : List Value} {t : TypeId} {p : Operand} (ho : o.op = .load t p) (hw : Region.wanted o (yielded ops x.tmps) = true)
    (hp : x.eval p = .pointer (some ⟨b, off, none⟩)) {fs : Array Field} (ht : P.underlying t = some (.struct fs)) {m : Nat} (hs : (P.info? t).map (·.size) = some m)
    (hc : ∀ j v, cs[j]? = some v → w.cell? ⟨b, off + j, none⟩ = some v) (hl : cs.length = m)
    (h : wpList P ops Q rest (x.put o.dst (.agg cs.toArray)) w) : wpList P ops Q (o :: rest) x w := by
  have hr := run_load (P := P) hc ht hs hl
  refine wpList_step fun K hK => ?_
  rw [if_pos hw]
  unfold Oper.wp execOp
  simp only [ho, hp, Sem.run_bind, Sem.run_pure, Result.andThen_ok, hr]
  exact hK _ _ h
end
section
variable {H : Type} {enc : TypeId × Value → H} {P : Program} {W : World}
/-- How a slice that came in reads, each element by its own law. -/
theorem of_rd {α : Type} (d0 : α) (cells : α → List Value) (ok : α → Prop) {t e : TypeId} {n : Nat} {cs : List Value} {d : DataW H} (h : Rd enc P W t cs d) (ht : P.underlying t = some (.slice e)) (hs : Sz P t d) (hn : P.cellsOf e = n)
    (hel : ∀ (cs : List Value) (d : DataW H), Rd enc P W e cs d → Sz P e d → ∃ x : α, cs = cells x ∧ ok x) (hp : ∀ x, ok x → 0 < (cells x).length) :
    ∃ a xs c, cs = [.slice a (List.length xs) c] ∧ SlOf W cells n a xs ∧ (∀ x, x ∈ xs → ok x) ∧ xs.length ≤ maxLen := by
  rcases h.slice ht hs with rfl | ⟨a, len, cap, rfl, hl, hm, _, hel'⟩
  · exact ⟨none, [], 0, rfl, .inl rfl, fun x hx => (by cases hx), Nat.zero_le _⟩
  · rw [hn] at hel'
    obtain ⟨xs, hlen, hx⟩ := Proofs.Ytjhfjjkfnmnkgaa.choose_list d0 len (fun i x => ok x ∧ (cells x).length = n ∧ ∀ j, j < n → W.cell? (a.add (i * n + j)) = (cells x)[j]?) (fun i hi => by
      obtain ⟨cs', di, hcl, hc, hr, hz⟩ := hel' i hi
      obtain ⟨x, rfl, hk⟩ := hel _ _ hr hz
      exact ⟨x, hk, hcl, hc⟩)
    subst hlen
    refine ⟨some a, xs, cap, rfl, ?_, fun x hx' => ?_, by omega⟩
    · cases xs with
      | nil => exact .inl rfl
      | cons x0 xs0 =>
        obtain ⟨hk0, hl0, hc0⟩ := hx 0 (by simp)
        have hn0 : 0 < n := by have := hp _ hk0; omega
        obtain ⟨v, hv⟩ : ∃ v, (cells ((x0 :: xs0).getD 0 d0))[0]? = some v := ⟨_, List.getElem?_eq_getElem (by omega)⟩
        have hsp := addr_spot (j := 0 * n + 0) ((hc0 0 hn0).trans hv) (by simp)
        refine .inr ⟨a.block, a.off, by rw [← hsp], fun i x hi j v hj => ?_⟩
        have hil : i < (x0 :: xs0).length := (List.getElem?_eq_some_iff.1 hi).1
        obtain ⟨_, hli, hci⟩ := hx i hil
        have e : (x0 :: xs0).getD i d0 = x := by simp [List.getD, hi]
        rw [e] at hli hci
        have hjl : j < (cells x).length := (List.getElem?_eq_some_iff.1 hj).1
        have := hci j (by omega)
        rw [hsp, addr_add0, ← Nat.add_assoc, hj] at this
        exact this
    · obtain ⟨i, hi, rfl⟩ := List.getElem_of_mem hx'
      have := (hx i hi).1
      simpa [List.getD, hi] using this
end
end SlOf
end Go
