/- My own texts SlOf, ArgC, laid in one file. -/
import Derived.Test.YthnjplbcaheooaaZ2
import Derived.Test.YthnjplbcaheooaaZ1
import Derived.Test.YthnjplbcaheooaaZ4

/- A row of elements of several cells each, that came in from without: what it reads, the load of one. No program is named here. -/
namespace Go
set_option linter.unusedVariables false
set_option linter.unusedSimpArgs false
open Go.RowKit Go.ChangeShapes Go.WideShapes Go.ChangeAt Go.Args

/-- Elements of n cells each, one behind another from (b, off) on. -/
def SlOf {α : Type} (w : World) (cells : α → List Value) (n : Nat) (a : Option Addr) (xs : List α) : Prop :=
  xs = [] ∨ ∃ b off, a = some ⟨b, off, none⟩ ∧ ∀ i x, xs[i]? = some x → ∀ j v, (cells x)[j]? = some v → w.cell? ⟨b, off + i * n + j, none⟩ = some v
namespace SlOf
section
variable {α : Type} {w w' : World} {cells : α → List Value} {n : Nat} {a : Option Addr} {xs : List α}
theorem later (h : SlOf w cells n a xs) (g : Grow.G w w') : SlOf w' cells n a xs :=
  h.imp id fun ⟨b, off, ha, hc⟩ => ⟨b, off, ha, fun i x hi j v hj => cell_later g (hc i x hi j v hj)⟩
/-- The row's place, when there is one element. -/
theorem spot (h : SlOf w cells n a xs) {i : Nat} (hi : i < xs.length) : ∃ b off, a = some ⟨b, off, none⟩ ∧ ∀ i x, xs[i]? = some x → ∀ j v, (cells x)[j]? = some v → w.cell? ⟨b, off + i * n + j, none⟩ = some v := by
  rcases h with rfl | h
  · simp at hi
  · exact h
theorem run_load {P : Program} {b off : Nat} {cs : List Value} {t : TypeId} {fs : Array Field} (hc : ∀ j v, cs[j]? = some v → w.cell? ⟨b, off + j, none⟩ = some v) (ht : P.underlying t = some (.struct fs)) {m : Nat} (hs : (P.info? t).map (·.size) = some m) (hl : cs.length = m) :
    (Instr.loadAt t (.pointer (some ⟨b, off, none⟩))).run P w = .ok (.agg cs.toArray) w := by
  obtain ⟨i, hi, e⟩ := Option.map_eq_some_iff.1 hs
  have h := run_loadCells_list (P := P) w ⟨b, off, none⟩ cs (fun j v hj => by rw [addr_add0]; exact hc j v hj)
  simp only [Instr.loadAt, Instr.sureAddr, loadVar, isAgg, Sem.run_bind, Sem.run_pure, Result.andThen_ok, run_underlying ht, run_sizeOf _ hi, if_true]
  have hc : P.cellsOf t = m := by unfold Program.cellsOf; rw [hi]; exact e
  rw [hc, ← hl, h]
  rfl
/-- The load of an element (its cells by hc), with a guard or without. -/
theorem load {P : Program} {ops : Array Oper} {rest : List Oper} {o : Oper} {x : Act} {Q : Exit → Act → World → Prop} {b off : Nat} {cs : List Value} {t : TypeId} {p : Operand} (ho : o.op = .load t p) (hw : Region.wanted o (yielded ops x.tmps) = true)
    (hp : x.eval p = .pointer (some ⟨b, off, none⟩)) {fs : Array Field} (ht : P.underlying t = some (.struct fs)) {m : Nat} (hs : (P.info? t).map (·.size) = some m)
    (hc : ∀ j v, cs[j]? = some v → w.cell? ⟨b, off + j, none⟩ = some v) (hl : cs.length = m)
    (h : wpList P ops Q rest (x.put o.dst (.agg cs.toArray)) w) : wpList P ops Q (o :: rest) x w := by
  have hr := run_load (P := P) hc ht hs hl
  refine wpList_step fun K hK => ?_
  rw [if_pos hw]
  unfold Oper.wp execOp
  simp only [ho, hp, Sem.run_bind, Sem.run_pure, Result.andThen_ok, hr]
  exact hK _ _ h
end
section
variable {H : Type} {enc : TypeId × Value → H} {P : Program} {W : World}
/-- How a slice that came in reads, each element by its own law. -/
theorem of_rd {α : Type} (d0 : α) (cells : α → List Value) (ok : α → Prop) {t e : TypeId} {n : Nat} {cs : List Value} {d : DataW H} (h : Rd enc P W t cs d) (ht : P.underlying t = some (.slice e)) (hs : Sz P t d) (hn : P.cellsOf e = n)
    (hel : ∀ (cs : List Value) (d : DataW H), Rd enc P W e cs d → Sz P e d → ∃ x : α, cs = cells x ∧ ok x) (hp : ∀ x, ok x → 0 < (cells x).length) :
    ∃ a xs c, cs = [.slice a (List.length xs) c] ∧ SlOf W cells n a xs ∧ (∀ x, x ∈ xs → ok x) ∧ xs.length ≤ maxLen := by
  rcases h.slice ht hs with rfl | ⟨a, len, cap, rfl, hl, hm, _, hel'⟩
  · exact ⟨none, [], 0, rfl, .inl rfl, fun x hx => (by cases hx), Nat.zero_le _⟩
  · rw [hn] at hel'
    obtain ⟨xs, hlen, hx⟩ := Proofs.Ythnjplbcaheooaa.choose_list d0 len (fun i x => ok x ∧ (cells x).length = n ∧ ∀ j, j < n → W.cell? (a.add (i * n + j)) = (cells x)[j]?) (fun i hi => by
      obtain ⟨cs', di, hcl, hc, hr, hz⟩ := hel' i hi
      obtain ⟨x, rfl, hk⟩ := hel _ _ hr hz
      exact ⟨x, hk, hcl, hc⟩)
    subst hlen
    refine ⟨some a, xs, cap, rfl, ?_, fun x hx' => ?_, by omega⟩
    · cases xs with
      | nil => exact .inl rfl
      | cons x0 xs0 =>
        obtain ⟨hk0, hl0, hc0⟩ := hx 0 (by simp)
        have hn0 : 0 < n := by have := hp _ hk0; omega
        obtain ⟨v, hv⟩ : ∃ v, (cells ((x0 :: xs0).getD 0 d0))[0]? = some v := ⟨_, List.getElem?_eq_getElem (by omega)⟩
        have hsp := addr_spot (j := 0 * n + 0) ((hc0 0 hn0).trans hv) (by simp)
        refine .inr ⟨a.block, a.off, by rw [← hsp], fun i x hi j v hj => ?_⟩
        have hil : i < (x0 :: xs0).length := (List.getElem?_eq_some_iff.1 hi).1
        obtain ⟨_, hli, hci⟩ := hx i hil
        have e : (x0 :: xs0).getD i d0 = x := by simp [List.getD, hi]
        rw [e] at hli hci
        have hjl : j < (cells x).length := (List.getElem?_eq_some_iff.1 hj).1
        have := hci j (by omega)
        rw [hsp, addr_add0, ← Nat.add_assoc, hj] at this
        exact this
    · obtain ⟨i, hi, rfl⟩ := List.getElem_of_mem hx'
      have := (hx i hi).1
      simpa [List.getD, hi] using this
end
end SlOf
end Go

/- Rows of configurations, of truths that came in. -/
namespace Go.Proofs.Ythnjplbcaheooaa
set_option linter.unusedVariables false
set_option maxRecDepth 100000
open Go.ChangeShapes Go.WideShapes Go.ChangeAt Go.RowKit Go.Args
section
variable {H : Type} {enc : TypeId × Value → H} {W : World}
def Bool.cells1 (b : Bool) : List Value := [.bool b]
/-- What is known of a row of configurations that came in. -/
structure CfgsIn (W : World) (a : Option Addr) (xs : List Cfg) : Prop where
  sl : SlOf W Cfg.cells 6 a xs
  ok : ∀ x, x ∈ xs → x.wf ∧ x.nm.size ≤ 140737488351232
  le : xs.length ≤ maxLen
structure BoolsIn (W : World) (a : Option Addr) (xs : List Bool) : Prop where
  sl : SlOf W Bool.cells1 1 a xs
  le : xs.length ≤ maxLen
theorem cfgs_of {base : Nat} {v : Value} {d : DataW H} {p : List MemPlace} (hv : Value.okWide Try.prog W .any base 36 v) (h : DataW.Trod enc Try.prog W 0 (fun _ => true) true 36 v d p) (hs : Sz Try.prog 36 d) :
    ∃ a xs c, v = .slice a (List.length xs) c ∧ CfgsIn W a xs := by
  obtain ⟨s, len, cap, rfl⟩ := okWide_slice Try.underlying36 hv
  obtain ⟨a, xs, c, e, h1, h2, h3⟩ := SlOf.of_rd (⟨⟨#[]⟩, 0, 0, 0, 0, 0⟩ : Cfg) Cfg.cells (fun c => c.wf ∧ c.nm.size ≤ 140737488351232) (rd_of h) Try.underlying36 hs (n := 6) (by kernel_rfl) (fun cs d h hs => by
    obtain ⟨c, e, h1, h2⟩ := cfg_rd h hs
    exact ⟨c, e, h1, by simpa [reachBytes] using h2⟩) (fun x _ => by simp [Cfg.cells])
  exact ⟨a, xs, c, by simpa [Value.cells] using e, h1, h2, h3⟩
theorem bools_of {base : Nat} {v : Value} {d : DataW H} {p : List MemPlace} (hv : Value.okWide Try.prog W .any base 37 v) (h : DataW.Trod enc Try.prog W 0 (fun _ => true) true 37 v d p) (hs : Sz Try.prog 37 d) :
    ∃ a xs c, v = .slice a (List.length xs) c ∧ BoolsIn W a xs := by
  obtain ⟨s, len, cap, rfl⟩ := okWide_slice Try.underlying37 hv
  obtain ⟨a, xs, c, e, h1, h2, h3⟩ := SlOf.of_rd false Bool.cells1 (fun _ => True) (rd_of h) Try.underlying37 hs (n := 1) (by kernel_rfl) (fun cs d h hs => by
    obtain ⟨b, e⟩ := h.bool Try.underlying4
    exact ⟨b, e, trivial⟩) (fun x _ => by simp [Bool.cells1])
  exact ⟨a, xs, c, by simpa [Value.cells] using e, h1, h3⟩
theorem CfgsIn.later {w w' : World} {a : Option Addr} {xs : List Cfg} (h : CfgsIn w a xs) (g : Grow.G w w') : CfgsIn w' a xs := ⟨h.sl.later g, h.ok, h.le⟩
theorem BoolsIn.later {w w' : World} {a : Option Addr} {xs : List Bool} (h : BoolsIn w a xs) (g : Grow.G w w') : BoolsIn w' a xs := ⟨h.sl.later g, h.le⟩
/-- An element's place and cells. -/
theorem CfgsIn.at {w : World} {a : Option Addr} {xs : List Cfg} (h : CfgsIn w a xs) {i : Nat} {x : Cfg} (hi : xs[i]? = some x) : ∃ b off, a = some ⟨b, off, none⟩ ∧ (∀ w', Grow.G w w' → ∀ j v, x.cells[j]? = some v → w'.cell? ⟨b, off + i * 6 + j, none⟩ = some v) := by
  have hl : i < xs.length := (List.getElem?_eq_some_iff.1 hi).1
  obtain ⟨b, off, ha, hc⟩ := h.sl.spot hl
  exact ⟨b, off, ha, fun w' g j v hj => cell_later g (hc i x hi j v hj)⟩
theorem BoolsIn.at {w : World} {a : Option Addr} {xs : List Bool} (h : BoolsIn w a xs) {i : Nat} {x : Bool} (hi : xs[i]? = some x) : ∃ b off, a = some ⟨b, off, none⟩ ∧ w.cell? ⟨b, off + i, none⟩ = some (.bool x) := by
  have hl : i < xs.length := (List.getElem?_eq_some_iff.1 hi).1
  obtain ⟨b, off, ha, hc⟩ := h.sl.spot hl
  exact ⟨b, off, ha, by simpa using hc i x hi 0 (.bool x) rfl⟩
end
end Go.Proofs.Ythnjplbcaheooaa
