/- My own texts RCut, ArgR, CutsD, laid in one file. -/
import Derived.Test.YtnkekdmikopdgaaZ23
import Derived.Test.YtnkekdmikopdgaaZ14
import Derived.Test.YtnkekdmikopdgaaZ2
import Derived.Test.YtnkekdmikopdgaaZ17
import Derived.Test.YtnkekdmikopdgaaZ5
import Derived.Test.YtnkekdmikopdgaaZ16

/- What damperref3's Cut tells. -/
namespace Go.Proofs.Ytnkekdmikopdgaa
set_option maxRecDepth 100000
set_option linter.unusedVariables false
set_option linter.unusedSimpArgs false
set_option linter.unnecessarySimpa false
open Go.RowKit

theorem PZ.drop {w : World} {sb off c : Nat} {z : List Int} (h : PZ w (some ⟨sb, off, none⟩) c z) {k : Nat} : PZ w (some ⟨sb, off + k, none⟩) (c - k) (z.drop k) := by
  rcases h with rfl | ⟨sb', off', h1, h2, h3, h4⟩
  · exact .inl (by simp)
  · injection h1 with h1
    injection h1 with e1 e2
    subst e1 e2
    refine .inr ⟨sb, off + k, rfl, by rw [List.length_drop]; omega, h3, fun i hi => ?_⟩
    rw [List.length_drop] at hi
    rw [Nat.add_assoc, h4 (k + i) (by omega)]
    simp [List.getD, List.getElem?_drop]
theorem PiecesAt.lt {w : World} {base : Nat} {v : Value} {L : List (List Int)} (h : PiecesAt w base v L) : ∀ k, v.ownBlock = some k → base ≤ k ∧ k < w.heap.size := by
  obtain ⟨vs, _, hrow, _⟩ := h
  exact fun k hk => hrow.lt k hk
theorem PiecesAt.grow {w w' : World} {base : Nat} {v : Value} {L : List (List Int)} (h : PiecesAt w base v L) (g : Grow.G w w') : PiecesAt w' base v L := by
  obtain ⟨vs, h1, hrow, hel⟩ := h
  exact ⟨vs, h1, own_later hrow g, fun i hi => own_later (hel i hi) g⟩
theorem PiecesAt.shape {w : World} {base : Nat} {v : Value} {L : List (List Int)} (h : PiecesAt w base v L) : ∃ a c, v = .slice a L.length c := by
  obtain ⟨vs, h1, hrow, hel⟩ := h
  obtain ⟨a, c, rfl⟩ := own_shape hrow
  exact ⟨a, c, rfl⟩
end Go.Proofs.Ytnkekdmikopdgaa

/- How a row of rows of bytes that came in reads. -/
namespace Go.Proofs.Ytnkekdmikopdgaa
set_option maxRecDepth 100000
set_option linter.unusedVariables false
set_option linter.unusedSimpArgs false
open Go.ChangeShapes Go.WideShapes Go.ChangeAt Go.RowKit Go.Args

/-- Bytes in a row of such: where they lie, what they are, their room. -/
structure BRow where
  a : Option Addr
  zs : List Int
  c : Nat
def br0 : BRow := ⟨none, [], 0⟩
def BRow.ok (w : World) (r : BRow) : Prop := ByAt w r.a r.zs ∧ Bts r.zs ∧ r.zs.length ≤ 140737488351232 ∧ r.zs.length ≤ r.c
def RowsAt (w : World) (a : Option Addr) (R : List BRow) : Prop := R = [] ∨ ∃ b off, a = some ⟨b, off, none⟩ ∧ ∀ i, i < R.length → w.cell? ⟨b, off + i, none⟩ = some (.slice (R.getD i br0).a (R.getD i br0).zs.length (R.getD i br0).c) ∧ (R.getD i br0).ok w
section
variable {H : Type} {enc : TypeId × Value → H} {W : World}
end
end Go.Proofs.Ytnkekdmikopdgaa

/- Pieces put behind one another, and what Cut makes of them: what EventCuts' walk leans on. -/
namespace Go.Proofs.Ytnkekdmikopdgaa
set_option maxRecDepth 100000
set_option linter.unusedVariables false
set_option linter.unusedSimpArgs false
set_option linter.unnecessarySimpa false
open Go.RowKit

theorem RowsAt.grow {w w' : World} {a : Option Addr} {R : List BRow} (h : RowsAt w a R) (g : Grow.G w w') {i : Nat} (hi : i < R.length) :
    ∃ b off, a = some ⟨b, off, none⟩ ∧ b < w.heap.size ∧ w'.cell? ⟨b, off + i, none⟩ = some (.slice (R.getD i br0).a (R.getD i br0).zs.length (R.getD i br0).c) ∧ PZ w' (R.getD i br0).a (R.getD i br0).c (R.getD i br0).zs ∧ Bts (R.getD i br0).zs ∧ (R.getD i br0).zs.length ≤ 140737488351232 ∧ (R.getD i br0).zs.length ≤ (R.getD i br0).c := by
  rcases h with rfl | ⟨b, off, ha, hc⟩
  · simp at hi
  · obtain ⟨h1, h2, h3, h4, h5⟩ := hc i hi
    have hb : b < w.heap.size := by
      rcases Nat.lt_or_ge b w.heap.size with h' | h'
      · exact h'
      · simp [World.cell?, Array.getElem?_eq_none h'] at h1
    exact ⟨b, off, ha, hb, cell_later g h1, (by_pz h2 h5).grow g, h3, h4, h5⟩
theorem PiecesAt.at {w : World} {base : Nat} {v : Value} {L : List (List Int)} (h : PiecesAt w base v L) {k : Nat} (hk : k < L.length) :
    ∃ g c sa ca, v = .slice (some ⟨g, 0, none⟩) L.length c ∧ base ≤ g ∧ w.cell? ⟨g, k, none⟩ = some (.slice sa (L.getD k []).length ca) ∧ OwnB w base (.slice sa (L.getD k []).length ca) (L.getD k []) := by
  obtain ⟨vs, hvs, hrow, hel⟩ := h
  obtain ⟨g, c, rfl, hg⟩ := own_some hrow (by omega)
  obtain ⟨sa, ca, e⟩ := own_shape (hel k hk)
  have := hrow.cells (g := g) rfl k (vs.getD k undef) (by simp [List.getD, show k < vs.length by omega])
  rw [Args.addr_add0, Nat.zero_add, e] at this
  exact ⟨g, c, sa, ca, rfl, hg, this, e ▸ hel k hk⟩
/-- Pieces none of which lies in block k0. -/
def PP (w : World) (base : Nat) (k0 : Option Nat) (u : Value) (L : List (List Int)) : Prop :=
  ∃ vs : List Value, vs.length = L.length ∧ w.ownsRow base 22 1 u L.length vs ∧ ∀ i, i < L.length → OwnB w base (vs.getD i undef) (L.getD i []) ∧ ∀ k, (vs.getD i undef).ownBlock = some k → k0 ≠ some k
namespace PP
variable {w w' : World} {base : Nat} {k0 : Option Nat} {u : Value} {L : List (List Int)}
theorem nil (w : World) (base : Nat) (k0 : Option Nat) : PP w base k0 (.slice none 0 0) [] := ⟨[], rfl, ⟨rfl, .inl ⟨rfl, rfl⟩⟩, fun i hi => absurd hi (by simp)⟩
theorem grow (h : PP w base k0 u L) (g : Grow.G w w') : PP w' base k0 u L := by
  obtain ⟨vs, h1, h2, h3⟩ := h
  exact ⟨vs, h1, own_later h2 g, fun i hi => ⟨own_later (h3 i hi).1 g, (h3 i hi).2⟩⟩
theorem of {b' : Nat} (h : PiecesAt w b' u L) (hb : base ≤ b') (hk : ∀ k, k0 = some k → k < b') : PP w base k0 u L := by
  obtain ⟨vs, h1, h2, h3⟩ := h
  exact ⟨vs, h1, own_base h2 hb, fun i hi => ⟨own_base (h3 i hi) hb, fun k hk1 e => by have := ((h3 i hi).lt k hk1).1; have := hk k e; omega⟩⟩
theorem new (h : PP w base k0 u L) {k1 : Nat} (hk : k1 = w.heap.size) (g : Grow.G w w') : PP w' base (some k1) u L := by
  obtain ⟨vs, h1, h2, h3⟩ := h
  exact ⟨vs, h1, own_later h2 g, fun i hi => ⟨own_later (h3 i hi).1 g, fun k hk1 e => by have := ((h3 i hi).1.lt k hk1).2; have e := Option.some.inj e; omega⟩⟩
theorem app {b' : Nat} {v v' : Value} {xs : List Int} (h : PP w base k0 u L) (hv : v.ownBlock = k0) (ho : OwnB w b' v xs) (f : Fr.Fr w w' v v') : PP w' base v'.ownBlock u L := by
  obtain ⟨vs, h1, h2, h3⟩ := h
  have C := Chg.ofFr f
  refine ⟨vs, h1, C.own h2 (fun k hk q => own_types ho h2 (by decide) q hk), fun i hi => ⟨C.own (h3 i hi).1 (fun k hk q => (h3 i hi).2 k hk (hv ▸ q)), fun k hk e => ?_⟩⟩
  rcases f.o with e1 | ⟨g, e1, hg⟩
  · exact (h3 i hi).2 k hk (by rw [← hv, ← e1]; exact e)
  · have := ((h3 i hi).1.lt k hk).2
    rw [e1] at e
    have e := Option.some.inj e
    omega
theorem p (h : PP w base k0 u L) : PiecesAt w base u L := by
  obtain ⟨vs, h1, h2, h3⟩ := h
  exact ⟨vs, h1, h2, fun i hi => (h3 i hi).1⟩
end PP
theorem PiecesAt.base {w : World} {base b' : Nat} {v : Value} {L : List (List Int)} (h : PiecesAt w b' v L) (hb : base ≤ b') : PiecesAt w base v L := by
  obtain ⟨vs, h1, h2, h3⟩ := h
  exact ⟨vs, h1, own_base h2 hb, fun i hi => own_base (h3 i hi) hb⟩
theorem PiecesAt.nil (w : World) (base : Nat) : PiecesAt w base (.slice none 0 0) [] := ⟨[], rfl, ⟨rfl, .inl ⟨rfl, rfl⟩⟩, fun i hi => absurd hi (by simp)⟩
theorem OwnB.ecut {w : World} {base n c : Nat} {a : Option Addr} {z : List Int} (h : OwnB w base (.slice a n c) z) (hw : 0 < w.heap.size) (hb : Bts z) (hl : z.length ≤ 100000) :
    Calls Try.prog 5 #[.slice a n c] w fun e w' => ∃ v, e = .returned v ∧ PiecesAt w' w.heap.size v (cutE z) ∧ Grow.G w w' := by
  obtain ⟨rfl, sb, h1, h2, _⟩ := own_sb h hw
  exact ecut_any sb a c z w h2 h1 hb hl
theorem cv_zero (w : World) (a : Option Addr) (c : Nat) : (convert 22 9 (.slice a 0 c)).run Try.prog w = .ok (.string (strOfNums [])) w := by
  cases a with
  | none => exact run_convert_bytes_nil w _ _ Try.underlying22 Try.underlying5 0 c _ Try.underlying9
  | some ad =>
    have hl : (loadCells ad 0).run Try.prog w = .ok (([] : List Int).map (Value.int .u8)).toArray w := by
      simpa using run_loadCells_list (P := Try.prog) w ad [] (fun j v hj => by cases hj)
    rw [run_convert_bytes_string w 22 9 5 _ 0 c Try.underlying22 Try.underlying5 Try.underlying9, run_bytesToString w _ 0 c [] hl]
    rfl
theorem PZ.cv {w : World} {a : Option Addr} {c : Nat} {z : List Int} (h : PZ w a c z) {n : Nat} (hn : n = z.length) : (convert 22 9 (.slice a n c)).run Try.prog w = .ok (.string (strOfNums z)) w := by
  subst hn
  by_cases hz : z = []
  · subst hz; exact cv_zero w a c
  · obtain ⟨sb, h1, h2⟩ := h.by hz
    exact cv_bytes h1
end Go.Proofs.Ytnkekdmikopdgaa
