/- My own texts ReadsD, Two, laid in one file. -/
import Derived.Test.YtnkekdmikopdgaaZ17
import Derived.Test.YtnkekdmikopdgaaZ5
import Derived.Test.YtnkekdmikopdgaaZ2

/- Bytes somewhere, as Parse, Cut want them. -/
namespace Go.Proofs.Ytnkekdmikopdgaa
set_option maxRecDepth 100000
set_option linter.unusedVariables false
set_option linter.unusedSimpArgs false
set_option linter.unnecessarySimpa false
open Go.RowKit

/-- A slice of bytes: these. -/
def PZ (w : World) (a : Option Addr) (c : Nat) (z : List Int) : Prop := z = [] ∨ ∃ sb off, a = some ⟨sb, off, none⟩ ∧ z.length ≤ c ∧ sb < w.heap.size ∧ ∀ i, i < z.length → w.cell? ⟨sb, off + i, none⟩ = some (.int .u8 (z.getD i 0))
theorem PZ.chg {w w' : World} {a : Option Addr} {c : Nat} {z : List Int} {G : Nat → Prop} (h : PZ w a c z) (k : Chg G w w') (hG : ∀ sb off, a = some ⟨sb, off, none⟩ → sb < w.heap.size → ¬ G sb) : PZ w' a c z :=
  h.imp id fun ⟨sb, off, h1, h2, h3, h4⟩ => ⟨sb, off, h1, h2, Nat.lt_of_lt_of_le h3 k.size, fun i hi => k.cell (h4 i hi) (hG sb off h1 h3)⟩
theorem PZ.grow {w w' : World} {a : Option Addr} {c : Nat} {z : List Int} (h : PZ w a c z) (g : Grow.G w w') : PZ w' a c z := h.chg (Chg.grow (G := fun _ => False) g) (fun _ _ _ _ => id)
/-- What stands while later blocks are written. -/
theorem PZ.later {w w' : World} {a : Option Addr} {c : Nat} {z : List Int} {B : Nat} (h : PZ w a c z) (k : Chg (fun k => B ≤ k) w w') (hB : w.heap.size ≤ B) : PZ w' a c z := h.chg k (fun _ _ _ h3 q => by omega)
theorem PZ.src {w : World} {a : Option Addr} {c : Nat} {z : List Int} (h : PZ w a c z) : Fr.Src w a (z.map (Value.int .u8)) := by
  rcases h with rfl | ⟨sb, off, rfl, _, _, hc⟩
  · cases a with
    | none => exact .inl ⟨rfl, rfl⟩
    | some ad => exact .inr ⟨ad, rfl, fun j u hj => by cases hj⟩
  · refine .inr ⟨_, rfl, fun j u hj => ?_⟩
    have hj2 : j < z.length := by
      have := (List.getElem?_eq_some_iff.1 hj).1
      simpa using this
    have e : (⟨sb, off, none⟩ : Addr).add j = ⟨sb, off + j, none⟩ := by unfold Addr.add; split <;> simp_all
    rw [e, hc j hj2]
    simp [hj2] at hj
    simp [List.getD, hj2, hj]
theorem PZ.take {w : World} {a : Option Addr} {c : Nat} {z : List Int} (h : PZ w a c z) (k : Nat) : PZ w a c (z.take k) := by
  rcases h with rfl | ⟨sb, off, h1, h2, h3, h4⟩
  · exact .inl (by simp)
  · refine .inr ⟨sb, off, h1, by rw [List.length_take]; omega, h3, fun i hi => ?_⟩
    rw [List.length_take] at hi
    rw [h4 i (by omega)]
    simp [List.getD, List.getElem?_take, show i < k by omega]
theorem PZ.by {w : World} {a : Option Addr} {c : Nat} {z : List Int} (h : PZ w a c z) (hz : z ≠ []) : ∃ sb, BySl w sb a c z ∧ sb < w.heap.size := by
  rcases h with h | ⟨sb, off, h1, h2, h3, h4⟩
  · exact absurd h hz
  · exact ⟨sb, .inr ⟨off, h1, h2, h4⟩, h3⟩
theorem by_pz {w : World} {a : Option Addr} {c : Nat} {z : List Int} (h : ByAt w a z) (hc : z.length ≤ c) : PZ w a c z := by
  by_cases hz : z = []
  · exact .inl hz
  · rcases h with h | ⟨sb, off, h1, h2⟩
    · exact absurd h hz
    · have hl : 0 < z.length := List.length_pos_iff.2 hz
      refine .inr ⟨sb, off, h1, hc, ?_, h2⟩
      have := h2 0 hl
      rcases Nat.lt_or_ge sb w.heap.size with h' | h'
      · exact h'
      · simp [World.cell?, Array.getElem?_eq_none h'] at this
theorem PZ.at {w : World} {a : Option Addr} {c : Nat} {z : List Int} (h : PZ w a c z) {i : Nat} (hi : i < z.length) : ∃ sb off, a = some ⟨sb, off, none⟩ ∧ w.cell? ⟨sb, off + i, none⟩ = some (.int .u8 (z.getD i 0)) ∧ sb < w.heap.size := by
  rcases h with rfl | ⟨sb, off, h1, h2, h3, h4⟩
  · simp at hi
  · exact ⟨sb, off, h1, h4 i hi, h3⟩
end Go.Proofs.Ytnkekdmikopdgaa

/- Two rows of bytes of a call's own that grow side by side, in whatever order; a region that draws its order, by what it leaves. -/
namespace Go.Proofs.Ytnkekdmikopdgaa
set_option maxRecDepth 100000
set_option linter.unusedVariables false
set_option linter.unusedSimpArgs false
set_option linter.unnecessarySimpa false
open Go.RowKit

structure Two (w : World) (base : Nat) (v : Value) (xs : List Int) (u : Value) (ys : List Int) : Prop where
  l : OwnB w base v xs
  r : OwnB w base u ys
  ne : ∀ k, v.ownBlock = some k → ¬ u.ownBlock = some k
  b : base ≤ w.heap.size
namespace Two
variable {w w' : World} {base n : Nat} {v u v' : Value} {xs ys zs : List Int} {cs : List Value}
theorem none (w : World) : Two w w.heap.size (.slice none 0 0) [] (.slice none 0 0) [] :=
  ⟨⟨rfl, .inl ⟨rfl, rfl⟩⟩, ⟨rfl, .inl ⟨rfl, rfl⟩⟩, (fun k h => by cases h), Nat.le_refl _⟩
theorem grow (h : Two w base v xs u ys) (g : Grow.G w w') : Two w' base v xs u ys := ⟨own_later h.l g, own_later h.r g, h.ne, Nat.le_trans h.b g.size⟩
theorem swap (h : Two w base v xs u ys) : Two w base u ys v xs := ⟨h.r, h.l, fun k hk q => h.ne k q hk, h.b⟩
theorem left (h : Two w base v xs u ys) (f : Fr.Fr w w' v v') (o : OwnB w' base v' zs) : Two w' base v' zs u ys :=
  ⟨o, (Chg.ofFr f).own h.r (fun k hk q => h.ne k q hk), (fun k hk q => by
    rcases f.o with e | ⟨g, e, hg⟩
    · exact h.ne k (e ▸ hk) q
    · have e2 : k = g := Option.some.inj (hk.symm.trans e)
      have := (h.r.lt k q).2
      omega), Nat.le_trans h.b f.g.size⟩
theorem right {u' : Value} (h : Two w base v xs u ys) (f : Fr.Fr w w' u u') (o : OwnB w' base u' zs) : Two w' base v xs u' zs := (h.swap.left f o).swap
end Two
end Go.Proofs.Ytnkekdmikopdgaa
