/- My own texts ReadsD, Two, laid in one file. -/
import Derived.Test.YtnkekdmikopdgaaGreatZ17
import Derived.Test.YtnkekdmikopdgaaGreatZ5
import Derived.Test.YtnkekdmikopdgaaGreatZ2

/- Bytes somewhere, as Parse, Cut want them. -/
namespace Go.Proofs.YtnkekdmikopdgaaGreat
set_option maxRecDepth 100000
set_option linter.unusedVariables false
set_option linter.unusedSimpArgs false
set_option linter.unnecessarySimpa false
open Go.RowKit

/-- A slice of bytes: these. -/
def PZ (w : World) (a : Option Addr) (c : Nat) (z : List Int) : Prop := z = [] ∨ ∃ sb off, a = some ⟨sb, off, none⟩ ∧ z.length ≤ c ∧ sb < w.heap.size ∧ ∀ i, i < z.length → w.cell? ⟨sb, off + i, none⟩ = some (.int .u8 (z.getD i 0))
theorem PZ.chg {w w' : World} {a : Option Addr} {c : Nat} {z : List Int} {G : Nat → Prop} (h : PZ w a c z) (k : Chg G w w') (hG : ∀ sb off, a = some ⟨sb, off, none⟩ → sb < w.heap.size → ¬ G sb) : PZ w' a c z :=
 h.imp id fun ⟨sb, off, h1, h2, h3, h4⟩ => ⟨sb, off, h1, h2, Nat.lt_of_lt_of_le h3 k.size, fun i hi => k.cell (h4 i hi) (hG sb off h1 h3)⟩
theorem PZ.grow {w w' : World} {a : Option Addr} {c : Nat} {z : List Int} (h : PZ w a c z) (g : Grow.G w w') : PZ w' a c z := h.chg (Chg.grow (G := fun _ => False) g) (fun _ _ _ _ => id)
/-- What stands while later blocks are written. -/
theorem PZ.later {w w' : World} {a : Option Addr} {c : Nat} {z : List Int} {B : Nat} (h : PZ w a c z) (k : Chg (fun k => B ≤ k) w w') (hB : w.heap.size ≤ B) : PZ w' a c z := h.chg k (fun _ _ _ h3 q => by omega)
theorem PZ.src {w : World} {a : Option Addr} {c : Nat} {z : List Int} (h : PZ w a c z) : Fr.Src w a (z.map (Value.int .u8)) := by
 rcases h with rfl | ⟨sb, off, rfl, _, _, hc⟩
 ·
  cases a with
  | none => exact .inl ⟨rfl, rfl⟩
  | some ad => exact .inr ⟨ad, rfl, fun j u hj => by cases hj⟩
 ·
  refine .inr ⟨_, rfl, fun j u hj => ?_⟩
  have hj2 : j < z.length := by
   have := (List.getElem?_eq_some_iff.1 hj).1
   simpa using this
  have e : (⟨sb, off, none⟩ : Addr).add j = ⟨sb, off + j, none⟩ := by unfold Addr.add; split <;> simp_all
  rw [e, hc j hj2]
  simp [hj2] at hj
  simp [List.getD, hj2, hj]
theorem PZ.old {w : World} {a : Option Addr} {c : Nat} {z : List Int} (h : PZ w a c z) : ∃ sb, (z = [] ∨ ∃ off, a = some ⟨sb, off, none⟩ ∧ z.length ≤ c ∧ sb < w.heap.size ∧ ∀ i, i < z.length → w.cell? ⟨sb, off + i, none⟩ = some (.int .u8 (z.getD i 0))) := by
 rcases h with h | ⟨sb, h⟩
 ·
  exact ⟨0, .inl h⟩
 ·
  exact ⟨sb, .inr h⟩
theorem own_pz' {w : World} {base n c : Nat} {a : Option Addr} {z : List Int} (h : OwnB w base (.slice a n c) z) : PZ w a c z := by
 obtain ⟨sb, h⟩ := own_pz h
 exact h.imp id fun h => ⟨sb, h⟩
theorem PZ.take {w : World} {a : Option Addr} {c : Nat} {z : List Int} (h : PZ w a c z) (k : Nat) : PZ w a c (z.take k) := by
 rcases h with rfl | ⟨sb, off, h1, h2, h3, h4⟩
 ·
  exact .inl (by simp)
 ·
  refine .inr ⟨sb, off, h1, by rw [List.length_take]; omega, h3, fun i hi => ?_⟩
  rw [List.length_take] at hi
  rw [h4 i (by omega)]
  simp [List.getD, List.getElem?_take, show i < k by omega]
theorem PZ.by {w : World} {a : Option Addr} {c : Nat} {z : List Int} (h : PZ w a c z) (hz : z ≠ []) : ∃ sb, BySl w sb a c z ∧ sb < w.heap.size := by
 rcases h with h | ⟨sb, off, h1, h2, h3, h4⟩
 ·
  exact absurd h hz
 ·
  exact ⟨sb, .inr ⟨off, h1, h2, h4⟩, h3⟩
theorem by_pz {w : World} {a : Option Addr} {c : Nat} {z : List Int} (h : ByAt w a z) (hc : z.length ≤ c) : PZ w a c z := by
 by_cases hz : z = []
 ·
  exact .inl hz
 ·
  rcases h with h | ⟨sb, off, h1, h2⟩
  ·
   exact absurd h hz
  ·
   have hl : 0 < z.length := List.length_pos_iff.2 hz
   refine .inr ⟨sb, off, h1, hc, ?_, h2⟩
   have := h2 0 hl
   rcases Nat.lt_or_ge sb w.heap.size with h' | h'
   ·
    exact h'
   ·
    simp [World.cell?, Array.getElem?_eq_none h'] at this
theorem PZ.at {w : World} {a : Option Addr} {c : Nat} {z : List Int} (h : PZ w a c z) {i : Nat} (hi : i < z.length) : ∃ sb off, a = some ⟨sb, off, none⟩ ∧ w.cell? ⟨sb, off + i, none⟩ = some (.int .u8 (z.getD i 0)) ∧ sb < w.heap.size := by
 rcases h with rfl | ⟨sb, off, h1, h2, h3, h4⟩
 ·
  simp at hi
 ·
  exact ⟨sb, off, h1, h4 i hi, h3⟩
/-- A row in a block that has been laid. -/
theorem own_nc {w : World} {b n base : Nat} {cs : List Value} {T : TypeId} (h : w.heap[b]? = some (.cells cs.toArray T (0, 0))) (hn : cs.length = n) (h0 : base ≤ b) (hm : n ≤ maxLen) : w.ownsRow base T 1 (.slice (some ⟨b, 0, none⟩) n n) n cs := by
 subst hn
 exact ⟨by simp, .inr ⟨b, cs.length, cs.toArray, rfl, h0, h, Nat.le_refl _, hm, by simp, by simp⟩⟩

/-- A block's load that stands behind a guard. -/
theorem loadAllW {P : Program} {ops : Array Oper} {rest : List Oper} {o : Oper} {a : Act} {Q : Exit → Act → World → Prop} {w0 w : World} {L : List MBox} (i : Nat) {t : TypeId} {p : Operand} (ho : o.op = .load t p) (hw : Region.wanted o (yielded ops a.tmps) = true)
  {g : Nat} (hp : a.eval p = .pointer (some ⟨g, 0, none⟩)) {fs : Array Field} (ht : P.underlying t = some (.struct fs)) {n : Nat} (hs : (P.info? t).map (·.size) = some n)
  (hm : Mem w0 w L) {cs : List Value} {T : TypeId} (hi : L[i]? = some (g, cs, T)) (hl : cs.length = n)
  (h : wpList P ops Q rest (a.put o.dst (.agg cs.toArray)) w) : wpList P ops Q (o :: rest) a w := by
 have hc : P.cellsOf t = n := by
  unfold Program.cellsOf
  cases hi : P.info? t with
  | none => rw [hi] at hs; cases hs
  | some i => rw [hi] at hs; simpa using hs
 have hr := Box.run_load (P := P) (off := 0) w (hm.blk hi) ht (by cases hi : P.info? t with
  | none => rw [hi] at hs; cases hs
  | some i => rfl) cs (by rw [hc, ← hl]; simp) (by rw [hc, hl])
 refine wpList_step fun K hK => ?_
 rw [if_pos hw]
 unfold Oper.wp execOp
 simp only [ho, hp, Sem.run_bind, Sem.run_pure, Result.andThen_ok, hr]
 exact hK _ _ h
/-- A region that ends as it should, in acts and worlds that keep S. -/
def PostN (S : Act → World → Prop) : Exit → Act → World → Prop
 | .normal, A, W => S A W
 | _, _, _ => False
theorem wp_spec {P : Program} {c : Code} {Q : Exit → Act → World → Prop} {a : Act} {w : World} (S : Act → Act → World → Prop)
  (h1 : c.wp P (PostN (S a)) a w) (h2 : ∀ A W, S a A W → Q .normal A W) : c.wp P Q a w :=
 wp_mono h1 fun e A W h => by cases e <;> first | exact h2 A W h | exact h.elim
/-- A loop that is left by way of the block id. -/
def PostE (id : Nat) (S : Act → World → Prop) : Exit → Act → World → Prop
 | .exit i, A, W => i = id ∧ S A W
 | _, _, _ => False
theorem wp_specE {P : Program} {c : Code} {Q : Exit → Act → World → Prop} {a : Act} {w : World} (id : Nat) (S : Act → Act → World → Prop)
  (h1 : c.wp P (PostE id (S a)) a w) (h2 : ∀ A W, S a A W → Q (.exit id) A W) : c.wp P Q a w :=
 wp_mono h1 fun e A W h => by
  cases e <;> first | exact h.elim | (obtain ⟨h0, h⟩ := h; subst h0; exact h2 A W h)
structure Two (w : World) (base : Nat) (v : Value) (xs : List Int) (u : Value) (ys : List Int) : Prop where
 l : OwnB w base v xs
 r : OwnB w base u ys
 ne : ∀ k, v.ownBlock = some k → ¬ u.ownBlock = some k
 b : base ≤ w.heap.size
namespace Two
variable {w w' : World} {base n : Nat} {v u v' : Value} {xs ys zs : List Int} {cs : List Value}
theorem none (w : World) : Two w w.heap.size (.slice none 0 0) [] (.slice none 0 0) [] :=
 ⟨⟨rfl, .inl ⟨rfl, rfl⟩⟩, ⟨rfl, .inl ⟨rfl, rfl⟩⟩, (fun k h => by cases h), Nat.le_refl _⟩
theorem grow (h : Two w base v xs u ys) (g : Grow.G w w') : Two w' base v xs u ys := ⟨own_later h.l g, own_later h.r g, h.ne, Nat.le_trans h.b g.size⟩
theorem newL (h : Two w base v [] u ys) (g : Grow.G w w') (hc : w'.heap[w.heap.size]? = some (.cells cs.toArray 5 (0, 0))) (hcs : cs = xs.map (Value.int .u8)) (hn : xs.length = n) (hm : n ≤ maxLen) :
  Two w' base (.slice (some ⟨w.heap.size, 0, Option.none⟩) n n) xs u ys := by
 subst hcs hn
 exact ⟨own_nc hc (by simp) h.b hm, own_later h.r g, (fun k hk q => by have e : w.heap.size = k := Option.some.inj hk; have := (h.r.lt _ q).2; omega), Nat.le_trans h.b g.size⟩
theorem swap (h : Two w base v xs u ys) : Two w base u ys v xs := ⟨h.r, h.l, fun k hk q => h.ne k q hk, h.b⟩
theorem newR (h : Two w base v xs u []) (g : Grow.G w w') (hc : w'.heap[w.heap.size]? = some (.cells cs.toArray 5 (0, 0))) (hcs : cs = ys.map (Value.int .u8)) (hn : ys.length = n) (hm : n ≤ maxLen) :
  Two w' base v xs (.slice (some ⟨w.heap.size, 0, Option.none⟩) n n) ys := (h.swap.newL g hc hcs hn hm).swap
theorem left (h : Two w base v xs u ys) (f : Fr.Fr w w' v v') (o : OwnB w' base v' zs) : Two w' base v' zs u ys :=
 ⟨o, (Chg.ofFr f).own h.r (fun k hk q => h.ne k q hk), (fun k hk q => by
  rcases f.o with e | ⟨g, e, hg⟩
  ·
   exact h.ne k (e ▸ hk) q
  ·
   have e2 : k = g := Option.some.inj (hk.symm.trans e)
   have := (h.r.lt k q).2
   omega), Nat.le_trans h.b f.g.size⟩
theorem right {u' : Value} (h : Two w base v xs u ys) (f : Fr.Fr w w' u u') (o : OwnB w' base u' zs) : Two w' base v xs u' zs := (h.swap.left f o).swap
theorem chgL (h : Two w base v xs u ys) (f : Fr.Fr w w' v v') : Chg (fun k => base ≤ k) w w' := (Chg.ofFr f).mono fun i _ hi => (h.l.lt i hi).1
theorem chgR {u' : Value} (h : Two w base v xs u ys) (f : Fr.Fr w w' u u') : Chg (fun k => base ≤ k) w w' := h.swap.chgL f
end Two
theorem own_app {w : World} {base : Nat} {v : Value} {xs ys zs : List Int} (hz : xs ++ ys = zs) (h : w.ownsRow base 5 1 v (xs.length + ys.length) (xs.map (Value.int .u8) ++ ys.map (Value.int .u8))) : OwnB w base v zs := by
 subst hz
 unfold OwnB
 rw [List.map_append, List.length_append]
 exact h
end Go.Proofs.YtnkekdmikopdgaaGreat
