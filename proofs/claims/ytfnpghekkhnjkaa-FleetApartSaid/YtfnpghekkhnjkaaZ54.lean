/- My own texts PdP, PdM, Pd1, Pd2, laid in one file. -/
import Derived.Test.YtfnpghekkhnjkaaZ29
import Derived.Lib.SlKeysI
import Derived.Test.YtfnpghekkhnjkaaZ2
import Derived.Test.YtfnpghekkhnjkaaZ1

/- What a pod is: plain facts; maps whose keys are numbers. -/
namespace Go.MapV
set_option linter.unusedVariables false
set_option linter.unusedSimpArgs false
open Go.Maps Go.RowKit

/-! ### keys that are numbers -/
def intK (x : Int) : Lit := .int .i64 x
def onZ (g : Int → Option Value) : Lit → Option Value
  | .int .i64 x => g x
  | _ => none
theorem onZ_ne {g g' : Int → Option Value} {s : Int} (h : ∀ x, x ≠ s → g' x = g x) : ∀ x, x ≠ intK s → onZ g' x = onZ g x := by
  intro x hx
  cases x with
  | int k n =>
    cases k with
    | i64 => exact h n fun e => hx (by rw [e]; rfl)
    | _ => rfl
  | _ => rfl
theorem keyZ {P : Program} {k : TypeId} (hk : P.underlying k = some (.int .i64)) {x : Int} (h1 : -9223372036854775808 ≤ x) (h2 : x ≤ 9223372036854775807) : keyOf P k (.int .i64 x) = some (intK x) :=
  Maps.keyOf_int_mk hk (by simp only [Lit.wf, Bool.and_eq_true, decide_eq_true_eq]; exact ⟨h1, h2⟩)
section
variable {P : Program} {k t e : TypeId} {w : World} {b n : Nat} {g : Int → Option Value} {m : Option Nat}
theorem permZ {D : DataW Value} (hown : w.ownsMap P k RV b n D) (ha : ∀ kl z, D.atKey kl z = valOr (onZ g kl) z) (hk : P.underlying k = some (.int .i64)) {l : List Int} (hnd : l.Nodup) (hm : ∀ x, x ∈ l ↔ (g x).isSome = true) : l.Perm (intKeys D) := by
  obtain ⟨es, hD, hpw, _⟩ := hown.entries (int_keyed hk)
  obtain ⟨es', hD', hko⟩ := hown.keysOf
  obtain rfl : es = es' := by rw [hD] at hD'; simpa using hD'
  subst hD
  refine perm_intKeys hpw (fun p hp => ?_) hnd fun x => ?_
  · obtain ⟨v, hv⟩ := hko p hp
    obtain ⟨x, _, hx, _⟩ := Maps.keyOf_i64 hk hv
    exact ⟨x, hx⟩
  · rw [hm x, MapV.has_eq ha]
    exact Iff.rfl
theorem sizeZ {D : DataW Value} (hown : w.ownsMap P k RV b n D) (ha : ∀ kl z, D.atKey kl z = valOr (onZ g kl) z) (hk : P.underlying k = some (.int .i64)) {l : List Int} (hnd : l.Nodup) (hm : ∀ x, x ∈ l ↔ (g x).isSome = true) : Maps.size D = l.length := by
  rw [(permZ hown ha hk hnd hm).length_eq]
  cases D <;> first | rfl | simp [intKeys, Maps.size]
/-- How many entries there are, is known by the keys. -/
theorem MapB.tightZ (h : MapB P k w b n (onZ g)) (hk : P.underlying k = some (.int .i64)) {l : List Int} (hnd : l.Nodup) (hm : ∀ x, x ∈ l ↔ (g x).isSome = true) : MapB P k w b l.length (onZ g) := by
  obtain ⟨D, hown, ha⟩ := h
  have hs := sizeZ hown ha hk hnd hm
  obtain ⟨es, clock, hb, F, hn, rfl⟩ := hown
  refine ⟨_, ⟨es, clock, hb, F, ?_, rfl⟩, ha⟩
  have : Maps.size (DataW.map ((es.toList.map (Go.WideElems.rg P k RV)).foldr DataW.insert [])) = es.size := by simp [Maps.size, length_sorted]
  omega
theorem MapN.tightZ (h : MapN P k w m n (onZ g)) (hk : P.underlying k = some (.int .i64)) {l : List Int} (hnd : l.Nodup) (hm : ∀ x, x ∈ l ↔ (g x).isSome = true) : MapN P k w m l.length (onZ g) := by
  cases m with
  | none => exact h
  | some b => exact MapB.tightZ h hk hnd hm
theorem run_lenZ (h : MapN P k w m n (onZ g)) (ht : P.underlying t = some (.map k e)) (hk : P.underlying k = some (.int .i64)) {l : List Int} (hnd : l.Nodup) (hm : ∀ x, x ∈ l ↔ (g x).isSome = true) (ty : TypeId) :
    (Builtin.len_ #[t] ty #[.map m]).run P w = .ok (.int .i64 l.length) w := by
  cases m with
  | none =>
    have : l = [] := List.eq_nil_iff_forall_not_mem.2 fun x hx => by
      have h1 := (hm x).1 hx
      have h2 : g x = none := h (intK x)
      rw [h2] at h1; cases h1
    subst this
    exact Maps.len_nil ht ty
  | some b =>
    obtain ⟨D, hown, ha⟩ := h
    rw [← sizeZ hown ha hk hnd hm]
    exact hown.len ht ty
end
section
variable {P : Program} {w : World} {ops : Array Oper} {rest : List Oper} {o : Oper} {a : Act} {Q : Exit → Act → World → Prop} {t k e : TypeId} {m x y : Operand} {n b : Nat} {g : Int → Option Value} {mb : Option Nat}
theorem lenZ (ho : o.op = Op.call { callee := Callee.builtin Builtin.len, args := #[m], argTypes := #[t] }) (hg : o.guard = none) (ht : P.underlying t = some (.map k e)) (hk : P.underlying k = some (.int .i64)) (hm : a.eval m = .map mb) (h : MapN P k w mb n (onZ g))
    {l : List Int} (hnd : l.Nodup) (hl : ∀ x, x ∈ l ↔ (g x).isSome = true) (hK : wpList P ops Q rest (a.put o.dst (.int .i64 l.length)) w) : wpList P ops Q (o :: rest) a w := by
  refine wpList_plain hg fun K' hK' => ?_
  unfold Oper.wp
  simp [execOp, ho, resolve, invoke, builtin, hm, run_lenZ h ht hk hnd hl, Result.andThen]
  exact hK' _ _ hK
end
theorem sortedZ {l ss : List Int} (h : l.Pairwise (· < ·)) (hp : ss.Perm l) : ss.mergeSort leI = l := by
  have tr : ∀ a b c : Int, leI a b = true → leI b c = true → leI a c = true := fun a b c h1 h2 => by simp only [leI, decide_eq_true_eq] at *; exact Int.le_trans h1 h2
  have to : ∀ a b : Int, (leI a b || leI b a) = true := fun a b => by simp only [leI, Bool.or_eq_true, decide_eq_true_eq]; exact Int.le_total a b
  rw [mergeSort_of_perm_i hp]
  refine List.Perm.eq_of_pairwise (le := fun a b => leI a b = true) (fun a b _ _ h1 h2 => ?_) (List.pairwise_mergeSort tr to l) (h.imp fun {a b} q => ?_) (List.mergeSort_perm l leI)
  · simp only [leI, decide_eq_true_eq] at h1 h2
    exact Int.le_antisymm h1 h2
  · simp only [leI, decide_eq_true_eq]; omega
end Go.MapV
namespace Go.Proofs.Ytfnpghekkhnjkaa
set_option maxRecDepth 100000
set_option linter.unusedVariables false
set_option linter.unusedSimpArgs false
open Go.RowKit Go.MapV

/-- A number laid where it stands. -/
def insZ : List Int → Int → List Int
  | [], x => [x]
  | y :: l, x => if y < x then y :: insZ l x else x :: y :: l
theorem insZ_mem (x y : Int) : ∀ l : List Int, y ∈ insZ l x ↔ y = x ∨ y ∈ l
  | [] => by simp [insZ]
  | z :: l => by
    rw [insZ]
    split
    · rw [List.mem_cons, insZ_mem x y l, List.mem_cons]
      constructor
      · rintro (h | h | h)
        · exact .inr (.inl h)
        · exact .inl h
        · exact .inr (.inr h)
      · rintro (h | h | h)
        · exact .inr (.inl h)
        · exact .inl h
        · exact .inr (.inr h)
    · rw [List.mem_cons]
theorem insZ_len (x : Int) : ∀ l : List Int, (insZ l x).length = l.length + 1
  | [] => rfl
  | z :: l => by
    rw [insZ]
    split
    · rw [List.length_cons, insZ_len x l, List.length_cons]
    · rfl
theorem insZ_lt (x : Int) : ∀ l : List Int, l.Pairwise (· < ·) → x ∉ l → (insZ l x).Pairwise (· < ·)
  | [], _, _ => by simp [insZ]
  | z :: l, h, hx => by
    rw [List.pairwise_cons] at h
    rw [List.mem_cons, not_or] at hx
    rw [insZ]
    split
    · rename_i hz
      refine List.pairwise_cons.2 ⟨fun y hy => ?_, insZ_lt x l h.2 hx.2⟩
      rcases (insZ_mem x y l).1 hy with rfl | hy
      · exact hz
      · exact h.1 y hy
    · rename_i hz
      have hz : x < z := by omega
      refine List.pairwise_cons.2 ⟨fun y hy => ?_, List.pairwise_cons.2 h⟩
      rcases List.mem_cons.1 hy with rfl | hy
      · exact hz
      · have := h.1 y hy; omega
theorem insZ_pre (x : Int) : ∀ (p r : List Int), (∀ y, y ∈ p → y < x) → insZ (p ++ r) x = p ++ insZ r x
  | [], r, _ => rfl
  | y :: p, r, h => by rw [List.cons_append, insZ, if_pos (h y (by simp)), insZ_pre x p r (fun z hz => h z (by simp [hz]))]; rfl
/-- Where a number stands that is not there: at k. -/
theorem insZ_at {l : List Int} {x : Int} {k : Nat} (h1 : ∀ y, y ∈ l.take k → y < x) (h2 : ∀ y, (l.drop k).head? = some y → ¬ y < x) : insZ l x = l.take k ++ x :: l.drop k := by
  have h := insZ_pre x (l.take k) (l.drop k) h1
  rw [List.take_append_drop] at h
  rw [h]
  congr 1
  cases hd : l.drop k with
  | nil => rfl
  | cons y r =>
    rw [insZ, if_neg (h2 y (by rw [hd]; rfl))]
abbrev cutZ (l : List Int) (x : Int) : List Int := l.filter fun y => y != x
theorem cutZ_mem {l : List Int} {x y : Int} : y ∈ cutZ l x ↔ y ∈ l ∧ y ≠ x := by simp [List.mem_filter]
theorem cutZ_lt {l : List Int} (h : l.Pairwise (· < ·)) (x : Int) : (cutZ l x).Pairwise (· < ·) := h.filter _
theorem nodup_lt {l : List Int} (h : l.Pairwise (· < ·)) : l.Nodup := h.imp fun {a b} q => by omega
theorem cutZ_len {x : Int} : ∀ {l : List Int}, l.Nodup → x ∈ l → (cutZ l x).length + 1 = l.length
  | [], _, h => by cases h
  | z :: l, hn, h => by
    rw [List.nodup_cons] at hn
    by_cases e : z = x
    · subst e
      have : cutZ l z = l := List.filter_eq_self.2 fun y hy => by
        simp only [bne_iff_ne, ne_eq]
        rintro rfl
        exact hn.1 hy
      show (List.filter _ _).length + 1 = _
      rw [List.filter_cons_of_neg (by simp)]
      show (cutZ l z).length + 1 = _
      rw [this]; rfl
    · have hx : x ∈ l := by
        rcases List.mem_cons.1 h with h | h
        · exact absurd h.symm e
        · exact h
      have ih := cutZ_len hn.2 hx
      show (List.filter _ _).length + 1 = _
      rw [List.filter_cons_of_pos (by simpa using e), List.length_cons, List.length_cons]
      show (cutZ l x).length + 1 + 1 = _
      omega
/-- A pod: how many it may have, its state, what it has. -/
structure Pd where
  c : Int
  st : Int
  l : List Int
namespace Pd
def new (c : Int) : Pd := ⟨c, 1, []⟩
def up (s : Pd) : Int := if s.st = 1 then 0 else 9
def aftUp (s : Pd) : Pd := if s.st = 1 then ⟨s.c, 2, s.l⟩ else s
def drain (s : Pd) : Int := if s.st = 1 ∨ s.st = 2 then 0 else 9
def aftDrain (s : Pd) : Pd := if s.st = 1 ∨ s.st = 2 then ⟨s.c, if s.l = [] then 4 else 3, s.l⟩ else s
def kill (s : Pd) : Int := if s.st = 4 then 9 else 0
def lost (s : Pd) : List Int := if s.st = 4 then [] else s.l
def aftKill (s : Pd) : Pd := if s.st = 4 then s else ⟨s.c, 4, []⟩
def take (s : Pd) (x : Int) : Int := if s.st = 2 then (if x ∈ s.l then 5 else if s.c ≤ s.l.length then 8 else 0) else 9
def aftTake (s : Pd) (x : Int) : Pd := if s.take x = 0 then ⟨s.c, s.st, insZ s.l x⟩ else s
def give (s : Pd) (x : Int) : Int := if x ∈ s.l then 0 else 6
def aftGive (s : Pd) (x : Int) : Pd := if x ∈ s.l then ⟨s.c, if s.st = 3 ∧ cutZ s.l x = [] then 4 else s.st, cutZ s.l x⟩ else s
/-- What is so of each pod. -/
structure ok (s : Pd) : Prop where
  lt : s.l.Pairwise (· < ·)
  wf : ∀ x, x ∈ s.l → -9223372036854775808 ≤ x ∧ x ≤ 9223372036854775807
  len : (s.l.length : Int) ≤ s.c
  c : 0 ≤ s.c ∧ s.c ≤ 1000
  st : 1 ≤ s.st ∧ s.st ≤ 4
theorem ok_new {c : Int} (h : 0 ≤ c ∧ c ≤ 1000) : (new c).ok := ⟨List.Pairwise.nil, fun x hx => absurd hx List.not_mem_nil, h.1, h, by show (1 : Int) ≤ 1 ∧ (1 : Int) ≤ 4; omega⟩
theorem ok_up {s : Pd} (h : s.ok) : s.aftUp.ok := by
  unfold aftUp; split
  · exact ⟨h.lt, h.wf, h.len, h.c, by show (1 : Int) ≤ 2 ∧ (2 : Int) ≤ 4; omega⟩
  · exact h
theorem ok_drain {s : Pd} (h : s.ok) : s.aftDrain.ok := by
  unfold aftDrain; split
  · refine ⟨h.lt, h.wf, h.len, h.c, ?_⟩
    dsimp only
    split <;> omega
  · exact h
theorem ok_kill {s : Pd} (h : s.ok) : s.aftKill.ok := by
  unfold aftKill; split
  · exact h
  · exact ⟨List.Pairwise.nil, fun x hx => absurd hx List.not_mem_nil, h.c.1, h.c, by show (1 : Int) ≤ 4 ∧ (4 : Int) ≤ 4; omega⟩
theorem take0 {s : Pd} {x : Int} (h : s.take x = 0) : s.st = 2 ∧ x ∉ s.l ∧ (s.l.length : Int) < s.c := by
  unfold take at h
  split at h
  · rename_i h1
    split at h
    · cases h
    · rename_i h2
      split at h
      · cases h
      · exact ⟨h1, h2, by omega⟩
  · cases h
theorem ok_take {s : Pd} (h : s.ok) {x : Int} (hx : -9223372036854775808 ≤ x ∧ x ≤ 9223372036854775807) : (s.aftTake x).ok := by
  unfold aftTake; split
  · rename_i h0
    obtain ⟨h1, h2, h3⟩ := take0 h0
    refine ⟨insZ_lt x s.l h.lt h2, fun y hy => ?_, ?_, h.c, h.st⟩
    · rcases (insZ_mem x y s.l).1 hy with rfl | hy
      · exact hx
      · exact h.wf y hy
    · show ((insZ s.l x).length : Int) ≤ s.c
      rw [insZ_len]; omega
  · exact h
theorem ok_give {s : Pd} (h : s.ok) (x : Int) : (s.aftGive x).ok := by
  unfold aftGive; split
  · refine ⟨cutZ_lt h.lt x, fun y hy => h.wf y (cutZ_mem.1 hy).1, ?_, h.c, ?_⟩
    · show ((s.l.filter fun y => y != x).length : Int) ≤ s.c
      have := List.length_filter_le (fun y => y != x) s.l
      have := h.len
      omega
    · dsimp only
      split
      · omega
      · exact h.st
  · exact h
theorem nodup {s : Pd} (h : s.ok) : s.l.Nodup := nodup_lt h.lt
end Pd
end Go.Proofs.Ytfnpghekkhnjkaa

/- What a pod is in memory: the program's, and the second form's. -/
namespace Go.Proofs.Ytfnpghekkhnjkaa
set_option maxRecDepth 100000
set_option linter.unusedVariables false
set_option linter.unusedSimpArgs false
open Go.RowKit Go.MapV Go.Maps

abbrev podT : TypeId := 98
def setZ (l : List Int) : Lit → Option Value := onZ fun x => if x ∈ l then some (.agg #[]) else none
theorem setZ_mem (l : List Int) (x : Int) : x ∈ l ↔ ((fun x => if x ∈ l then some (Value.agg #[]) else none) x).isSome = true := by
  dsimp only
  split <;> simp_all
abbrev MapI (w : World) (m : Option Nat) (n : Nat) (f : Lit → Option Value) : Prop := MapN Try.prog 3 w m n f
def pdC (s : Pd) (m : Option Nat) : List Value := [.int .i64 s.st, .int .i64 s.c, .map m]
theorem zeroU (w : World) : (zeroValue 110).run Try.prog w = .ok (.agg #[]) w := by kernel_rfl
theorem keyedZ : Keyed Try.prog 3 := int_keyed Try.underlying3
theorem run_nilZ (m : Option Nat) (w : World) : (binOp .eql 94 (.map m) (.map none)).run Try.prog w = .ok (.bool m.isNone) w := by
  cases m <;> kernel_rfl
structure PdIn (w : World) (g : Nat) (s : Pd) (m : Option Nat) : Prop where
  hb : Blk w g (pdC s m).toArray podT
  hm : MapI w m s.l.length (setZ s.l)
  ok : s.ok
def PdF (g : Nat) (m : Option Nat) (k : Nat) : Prop := k = g ∨ some k = m
def PdP (g : Nat) (s : Pd) : Hp := fun w F => ∃ m, PdIn w g s m ∧ ∀ k, F k ↔ PdF g m k
theorem PdIn.lt {w : World} {g : Nat} {s : Pd} {m : Option Nat} (h : PdIn w g s m) : ∀ k, PdF g m k → k < w.heap.size := by
  rintro k (rfl | hk)
  · exact h.hb.lt
  · exact h.hm.lt k hk.symm
theorem PdIn.chg {w w' : World} {g : Nat} {s : Pd} {m : Option Nat} {G : Nat → Prop} (h : PdIn w g s m) (c : Chg G w w') (hG : ∀ k, PdF g m k → ¬ G k) : PdIn w' g s m :=
  ⟨h.hb.chg c (hG _ (.inl rfl)), h.hm.chg c (fun b e => hG _ (.inr e.symm)), h.ok⟩
theorem PdP.foot (g : Nat) (s : Pd) : Foot (PdP g s) where
  lt := fun ⟨m, h, e⟩ k hk => h.lt k ((e k).1 hk)
  frame := fun ⟨m, h, e⟩ c hs => ⟨m, h.chg c (fun k hk => hs k ((e k).2 hk)), e⟩
theorem PdP.ok {g : Nat} {s : Pd} {w : World} {F : Nat → Prop} (h : PdP g s w F) : s.ok := by obtain ⟨m, h, _⟩ := h; exact h.ok
/-- Nothing but the object's own cells, or its map's entries, or a new map. -/
theorem PdP.fin {g : Nat} {s' : Pd} {m m' : Option Nat} {w w' : World} {F : Nat → Prop} (e : ∀ k, F k ↔ PdF g m k) (h : PdIn w' g s' m') (c : Chg (PdF g m) w w') (hm : ∀ b, m' = some b → m = some b ∨ w.heap.size ≤ b) : EndS w w' F (PdP g s') := by
  refine ⟨PdF g m', ⟨m', h, fun k => Iff.rfl⟩, c.sub fun k hk => (e k).2 hk, fun k hk => ?_⟩
  rcases hk with rfl | hk
  · exact .inl ((e _).2 (.inl rfl))
  · rcases hm k hk.symm with q | q
    · exact .inl ((e k).2 (.inr q.symm))
    · exact .inr q
theorem PdP.same {g : Nat} {s : Pd} {w w' : World} {F : Nat → Prop} (h : PdP g s w F) (c : Grow.G w w') : EndS w w' F (PdP g s) :=
  ⟨F, (PdP.foot g s).grow h c, Chg.grow c, Fresh.refl _ _⟩
/-! ### the second form's -/
abbrev rpdT : TypeId := 89
def rpdC (s : Pd) (v : Value) : List Value := [.int .i64 s.c, .int .i64 s.st, v]
structure RpIn (w : World) (g : Nat) (s : Pd) (v : Value) : Prop where
  hb : Blk w g (rpdC s v).toArray rpdT
  ho : w.ownsRow 0 3 1 v s.l.length (s.l.map (Value.int .i64))
  ok : s.ok
def RpF (g : Nat) (v : Value) (k : Nat) : Prop := k = g ∨ v.ownBlock = some k
def RpP (g : Nat) (s : Pd) : Hp := fun w F => ∃ v, RpIn w g s v ∧ ∀ k, F k ↔ RpF g v k
theorem RpIn.lt {w : World} {g : Nat} {s : Pd} {v : Value} (h : RpIn w g s v) : ∀ k, RpF g v k → k < w.heap.size := by
  rintro k (rfl | hk)
  · exact h.hb.lt
  · exact (h.ho.lt k hk).2
theorem RpIn.chg {w w' : World} {g : Nat} {s : Pd} {v : Value} {G : Nat → Prop} (h : RpIn w g s v) (c : Chg G w w') (hG : ∀ k, RpF g v k → ¬ G k) : RpIn w' g s v :=
  ⟨h.hb.chg c (hG _ (.inl rfl)), c.own h.ho (fun k hk => hG _ (.inr hk)), h.ok⟩
theorem RpP.foot (g : Nat) (s : Pd) : Foot (RpP g s) where
  lt := fun ⟨m, h, e⟩ k hk => h.lt k ((e k).1 hk)
  frame := fun ⟨m, h, e⟩ c hs => ⟨m, h.chg c (fun k hk => hs k ((e k).2 hk)), e⟩
theorem RpP.same {g : Nat} {s : Pd} {w w' : World} {F : Nat → Prop} (h : RpP g s w F) (c : Grow.G w w') : EndS w w' F (RpP g s) :=
  ⟨F, (RpP.foot g s).grow h c, Chg.grow c, Fresh.refl _ _⟩
theorem RpP.fin {g : Nat} {s' : Pd} {v v' : Value} {w w' : World} {F : Nat → Prop} (e : ∀ k, F k ↔ RpF g v k) (h : RpIn w' g s' v') (c : Chg (RpF g v) w w') (hm : ∀ b, v'.ownBlock = some b → v.ownBlock = some b ∨ w.heap.size ≤ b) : EndS w w' F (RpP g s') := by
  refine ⟨RpF g v', ⟨v', h, fun k => Iff.rfl⟩, c.sub fun k hk => (e k).2 hk, fun k hk => ?_⟩
  rcases hk with rfl | hk
  · exact .inl ((e _).2 (.inl rfl))
  · rcases hm k hk with q | q
    · exact .inl ((e k).2 (.inr q))
    · exact .inr q
end Go.Proofs.Ytfnpghekkhnjkaa

/- pod's held: has, count, drop, empty's map. -/
namespace Go.Proofs.Ytfnpghekkhnjkaa
set_option maxRecDepth 100000
set_option linter.unusedVariables false
set_option linter.unusedSimpArgs false
set_option linter.unnecessarySimpa false
open Go.RowKit Go.MapV Go.Maps

abbrev ph (g : Nat) : Value := .pointer (some ⟨g, 1, none⟩)
section
variable {w : World} {g : Nat} {s : Pd} {m : Option Nat}
theorem PdIn.c0 (h : PdIn w g s m) : w.cell? ⟨g, 0, none⟩ = some (.int .i64 s.st) := (h.hb.cell 0).trans rfl
theorem PdIn.c1 (h : PdIn w g s m) : w.cell? ⟨g, 1, none⟩ = some (.int .i64 s.c) := (h.hb.cell 1).trans rfl
theorem PdIn.c2 (h : PdIn w g s m) : w.cell? ⟨g, 2, none⟩ = some (.map m) := (h.hb.cell 2).trans rfl
theorem setZ_at (l : List Int) (x : Int) : ((setZ l (intK x)).getD (.agg #[])) = .agg #[] := by
  show (if x ∈ l then some (Value.agg #[]) else none).getD _ = _
  split <;> rfl
theorem setZ_has (l : List Int) (x : Int) : (setZ l (intK x)).isSome = decide (x ∈ l) := by
  show (if x ∈ l then some (Value.agg #[]) else none).isSome = _
  split <;> simp_all
end
set_option maxHeartbeats 1000000 in
theorem hcount_any (g : Nat) (s : Pd) (m : Option Nat) (w : World) (h : PdIn w g s m) :
    Calls Try.prog 74 #[ph g] w fun e w' => e = .returned (.int .i64 s.l.length) ∧ w = w' := by
  have c2 := h.c2
  have hl := h.hb.lt
  have HM := Lib.hid h.hm
  have HN := Lib.hid (Pd.nodup h.ok)
  have HS := Lib.hid (setZ_mem s.l)
  clear h
  go_enter Try.func74, Try.ntmps74
  go_wp2_with (refine lenZ rfl rfl Try.underlying94 Try.underlying3 rfl HM.out HN.out HS.out ?_)
  go_ret
  exact ⟨rfl, rfl⟩
set_option maxHeartbeats 1000000 in
theorem hhas_any (g : Nat) (s : Pd) (m : Option Nat) (x : Int) (w : World) (h : PdIn w g s m) (hx : wf64 x) :
    Calls Try.prog 75 #[ph g, .int .i64 x] w fun e w' => e = .returned (.bool (decide (x ∈ s.l))) ∧ Grow.G w w' := by
  have c2 := h.c2
  have hl := h.hb.lt
  have HM := Lib.hid h.hm
  have HA := Lib.hid (setZ_at s.l x)
  have HH := Lib.hid (setZ_has s.l x)
  have HK := Lib.hid (keyZ Try.underlying3 hx.1 hx.2)
  clear h
  generalize decide (x ∈ s.l) = d at *
  go_enter Try.func75, Try.ntmps75
  go_wp2_with (at_lookup; refine look2v (.agg #[]) d rfl rfl keyedZ Try.underlying94 zeroU rfl HM.out rfl HK.out HA.out HH.out ?_)
  go_ret
  exact ⟨rfl, Grow.G.alloc (Grow.G.refl _) _⟩
theorem PdIn.grow {w w' : World} {g : Nat} {s : Pd} {m : Option Nat} (h : PdIn w g s m) (c : Grow.G w w') : PdIn w' g s m := h.chg (Chg.grow (G := fun _ => False) c) (fun _ _ => id)
theorem PdIn.ne {w : World} {g : Nat} {s : Pd} {m : Option Nat} (h : PdIn w g s m) : m ≠ some g := fun e => by
  have hm := h.hm
  rw [e] at hm
  exact MapB.ne hm h.hb rfl
def Pd.cut (s : Pd) (x : Int) : Pd := ⟨s.c, s.st, cutZ s.l x⟩
def Pd.ins (s : Pd) (x : Int) : Pd := ⟨s.c, s.st, insZ s.l x⟩
theorem Pd.ok_cut {s : Pd} (h : s.ok) (x : Int) : (s.cut x).ok := by
  refine ⟨cutZ_lt h.lt x, fun y hy => h.wf y (cutZ_mem.1 hy).1, ?_, h.c, h.st⟩
  show ((s.l.filter fun y => y != x).length : Int) ≤ s.c
  have := List.length_filter_le (fun y => y != x) s.l
  have := h.len
  omega
theorem Pd.ok_ins {s : Pd} (h : s.ok) {x : Int} (hx : wf64 x) (h2 : x ∉ s.l) (h3 : (s.l.length : Int) < s.c) : (s.ins x).ok := by
  refine ⟨insZ_lt x s.l h.lt h2, fun y hy => ?_, ?_, h.c, h.st⟩
  · rcases (insZ_mem x y s.l).1 hy with rfl | hy
    · exact hx
    · exact h.wf y hy
  · show ((insZ s.l x).length : Int) ≤ s.c
    rw [insZ_len]; omega
theorem setZ_cut (l : List Int) (x : Int) : setZ (cutZ l x) (intK x) = none := by
  show (if x ∈ cutZ l x then some (Value.agg #[]) else none) = none
  rw [if_neg (fun h => (cutZ_mem.1 h).2 rfl)]
theorem setZ_cut2 (l : List Int) (x : Int) : ∀ y, y ≠ intK x → setZ (cutZ l x) y = setZ l y := onZ_ne fun y hy => by
  by_cases h : y ∈ l
  · rw [if_pos h, if_pos (cutZ_mem.2 ⟨h, hy⟩)]
  · rw [if_neg h, if_neg (fun q => h (cutZ_mem.1 q).1)]
theorem setZ_ins (l : List Int) (x : Int) : setZ (insZ l x) (intK x) = some (.agg #[]) := by
  show (if x ∈ insZ l x then some (Value.agg #[]) else none) = _
  rw [if_pos ((insZ_mem x x l).2 (.inl rfl))]
theorem setZ_ins2 (l : List Int) (x : Int) : ∀ y, y ≠ intK x → setZ (insZ l x) y = setZ l y := onZ_ne fun y hy => by
  by_cases h : y ∈ l
  · rw [if_pos h, if_pos ((insZ_mem x y l).2 (.inr h))]
  · rw [if_neg h, if_neg (fun q => ((insZ_mem x y l).1 q).elim hy h)]
theorem MapI.tight {w : World} {m : Option Nat} {n : Nat} {l : List Int} (h : MapI w m n (setZ l)) (hl : l.Nodup) : MapI w m l.length (setZ l) := MapN.tightZ h Try.underlying3 hl (setZ_mem l)
set_option maxHeartbeats 1000000 in
theorem hdrop_no (g : Nat) (s : Pd) (m : Option Nat) (x : Int) (w : World) (h : PdIn w g s m) (hx : wf64 x) (hn : x ∉ s.l) :
    Calls Try.prog 64 #[ph g, .int .i64 x] w fun e w' => e = .returned (.int .i64 6) ∧ Grow.G w w' := by
  have HH := Lib.hid (hhas_any g s m x w h hx)
  rw [decide_eq_false hn] at HH
  clear h hn
  go_enter Try.func64, Try.ntmps64
  go_wp2_with fail
  refine HH.out.mono ?_
  rintro e w1 ⟨rfl, hg⟩
  go_wp2_with fail
  go_ret
  exact ⟨rfl, hg⟩
set_option maxHeartbeats 1000000 in
theorem hdrop_yes (g : Nat) (s : Pd) (m : Option Nat) (x : Int) (w : World) (h : PdIn w g s m) (hx : wf64 x) (hn : x ∈ s.l) :
    Calls Try.prog 64 #[ph g, .int .i64 x] w fun e w' => e = .returned (.int .i64 0) ∧ PdIn w' g (s.cut x) m ∧ Chg (fun k => some k = m) w w' := by
  have HH := Lib.hid (hhas_any g s m x w h hx)
  rw [decide_eq_true hn] at HH
  have HP := Lib.hid h
  have HK := Lib.hid (keyZ Try.underlying3 hx.1 hx.2)
  have HC := Lib.hid (setZ_cut s.l x)
  have HC2 := Lib.hid (setZ_cut2 s.l x)
  clear h hn
  go_enter Try.func64, Try.ntmps64
  go_wp2_with fail
  refine HH.out.mono ?_
  rintro e w1 ⟨rfl, hg⟩
  have h1 := HP.out.grow hg
  have c2 := h1.c2
  have hl := h1.hb.lt
  have H1 := Lib.hid h1
  have HG := Lib.hid hg
  clear h1 hg HH
  go_wp2_with (at_delete; refine MapV.del rfl rfl keyedZ Try.underlying94 rfl H1.out.hm rfl HK.out HC.out HC2.out ?_; intro w2 M2 C2; have M2 := Lib.hid M2; have C2 := Lib.hid C2)
  go_ret
  refine ⟨rfl, ⟨H1.out.hb.chg C2.out (fun e => H1.out.ne e.symm), MapI.tight M2.out (nodup_lt (cutZ_lt H1.out.ok.lt x)), Pd.ok_cut H1.out.ok x⟩, (Chg.grow HG.out).trans C2.out⟩

def Pd.addE (s : Pd) (x : Int) : Int := if x ∈ s.l then 5 else if s.c ≤ s.l.length then 8 else 0
set_option maxHeartbeats 1000000 in
theorem hadd_twice (g : Nat) (s : Pd) (m : Option Nat) (x : Int) (w : World) (h : PdIn w g s m) (hx : wf64 x) (hn : x ∈ s.l) :
    Calls Try.prog 65 #[ph g, .int .i64 x] w fun e w' => e = .returned (.int .i64 5) ∧ Grow.G w w' := by
  have HH := Lib.hid (hhas_any g s m x w h hx)
  rw [decide_eq_true hn] at HH
  clear h hn
  go_enter Try.func65, Try.ntmps65
  go_wp2_with fail
  refine HH.out.mono ?_
  rintro e w1 ⟨rfl, hg⟩
  go_wp2_with fail
  go_ret
  exact ⟨rfl, hg⟩
theorem hcount_g (g : Nat) (s : Pd) (m : Option Nat) (w : World) (h : PdIn w g s m) :
    Calls Try.prog 74 #[ph g] w fun e w' => e = .returned (.int .i64 s.l.length) ∧ Grow.G w w' := by
  refine (hcount_any g s m w h).mono ?_
  rintro e w' ⟨rfl, rfl⟩
  exact ⟨rfl, Grow.G.refl _⟩
set_option maxHeartbeats 2000000 in
theorem hadd_full (g : Nat) (s : Pd) (m : Option Nat) (x : Int) (w : World) (h : PdIn w g s m) (hx : wf64 x) (hn : x ∉ s.l) (hf : s.c ≤ s.l.length) :
    Calls Try.prog 65 #[ph g, .int .i64 x] w fun e w' => e = .returned (.int .i64 8) ∧ Grow.G w w' := by
  have HH := Lib.hid (hhas_any g s m x w h hx)
  rw [decide_eq_false hn] at HH
  have HP := Lib.hid h
  clear h hn
  go_enter Try.func65, Try.ntmps65
  go_wp2_with fail
  refine HH.out.mono ?_
  rintro e w1 ⟨rfl, hg⟩
  have H1 := Lib.hid (HP.out.grow hg)
  have CO := Lib.hid (fun w2 (g2 : Grow.G w1 w2) => hcount_g g s m w2 (H1.out.grow g2))
  have KC := Lib.hid (fun (w' : World) (h : Chg (fun _ => False) w1 w') => (⟨h.cell H1.out.c1 id, trivial⟩ : w'.cell? ⟨g, 1, none⟩ = some (.int .i64 s.c) ∧ True))
  have d0 : decide (s.c ≤ (s.l.length : Int)) = true := decide_eq_true hf
  have HG := Lib.hid hg
  clear hg HH HP
  go_wp2_with fail
  refine wp_spec (fun a0 A W => ∃ x8 x9 x10 x11 x12 x13 : Value, A = (((((((a0.put (some 8) x8).put (some 9) x9).put (some 10) x10).put (some 11) x11).put (some 12) x12).put (some 13) x13).put (some 14) (.bool true)) ∧ Grow.G w1 W) ?_ ?_
  all_goals simp only [Act.put, L0, L1, L2]
  ·
    refine Evo2.start' (ℓ := none) (S := Chg (fun _ => False)) (E := Grow.G) (by kernel_rfl) ⟨Chg.pre _, by decide +kernel, (by intro c a d v w h; cases d <;> exact h), by decide +kernel⟩ (fun ok => ?_)
    refine Evo2.va ok 0 _ _ ?_
    (refine Evo2.cal ok 1 ?_ 74 ?_ ?_ ?_ ?_; rotate_left 2; (focus (intro w'; go_simp <;> with_reducible rfl)); (focus (intro w' g'; with_reducible exact CO.out _ (Chg.toGrow (Chg.trans (Chg.refl (fun _ => False) _) g') (fun _ _ => id)))); simp only [Act.put, L0, L1, L2])
    refine Evo2.va ok 2 _ _ ?_
    refine Evo2.va ok 3 _ _ ?_
    refine Evo2.va ok 4 _ _ ?_
    first | (refine Evo2.vl ok 5 KC.out (Chg.refl (fun _ => False) _) _ _ ?_) | (refine Evo2.va ok 5 _ _ ?_)
    refine Evo2.va ok 6 _ _ ?_
    refine Evo2.done (by decide +kernel) (fun wz gz => ?_)
    have AZ := Chg.trans (Chg.refl (fun _ => False) _) (Chg.grow gz)
    dsimp only [PostN] 
    (repeat apply Exists.intro) 
    exact ⟨rfl, AZ.toGrow (fun _ _ => id)⟩
  ·
    rintro A W2 ⟨x8, x9, x10, x11, x12, x13, rfl, g2⟩
    go_wp2_with fail
    go_ret
    exact ⟨rfl, HG.out.trans g2⟩
set_option maxHeartbeats 2000000 in
theorem hadd_some (g : Nat) (s : Pd) (b : Nat) (x : Int) (w : World) (h : PdIn w g s (some b)) (hx : wf64 x) (hn : x ∉ s.l) (hf : (s.l.length : Int) < s.c) :
    Calls Try.prog 65 #[ph g, .int .i64 x] w fun e w' => e = .returned (.int .i64 0) ∧ PdIn w' g (s.ins x) (some b) ∧ Chg (fun k => k = b) w w' := by
  have HH := Lib.hid (hhas_any g s (some b) x w h hx)
  rw [decide_eq_false hn] at HH
  have HP := Lib.hid h
  have HK := Lib.hid (keyZ Try.underlying3 hx.1 hx.2)
  have HI := Lib.hid (setZ_ins s.l x)
  have HI2 := Lib.hid (setZ_ins2 s.l x)
  have OK := Lib.hid (Pd.ok_ins h.ok hx hn hf)
  have hlen : s.l.length < maxLen := by
    have := h.ok.c
    unfold maxLen
    omega
  clear h hn
  go_enter Try.func65, Try.ntmps65
  go_wp2_with fail
  refine HH.out.mono ?_
  rintro e w1 ⟨rfl, hg⟩
  have H1 := Lib.hid (HP.out.grow hg)
  have CO := Lib.hid (fun w2 (g2 : Grow.G w1 w2) => hcount_g g s (some b) w2 (H1.out.grow g2))
  have KC := Lib.hid (fun (w' : World) (h : Chg (fun _ => False) w1 w') => (⟨h.cell H1.out.c1 id, trivial⟩ : w'.cell? ⟨g, 1, none⟩ = some (.int .i64 s.c) ∧ True))
  have d0 : decide (s.c ≤ (s.l.length : Int)) = false := decide_eq_false (by omega)
  have HG := Lib.hid hg
  clear hg HH HP hf
  go_wp2_with fail
  refine wp_spec (fun a0 A W => ∃ x8 x9 x10 x11 x12 x13 : Value, A = (((((((a0.put (some 8) x8).put (some 9) x9).put (some 10) x10).put (some 11) x11).put (some 12) x12).put (some 13) x13).put (some 14) (.bool false)) ∧ Grow.G w1 W) ?_ ?_
  all_goals simp only [Act.put, L0, L1, L2]
  ·
    refine Evo2.start' (ℓ := none) (S := Chg (fun _ => False)) (E := Grow.G) (by kernel_rfl) ⟨Chg.pre _, by decide +kernel, (by intro c a d v w h; cases d <;> exact h), by decide +kernel⟩ (fun ok => ?_)
    refine Evo2.va ok 0 _ _ ?_
    (refine Evo2.cal ok 1 ?_ 74 ?_ ?_ ?_ ?_; rotate_left 2; (focus (intro w'; go_simp <;> with_reducible rfl)); (focus (intro w' g'; with_reducible exact CO.out _ (Chg.toGrow (Chg.trans (Chg.refl (fun _ => False) _) g') (fun _ _ => id)))); simp only [Act.put, L0, L1, L2])
    refine Evo2.va ok 2 _ _ ?_
    refine Evo2.va ok 3 _ _ ?_
    refine Evo2.va ok 4 _ _ ?_
    first | (refine Evo2.vl ok 5 KC.out (Chg.refl (fun _ => False) _) _ _ ?_) | (refine Evo2.va ok 5 _ _ ?_)
    refine Evo2.va ok 6 _ _ ?_
    refine Evo2.done (by decide +kernel) (fun wz gz => ?_)
    have AZ := Chg.trans (Chg.refl (fun _ => False) _) (Chg.grow gz)
    dsimp only [PostN] 
    (repeat apply Exists.intro) 
    exact ⟨rfl, AZ.toGrow (fun _ _ => id)⟩
  ·
    rintro A W2 ⟨x8, x9, x10, x11, x12, x13, rfl, g2⟩
    have H2 := H1.out.grow g2
    have c2 := H2.c2
    have hl := H2.hb.lt
    have HN := run_nilZ (some b)
    simp only [Option.isNone_some] at HN
    have MB := Lib.hid (show MapB Try.prog 3 W2 b s.l.length (setZ s.l) from H2.hm)
    have H3 := Lib.hid H2
    have G2 := Lib.hid (HG.out.trans g2)
    clear H2 g2 H1 CO KC HG
    go_wp2_with (first
      | (at_mapUpdate; refine MapV.put (key := .int .i64 x) rfl rfl keyedZ Try.underlying94 rfl MB.out hlen rfl rfl HK.out HI.out HI2.out ?_; intro w9 M9 C9; have M9 := Lib.hid M9; have C9 := Lib.hid C9))
    go_ret
    have hbg : ¬ g = b := fun e => H3.out.ne (by rw [e])
    refine ⟨rfl, ⟨H3.out.hb.chg C9.out hbg, ?_, OK.out⟩, (Chg.grow G2.out).trans C9.out⟩
    exact MapI.tight (m := some b) M9.out (nodup_lt OK.out.lt)
set_option maxHeartbeats 2000000 in
theorem hadd_none (g : Nat) (s : Pd) (x : Int) (w : World) (h : PdIn w g s none) (hx : wf64 x) (hn : x ∉ s.l) (hf : (s.l.length : Int) < s.c) :
    Calls Try.prog 65 #[ph g, .int .i64 x] w fun e w' => e = .returned (.int .i64 0) ∧ ∃ b, PdIn w' g (s.ins x) (some b) ∧ Chg (fun k => k = g) w w' ∧ w.heap.size ≤ b := by
  have HH := Lib.hid (hhas_any g s none x w h hx)
  rw [decide_eq_false hn] at HH
  have HP := Lib.hid h
  have HK := Lib.hid (keyZ Try.underlying3 hx.1 hx.2)
  have HI := Lib.hid (setZ_ins s.l x)
  have HI2 := Lib.hid (setZ_ins2 s.l x)
  have OK := Lib.hid (Pd.ok_ins h.ok hx hn hf)
  have hlen : s.l.length < maxLen := by
    have := h.ok.c
    unfold maxLen
    omega
  clear h hn
  go_enter Try.func65, Try.ntmps65
  go_wp2_with fail
  refine HH.out.mono ?_
  rintro e w1 ⟨rfl, hg⟩
  have H1 := Lib.hid (HP.out.grow hg)
  have CO := Lib.hid (fun w2 (g2 : Grow.G w1 w2) => hcount_g g s none w2 (H1.out.grow g2))
  have KC := Lib.hid (fun (w' : World) (h : Chg (fun _ => False) w1 w') => (⟨h.cell H1.out.c1 id, trivial⟩ : w'.cell? ⟨g, 1, none⟩ = some (.int .i64 s.c) ∧ True))
  have d0 : decide (s.c ≤ (s.l.length : Int)) = false := decide_eq_false (by omega)
  have HG := Lib.hid hg
  clear hg HH HP hf
  go_wp2_with fail
  refine wp_spec (fun a0 A W => ∃ x8 x9 x10 x11 x12 x13 : Value, A = (((((((a0.put (some 8) x8).put (some 9) x9).put (some 10) x10).put (some 11) x11).put (some 12) x12).put (some 13) x13).put (some 14) (.bool false)) ∧ Grow.G w1 W) ?_ ?_
  all_goals simp only [Act.put, L0, L1, L2]
  ·
    refine Evo2.start' (ℓ := none) (S := Chg (fun _ => False)) (E := Grow.G) (by kernel_rfl) ⟨Chg.pre _, by decide +kernel, (by intro c a d v w h; cases d <;> exact h), by decide +kernel⟩ (fun ok => ?_)
    refine Evo2.va ok 0 _ _ ?_
    (refine Evo2.cal ok 1 ?_ 74 ?_ ?_ ?_ ?_; rotate_left 2; (focus (intro w'; go_simp <;> with_reducible rfl)); (focus (intro w' g'; with_reducible exact CO.out _ (Chg.toGrow (Chg.trans (Chg.refl (fun _ => False) _) g') (fun _ _ => id)))); simp only [Act.put, L0, L1, L2])
    refine Evo2.va ok 2 _ _ ?_
    refine Evo2.va ok 3 _ _ ?_
    refine Evo2.va ok 4 _ _ ?_
    first | (refine Evo2.vl ok 5 KC.out (Chg.refl (fun _ => False) _) _ _ ?_) | (refine Evo2.va ok 5 _ _ ?_)
    refine Evo2.va ok 6 _ _ ?_
    refine Evo2.done (by decide +kernel) (fun wz gz => ?_)
    have AZ := Chg.trans (Chg.refl (fun _ => False) _) (Chg.grow gz)
    dsimp only [PostN] 
    (repeat apply Exists.intro) 
    exact ⟨rfl, AZ.toGrow (fun _ _ => id)⟩
  ·
    rintro A W2 ⟨x8, x9, x10, x11, x12, x13, rfl, g2⟩
    have H2 := H1.out.grow g2
    have c2 := H2.c2
    have f2 := H2.hb.free 2
    have hl := H2.hb.lt
    have HN := run_nilZ none
    simp only [Option.isNone_none] at HN
    have hmm := @run_makeMap Try.prog
    obtain ⟨W3, hW3⟩ : ∃ W3, W3 = (W2.setCell ⟨g, 2, none⟩ (.map (some W2.heap.size))).alloc (.map #[] 0) := ⟨_, rfl⟩
    have MB : MapB Try.prog 3 W3 W2.heap.size 0 (fun _ => none) := by
      have := MapB.made (W2.setCell ⟨g, 2, none⟩ (.map (some W2.heap.size))) Try.prog 3
      rw [← hW3] at this; simpa using this
    have FN : ∀ kl, setZ s.l kl = none := H2.hm
    have MB := Lib.hid ((MB.same (f' := setZ s.l) FN).mono (Nat.zero_le s.l.length))
    have GB := Lib.hid ((H2.hb.set 2 (.map (some W2.heap.size))).alloc (.map #[] 0))
    have CH : Chg (fun j => j = g) W2 W3 := by rw [hW3]; exact (Chg.setCell (G := fun j => j = g) (Chg.refl _ _) (fun _ => rfl) _ _).alloc _
    rw [← hW3] at GB
    have CH := Lib.hid CH
    have hs1 : Hid (W3.heap.size = W2.heap.size + 1) := Lib.hid (by rw [hW3]; simp)
    have hW := Lib.hid hW3
    have G2 := Lib.hid (HG.out.trans g2)
    clear hW3 FN H2 g2 H1 CO KC HG
    go_wp2_with (first
      | (at_mapUpdate; rw [← hW.out]; refine MapV.put (key := .int .i64 x) rfl rfl keyedZ Try.underlying94 rfl MB.out hlen rfl rfl HK.out HI.out HI2.out ?_; intro w9 M9 C9; have M9 := Lib.hid M9; have C9 := Lib.hid C9))
    go_ret
    refine ⟨rfl, W2.heap.size, ⟨GB.out.chg C9.out (by omega), ?_, OK.out⟩, (Chg.grow G2.out).trans (CH.out.join C9.out fun j hj e => by have e : j = W2.heap.size := e; omega), G2.out.size⟩
    exact MapI.tight (m := some W2.heap.size) M9.out (nodup_lt OK.out.lt)
end Go.Proofs.Ytfnpghekkhnjkaa
