/- My own texts PdP, laid in one file. -/
import Derived.Test.YtjcdmnogmpjkkaaDoorZ29
import Derived.Lib.SlKeysI

/- What a pod is: plain facts; maps whose keys are numbers. -/
namespace Go.MapV
set_option linter.unusedVariables false
set_option linter.unusedSimpArgs false
open Go.Maps Go.RowKit

/-! ### keys that are numbers -/
def onZ (g : Int → Option Value) : Lit → Option Value
  | .int .i64 x => g x
  | _ => none
section
variable {P : Program} {k t e : TypeId} {w : World} {b n : Nat} {g : Int → Option Value} {m : Option Nat}
theorem permZ {D : DataW Value} (hown : w.ownsMap P k RV b n D) (ha : ∀ kl z, D.atKey kl z = valOr (onZ g kl) z) (hk : P.underlying k = some (.int .i64)) {l : List Int} (hnd : l.Nodup) (hm : ∀ x, x ∈ l ↔ (g x).isSome = true) : l.Perm (intKeys D) := by
  obtain ⟨es, hD, hpw, _⟩ := hown.entries (int_keyed hk)
  obtain ⟨es', hD', hko⟩ := hown.keysOf
  obtain rfl : es = es' := by rw [hD] at hD'; simpa using hD'
  subst hD
  refine perm_intKeys hpw (fun p hp => ?_) hnd fun x => ?_
  · obtain ⟨v, hv⟩ := hko p hp
    obtain ⟨x, _, hx, _⟩ := Maps.keyOf_i64 hk hv
    exact ⟨x, hx⟩
  · rw [hm x, MapV.has_eq ha]
    exact Iff.rfl
theorem sizeZ {D : DataW Value} (hown : w.ownsMap P k RV b n D) (ha : ∀ kl z, D.atKey kl z = valOr (onZ g kl) z) (hk : P.underlying k = some (.int .i64)) {l : List Int} (hnd : l.Nodup) (hm : ∀ x, x ∈ l ↔ (g x).isSome = true) : Maps.size D = l.length := by
  rw [(permZ hown ha hk hnd hm).length_eq]
  cases D <;> first | rfl | simp [intKeys, Maps.size]
/-- How many entries there are, is known by the keys. -/
theorem MapB.tightZ (h : MapB P k w b n (onZ g)) (hk : P.underlying k = some (.int .i64)) {l : List Int} (hnd : l.Nodup) (hm : ∀ x, x ∈ l ↔ (g x).isSome = true) : MapB P k w b l.length (onZ g) := by
  obtain ⟨D, hown, ha⟩ := h
  have hs := sizeZ hown ha hk hnd hm
  obtain ⟨es, clock, hb, F, hn, rfl⟩ := hown
  refine ⟨_, ⟨es, clock, hb, F, ?_, rfl⟩, ha⟩
  have : Maps.size (DataW.map ((es.toList.map (Go.WideElems.rg P k RV)).foldr DataW.insert [])) = es.size := by simp [Maps.size, length_sorted]
  omega
theorem MapN.tightZ (h : MapN P k w m n (onZ g)) (hk : P.underlying k = some (.int .i64)) {l : List Int} (hnd : l.Nodup) (hm : ∀ x, x ∈ l ↔ (g x).isSome = true) : MapN P k w m l.length (onZ g) := by
  cases m with
  | none => exact h
  | some b => exact MapB.tightZ h hk hnd hm
end
section
variable {P : Program} {w : World} {ops : Array Oper} {rest : List Oper} {o : Oper} {a : Act} {Q : Exit → Act → World → Prop} {t k e : TypeId} {m x y : Operand} {n b : Nat} {g : Int → Option Value} {mb : Option Nat}
end
end Go.MapV
namespace Go.Proofs.YtjcdmnogmpjkkaaDoor
set_option maxRecDepth 100000
set_option linter.unusedVariables false
set_option linter.unusedSimpArgs false
open Go.RowKit Go.MapV

/-- A pod: how many it may have, its state, what it has. -/
structure Pd where
  c : Int
  st : Int
  l : List Int
namespace Pd
def new (c : Int) : Pd := ⟨c, 1, []⟩
def up (s : Pd) : Int := if s.st = 1 then 0 else 9
def take (s : Pd) (x : Int) : Int := if s.st = 2 then (if x ∈ s.l then 5 else if s.c ≤ s.l.length then 8 else 0) else 9
/-- What is so of each pod. -/
structure ok (s : Pd) : Prop where
  lt : s.l.Pairwise (· < ·)
  wf : ∀ x, x ∈ s.l → -9223372036854775808 ≤ x ∧ x ≤ 9223372036854775807
  len : (s.l.length : Int) ≤ s.c
  c : 0 ≤ s.c ∧ s.c ≤ 1000
  st : 1 ≤ s.st ∧ s.st ≤ 4
end Pd
end Go.Proofs.YtjcdmnogmpjkkaaDoor
