
/- The walk of ShelfNames. -/
import Derived.Test.YtgiihgpnmcchdaaShelfAgain
import Derived.Test.YtgiihgpnmcchdaaShSame
import Derived.Test.YtgiihgpnmcchdaaZ4
import Derived.Test.YtgiihgpnmcchdaaZ3
namespace Go.Proofs.Ytgiihgpnmcchdaa
set_option maxRecDepth 100000
set_option linter.unusedVariables false
set_option linter.unusedSimpArgs false
set_option linter.unnecessarySimpa false
open Go.RowKit Go.MapV Go.Maps

def nmK (k : Nat) : ByteArray := ⟨#[110, UInt8.ofNat (97 + k)]⟩
def cfgK (k : Nat) : Cfg := ⟨nmK k, 0, 1, 0, 1, 0⟩
theorem nmK_lt : ∀ i j : Fin 20, i < j → (nmK i).data.toList < (nmK j).data.toList := by decide +kernel
theorem nmK_inj {i j : Nat} (hi : i < 20) (hj : j < 20) (h : nmK i = nmK j) : i = j := by
  rcases Nat.lt_trichotomy i j with q | q | q
  · have := nmK_lt ⟨i, hi⟩ ⟨j, hj⟩ q
    rw [show nmK ((⟨i, hi⟩ : Fin 20) : Nat) = nmK ((⟨j, hj⟩ : Fin 20) : Nat) from h] at this
    exact (lt_irr _ this).elim
  · exact q
  · have := nmK_lt ⟨j, hj⟩ ⟨i, hi⟩ q
    rw [show nmK ((⟨i, hi⟩ : Fin 20) : Nat) = nmK ((⟨j, hj⟩ : Fin 20) : Nat) from h] at this
    exact (lt_irr _ this).elim
theorem cfgK_ok : ∀ k : Fin 20, (cfgK k).err = 0 := by decide +kernel
/-- What the twenty versions say of the shelf. -/
structure NI (i : Nat) (s : Sh) (vs : List Nat) : Prop where
  n : s.n ≤ i
  len : vs.length = 20
  le : ∀ k, vs.getD k 0 ≤ s.n
  rt : ∀ x, s.rt x = none
  c : ∀ k, k < 20 → s.cf (nmK k) = if vs.getD k 0 = 0 then none else some (cfgK k, vs.getD k 0)
  o : ∀ x, (∀ k, k < 20 → x ≠ nmK k) → s.cf x = none
theorem NI.put {i : Nat} {s : Sh} {vs : List Nat} (h : NI i s vs) {k : Nat} (hk : k < 20) : s.putC (cfgK k) (vs.getD k 0) = 0 ∧ s.aftC (cfgK k) (vs.getD k 0) = s.setC (cfgK k) := by
  have e : s.putC (cfgK k) (vs.getD k 0) = 0 := by
    unfold Sh.putC
    rw [if_pos (cfgK_ok ⟨k, hk⟩)]
    have := h.c k hk
    unfold mayP heldP verO
    show (if ((vs.getD k 0 : Nat) : Int) = 0 then (if ((s.cf (nmK k)).map (·.2)).isSome then (5 : Int) else 0) else _) = 0
    rw [show (cfgK k).nm = nmK k from rfl, this]
    by_cases q : vs.getD k 0 = 0
    · rw [if_pos q, q]; rfl
    · rw [if_neg q, if_neg (by omega)]; simp
  exact ⟨e, by unfold Sh.aftC; rw [if_pos e]⟩
theorem getD_set' (vs : List Nat) (k j x : Nat) (hk : k < vs.length) : (vs.set k x).getD j 0 = if j = k then x else vs.getD j 0 := by
  simp only [List.getD, List.getElem?_set]
  by_cases e : k = j
  · subst e; simp [hk]
  · have : ¬ j = k := fun q => e q.symm
    simp [e, this]
theorem NI.set {i : Nat} {s : Sh} {vs : List Nat} (h : NI i s vs) {k : Nat} (hk : k < 20) : NI (i + 1) (s.setC (cfgK k)) (vs.set k (s.n + 1)) := by
  have hl := h.len
  have hn := h.n
  refine ⟨by rw [Sh.n_setC]; omega, by simpa using h.len, fun j => ?_, fun x => by rw [setC_rt]; exact h.rt x, fun j hj => ?_, fun x hx => ?_⟩
  · rw [getD_set' _ _ _ _ (by omega), Sh.n_setC]
    have := h.le j
    split <;> omega
  · rw [getD_set' _ _ _ _ (by omega), setC_cf]
    show upd s.cf (nmK k) _ _ = _
    by_cases e : j = k
    · subst e; rw [upd_at, if_pos rfl, if_neg (by omega)]
    · rw [upd_ne _ _ (fun q => e (nmK_inj hj hk q)), if_neg e, h.c j hj]
  · rw [setC_cf]
    show upd s.cf (nmK k) _ _ = _
    rw [upd_ne _ _ (hx k hk), h.o x hx]
theorem NI.drop {i : Nat} {s : Sh} {vs : List Nat} (h : NI i s vs) {k : Nat} (hk : k < 20) (hv : vs.getD k 0 ≠ 0) : s.drop 1 (nmK k) (vs.getD k 0) = 0 ∧ s.aftD 1 (nmK k) (vs.getD k 0) = s.cut 1 (nmK k) ∧ NI (i + 1) (s.cut 1 (nmK k)) (vs.set k 0) := by
  have hl := h.len
  have hn := h.n
  have e : s.drop 1 (nmK k) (vs.getD k 0) = 0 := by
    unfold Sh.drop Sh.verK verO heldP
    rw [if_pos (.inl rfl), if_pos rfl, h.c k hk, if_neg hv]
    simp
  refine ⟨e, by unfold Sh.aftD; rw [if_pos e], ?_⟩
  unfold Sh.cut
  rw [if_pos rfl]
  refine ⟨by show s.n + 1 ≤ _; omega, by simpa using h.len, fun j => ?_, h.rt, fun j hj => ?_, fun x hx => ?_⟩
  · rw [getD_set' _ _ _ _ (by omega)]
    show _ ≤ s.n + 1
    have := h.le j
    split <;> omega
  · rw [getD_set' _ _ _ _ (by omega)]
    show upd s.cf (nmK k) none (nmK j) = _
    by_cases e : j = k
    · subst e; rw [upd_at]; simp
    · rw [upd_ne _ _ (fun q => e (nmK_inj hj hk q)), if_neg e, h.c j hj]
  · show upd s.cf (nmK k) none x = none
    rw [upd_ne _ _ (hx k hk), h.o x hx]
/-- The names there should be, of the first m. -/
def wantL (vs : List Nat) : Nat → List ByteArray
  | 0 => []
  | m + 1 => if vs.getD m 0 = 0 then wantL vs m else wantL vs m ++ [nmK m]
theorem wantL_mem (vs : List Nat) (x : ByteArray) : ∀ m, x ∈ wantL vs m ↔ ∃ k, k < m ∧ x = nmK k ∧ vs.getD k 0 ≠ 0
  | 0 => by simp [wantL]
  | m + 1 => by
    have ih := wantL_mem vs x m
    unfold wantL
    split
    · rename_i h
      rw [ih]
      constructor
      · rintro ⟨k, a, b, c⟩; exact ⟨k, by omega, b, c⟩
      · rintro ⟨k, a, b, c⟩
        have : k ≠ m := fun e => c (by rw [e]; exact h)
        exact ⟨k, by omega, b, c⟩
    · rename_i h
      rw [List.mem_append, ih, List.mem_singleton]
      constructor
      · rintro (⟨k, a, b, c⟩ | e)
        · exact ⟨k, by omega, b, c⟩
        · exact ⟨m, by omega, e, h⟩
      · rintro ⟨k, a, b, c⟩
        by_cases e : k = m
        · exact .inr (by rw [b, e])
        · exact .inl ⟨k, by omega, b, c⟩
theorem wantL_sorted (vs : List Nat) : ∀ m, m ≤ 20 → ((wantL vs m).map (·.data.toList)).Pairwise (· < ·)
  | 0, _ => List.Pairwise.nil
  | m + 1, hm => by
    have ih := wantL_sorted vs m (by omega)
    unfold wantL
    split
    · exact ih
    · rw [List.map_append, List.pairwise_append]
      refine ⟨ih, by simp, fun a ha b hb => ?_⟩
      obtain ⟨x, hx, rfl⟩ := List.mem_map.1 ha
      obtain ⟨k, h1, rfl, _⟩ := (wantL_mem vs x m).1 hx
      obtain ⟨y, hy, rfl⟩ := List.mem_map.1 hb
      rw [List.mem_singleton] at hy
      subst hy
      exact nmK_lt ⟨k, by omega⟩ ⟨m, by omega⟩ h1
theorem NI.names {i : Nat} {s : Sh} {vs : List Nat} (h : NI i s vs) : NamesOf (s.names 1) (wantL vs 20) ∧ NamesOf (s.names 2) [] ∧ NamesOf (s.names 3) [] := by
  refine ⟨⟨wantL_sorted vs 20 (Nat.le_refl _), fun x => ?_⟩, .nil fun x => ?_, .nil fun x => rfl⟩
  · rw [wantL_mem]
    show _ ↔ (s.cf x).isSome = true
    by_cases q : ∃ k, k < 20 ∧ x = nmK k
    · obtain ⟨k, hk, rfl⟩ := q
      rw [h.c k hk]
      constructor
      · rintro ⟨j, a, b, c⟩
        rw [nmK_inj hk a b, if_neg c]; rfl
      · intro e
        by_cases z : vs.getD k 0 = 0
        · rw [if_pos z] at e; cases e
        · exact ⟨k, hk, rfl, z⟩
    · rw [h.o x (fun k hk e => q ⟨k, hk, e⟩)]
      constructor
      · rintro ⟨j, a, b, c⟩; exact (q ⟨j, a, b⟩).elim
      · intro e; cases e
  · show (s.rt x).isSome = false
    rw [h.rt x]; rfl
def vV (v : Nat) : Value := .int .i64 (v : Int)
theorem tk_set (vs : List Nat) (q m : Nat) (h : q < vs.length) : (vs.map vV).take q ++ [vV m] ++ (vs.map vV).drop (q + 1) = (vs.set q m).map vV := by
  rw [List.map_set, List.set_eq_take_append_cons_drop, if_pos (by simpa using h)]
  simp
theorem StrAt.later {w w' : World} {a : Option Addr} {L : List ByteArray} (h : StrAt w a L) (g : Grow.G w w') : StrAt w' a L := fun k hk => by
  obtain ⟨r, e, hc⟩ := h k hk
  exact ⟨r, e, cell_later g hc⟩
end Go.Proofs.Ytgiihgpnmcchdaa
