
/- ShelfVersions' plain side: six versions, and a shelf. -/
import Derived.Test.YtgiihgpnmcchdaaShelfKinds
namespace Go.Proofs.Ytgiihgpnmcchdaa
set_option maxRecDepth 100000
set_option linter.unusedVariables false
set_option linter.unusedSimpArgs false
set_option linter.unnecessarySimpa false
open Go.RowKit Go.MapV Go.Maps

def vnC (m : Nat) : ByteArray := names3.getD m ⟨#[]⟩
def vnR (m : Nat) : ByteArray := frontN.getD m ⟨#[]⟩
theorem vnC_ne : ∀ i j : Fin 3, i ≠ j → vnC i ≠ vnC j := by decide +kernel
theorem vnR_ne : ∀ i j : Fin 3, i ≠ j → vnR i ≠ vnR j := by decide +kernel
theorem vnC_ok : ∀ i : Fin 3, nameB 16 (vnC i) = true := by decide +kernel
theorem vnR_ok : ∀ i : Fin 3, nameB 16 (vnR i) = true := by decide +kernel
theorem vnC_sz : ∀ i : Fin 3, (vnC i).size ≤ 5 := by decide +kernel
theorem vnR_sz : ∀ i : Fin 3, (vnR i).size ≤ 5 := by decide +kernel
def ofV (v : Nat) : Option Nat := if v = 0 then none else some v
structure VI (i n : Nat) (s : Sh) (V : List Nat) : Prop where
  sn : s.n = n
  ni : n ≤ i
  len : V.length = 6
  le : ∀ k, V.getD k 0 ≤ n
  c : ∀ m, m < 3 → verO (s.cf (vnC m)) = ofV (V.getD m 0)
  r : ∀ m, m < 3 → verO (s.rt (vnR m)) = ofV (V.getD (3 + m) 0)
theorem may_ofV (v : Nat) : mayP (ofV v) (v : Int) = 0 := by
  unfold ofV mayP heldP
  by_cases h : v = 0
  · subst h; rfl
  · rw [if_neg h, if_neg (by omega)]; simp
theorem held_ofV {v : Nat} (h : v ≠ 0) : heldP (ofV v) (v : Int) = 0 := by
  unfold ofV heldP
  rw [if_neg h]; simp
theorem held_far {v n : Nat} (h : v ≤ n) : heldP (ofV v) ((n : Int) + 5) = 6 ∨ heldP (ofV v) ((n : Int) + 5) = 7 := by
  unfold ofV heldP
  by_cases e : v = 0
  · rw [if_pos e]; exact .inl rfl
  · rw [if_neg e]
    refine .inr ?_
    show (if _ then _ else _) = _
    rw [if_neg (by omega)]
theorem setD6 (V : List Nat) (k j x : Nat) (hk : k < V.length) : (V.set k x).getD j 0 = if j = k then x else V.getD j 0 := by
  simp only [List.getD, List.getElem?_set]
  by_cases e : k = j
  · subst e; simp [hk]
  · have : ¬ j = k := fun q => e q.symm
    simp [e, this]
section
variable {i n : Nat} {s : Sh} {V : List Nat}
theorem VI.putC (h : VI i n s V) {m : Nat} (hm : m < 3) {c : Cfg} (hc : c.err = 0) (hn : c.nm = vnC m) : s.putC c (V.getD m 0 : Nat) = 0 ∧ s.aftC c (V.getD m 0 : Nat) = s.setC c ∧ VI (i + 1) (n + 1) (s.setC c) (V.set m (n + 1)) := by
  have e : s.putC c (V.getD m 0 : Nat) = 0 := by unfold Sh.putC; rw [if_pos hc, hn, h.c m hm, may_ofV]
  have hl := h.len
  have hn2 := h.sn
  refine ⟨e, by unfold Sh.aftC; rw [if_pos e], by rw [Sh.n_setC, hn2], by have := h.ni; omega, by rw [List.length_set]; exact hl, fun j => ?_, fun j hj => ?_, fun j hj => ?_⟩
  · rw [setD6 _ _ _ _ (by omega)]; have := h.le j; split <;> omega
  · rw [setD6 _ _ _ _ (by omega), setC_cf, hn]
    by_cases q : j = m
    · subst q; rw [upd_at, if_pos rfl, hn2]; unfold ofV; rw [if_neg (by omega)]; rfl
    · rw [upd_ne _ _ (vnC_ne ⟨j, hj⟩ ⟨m, hm⟩ (fun e => q (Fin.mk.inj_iff.1 e))), if_neg q, h.c j hj]
  · rw [setD6 _ _ _ _ (by omega), if_neg (by omega), setC_rt, h.r j hj]
theorem VI.putR (h : VI i n s V) {m : Nat} (hm : m < 3) {r : Rt} (hc : r.err = 0) (hn : r.nm = vnR m) : s.putR r (V.getD (3 + m) 0 : Nat) = 0 ∧ s.aftR r (V.getD (3 + m) 0 : Nat) = s.setR r ∧ VI (i + 1) (n + 1) (s.setR r) (V.set (3 + m) (n + 1)) := by
  have e : s.putR r (V.getD (3 + m) 0 : Nat) = 0 := by unfold Sh.putR; rw [if_pos hc, hn, h.r m hm, may_ofV]
  have hl := h.len
  have hn2 := h.sn
  refine ⟨e, by unfold Sh.aftR; rw [if_pos e], by show s.n + 1 = _; rw [hn2], by have := h.ni; omega, by rw [List.length_set]; exact hl, fun j => ?_, fun j hj => ?_, fun j hj => ?_⟩
  · rw [setD6 _ _ _ _ (by omega)]; have := h.le j; split <;> omega
  · rw [setD6 _ _ _ _ (by omega), if_neg (by omega)]; exact h.c j hj
  · rw [setD6 _ _ _ _ (by omega)]
    show verO (upd s.rt r.nm (some (r, s.n + 1)) (vnR j)) = _
    rw [hn]
    by_cases q : j = m
    · subst q; rw [upd_at, if_pos rfl, hn2]; unfold ofV; rw [if_neg (by omega)]; rfl
    · rw [upd_ne _ _ (vnR_ne ⟨j, hj⟩ ⟨m, hm⟩ (fun e => q (Fin.mk.inj_iff.1 e))), if_neg (by omega), h.r j hj]
theorem VI.farC (h : VI i n s V) {m : Nat} (hm : m < 3) : (s.drop 1 (vnC m) ((n : Int) + 5) = 6 ∨ s.drop 1 (vnC m) ((n : Int) + 5) = 7) ∧ s.aftD 1 (vnC m) ((n : Int) + 5) = s := by
  have e : s.drop 1 (vnC m) ((n : Int) + 5) = heldP (ofV (V.getD m 0)) ((n : Int) + 5) := by
    unfold Sh.drop Sh.verK; rw [if_pos (.inl rfl), if_pos rfl, h.c m hm]
  have := held_far (h.le m)
  rw [← e] at this
  exact ⟨this, by unfold Sh.aftD; rw [if_neg (by omega)]⟩
theorem VI.farR (h : VI i n s V) {m : Nat} (hm : m < 3) : (s.drop 2 (vnR m) ((n : Int) + 5) = 6 ∨ s.drop 2 (vnR m) ((n : Int) + 5) = 7) ∧ s.aftD 2 (vnR m) ((n : Int) + 5) = s := by
  have e : s.drop 2 (vnR m) ((n : Int) + 5) = heldP (ofV (V.getD (3 + m) 0)) ((n : Int) + 5) := by
    unfold Sh.drop Sh.verK; rw [if_pos (.inr rfl), if_neg (by decide), h.r m hm]
  have := held_far (h.le (3 + m))
  rw [← e] at this
  exact ⟨this, by unfold Sh.aftD; rw [if_neg (by omega)]⟩
theorem VI.dropC (h : VI i n s V) {m : Nat} (hm : m < 3) (hv : V.getD m 0 ≠ 0) : s.drop 1 (vnC m) (V.getD m 0 : Nat) = 0 ∧ s.aftD 1 (vnC m) (V.getD m 0 : Nat) = s.cut 1 (vnC m) ∧ VI (i + 1) (n + 1) (s.cut 1 (vnC m)) (V.set m 0) := by
  have e : s.drop 1 (vnC m) (V.getD m 0 : Nat) = 0 := by
    unfold Sh.drop Sh.verK; rw [if_pos (.inl rfl), if_pos rfl, h.c m hm, held_ofV hv]
  have hl := h.len
  have hn2 := h.sn
  refine ⟨e, by unfold Sh.aftD; rw [if_pos e], ?_⟩
  unfold Sh.cut
  rw [if_pos rfl]
  refine ⟨by show s.n + 1 = _; rw [hn2], by have := h.ni; omega, by rw [List.length_set]; exact hl, fun j => ?_, fun j hj => ?_, fun j hj => ?_⟩
  · rw [setD6 _ _ _ _ (by omega)]; have := h.le j; split <;> omega
  · rw [setD6 _ _ _ _ (by omega)]
    show verO (upd s.cf (vnC m) none (vnC j)) = _
    by_cases q : j = m
    · subst q; rw [upd_at, if_pos rfl]; rfl
    · rw [upd_ne _ _ (vnC_ne ⟨j, hj⟩ ⟨m, hm⟩ (fun e => q (Fin.mk.inj_iff.1 e))), if_neg q, h.c j hj]
  · rw [setD6 _ _ _ _ (by omega), if_neg (by omega)]; exact h.r j hj
theorem VI.dropR (h : VI i n s V) {m : Nat} (hm : m < 3) (hv : V.getD (3 + m) 0 ≠ 0) : s.drop 2 (vnR m) (V.getD (3 + m) 0 : Nat) = 0 ∧ s.aftD 2 (vnR m) (V.getD (3 + m) 0 : Nat) = s.cut 2 (vnR m) ∧ VI (i + 1) (n + 1) (s.cut 2 (vnR m)) (V.set (3 + m) 0) := by
  have e : s.drop 2 (vnR m) (V.getD (3 + m) 0 : Nat) = 0 := by
    unfold Sh.drop Sh.verK; rw [if_pos (.inr rfl), if_neg (by decide), h.r m hm, held_ofV hv]
  have hl := h.len
  have hn2 := h.sn
  refine ⟨e, by unfold Sh.aftD; rw [if_pos e], ?_⟩
  unfold Sh.cut
  rw [if_neg (by decide)]
  refine ⟨by show s.n + 1 = _; rw [hn2], by have := h.ni; omega, by rw [List.length_set]; exact hl, fun j => ?_, fun j hj => ?_, fun j hj => ?_⟩
  · rw [setD6 _ _ _ _ (by omega)]; have := h.le j; split <;> omega
  · rw [setD6 _ _ _ _ (by omega), if_neg (by omega)]; exact h.c j hj
  · rw [setD6 _ _ _ _ (by omega)]
    show verO (upd s.rt (vnR m) none (vnR j)) = _
    by_cases q : j = m
    · subst q; rw [upd_at, if_pos rfl]; rfl
    · rw [upd_ne _ _ (vnR_ne ⟨j, hj⟩ ⟨m, hm⟩ (fun e => q (Fin.mk.inj_iff.1 e))), if_neg (by omega), h.r j hj]
theorem VI.more (h : VI i n s V) : VI (i + 1) n s V := ⟨h.sn, by have := h.ni; omega, h.len, h.le, h.c, h.r⟩
theorem VI.new : VI 0 0 Sh.new [0, 0, 0, 0, 0, 0] := by
  have g : ∀ k, ([0, 0, 0, 0, 0, 0] : List Nat).getD k 0 = 0 := fun k => by
    by_cases h : k < 6
    · match k, h with
      | 0, _ => rfl
      | 1, _ => rfl
      | 2, _ => rfl
      | 3, _ => rfl
      | 4, _ => rfl
      | 5, _ => rfl
    · rw [List.getD, List.getElem?_eq_none (by simpa using h)]; rfl
  exact ⟨rfl, by omega, rfl, fun k => by rw [g]; omega, fun m hm => by rw [g]; rfl, fun m hm => by rw [g]; rfl⟩
end
end Go.Proofs.Ytgiihgpnmcchdaa
