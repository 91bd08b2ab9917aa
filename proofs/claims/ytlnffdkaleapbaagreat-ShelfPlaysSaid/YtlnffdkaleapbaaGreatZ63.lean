/- My own texts RfP, SepL, RfM, RfT, RfPut, RfDrop, laid in one file. -/
import Derived.Test.YtlnffdkaleapbaaGreatZ30
import Derived.Test.YtlnffdkaleapbaaGreatZ29
import Derived.Test.YtlnffdkaleapbaaGreatZ2
import Derived.Test.YtlnffdkaleapbaaGreatZ48
import Derived.Test.YtlnffdkaleapbaaGreatZ4
import Derived.Handy

/- The second form's shelf: rows of objects, plainly, and what of a shelf they say. -/
namespace Go.Proofs.YtlnffdkaleapbaaGreat
set_option maxRecDepth 100000
set_option linter.unusedVariables false
set_option linter.unusedSimpArgs false
open Go.RowKit Go.MapV

/-- An object: its kind, its name, what it is, its version, its generation, whether it is there. -/
structure Ob where
  kd : Int
  nm : ByteArray
  c : Cfg
  r : Rt
  v : Nat
  g : Nat
  is : Bool
def Ob.is1 (o : Ob) (kd : Int) (nm : ByteArray) : Bool := o.kd == kd && decide (o.nm = nm)
theorem Ob.is1_iff {o : Ob} {kd : Int} {nm : ByteArray} : o.is1 kd nm = true ↔ o.kd = kd ∧ o.nm = nm := by unfold Ob.is1; simp
/-- Where an object stands. -/
def idxO (l : List Ob) (kd : Int) (nm : ByteArray) : Option Nat := l.findIdx? (fun o => o.is1 kd nm)
/-- What the objects say of a shelf. -/
structure OSh (l : List Ob) (s : Sh) : Prop where
  uq : ∀ (i j : Nat) (o p : Ob), l[i]? = some o → l[j]? = some p → o.kd = p.kd → o.nm = p.nm → i = j
  kd : ∀ o, o ∈ l → o.kd = 1 ∨ o.kd = 2
  c : ∀ o, o ∈ l → o.kd = 1 → s.cf o.nm = (if o.is then some (o.c, o.v) else none) ∧ s.gn o.nm = o.g
  cn : ∀ nm, (∀ o, o ∈ l → ¬ (o.kd = 1 ∧ o.nm = nm)) → s.cf nm = none ∧ s.gn nm = 0
  r : ∀ o, o ∈ l → o.kd = 2 → s.rt o.nm = (if o.is then some (o.r, o.v) else none)
  rn : ∀ nm, (∀ o, o ∈ l → ¬ (o.kd = 2 ∧ o.nm = nm)) → s.rt nm = none
  v : ∀ o, o ∈ l → o.v ≤ s.n ∧ o.g ≤ s.n
theorem OSh.new : OSh [] Sh.new where
  uq := fun i j o p h => by simp at h
  kd := fun o h => absurd h List.not_mem_nil
  c := fun o h => absurd h List.not_mem_nil
  cn := fun nm _ => ⟨rfl, rfl⟩
  r := fun o h => absurd h List.not_mem_nil
  rn := fun nm _ => rfl
  v := fun o h => absurd h List.not_mem_nil
section
variable {l : List Ob} {s : Sh}
theorem idxO_some {kd : Int} {nm : ByteArray} {i : Nat} (h : idxO l kd nm = some i) : ∃ o, l[i]? = some o ∧ o.kd = kd ∧ o.nm = nm := by
  unfold idxO at h
  rw [List.findIdx?_eq_some_iff_getElem] at h
  obtain ⟨hi, h1, _⟩ := h
  exact ⟨l[i], List.getElem?_eq_getElem hi, Ob.is1_iff.1 h1⟩
theorem idxO_none {kd : Int} {nm : ByteArray} (h : idxO l kd nm = none) : ∀ o, o ∈ l → ¬ (o.kd = kd ∧ o.nm = nm) := by
  unfold idxO at h
  rw [List.findIdx?_eq_none_iff] at h
  intro o ho q
  have := h o ho
  rw [Ob.is1_iff.2 q] at this
  cases this
/-- How far the search has gone. -/
theorem idxO_at {kd : Int} {nm : ByteArray} {i : Nat} {o : Ob} (ho : l[i]? = some o) (h1 : ∀ p, p ∈ l.take i → ¬ (p.kd = kd ∧ p.nm = nm)) (h2 : o.kd = kd ∧ o.nm = nm) : idxO l kd nm = some i := by
  unfold idxO
  rw [List.findIdx?_eq_some_iff_getElem]
  have hi := (List.getElem?_eq_some_iff.1 ho).1
  refine ⟨hi, ?_, fun j hj => ?_⟩
  · rw [(List.getElem?_eq_some_iff.1 ho).2]; exact Ob.is1_iff.2 h2
  · have hm : l[j] ∈ l.take i := by rw [List.mem_take_iff_getElem]; exact ⟨j, by omega, rfl⟩
    cases hq : (l[j]).is1 kd nm with
    | false => simp
    | true => exact absurd (Ob.is1_iff.1 hq) (h1 _ hm)
theorem idxO_no {kd : Int} {nm : ByteArray} (h1 : ∀ p, p ∈ l → ¬ (p.kd = kd ∧ p.nm = nm)) : idxO l kd nm = none := by
  unfold idxO
  rw [List.findIdx?_eq_none_iff]
  intro o ho
  cases hq : o.is1 kd nm with
  | false => rfl
  | true => exact absurd (Ob.is1_iff.1 hq) (h1 o ho)
/-- An object's version, as may asks for it. -/
def verI (l : List Ob) (o : Option Nat) : Option Nat := match o with
  | none => none
  | some i => match l[i]? with
    | none => none
    | some o => if o.is then some o.v else none
theorem OSh.verC (h : OSh l s) (nm : ByteArray) : verI l (idxO l 1 nm) = verO (s.cf nm) := by
  cases hi : idxO l 1 nm with
  | none =>
    have := (h.cn nm (idxO_none hi)).1
    rw [this]; rfl
  | some i =>
    obtain ⟨o, ho, h1, h2⟩ := idxO_some hi
    have := (h.c o (List.mem_of_getElem? ho) h1).1
    rw [h2] at this
    rw [this]
    unfold verI
    dsimp only
    rw [ho]
    dsimp only
    split <;> rfl
theorem OSh.verR (h : OSh l s) (nm : ByteArray) : verI l (idxO l 2 nm) = verO (s.rt nm) := by
  cases hi : idxO l 2 nm with
  | none =>
    have := h.rn nm (idxO_none hi)
    rw [this]; rfl
  | some i =>
    obtain ⟨o, ho, h1, h2⟩ := idxO_some hi
    have := h.r o (List.mem_of_getElem? ho) h1
    rw [h2] at this
    rw [this]
    unfold verI
    dsimp only
    rw [ho]
    dsimp only
    split <;> rfl
/-- A new object of a kind, that is not there yet. -/
def freshO (kd : Int) (nm : ByteArray) : Ob := ⟨kd, nm, ⟨⟨#[]⟩, 0, 0, 0, 0, 0⟩, ⟨⟨#[]⟩, ⟨#[]⟩, [], 0⟩, 0, 0, false⟩
theorem mem_snoc {x o : Ob} : x ∈ l ++ [o] ↔ x ∈ l ∨ x = o := by simp
theorem get_snoc {i : Nat} {x o : Ob} (h : (l ++ [o])[i]? = some x) : l[i]? = some x ∨ (i = l.length ∧ x = o) := by
  by_cases hi : i < l.length
  · rw [List.getElem?_append_left hi] at h; exact .inl h
  · rw [List.getElem?_append_right (by omega)] at h
    obtain ⟨h1, h2⟩ := List.getElem?_eq_some_iff.1 h
    have h1 : i - l.length < 1 := by simpa using h1
    have e : i = l.length := by omega
    subst e
    simp at h2
    exact .inr ⟨rfl, h2.symm⟩
theorem OSh.fresh (h : OSh l s) {kd : Int} {nm : ByteArray} (hk : kd = 1 ∨ kd = 2) (hn : idxO l kd nm = none) : OSh (l ++ [freshO kd nm]) s := by
  have hno := idxO_none hn
  refine ⟨fun i j o p hi hj h1 h2 => ?_, fun o ho => ?_, fun o ho h1 => ?_, fun x hx => h.cn x fun o ho => hx o (List.mem_append_left _ ho), fun o ho h1 => ?_, fun x hx => h.rn x fun o ho => hx o (List.mem_append_left _ ho), fun o ho => ?_⟩
  · rcases get_snoc hi with hi' | ⟨ei, eo⟩
    · rcases get_snoc hj with hj' | ⟨ej, ep⟩
      · exact h.uq i j o p hi' hj' h1 h2
      · subst ep
        exact absurd ⟨h1, h2⟩ (hno o (List.mem_of_getElem? hi'))
    · rcases get_snoc hj with hj' | ⟨ej, ep⟩
      · subst eo
        exact absurd ⟨h1.symm, h2.symm⟩ (hno p (List.mem_of_getElem? hj'))
      · omega
  · rcases mem_snoc.1 ho with ho | rfl
    · exact h.kd o ho
    · exact hk
  · rcases mem_snoc.1 ho with ho | rfl
    · exact h.c o ho h1
    · have h1 : kd = 1 := h1
      subst h1
      exact h.cn nm hno
  · rcases mem_snoc.1 ho with ho | rfl
    · exact h.r o ho h1
    · have h1 : kd = 2 := h1
      subst h1
      exact h.rn nm hno
  · rcases mem_snoc.1 ho with ho | rfl
    · exact h.v o ho
    · exact ⟨Nat.zero_le _, Nat.zero_le _⟩
theorem get_set {i j : Nat} {o p x : Ob} (ho : l[i]? = some o) (h : (l.set i p)[j]? = some x) : (j = i ∧ x = p) ∨ (j ≠ i ∧ l[j]? = some x) := by
  by_cases e : j = i
  · subst e
    rw [List.getElem?_set_self (List.getElem?_eq_some_iff.1 ho).1] at h
    cases h; exact .inl ⟨rfl, rfl⟩
  · rw [List.getElem?_set_ne (fun q => e q.symm)] at h
    exact .inr ⟨e, h⟩
theorem mem_set_cases {i : Nat} {o p x : Ob} (ho : l[i]? = some o) (hx : x ∈ l.set i p) : x = p ∨ ∃ j, j ≠ i ∧ l[j]? = some x := by
  obtain ⟨j, hj⟩ := List.getElem?_of_mem hx
  rcases get_set ho hj with ⟨_, e⟩ | ⟨e, h⟩
  · exact .inl e
  · exact .inr ⟨j, e, h⟩
theorem not_set {i : Nat} {o p : Ob} {kd : Int} {nm : ByteArray} (ho : l[i]? = some o) (h : ∀ x, x ∈ l.set i p → ¬ (x.kd = kd ∧ x.nm = nm)) (e1 : p.kd = o.kd) (e2 : p.nm = o.nm) : ∀ x, x ∈ l → ¬ (x.kd = kd ∧ x.nm = nm) := by
  intro x hx q
  obtain ⟨j, hj⟩ := List.getElem?_of_mem hx
  by_cases e : j = i
  · subst e
    rw [ho] at hj; cases hj
    refine h p ?_ ⟨e1.trans q.1, e2.trans q.2⟩
    exact List.mem_of_getElem? (List.getElem?_set_self (List.getElem?_eq_some_iff.1 ho).1)
  · exact h x (List.mem_of_getElem? (by rw [List.getElem?_set_ne (fun r => e r.symm)]; exact hj)) q
theorem OSh.uqset (h : OSh l s) {i : Nat} {o p : Ob} (ho : l[i]? = some o) (e1 : p.kd = o.kd) (e2 : p.nm = o.nm) : ∀ (a b : Nat) (x y : Ob), (l.set i p)[a]? = some x → (l.set i p)[b]? = some y → x.kd = y.kd → x.nm = y.nm → a = b := by
  intro a b x y ha hb h1 h2
  rcases get_set ho ha with ⟨ea, ex⟩ | ⟨ea, hx⟩
  · rcases get_set ho hb with ⟨eb, ey⟩ | ⟨eb, hy⟩
    · omega
    · subst ex
      have := h.uq i b o y ho hy (e1.symm.trans h1) (e2.symm.trans h2)
      omega
  · rcases get_set ho hb with ⟨eb, ey⟩ | ⟨eb, hy⟩
    · subst ey
      have := h.uq a i x o hx ho (h1.trans e1) (h2.trans e2)
      omega
    · exact h.uq a b x y hx hy h1 h2
/-- What another object is when one of its name and kind stands elsewhere. -/
theorem OSh.apart (h : OSh l s) {i j : Nat} {o x : Ob} (ho : l[i]? = some o) (hx : l[j]? = some x) (hj : j ≠ i) (hk : x.kd = o.kd) : x.nm ≠ o.nm := fun e => hj (h.uq j i x o hx ho hk e)
theorem OSh.setC (h : OSh l s) {i : Nat} {o : Ob} (ho : l[i]? = some o) (hk : o.kd = 1) (c : Cfg) (hn : o.nm = c.nm) :
    OSh (l.set i { o with c := c, v := s.n + 1, g := if o.is = true ∧ o.c = c then o.g else o.g + 1, is := true }) (s.setC c) := by
  obtain ⟨hc, hg⟩ := h.c o (List.mem_of_getElem? ho) hk
  rw [hn] at hc hg
  have hw : s.wasC c = decide (o.is = true ∧ o.c = c) := by
    unfold Sh.wasC
    rw [hc]
    cases hi : o.is with
    | false => simp
    | true => simp; rfl
  have hrt : (s.setC c).rt = s.rt := by unfold Sh.setC; split <;> rfl
  have hcf : ∀ x, x ≠ c.nm → (s.setC c).cf x = s.cf x := by
    intro x hx
    unfold Sh.setC
    split
    · exact upd_ne _ _ hx
    · exact upd_ne _ _ hx
  have hgn : ∀ x, x ≠ c.nm → (s.setC c).gn x = s.gn x := by
    intro x hx
    unfold Sh.setC
    split
    · rfl
    · exact upd_ne _ _ hx
  have hcf1 : (s.setC c).cf c.nm = some (c, s.n + 1) := by
    unfold Sh.setC
    split
    · exact upd_at _ _ _
    · exact upd_at _ _ _
  have hgn1 : (s.setC c).gn c.nm = if o.is = true ∧ o.c = c then o.g else o.g + 1 := by
    unfold Sh.setC
    by_cases q : o.is = true ∧ o.c = c
    · rw [hw, decide_eq_true q, if_pos rfl, if_pos q]; exact hg
    · rw [hw, decide_eq_false q, if_neg (by decide), if_neg q]
      show upd s.gn c.nm (s.gn c.nm + 1) c.nm = _
      rw [upd_at, hg]
  refine ⟨h.uqset ho rfl rfl, fun x hx => ?_, fun x hx h1 => ?_, fun x hx => ?_, fun x hx h1 => ?_, fun x hx => ?_, fun x hx => ?_⟩
  · rcases mem_set_cases ho hx with rfl | ⟨j, hj, hxj⟩
    · exact .inl hk
    · exact h.kd x (List.mem_of_getElem? hxj)
  · rcases mem_set_cases ho hx with rfl | ⟨j, hj, hxj⟩
    · refine ⟨?_, ?_⟩
      · show (s.setC c).cf o.nm = _
        rw [hn, hcf1, if_pos rfl]
      · show (s.setC c).gn o.nm = _
        rw [hn, hgn1]
    · have hne : x.nm ≠ c.nm := hn ▸ h.apart ho hxj hj (h1.trans hk.symm)
      rw [hcf _ hne, hgn _ hne]
      exact h.c x (List.mem_of_getElem? hxj) h1
  · have hno := not_set (o := o) ho hx rfl rfl
    have hne : x ≠ c.nm := fun e => hno o (List.mem_of_getElem? ho) ⟨hk, by rw [hn, e]⟩
    rw [hcf _ hne, hgn _ hne]
    exact h.cn x hno
  · rcases mem_set_cases ho hx with rfl | ⟨j, hj, hxj⟩
    · have h1 : o.kd = 2 := h1
      omega
    · rw [hrt]; exact h.r x (List.mem_of_getElem? hxj) h1
  · rw [hrt]; exact h.rn x (not_set (o := o) ho hx rfl rfl)
  · rw [Sh.n_setC]
    rcases mem_set_cases ho hx with rfl | ⟨j, hj, hxj⟩
    · have := (h.v o (List.mem_of_getElem? ho)).2
      refine ⟨Nat.le_refl _, ?_⟩
      dsimp only
      split <;> omega
    · have := h.v x (List.mem_of_getElem? hxj)
      omega
theorem OSh.setR (h : OSh l s) {i : Nat} {o : Ob} (ho : l[i]? = some o) (hk : o.kd = 2) (r : Rt) (hn : o.nm = r.nm) :
    OSh (l.set i { o with r := r, v := s.n + 1, is := true }) (s.setR r) := by
  refine ⟨h.uqset ho rfl rfl, fun x hx => ?_, fun x hx h1 => ?_, fun x hx => h.cn x (not_set (o := o) ho hx rfl rfl), fun x hx h1 => ?_, fun x hx => ?_, fun x hx => ?_⟩
  · rcases mem_set_cases ho hx with rfl | ⟨j, hj, hxj⟩
    · exact .inr hk
    · exact h.kd x (List.mem_of_getElem? hxj)
  · rcases mem_set_cases ho hx with rfl | ⟨j, hj, hxj⟩
    · have h1 : o.kd = 1 := h1
      omega
    · exact h.c x (List.mem_of_getElem? hxj) h1
  · rcases mem_set_cases ho hx with rfl | ⟨j, hj, hxj⟩
    · show upd s.rt r.nm _ o.nm = _
      rw [hn, upd_at, if_pos rfl]
    · have hne : x.nm ≠ r.nm := hn ▸ h.apart ho hxj hj (h1.trans hk.symm)
      show upd s.rt r.nm _ x.nm = _
      rw [upd_ne _ _ hne]
      exact h.r x (List.mem_of_getElem? hxj) h1
  · have hno := not_set (o := o) ho hx rfl rfl
    have hne : x ≠ r.nm := fun e => hno o (List.mem_of_getElem? ho) ⟨hk, by rw [hn, e]⟩
    show upd s.rt r.nm _ x = _
    rw [upd_ne _ _ hne]
    exact h.rn x hno
  · show x.v ≤ s.n + 1 ∧ x.g ≤ s.n + 1
    rcases mem_set_cases ho hx with rfl | ⟨j, hj, hxj⟩
    · have := (h.v o (List.mem_of_getElem? ho)).2
      exact ⟨Nat.le_refl _, by show o.g ≤ _; omega⟩
    · have := h.v x (List.mem_of_getElem? hxj)
      omega
theorem OSh.cut (h : OSh l s) {i : Nat} {o : Ob} (ho : l[i]? = some o) :
    OSh (l.set i { o with is := false }) (s.cut o.kd o.nm) := by
  have hk := h.kd o (List.mem_of_getElem? ho)
  have hn : (s.cut o.kd o.nm).n = s.n + 1 := by unfold Sh.cut; split <;> rfl
  have hgn : (s.cut o.kd o.nm).gn = s.gn := by unfold Sh.cut; split <;> rfl
  have hcf : ∀ x, (o.kd = 1 ∧ x = o.nm → (s.cut o.kd o.nm).cf x = none) ∧ (¬ (o.kd = 1 ∧ x = o.nm) → (s.cut o.kd o.nm).cf x = s.cf x) := by
    intro x
    unfold Sh.cut
    split
    · rename_i h1
      refine ⟨fun q => by show upd s.cf o.nm none x = none; rw [q.2, upd_at], fun q => ?_⟩
      exact upd_ne _ _ fun e => q ⟨h1, e⟩
    · rename_i h1
      exact ⟨fun q => absurd q.1 h1, fun _ => rfl⟩
  have hrt : ∀ x, (o.kd = 2 ∧ x = o.nm → (s.cut o.kd o.nm).rt x = none) ∧ (¬ (o.kd = 2 ∧ x = o.nm) → (s.cut o.kd o.nm).rt x = s.rt x) := by
    intro x
    unfold Sh.cut
    split
    · rename_i h1
      exact ⟨fun q => by omega, fun _ => rfl⟩
    · rename_i h1
      refine ⟨fun q => by show upd s.rt o.nm none x = none; rw [q.2, upd_at], fun q => ?_⟩
      exact upd_ne _ _ fun e => q ⟨by omega, e⟩
  refine ⟨h.uqset ho rfl rfl, fun x hx => ?_, fun x hx h1 => ?_, fun x hx => ?_, fun x hx h1 => ?_, fun x hx => ?_, fun x hx => ?_⟩
  · rcases mem_set_cases ho hx with rfl | ⟨j, hj, hxj⟩
    · exact hk
    · exact h.kd x (List.mem_of_getElem? hxj)
  · rw [hgn]
    rcases mem_set_cases ho hx with rfl | ⟨j, hj, hxj⟩
    · have h1 : o.kd = 1 := h1
      exact ⟨(hcf o.nm).1 ⟨h1, rfl⟩, (h.c o (List.mem_of_getElem? ho) h1).2⟩
    · rw [(hcf x.nm).2 fun q => h.apart ho hxj hj (h1.trans q.1.symm) q.2]
      exact h.c x (List.mem_of_getElem? hxj) h1
  · have hno := not_set (o := o) ho hx rfl rfl
    rw [hgn, (hcf x).2 fun q => hno o (List.mem_of_getElem? ho) ⟨q.1, q.2.symm⟩]
    exact h.cn x hno
  · rcases mem_set_cases ho hx with rfl | ⟨j, hj, hxj⟩
    · have h1 : o.kd = 2 := h1
      exact (hrt o.nm).1 ⟨h1, rfl⟩
    · rw [(hrt x.nm).2 fun q => h.apart ho hxj hj (h1.trans q.1.symm) q.2]
      exact h.r x (List.mem_of_getElem? hxj) h1
  · have hno := not_set (o := o) ho hx rfl rfl
    rw [(hrt x).2 fun q => hno o (List.mem_of_getElem? ho) ⟨q.1, q.2.symm⟩]
    exact h.rn x hno
  · rw [hn]
    rcases mem_set_cases ho hx with rfl | ⟨j, hj, hxj⟩
    · have := h.v o (List.mem_of_getElem? ho)
      exact ⟨by show o.v ≤ _; omega, by show o.g ≤ _; omega⟩
    · have := h.v x (List.mem_of_getElem? hxj)
      omega
end
end Go.Proofs.YtlnffdkaleapbaaGreat

/- Many states side by side: one of them opened, another one in its place, one more. No program is named here. -/
namespace Go
set_option linter.unusedVariables false
open Go.RowKit
section
variable {α : Type} {A : α → World → (Nat → Prop) → Prop} {l : List α} {w w' : World} {F F' f f' : Nat → Prop} {i : Nat} {x x' : α}
theorem pw_apart {Fs : List (Nat → Prop)} (h : Fs.Pairwise Apart) {i j : Nat} {a b : Nat → Prop} (hi : Fs[i]? = some a) (hj : Fs[j]? = some b) (hne : i ≠ j) : Apart a b := by
  obtain ⟨h1, e1⟩ := List.getElem?_eq_some_iff.1 hi
  obtain ⟨h2, e2⟩ := List.getElem?_eq_some_iff.1 hj
  subst e1 e2
  rcases Nat.lt_or_gt_of_ne hne with q | q
  · exact List.pairwise_iff_getElem.1 h i j h1 h2 q
  · exact (List.pairwise_iff_getElem.1 h j i h2 h1 q).symm
/-- One of many, and the others. -/
theorem SepL.open (hA : ∀ x, Foot (A x)) (h : SepL A l w F) (hi : l[i]? = some x) : ∃ f F2, A x w f ∧ Apart f F2 ∧ (∀ k, F k ↔ f k ∨ F2 k) ∧
    ∀ (w' : World) (f' G : Nat → Prop) (x' : α), A x' w' f' → Chg G w w' → (∀ k, F2 k → ¬ G k) → Apart f' F2 → SepL A (l.set i x') w' (fun k => f' k ∨ F2 k) := by
  obtain ⟨Fs, hl, ha, hp, e⟩ := h
  have hil := (List.getElem?_eq_some_iff.1 hi).1
  obtain ⟨f, hf⟩ : ∃ f, Fs[i]? = some f := ⟨_, List.getElem?_eq_getElem (by omega)⟩
  refine ⟨f, fun k => ∃ j g, j ≠ i ∧ Fs[j]? = some g ∧ g k, ha i x f hi hf, fun k hk ⟨j, g, hj, hg, hgk⟩ => pw_apart hp hf hg (fun q => hj q.symm) k hk hgk, fun k => ?_, fun w' f' G x' ha' hc hG hap => ?_⟩
  · rw [e]
    constructor
    · rintro ⟨g, hg, hk⟩
      obtain ⟨j, hj⟩ := List.getElem?_of_mem hg
      by_cases q : j = i
      · subst q; rw [hf] at hj; cases hj; exact .inl hk
      · exact .inr ⟨j, g, q, hj, hk⟩
    · rintro (hk | ⟨j, g, _, hg, hk⟩)
      · exact ⟨f, List.mem_of_getElem? hf, hk⟩
      · exact ⟨g, List.mem_of_getElem? hg, hk⟩
  · have hset : ∀ (j : Nat) (g : Nat → Prop), (Fs.set i f')[j]? = some g → (j = i ∧ g = f') ∨ (j ≠ i ∧ Fs[j]? = some g) := by
      intro j g hg
      by_cases q : j = i
      · subst q
        rw [List.getElem?_set_self (by omega)] at hg
        cases hg; exact .inl ⟨rfl, rfl⟩
      · rw [List.getElem?_set_ne (fun r => q r.symm)] at hg
        exact .inr ⟨q, hg⟩
    refine ⟨Fs.set i f', by rw [List.length_set, List.length_set, hl], fun j y g hy hg => ?_, ?_, fun k => ?_⟩
    · rcases hset j g hg with ⟨q, rfl⟩ | ⟨q, hg'⟩
      · subst q
        rw [List.getElem?_set_self hil] at hy
        cases hy; exact ha'
      · rw [List.getElem?_set_ne (fun r => q r.symm)] at hy
        exact (hA y).frame (ha j y g hy hg') hc fun k hk => hG k ⟨j, g, q, hg', hk⟩
    · rw [List.pairwise_iff_getElem]
      intro a b ha1 hb1 hab
      have ga := List.getElem?_eq_getElem ha1
      have gb := List.getElem?_eq_getElem hb1
      rcases hset a _ ga with ⟨qa, ea⟩ | ⟨qa, ga'⟩
      · rcases hset b _ gb with ⟨qb, eb⟩ | ⟨qb, gb'⟩
        · omega
        · rw [ea]; exact fun k hk hb => hap k hk ⟨b, _, qb, gb', hb⟩
      · rcases hset b _ gb with ⟨qb, eb⟩ | ⟨qb, gb'⟩
        · rw [eb]; exact fun k hk hb => hap k hb ⟨a, _, qa, ga', hk⟩
        · exact pw_apart hp ga' gb' (by omega)
    · constructor
      · rintro (hk | ⟨j, g, q, hg, hk⟩)
        · exact ⟨f', List.mem_of_getElem? (List.getElem?_set_self (by omega)), hk⟩
        · exact ⟨g, List.mem_of_getElem? (by rw [List.getElem?_set_ne (fun r => q r.symm)]; exact hg), hk⟩
      · rintro ⟨g, hg, hk⟩
        obtain ⟨j, hj⟩ := List.getElem?_of_mem hg
        rcases hset j g hj with ⟨q, rfl⟩ | ⟨q, hg'⟩
        · exact .inl hk
        · exact .inr ⟨j, g, q, hg', hk⟩
/-- One more. -/
theorem SepL.snoc (h : SepL A l w F) (ha : A x w f) (hap : Apart F f) : SepL A (l ++ [x]) w (fun k => F k ∨ f k) := by
  obtain ⟨Fs, hl, ha0, hp, e⟩ := h
  refine ⟨Fs ++ [f], by simp [hl], fun j y g hy hg => ?_, ?_, fun k => ?_⟩
  · by_cases q : j < l.length
    · rw [List.getElem?_append_left q] at hy
      rw [List.getElem?_append_left (by omega)] at hg
      exact ha0 j y g hy hg
    · rw [List.getElem?_append_right (by omega)] at hy hg
      have hj : j - l.length = 0 := by
        have := (List.getElem?_eq_some_iff.1 hy).1
        simp at this; omega
      rw [hj] at hy
      rw [hl, hj] at hg
      cases hy; cases hg
      exact ha
  · rw [List.pairwise_append]
    refine ⟨hp, by simp, fun a hma b hb => ?_⟩
    rw [List.mem_singleton] at hb
    subst hb
    exact fun k hk => hap k ((e k).2 ⟨a, hma, hk⟩)
  · constructor
    · rintro (hk | hk)
      · obtain ⟨g, hg, hgk⟩ := (e k).1 hk
        exact ⟨g, List.mem_append_left _ hg, hgk⟩
      · exact ⟨f, by simp, hk⟩
    · rintro ⟨g, hg, hgk⟩
      rcases List.mem_append.1 hg with hg | hg
      · exact .inl ((e k).2 ⟨g, hg, hgk⟩)
      · rw [List.mem_singleton] at hg; subst hg; exact .inr hgk
theorem SepL.nil (w : World) : SepL A [] w (fun _ => False) := ⟨[], rfl, fun i x f hx => by simp at hx, List.Pairwise.nil, fun k => by simp⟩
end
end Go

/- The second form's shelf in memory: find, may. -/
namespace Go.Proofs.YtlnffdkaleapbaaGreat
set_option maxRecDepth 100000
set_option linter.unusedVariables false
set_option linter.unusedSimpArgs false
set_option linter.unnecessarySimpa false
open Go.RowKit Go.MapV Go.Maps

/-- An object with where it lies: its block, its row of targets. -/
structure OM where
  o : Ob
  b : Nat
  tv : Value
abbrev objT : TypeId := 82
abbrev rshT : TypeId := 29
def OM.cells (m : OM) : List Value := [.int .i64 m.o.kd, .string m.o.nm, .string m.o.c.nm, .int .i64 m.o.c.im, .int .i64 m.o.c.co, .int .i64 m.o.c.mn, .int .i64 m.o.c.mx, .int .i64 m.o.c.gr, .string m.o.r.nm, .string m.o.r.cf, m.tv, .int .i64 m.o.r.rl, .int .i64 m.o.v, .int .i64 m.o.g, .bool m.o.is]
def ObF (m : OM) : Hp := Sep (BlkF m.b m.cells objT) (RowF 0 84 3 m.tv m.o.r.ts.length (flatT m.o.r.ts))
theorem ObF.foot (m : OM) : Foot (ObF m) := (BlkF.foot _ _ _).sep (RowF.foot _ _ _ _ _ _)
def ptrs (lm : List OM) : List Value := lm.map fun m => pt m.b
def RfS (g : Nat) (n : Nat) (v : Value) (lm : List OM) : Hp := Sep (BlkF g [v, .int .i64 n] rshT) (Sep (RowF 0 78 1 v lm.length (ptrs lm)) (SepL ObF lm))
theorem RfS.foot (g n : Nat) (v : Value) (lm : List OM) : Foot (RfS g n v lm) := (BlkF.foot _ _ _).sep ((RowF.foot _ _ _ _ _ _).sep (SepL.foot ObF.foot lm))
/-- The second form's shelf that says what s is. -/
def RfP (g : Nat) (s : Sh) : Hp := fun w F => ∃ (v : Value) (lm : List OM), OSh (lm.map OM.o) s ∧ lm.length ≤ s.n ∧ s.ok ∧ s.n ≤ 1000000 ∧ RfS g s.n v lm w F
theorem RfP.foot (g : Nat) (s : Sh) : Foot (RfP g s) where
  lt := fun ⟨v, lm, _, _, _, _, h⟩ => (RfS.foot g s.n v lm).lt h
  frame := fun ⟨v, lm, h1, h2, h3, h4, h⟩ c hs => ⟨v, lm, h1, h2, h3, h4, (RfS.foot g s.n v lm).frame h c hs⟩
section
variable {w w' : World} {F : Nat → Prop} {g n : Nat} {v : Value} {lm : List OM}
theorem RfS.hb (h : RfS g n v lm w F) : Blk w g ([v, .int .i64 n] : List Value).toArray rshT := by
  obtain ⟨F1, F2, a, _⟩ := h
  exact a.1
theorem RfS.row (h : RfS g n v lm w F) : w.ownsRow 0 78 1 v lm.length (ptrs lm) := by
  obtain ⟨F1, F2, _, ⟨F3, F4, a, _⟩, _⟩ := h
  exact a.1
theorem RfS.ob (h : RfS g n v lm w F) {i : Nat} {m : OM} (hi : lm[i]? = some m) : Blk w m.b m.cells.toArray objT ∧ w.ownsRow 0 84 3 m.tv m.o.r.ts.length (flatT m.o.r.ts) := by
  obtain ⟨F1, F2, _, ⟨F3, F4, _, ⟨Fs, hl, ha, _⟩, _⟩, _⟩ := h
  have hil := (List.getElem?_eq_some_iff.1 hi).1
  obtain ⟨F5, F6, q1, q2, _⟩ := ha i m (Fs[i]'(by omega)) hi (List.getElem?_eq_getElem _)
  exact ⟨q1.1, q2.1⟩
/-- The k-th object's place in the row. -/
theorem RfS.at (h : RfS g n v lm w F) {i : Nat} {m : OM} (hi : lm[i]? = some m) : ∃ r c, v = .slice (some ⟨r, 0, none⟩) lm.length c ∧ w.cell? ⟨r, i, none⟩ = some (pt m.b) := by
  have ho := h.row
  have hil := (List.getElem?_eq_some_iff.1 hi).1
  rcases ho.2 with ⟨_, h0⟩ | ⟨r, cap, cur, rfl, _⟩
  · omega
  · exact ⟨r, cap, rfl, own_cell ho (by unfold ptrs; rw [List.getElem?_map, hi]; rfl)⟩
theorem RfS.sl (h : RfS g n v lm w F) : ∃ a c, v = .slice a lm.length c := own_shape h.row
end
/-- Where the search ends. -/
def fndV (lm : List OM) (o : Option Nat) : Value := match o with
  | none => .pointer none
  | some i => match lm[i]? with
    | none => .pointer none
    | some m => pt m.b
set_option maxHeartbeats 4000000 in
theorem rfind_any (g n : Nat) (v : Value) (lm : List OM) (kd : Int) (nm : ByteArray) (w : World) (F : Nat → Prop) (h : RfS g n v lm w F) (hl : lm.length ≤ 1000000) :
    Calls Tryz.prog 34 #[pt g, .int .i64 kd, .string nm] w fun e w' => e = .returned (fndV lm (idxO (lm.map OM.o) kd nm)) ∧ w = w' := by
  obtain ⟨a, c, rfl⟩ := h.sl
  have c0 : w.cell? ⟨g, 0, none⟩ = some (.slice a lm.length c) := (h.hb.cell 0).trans rfl
  have hgl := h.hb.lt
  have HS := Lib.hid h
  clear h
  go_enter Tryz.func34, Tryz.ntmps34
  go_wp2_with fail
  go_loopw [7] (fun i wr => ∃ k : Nat, k ≤ lm.length ∧ i = .int .i64 k ∧ wr = w ∧ Hid (∀ p, p ∈ (lm.map OM.o).take k → ¬ (p.kd = kd ∧ p.nm = nm))) (fun i _ => lm.length - (intOf i).toNat)
  case atStart => exact ⟨0, by omega, rfl, rfl, Lib.hid (fun p hp => by simp at hp)⟩
  case round =>
    obtain ⟨k, hk, rfl, rfl, HX⟩ := hrel
    by_cases hlt : k < lm.length
    · obtain ⟨m, hm⟩ : ∃ m, lm[k]? = some m := ⟨_, List.getElem?_eq_getElem hlt⟩
      obtain ⟨r, c', e, cr⟩ := HS.out.at hm
      cases e
      obtain ⟨hB, _⟩ := HS.out.ob hm
      have ck : wr.cell? ⟨m.b, 0, none⟩ = some (.int .i64 m.o.kd) := (hB.cell 0).trans rfl
      have cn : wr.cell? ⟨m.b, 1, none⟩ = some (.string m.o.nm) := (hB.cell 1).trans rfl
      have hmo : (lm.map OM.o)[k]? = some m.o := by rw [List.getElem?_map, hm]; rfl
      have d0 : decide ((k : Int) < (lm.length : Int)) = true := decide_eq_true (by omega)
      have hk1 : IntKind.i64.wrap ((k : Int) + 1) = (k : Int) + 1 := IntWalk.i64_in _ ⟨by omega, by omega⟩
      have k1 : (0 : Int) ≤ (k : Int) := by omega
      have k2 : (k : Int) < (lm.length : Int) := by omega
      by_cases e : m.o.kd = kd ∧ m.o.nm = nm
      · have d1 : (m.o.kd == kd) = true := by simpa using e.1
        have d2 : (m.o.nm.toList == nm.toList) = true := eqS_iff.2 e.2
        have RES : Hid (fndV lm (idxO (lm.map OM.o) kd nm) = pt m.b) := Lib.hid (by
          rw [idxO_at hmo HX.out e]
          unfold fndV
          dsimp only
          rw [hm])
        clear hm hmo e hB HX
        go_wp2_with fail
        go_ret
        rw [RES.out]
        exact ⟨rfl, rfl⟩
      · have HX2 : Hid (∀ p, p ∈ (lm.map OM.o).take (k + 1) → ¬ (p.kd = kd ∧ p.nm = nm)) := Lib.hid (by
          rw [List.take_add_one, hmo]
          intro p q
          rcases List.mem_append.1 q with q | q
          · exact HX.out p q
          · have q : p = m.o := by simpa using q
            rw [q]; exact e)
        by_cases e1 : m.o.kd = kd
        · have d1 : (m.o.kd == kd) = true := by simpa using e1
          have d2 : (m.o.nm.toList == nm.toList) = false := neS_iff.2 fun q => e ⟨e1, q⟩
          clear hm hmo e e1 hB HX
          go_wp2_with fail
          go_roundw
          case rel => exact ⟨k + 1, by omega, by go_num, trivial, HX2⟩
          case measure => simp [intOf]; omega
        · have d1 : (m.o.kd == kd) = false := by simpa using e1
          clear hm hmo e e1 hB HX
          go_wp2_with fail
          go_roundw
          case rel => exact ⟨k + 1, by omega, by go_num, trivial, HX2⟩
          case measure => simp [intOf]; omega
    · obtain rfl : k = lm.length := by omega
      have d0 : decide ((lm.length : Int) < (lm.length : Int)) = false := decide_eq_false (by omega)
      have RES : Hid (fndV lm (idxO (lm.map OM.o) kd nm) = .pointer none) := Lib.hid (by
        rw [idxO_no (fun p hp => HX.out p (by rw [List.take_of_length_le (by simp)]; exact hp))]; rfl)
      clear HX
      go_wp2_with fail
      go_ret
      rw [RES.out]
      exact ⟨rfl, rfl⟩
set_option maxHeartbeats 4000000 in
theorem rmay_any (g n : Nat) (vv : Value) (lm : List OM) (o : Option Nat) (v : Int) (w : World) (F : Nat → Prop) (h : RfS g n vv lm w F) (ho : ∀ i, o = some i → i < lm.length) :
    Calls Tryz.prog 46 #[fndV lm o, .int .i64 v] w fun e w' => e = .returned (.int .i64 (mayP (verI (lm.map OM.o) o) v)) ∧ w = w' := by
  cases o with
  | none =>
    have e1 : fndV lm none = .pointer none := rfl
    have e2 : verI (lm.map OM.o) none = none := rfl
    rw [e1, e2]
    by_cases e : v = 0
    · subst e
      rw [show mayP none 0 = 0 from rfl]
      go_enter Tryz.func46, Tryz.ntmps46
      go_wp2_with fail
      go_ret
      exact ⟨rfl, rfl⟩
    · have he : mayP none v = 6 := by unfold mayP; rw [if_neg e]; rfl
      rw [he]
      have d0 : (v == 0) = false := by simpa using e
      clear he e1 e2
      go_enter Tryz.func46, Tryz.ntmps46
      go_wp2_with fail
      go_ret
      exact ⟨rfl, rfl⟩
  | some i =>
    have hi := ho i rfl
    obtain ⟨m, hm⟩ : ∃ m, lm[i]? = some m := ⟨_, List.getElem?_eq_getElem hi⟩
    obtain ⟨hB, _⟩ := h.ob hm
    have cv : w.cell? ⟨m.b, 12, none⟩ = some (.int .i64 m.o.v) := (hB.cell 12).trans rfl
    have ci : w.cell? ⟨m.b, 14, none⟩ = some (.bool m.o.is) := (hB.cell 14).trans rfl
    have hbl := hB.lt
    have e1 : fndV lm (some i) = pt m.b := by unfold fndV; dsimp only; rw [hm]
    have e2 : verI (lm.map OM.o) (some i) = if m.o.is then some m.o.v else none := by unfold verI; dsimp only; rw [List.getElem?_map, hm]; rfl
    rw [e1, e2]
    clear e1 e2 hB hm ho h hi
    obtain ⟨b, hb⟩ : ∃ b, m.b = b := ⟨_, rfl⟩
    obtain ⟨ov, hov⟩ : ∃ ov, m.o.v = ov := ⟨_, rfl⟩
    obtain ⟨is, his⟩ : ∃ is, m.o.is = is := ⟨_, rfl⟩
    rw [hb, hov] at cv
    rw [hb, his] at ci
    rw [hb] at hbl
    rw [hb, hov, his]
    clear hb hov his
    cases is with
    | false =>
      rw [if_neg Bool.false_ne_true]
      by_cases e : v = 0
      · subst e
        rw [show mayP none 0 = 0 from rfl]
        go_enter Tryz.func46, Tryz.ntmps46
        go_wp2_with fail
        go_ret
        exact ⟨rfl, rfl⟩
      · have he : mayP none v = 6 := by unfold mayP; rw [if_neg e]; rfl
        rw [he]
        have d0 : (v == 0) = false := by simpa using e
        clear he
        go_enter Tryz.func46, Tryz.ntmps46
        go_wp2_with fail
        go_ret
        exact ⟨rfl, rfl⟩
    | true =>
      rw [if_pos rfl]
      by_cases e : v = 0
      · subst e
        rw [show mayP (some ov) 0 = 5 from rfl]
        go_enter Tryz.func46, Tryz.ntmps46
        go_wp2_with fail
        go_ret
        exact ⟨rfl, rfl⟩
      · by_cases e2 : (ov : Int) = v
        · have he : mayP (some ov) v = 0 := by unfold mayP heldP; rw [if_neg e]; dsimp only; rw [if_pos e2]
          rw [he]
          subst e2
          have d0 : ((ov : Int) == 0) = false := by simpa using e
          clear he
          go_enter Tryz.func46, Tryz.ntmps46
          go_wp2_with fail
          go_ret
          exact ⟨rfl, rfl⟩
        · have he : mayP (some ov) v = 7 := by unfold mayP heldP; rw [if_neg e]; dsimp only; rw [if_neg e2]
          rw [he]
          have d0 : (v == 0) = false := by simpa using e
          have d1 : (v != 0 && (ov : Int) != v) = true := by simp [e, e2]
          have d2 : (v != 0) = true := by simpa using e
          have d3 : ((ov : Int) != v) = true := by simpa using e2
          clear he
          go_enter Tryz.func46, Tryz.ntmps46
          go_wp2_with fail
          go_ret
          exact ⟨rfl, rfl⟩
end Go.Proofs.YtlnffdkaleapbaaGreat

/- The second form's shelf in memory: an object turned, one more. -/
namespace Go
open Go.RowKit
theorem EndS.trans {w w1 w2 : World} {F : Nat → Prop} {A B : Hp} (h : EndS w w1 F A) (k : ∀ F1, A w1 F1 → EndS w1 w2 F1 B) : EndS w w2 F B := by
  obtain ⟨F1, a, c1, f1⟩ := h
  obtain ⟨F2, b, c2, f2⟩ := k F1 a
  exact ⟨F2, b, c1.more f1 c2, f1.trans f2 c1.size⟩
theorem EndS.mono {w w' : World} {F : Nat → Prop} {A B : Hp} (h : EndS w w' F A) (k : ∀ F, A w' F → B w' F) : EndS w w' F B := by
  obtain ⟨F', a, c, f⟩ := h
  exact ⟨F', k F' a, c, f⟩
end Go
namespace Go.Proofs.YtlnffdkaleapbaaGreat
set_option maxRecDepth 100000
set_option linter.unusedVariables false
set_option linter.unusedSimpArgs false
set_option linter.unnecessarySimpa false
open Go.RowKit Go.MapV Go.Maps

section
variable {w w' : World} {F : Nat → Prop} {g n n' : Nat} {v v' : Value} {lm : List OM}
/-- An object turned: its block (and the shelf's) written, its targets as they were, or a new row. -/
theorem RfS.turned (h : RfS g n v lm w F) {i : Nat} {m m' : OM} (hi : lm[i]? = some m) (hb : m'.b = m.b) (hg : Blk w' g ([v, .int .i64 n'] : List Value).toArray rshT) (hm : Blk w' m.b m'.cells.toArray objT)
    (ht : w'.ownsRow 0 84 3 m'.tv m'.o.r.ts.length (flatT m'.o.r.ts)) (hn : ∀ k, m'.tv.ownBlock = some k → m.tv.ownBlock = some k ∨ w.heap.size ≤ k) (c : Chg (fun k => k = g ∨ k = m.b) w w') :
    EndS w w' F (RfS g n' v (lm.set i m')) := by
  obtain ⟨F1, F2, ⟨a1, a2⟩, ⟨F3, F4, ⟨b1, b2⟩, so, ap2, e2⟩, ap, e⟩ := h
  obtain ⟨f, R, ⟨f1, f2, ⟨o1, o2⟩, ⟨t1, t2⟩, apo, eo⟩, apR, eR, put⟩ := SepL.open ObF.foot so hi
  have g1 : F1 g := (a2 g).2 rfl
  have mb : f m.b := (eo m.b).2 (.inl ((o2 m.b).2 rfl))
  have Rlt : ∀ k, R k → k < w.heap.size := fun k hk => (SepL.foot ObF.foot lm).lt so k ((eR k).2 (.inr hk))
  have flt : ∀ k, f k → k < w.heap.size := fun k hk => (SepL.foot ObF.foot lm).lt so k ((eR k).2 (.inl hk))
  have gR : ∀ k, R k → k ≠ g := fun k hk q => ap g g1 ((e2 g).2 (.inr ((eR g).2 (.inr (q ▸ hk)))))
  have mR : ∀ k, R k → k ≠ m.b := fun k hk q => apR m.b mb (q ▸ hk)
  -- the object's new footprint
  have OB : ObF m' w' (fun k => k = m.b ∨ m'.tv.ownBlock = some k) := by
    refine ⟨fun k => k = m.b, fun k => m'.tv.ownBlock = some k, ⟨by rw [hb]; exact hm, fun k => by rw [hb]⟩, ⟨ht, fun k => Iff.rfl⟩, fun k hk q => ?_, fun k => Iff.rfl⟩
    have hk : k = m.b := hk
    subst hk
    exact own_blk_types ht hm (by decide) q
  have hf' : ∀ k, (k = m.b ∨ m'.tv.ownBlock = some k) → f k ∨ w.heap.size ≤ k := by
    rintro k (rfl | hk)
    · exact .inl mb
    · rcases hn k hk with q | q
      · exact .inl ((eo k).2 (.inr ((t2 k).2 q)))
      · exact .inr q
  have apN : Apart (fun k => k = m.b ∨ m'.tv.ownBlock = some k) R := fun k hk q => by
    rcases hf' k hk with r | r
    · exact apR k r q
    · have := Rlt k q; omega
  have SL := put w' _ _ m' OB c (fun k hk q => q.elim (gR k hk) (mR k hk)) apN
  have c3 : ∀ k, F3 k → ¬ (k = g ∨ k = m.b) := fun k hk q => by
    rcases q with rfl | rfl
    · exact ap _ g1 ((e2 _).2 (.inl hk))
    · exact ap2 _ hk ((eR _).2 (.inl mb))
  have ROW : RowF 0 78 1 v (lm.set i m').length (ptrs (lm.set i m')) w' F3 := by
    have e1 : ptrs (lm.set i m') = ptrs lm := by
      unfold ptrs
      rw [List.map_set, hb]
      have hp : (lm.map fun m => pt m.b)[i]? = some (pt m.b) := by rw [List.getElem?_map, hi]; rfl
      obtain ⟨hil, hie⟩ := List.getElem?_eq_some_iff.1 hp
      rw [← hie, List.set_getElem_self]
    rw [e1, List.length_set]
    exact ⟨c.own b1 fun k hk => c3 k ((b2 k).2 hk), b2⟩
  have lt3 : ∀ k, F3 k → k < w.heap.size := fun k hk => (b1.lt k ((b2 k).1 hk)).2
  refine ⟨fun k => F1 k ∨ (F3 k ∨ ((k = m.b ∨ m'.tv.ownBlock = some k) ∨ R k)), ⟨F1, fun k => F3 k ∨ ((k = m.b ∨ m'.tv.ownBlock = some k) ∨ R k), ⟨hg, a2⟩, ⟨F3, fun k => (k = m.b ∨ m'.tv.ownBlock = some k) ∨ R k, ROW, SL, fun k h1 h2 => ?_, fun k => Iff.rfl⟩, fun k h1 h2 => ?_, fun k => Iff.rfl⟩, c.sub fun k hk => ?_, fun k hk => ?_⟩
  · rcases h2 with h2 | h2
    · rcases hf' k h2 with q | q
      · exact ap2 k h1 ((eR k).2 (.inl q))
      · have := lt3 k h1; omega
    · exact ap2 k h1 ((eR k).2 (.inr h2))
  · have hk := (a2 k).1 h1
    subst hk
    rcases h2 with h2 | h2 | h2
    · exact ap _ h1 ((e2 _).2 (.inl h2))
    · rcases hf' _ h2 with q | q
      · exact ap _ h1 ((e2 _).2 (.inr ((eR _).2 (.inl q))))
      · have := a1.lt; omega
    · exact ap _ h1 ((e2 _).2 (.inr ((eR _).2 (.inr h2))))
  · rcases hk with rfl | rfl
    · exact (e _).2 (.inl g1)
    · exact (e _).2 (.inr ((e2 _).2 (.inr ((eR _).2 (.inl mb)))))
  · rcases hk with hk | hk | hk | hk
    · exact .inl ((e k).2 (.inl hk))
    · exact .inl ((e k).2 (.inr ((e2 k).2 (.inl hk))))
    · rcases hf' k hk with q | q
      · exact .inl ((e k).2 (.inr ((e2 k).2 (.inr ((eR k).2 (.inl q))))))
      · exact .inr q
    · exact .inl ((e k).2 (.inr ((e2 k).2 (.inr ((eR k).2 (.inr hk))))))
/-- One object more. -/
theorem RfS.grown (h : RfS g n v lm w F) {m' : OM} (hg : Blk w' g ([v', .int .i64 n'] : List Value).toArray rshT) (hm : Blk w' m'.b m'.cells.toArray objT) (hb : w.heap.size ≤ m'.b)
    (ht : m'.tv = .slice none 0 0 ∧ m'.o.r.ts = []) (hr : w'.ownsRow 0 78 1 v' (lm.length + 1) (ptrs lm ++ [pt m'.b])) (hv : ∀ k, v'.ownBlock = some k → v.ownBlock = some k ∨ w.heap.size ≤ k)
    (c : Chg (fun k => k = g ∨ v.ownBlock = some k) w w') : EndS w w' F (RfS g n' v' (lm ++ [m'])) := by
  obtain ⟨F1, F2, ⟨a1, a2⟩, ⟨F3, F4, ⟨b1, b2⟩, so, ap2, e2⟩, ap, e⟩ := h
  have g1 : F1 g := (a2 g).2 rfl
  have Slt : ∀ k, F4 k → k < w.heap.size := fun k hk => (SepL.foot ObF.foot lm).lt so k hk
  have so' : SepL ObF lm w' F4 := (SepL.foot ObF.foot lm).frame so c fun k hk q => by
    rcases q with rfl | q
    · exact ap _ g1 ((e2 _).2 (.inr hk))
    · exact ap2 k ((b2 k).2 q) hk
  have OB : ObF m' w' (fun k => k = m'.b) := by
    refine ⟨fun k => k = m'.b, fun _ => False, ⟨hm, fun k => Iff.rfl⟩, ?_, fun k _ q => q, fun k => by simp⟩
    obtain ⟨t1, t2⟩ := ht
    rw [t1, t2]
    exact ⟨⟨rfl, .inl ⟨rfl, rfl⟩⟩, fun k => ⟨False.elim, fun q => by cases q⟩⟩
  have SL := SepL.snoc so' OB (fun k hk q => by have q : k = m'.b := q; have := Slt k hk; omega)
  have hvb : ∀ k, v'.ownBlock = some k → k ≠ m'.b := fun k hk q => by subst q; exact own_blk_types hr hm (by decide) hk
  have hvg : ∀ k, v'.ownBlock = some k → k ≠ g := fun k hk q => by subst q; exact own_blk_types hr hg (by decide) hk
  have ROW : RowF 0 78 1 v' (lm ++ [m']).length (ptrs (lm ++ [m'])) w' (fun k => v'.ownBlock = some k) := by
    have e1 : ptrs (lm ++ [m']) = ptrs lm ++ [pt m'.b] := by unfold ptrs; rw [List.map_append]; rfl
    rw [e1, List.length_append, List.length_singleton]
    exact ⟨hr, fun k => Iff.rfl⟩
  refine ⟨fun k => F1 k ∨ (v'.ownBlock = some k ∨ (F4 k ∨ k = m'.b)), ⟨F1, fun k => v'.ownBlock = some k ∨ (F4 k ∨ k = m'.b), ⟨hg, a2⟩, ⟨fun k => v'.ownBlock = some k, fun k => F4 k ∨ k = m'.b, ROW, SL, fun k h1 h2 => ?_, fun k => Iff.rfl⟩, fun k h1 h2 => ?_, fun k => Iff.rfl⟩, c.sub fun k hk => ?_, fun k hk => ?_⟩
  · rcases h2 with h2 | h2
    · rcases hv k h1 with q | q
      · exact ap2 k ((b2 k).2 q) h2
      · have := Slt k h2; omega
    · exact hvb k h1 h2
  · have hk := (a2 k).1 h1
    subst hk
    rcases h2 with h2 | h2 | h2
    · exact hvg _ h2 rfl
    · exact ap _ h1 ((e2 _).2 (.inr h2))
    · have := a1.lt; omega
  · rcases hk with rfl | hk
    · exact (e _).2 (.inl g1)
    · exact (e k).2 (.inr ((e2 k).2 (.inl ((b2 k).2 hk))))
  · rcases hk with hk | hk | hk | hk
    · exact .inl ((e k).2 (.inl hk))
    · rcases hv k hk with q | q
      · exact .inl ((e k).2 (.inr ((e2 k).2 (.inl ((b2 k).2 q)))))
      · exact .inr q
    · exact .inl ((e k).2 (.inr ((e2 k).2 (.inr hk))))
    · exact .inr (by omega)
end
end Go.Proofs.YtlnffdkaleapbaaGreat

/- The second form's put. -/
namespace Go.Proofs.YtlnffdkaleapbaaGreat
set_option maxRecDepth 100000
set_option linter.unusedVariables false
set_option linter.unusedSimpArgs false
set_option linter.unnecessarySimpa false
open Go.RowKit Go.MapV Go.Maps

theorem idxO_lt {l : List Ob} {kd : Int} {nm : ByteArray} : ∀ i, idxO l kd nm = some i → i < l.length := fun i h => by
  obtain ⟨o, ho, _⟩ := idxO_some h
  exact (List.getElem?_eq_some_iff.1 ho).1
theorem infoPtr : (Tryz.prog.info? 78).map (fun i => (i.zero, i.size, i.bytes)) = some (some (.pointer none), 1, 8) := by kernel_rfl
/-- The objects with one of a kind and name among them. -/
def withO (l : List Ob) (kd : Int) (nm : ByteArray) : List Ob := match idxO l kd nm with
  | some _ => l
  | none => l ++ [freshO kd nm]
/-- What put leaves, where it may be. -/
def Placed (w w' : World) (F : Nat → Prop) (g n : Nat) (lm : List OM) (kd : Int) (nm : ByteArray) (e : Ending) : Prop :=
  ∃ (v' : Value) (lm' : List OM) (i : Nat) (m' : OM) (o : Ob), e = .returned (.tuple #[pt m'.b, .int .i64 0]) ∧ lm'[i]? = some m' ∧ (withO (lm.map OM.o) kd nm)[i]? = some o ∧ o.kd = kd ∧ o.nm = nm ∧ m'.o = { o with v := n + 1 } ∧
    lm'.map OM.o = (withO (lm.map OM.o) kd nm).set i { o with v := n + 1 } ∧ lm'.length ≤ lm.length + 1 ∧ EndS w w' F (RfS g (n + 1) v' lm')
set_option maxHeartbeats 4000000 in
theorem rput4_no (g n : Nat) (v : Value) (lm : List OM) (kd : Int) (nm : ByteArray) (vr : Int) (w : World) (F : Nat → Prop) (h : RfS g n v lm w F) (hl : lm.length ≤ 1000000) (er : Int) (he : mayP (verI (lm.map OM.o) (idxO (lm.map OM.o) kd nm)) vr = er) (h0 : er ≠ 0) :
    Calls Tryz.prog 28 #[pt g, .int .i64 kd, .string nm, .int .i64 vr] w fun e w' => e = .returned (.tuple #[.pointer none, .int .i64 er]) ∧ w = w' := by
  have FD := Lib.hid (rfind_any g n v lm kd nm w F h hl)
  have MY := Lib.hid (rmay_any g n v lm (idxO (lm.map OM.o) kd nm) vr w F h (fun i hi => by have := idxO_lt i hi; simpa using this))
  rw [he] at MY
  have d0 : (er != 0) = true := by simpa using h0
  generalize fndV lm (idxO (lm.map OM.o) kd nm) = pv at *
  clear h he
  go_enter Tryz.func28, Tryz.ntmps28
  go_wp2_with fail
  refine FD.out.mono ?_
  rintro e w1 ⟨rfl, rfl⟩
  go_wp2_with fail
  refine MY.out.mono ?_
  rintro e w1 ⟨rfl, rfl⟩
  go_wp2_with fail
  go_returns
  exact ⟨rfl, rfl⟩
set_option maxHeartbeats 4000000 in
theorem rput4_old (g n : Nat) (v : Value) (lm : List OM) (kd : Int) (nm : ByteArray) (vr : Int) (w : World) (F : Nat → Prop) (h : RfS g n v lm w F) (hl : lm.length ≤ 1000000) (hn : n ≤ 1000000) (i : Nat) (hi : idxO (lm.map OM.o) kd nm = some i) (he : mayP (verI (lm.map OM.o) (some i)) vr = 0) :
    Calls Tryz.prog 28 #[pt g, .int .i64 kd, .string nm, .int .i64 vr] w fun e w' => Placed w w' F g n lm kd nm e := by
  have hil := idxO_lt i hi
  rw [List.length_map] at hil
  have FD := Lib.hid (rfind_any g n v lm kd nm w F h hl)
  have MY := Lib.hid (rmay_any g n v lm (some i) vr w F h (fun j hj => by cases hj; exact hil))
  rw [he] at MY
  rw [hi] at FD
  obtain ⟨m, hm⟩ : ∃ m, lm[i]? = some m := ⟨_, List.getElem?_eq_getElem hil⟩
  have e1 : fndV lm (some i) = pt m.b := by unfold fndV; dsimp only; rw [hm]
  rw [e1] at MY FD
  obtain ⟨o', ho', hk, hnm⟩ := idxO_some hi
  have emo : o' = m.o := by rw [List.getElem?_map, hm] at ho'; cases ho'; rfl
  subst emo
  have hB := h.hb
  have hO := (h.ob hm).1
  have hT := (h.ob hm).2
  have c0 : w.cell? ⟨g, 1, none⟩ = some (.int .i64 (n : Int)) := (hB.cell 1).trans rfl
  have f0 := hB.free 1
  have hgl := hB.lt
  have fo := hO.free 12
  have co : w.cell? ⟨m.b, 12, none⟩ = some (.int .i64 (m.o.v : Int)) := (hO.cell 12).trans rfl
  have hol := hO.lt
  have hne : g ≠ m.b := fun e => by
    rw [← e] at hO
    have h1 : (some (Obj.cells ([v, .int .i64 n] : List Value).toArray rshT (0, 0))) = some (Obj.cells m.cells.toArray objT (0, 0)) := hB.symm.trans hO
    injection h1 with h1
    injection h1 with _ h2 _
    exact absurd h2 (by decide)
  have hne' : m.b ≠ g := fun e => hne e.symm
  have hwr : IntKind.i64.wrap ((n : Int) + 1) = (n : Int) + 1 := IntWalk.i64_in _ ⟨by omega, by omega⟩
  have PL : Hid (∀ w', Blk w' g ([v, .int .i64 ((n + 1 : Nat) : Int)] : List Value).toArray rshT → Blk w' m.b ({ m with o := { m.o with v := n + 1 } } : OM).cells.toArray objT → Chg (fun k => k = g ∨ k = m.b) w w' → Placed w w' F g n lm kd nm (.returned (.tuple #[pt m.b, .int .i64 0]))) := Lib.hid (fun w' q1 q2 q3 => by
    have hap : ∀ k, m.tv.ownBlock = some k → ¬ (k = g ∨ k = m.b) := fun k hk q => by
      rcases q with rfl | rfl
      · exact own_blk_types hT hB (by decide) hk
      · exact own_blk_types hT hO (by decide) hk
    refine ⟨v, lm.set i { m with o := { m.o with v := n + 1 } }, i, { m with o := { m.o with v := n + 1 } }, m.o, rfl, List.getElem?_set_self hil, ?_, hk, hnm, rfl, ?_, by rw [List.length_set]; omega, ?_⟩
    · unfold withO; rw [hi]; exact ho'
    · unfold withO; rw [hi, List.map_set]
    · exact h.turned hm rfl q1 q2 (q3.own hT hap) (fun k hk => .inl hk) q3)
  have GB := Lib.hid hB
  have OB := Lib.hid hO
  clear h he hi hm e1 ho' hk hnm hB hO hT
  go_enter Tryz.func28, Tryz.ntmps28
  go_wp2_with fail
  refine FD.out.mono ?_
  rintro e w1 ⟨rfl, rfl⟩
  go_wp2_with fail
  refine MY.out.mono ?_
  rintro e w1 ⟨rfl, rfl⟩
  go_wp2_with fail
  go_returns
  refine PL.out _ ?_ ?_ ?_
  · exact (GB.out.set 1 _).other hne _ _
  · exact (OB.out.other hne' _ _).set 12 _
  · exact Chg.setCell (Chg.setCell (Chg.refl _ _) (fun _ => .inl rfl) _ _) (fun _ => .inr rfl) _ _
set_option maxHeartbeats 4000000 in
theorem rput4_new (g n : Nat) (v : Value) (lm : List OM) (kd : Int) (nm : ByteArray) (vr : Int) (w : World) (F : Nat → Prop) (h : RfS g n v lm w F) (hl : lm.length ≤ 1000000) (hn : n ≤ 1000000) (hi : idxO (lm.map OM.o) kd nm = none) (he : mayP (verI (lm.map OM.o) none) vr = 0) :
    Calls Tryz.prog 28 #[pt g, .int .i64 kd, .string nm, .int .i64 vr] w fun e w' => Placed w w' F g n lm kd nm e := by
  have FD := Lib.hid (rfind_any g n v lm kd nm w F h hl)
  have MY := Lib.hid (rmay_any g n v lm none vr w F h (fun j hj => by cases hj))
  rw [he] at MY
  rw [hi] at FD
  have e1 : fndV lm none = .pointer none := rfl
  rw [e1] at MY FD
  obtain ⟨a, c, rfl⟩ := h.sl
  have hB := h.hb
  have hR := h.row
  have c0 : w.cell? ⟨g, 0, none⟩ = some (.slice a lm.length c) := (hB.cell 0).trans rfl
  have hgl := hB.lt
  have hvg : ∀ k, (Value.slice a lm.length c).ownBlock = some k → k ≠ g := fun k hk q => by subst q; exact own_blk_types hR hB (by decide) hk
  have hwr : IntKind.i64.wrap ((n : Int) + 1) = (n : Int) + 1 := IntWalk.i64_in _ ⟨by omega, by omega⟩
  have PL : Hid (∀ (w' : World) (v' : Value), Blk w' g ([v', .int .i64 ((n + 1 : Nat) : Int)] : List Value).toArray rshT → Blk w' w.heap.size ((⟨{ freshO kd nm with v := n + 1 }, w.heap.size, .slice none 0 0⟩ : OM)).cells.toArray objT → w'.ownsRow 0 78 1 v' (lm.length + 1) (ptrs lm ++ [pt w.heap.size]) → (∀ k, v'.ownBlock = some k → (Value.slice a lm.length c).ownBlock = some k ∨ w.heap.size ≤ k) → Chg (fun k => k = g ∨ (Value.slice a lm.length c).ownBlock = some k) w w' → Placed w w' F g n lm kd nm (.returned (.tuple #[pt w.heap.size, .int .i64 0]))) := Lib.hid (fun w' v' q1 q2 q3 q4 q5 => by
    refine ⟨v', lm ++ [⟨{ freshO kd nm with v := n + 1 }, w.heap.size, .slice none 0 0⟩], lm.length, ⟨{ freshO kd nm with v := n + 1 }, w.heap.size, .slice none 0 0⟩, freshO kd nm, rfl, by simp, ?_, rfl, rfl, rfl, ?_, by simp, ?_⟩
    · unfold withO; rw [hi]; simp
    · unfold withO; rw [hi, List.map_append]
      simp
    · exact h.grown q1 q2 (Nat.le_refl _) ⟨rfl, rfl⟩ q3 q4 q5)
  have GB := Lib.hid hB
  have RB := Lib.hid hR
  have HVG := Lib.hid hvg
  obtain ⟨i0, hi0, ha0, ha1, ha2⟩ := info_parts infoPtr
  have HII := Lib.hid (And.intro hi0 (And.intro ha0 (And.intro ha1 ha2)))
  clear h he hi e1 hB hR hvg hi0 ha0 ha1 ha2
  go_enter Tryz.func28, Tryz.ntmps28
  go_wp2_with fail
  refine FD.out.mono ?_
  rintro e w1 ⟨rfl, rfl⟩
  go_wp2_with fail
  refine MY.out.mono ?_
  rintro e w1 ⟨rfl, rfl⟩
  have ZB : Hid (Blk (w.alloc (.cells #[.int .i64 kd, .string nm, .string ⟨#[]⟩, .int .i64 0, .int .i64 0, .int .i64 0, .int .i64 0, .int .i64 0, .string ⟨#[]⟩, .string ⟨#[]⟩, .slice none 0 0, .int .i64 0, .int .i64 0, .int .i64 0, .bool false] objT)) w.heap.size #[.int .i64 kd, .string nm, .string ⟨#[]⟩, .int .i64 0, .int .i64 0, .int .i64 0, .int .i64 0, .int .i64 0, .string ⟨#[]⟩, .string ⟨#[]⟩, .slice none 0 0, .int .i64 0, .int .i64 0, .int .i64 0, .bool false] objT) := Lib.hid (Blk.new w _ _)
  go_wp2_with (at_builtin; refine Fr.wpList_append_fr _ rfl _ _ 27 rfl 0 78 i0 (.pointer none) 1 8 Tryz.underlying27 HII.out.1 HII.out.2.1 HII.out.2.2.1 HII.out.2.2.2 rfl (by decide) _ _ _ rfl (own_later RB.out (Grow.G.alloc (Grow.G.alloc (Grow.G.refl _) _) _)) ⟨w.heap.size + 1, 0, none⟩ 1 1 [pt w.heap.size] rfl rfl (news_new _ _ _ _ (by simp)) (one1 rfl) (by unfold maxLen; omega) (by omega) (by simp) ?_; intro v' w2 hown hfr; obtain ⟨sa, ca, hsa⟩ := own_shape hown; subst hsa; have OW := Lib.hid hown; have FR := Lib.hid hfr; have G2 := Lib.hid (GB.out.chg ((Chg.grow (G := fun k => (Value.slice a lm.length c).ownBlock = some k) (Grow.G.alloc (Grow.G.alloc (Grow.G.refl _) _) _)).trans (Chg.ofFr hfr)) (fun q => HVG.out _ q rfl)); have cg1 : w2.cell? ⟨g, 1, none⟩ = some (.int .i64 (n : Int)) := (G2.out.cell 1).trans rfl; have cg0 : w2.cell? ⟨g, 0, none⟩ = some (.slice a lm.length c) := (G2.out.cell 0).trans rfl; have fg0 := G2.out.free 0; have ON := Lib.hid ((ZB.out.grow (Grow.G.alloc (Grow.G.refl _) _)).chg (Chg.ofFr hfr) (fun q => by have := (RB.out.lt _ q).2; omega)); have co : w2.cell? ⟨w.heap.size, 12, none⟩ = some (.int .i64 0) := (ON.out.cell 12).trans rfl; have fo := ON.out.free 12; have lo := ON.out.lt; have fg1 := G2.out.free 1; have lg := G2.out.lt; clear hown hfr)
  go_returns
  have hne : g ≠ w.heap.size := by omega
  have hne' : w.heap.size ≠ g := by omega
  have A1 : Chg (fun k => (Value.slice a lm.length c).ownBlock = some k) w w2 := (Chg.grow (Grow.G.alloc (Grow.G.alloc (Grow.G.refl _) _) _)).trans (Chg.ofFr FR.out)
  have hW2 : w.heap.size + 1 + 1 ≤ w2.heap.size := by
    have := FR.out.g.size
    simpa using this
  refine PL.out _ (.slice sa (lm.length + 1) ca) ?_ ?_ ?_ ?_ ?_
  · exact ((G2.out.set 0 _).set 1 _).other hne _ _
  · exact ((ON.out.other hne' _ _).other hne' _ _).set 12 _
  · have C0 : Chg (fun k => k = g ∨ k = w.heap.size) w2 (((w2.setCell ⟨g, 0, none⟩ (.slice sa (lm.length + 1) ca)).setCell ⟨g, 1, none⟩ (.int .i64 ((n : Int) + 1))).setCell ⟨w.heap.size, 12, none⟩ (.int .i64 ((n : Int) + 1))) :=
      Chg.setCell (Chg.setCell (Chg.setCell (Chg.refl _ _) (fun _ => .inl rfl) _ _) (fun _ => .inl rfl) _ _) (fun _ => .inr rfl) _ _
    refine C0.own OW.out fun k hk q => ?_
    rcases q with rfl | rfl
    · exact own_blk_types OW.out G2.out (by decide) hk
    · exact own_blk_types OW.out ON.out (by decide) hk
  · intro k hk
    rcases FR.out.o with e | ⟨q, e, hq⟩
    · exact .inl (e ▸ hk)
    · have e2 : k = q := Option.some.inj (hk.symm.trans e)
      refine .inr ?_
      simp at hq
      omega
  · exact Chg.setCell (Chg.setCell (Chg.setCell (A1.mono (fun k _ h => .inr h)) (fun _ => .inl rfl) _ _) (fun _ => .inl rfl) _ _) (fun q => absurd q (by omega)) _ _

theorem blk_ne {w : World} {a b : Nat} {cs ds : Array Value} {T U : TypeId} (h : Blk w a cs T) (k : Blk w b ds U) (hT : T ≠ U) : a ≠ b := fun e => by
  subst e
  have h1 : (some (Obj.cells cs T (0, 0))) = some (Obj.cells ds U (0, 0)) := h.symm.trans k
  injection h1 with h1
  injection h1 with _ h2 _
  exact hT h2
theorem RfP.same {g : Nat} {s : Sh} {w w' : World} {F : Nat → Prop} (h : RfP g s w F) (c : Grow.G w w') : EndS w w' F (RfP g s) :=
  ⟨F, (RfP.foot g s).grow h c, Chg.grow c, Fresh.refl _ _⟩
theorem OSh.verK {l : List Ob} {s : Sh} (h : OSh l s) {k : Int} (hk : k = 1 ∨ k = 2) (nm : ByteArray) : verI l (idxO l k nm) = s.verK k nm := by
  unfold Sh.verK
  rcases hk with rfl | rfl
  · rw [if_pos rfl]; exact h.verC nm
  · rw [if_neg (by decide)]; exact h.verR nm
set_option maxHeartbeats 4000000 in
theorem rdrop_any (g : Nat) (s : Sh) (k : Int) (nm : ByteArray) (v : Int) (w : World) (F : Nat → Prop) (h : RfP g s w F) (hn : s.n < 1000000) :
    Calls Tryz.prog 15 #[pt g, .int .i64 k, .string nm, .int .i64 v] w fun e w' => e = .returned (.int .i64 (s.drop k nm v)) ∧ EndS w w' F (RfP g (s.aftD k nm v)) := by
  have HP := Lib.hid h
  obtain ⟨vv, lm, hO, hle, hok, hn2, hS⟩ := h
  by_cases hk : k = 1 ∨ k = 2
  rotate_left
  · have e1 : s.drop k nm v = 12 := by unfold Sh.drop; rw [if_neg hk]
    have e2 : s.aftD k nm v = s := by unfold Sh.aftD; rw [e1]; rfl
    rw [e1, e2]
    have d1 : (k != 1 && k != 2) = true := by simp; omega
    have d2 : (k != 1) = true := by simp; omega
    have d3 : (k != 2) = true := by simp; omega
    clear hO hle hok hn2 hS e1 e2
    go_enter Tryz.func15, Tryz.ntmps15
    go_wp2_with fail
    go_returns
    exact ⟨rfl, RfP.same HP.out (Grow.G.refl _)⟩
  have d1 : (k != 1 && k != 2) = false := by rcases hk with rfl | rfl <;> rfl
  have FD := Lib.hid (rfind_any g s.n vv lm k nm w F hS (by omega))
  have hdr : s.drop k nm v = heldP (verI (lm.map OM.o) (idxO (lm.map OM.o) k nm)) v := by
    unfold Sh.drop; rw [if_pos hk, hO.verK hk]
  have none_case : ∀ (er : Int), s.drop k nm v = er → er ≠ 0 → s.aftD k nm v = s := fun er h1 h2 => by unfold Sh.aftD; rw [h1, if_neg h2]
  cases hi : idxO (lm.map OM.o) k nm with
  | none =>
    rw [hi] at hdr FD
    have e1 : s.drop k nm v = 6 := hdr
    rw [e1, none_case 6 e1 (by decide)]
    have e3 : fndV lm none = .pointer none := rfl
    rw [e3] at FD
    clear hO hle hok hn2 hS e1 hdr none_case hi e3
    go_enter Tryz.func15, Tryz.ntmps15
    rcases hk with rfl | rfl
    all_goals
      go_wp2_with fail
      refine FD.out.mono ?_
      rintro e w1 ⟨rfl, rfl⟩
      go_wp2_with fail
      go_returns
      exact ⟨rfl, RfP.same HP.out (Grow.G.refl _)⟩
  | some i =>
    rw [hi] at hdr FD
    have hil := idxO_lt i hi
    rw [List.length_map] at hil
    obtain ⟨m, hm⟩ : ∃ m, lm[i]? = some m := ⟨_, List.getElem?_eq_getElem hil⟩
    have e3 : fndV lm (some i) = pt m.b := by unfold fndV; dsimp only; rw [hm]
    rw [e3] at FD
    have e4 : verI (lm.map OM.o) (some i) = if m.o.is then some m.o.v else none := by unfold verI; dsimp only; rw [List.getElem?_map, hm]; rfl
    rw [e4] at hdr
    obtain ⟨o', ho', hkd, hnm⟩ := idxO_some hi
    have emo : o' = m.o := by rw [List.getElem?_map, hm] at ho'; cases ho'; rfl
    subst emo
    have hB := hS.hb
    have hOb := (hS.ob hm).1
    have hT := (hS.ob hm).2
    have c0 : w.cell? ⟨g, 1, none⟩ = some (.int .i64 (s.n : Int)) := (hB.cell 1).trans rfl
    have f0 := hB.free 1
    have hgl := hB.lt
    have cv : w.cell? ⟨m.b, 12, none⟩ = some (.int .i64 (m.o.v : Int)) := (hOb.cell 12).trans rfl
    have ci : w.cell? ⟨m.b, 14, none⟩ = some (.bool m.o.is) := (hOb.cell 14).trans rfl
    have fi := hOb.free 14
    have hol := hOb.lt
    have hne := blk_ne hB hOb (by decide)
    have hne' : m.b ≠ g := fun e => hne e.symm
    have hwr : IntKind.i64.wrap ((s.n : Int) + 1) = (s.n : Int) + 1 := IntWalk.i64_in _ ⟨by omega, by omega⟩
    cases his : m.o.is with
    | false =>
      rw [his, if_neg Bool.false_ne_true] at hdr
      have e1 : s.drop k nm v = 6 := hdr
      rw [e1, none_case 6 e1 (by decide)]
      rw [his] at ci
      clear hO hle hok hn2 hS e1 hdr none_case hi e3 e4 ho' hkd hnm hB hOb hT his hm
      go_enter Tryz.func15, Tryz.ntmps15
      rcases hk with rfl | rfl
      all_goals
        go_wp2_with fail
        refine FD.out.mono ?_
        rintro e w1 ⟨rfl, rfl⟩
        go_wp2_with fail
        go_returns
        exact ⟨rfl, RfP.same HP.out (Grow.G.refl _)⟩
    | true =>
      rw [his, if_pos rfl] at hdr
      rw [his] at ci
      by_cases hv : (m.o.v : Int) = v
      · have e1 : s.drop k nm v = 0 := by rw [hdr]; unfold heldP; dsimp only; rw [if_pos hv]
        have e2 : s.aftD k nm v = s.cut k nm := by unfold Sh.aftD; rw [if_pos e1]
        rw [e1, e2]
        have PL : Hid (∀ w', Blk w' g ([vv, .int .i64 ((s.n + 1 : Nat) : Int)] : List Value).toArray rshT → Blk w' m.b ({ m with o := { m.o with is := false } } : OM).cells.toArray objT → Chg (fun k => k = g ∨ k = m.b) w w' → EndS w w' F (RfP g (s.cut k nm))) := Lib.hid (fun w' q1 q2 q3 => by
          have hap : ∀ k, m.tv.ownBlock = some k → ¬ (k = g ∨ k = m.b) := fun k hk q => by
            rcases q with rfl | rfl
            · exact own_blk_types hT hB (by decide) hk
            · exact own_blk_types hT hOb (by decide) hk
          have hn1 : (s.cut k nm).n = s.n + 1 := by unfold Sh.cut; split <;> rfl
          refine (hS.turned (m' := { m with o := { m.o with is := false } }) hm rfl q1 q2 (q3.own hT hap) (fun k hk => .inl hk) q3).mono fun F' q => ?_
          refine ⟨vv, lm.set i { m with o := { m.o with is := false } }, ?_, by rw [List.length_set, hn1]; omega, Sh.ok_cut hok k nm, by rw [hn1]; omega, by rw [hn1]; exact q⟩
          rw [List.map_set]
          have hc : s.cut m.o.kd m.o.nm = s.cut k nm := by rw [hkd, hnm]
          rw [← hc]
          exact hO.cut ho')
        have GB := Lib.hid hB
        have OB := Lib.hid hOb
        subst hv
        clear hO hle hok hn2 hS e1 e2 hdr none_case hi e3 e4 ho' hkd hnm hB hOb hT his hm
        go_enter Tryz.func15, Tryz.ntmps15
        rcases hk with rfl | rfl
        all_goals
          go_wp2_with fail
          refine FD.out.mono ?_
          rintro e w1 ⟨rfl, rfl⟩
          go_wp2_with fail
          go_returns
          refine ⟨rfl, PL.out _ ?_ ?_ ?_⟩
          · exact (GB.out.set 1 _).other hne _ _
          · exact (OB.out.other hne' _ _).set 14 _
          · exact Chg.setCell (Chg.setCell (Chg.refl _ _) (fun _ => .inl rfl) _ _) (fun _ => .inr rfl) _ _
      · have e1 : s.drop k nm v = 7 := by rw [hdr]; unfold heldP; dsimp only; rw [if_neg hv]
        rw [e1, none_case 7 e1 (by decide)]
        have d4 : ((m.o.v : Int) != v) = true := by simpa using hv
        clear hO hle hok hn2 hS e1 hdr none_case hi e3 e4 ho' hkd hnm hB hOb hT his hm
        go_enter Tryz.func15, Tryz.ntmps15
        rcases hk with rfl | rfl
        all_goals
          go_wp2_with fail
          refine FD.out.mono ?_
          rintro e w1 ⟨rfl, rfl⟩
          go_wp2_with fail
          go_returns
          exact ⟨rfl, RfP.same HP.out (Grow.G.refl _)⟩
end Go.Proofs.YtlnffdkaleapbaaGreat
