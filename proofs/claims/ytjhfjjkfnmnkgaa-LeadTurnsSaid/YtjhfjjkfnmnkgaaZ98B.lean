/- My own texts LdP, LdQ, LdS, laid in one file. -/
import Derived.Test.YtjhfjjkfnmnkgaaZ48
import Derived.Test.YtjhfjjkfnmnkgaaZ42
import Derived.Test.YtjhfjjkfnmnkgaaZ53

/- Routes led, plain: ways of names, where each goes from, to, since when, for how long, what it told last. -/
namespace Go.Proofs.Ytjhfjjkfnmnkgaa
set_option maxRecDepth 100000
set_option linter.unusedVariables false
set_option linter.unusedSimpArgs false
open Go.RowKit

structure Wa where
  nm : ByteArray
  fr : List Shr
  to : List Shr
  si : Int
  wh : Int
  sh : List Shr
  tg : List Tgo
def findW (l : List Wa) (s : ByteArray) : Option Wa := l.find? fun x => decide (x.nm = s)
/-- Is it turned to what it was turned to last, for the same time? -/
def keepsW (x : Wa) (sh : List Shr) (wh : Int) : Bool := (x.wh == wh) && sameShr x.to sh
def oldW (x : Wa) (tg : List Tgo) (now : Int) : Wa := ⟨x.nm, x.fr, x.to, x.si, x.wh, rollL x.fr x.to (now - x.si) x.wh, tg⟩
def newW (nm : ByteArray) (fr sh : List Shr) (tg : List Tgo) (now wh : Int) : Wa := ⟨nm, fr, sh, now, wh, rollL fr sh 0 wh, tg⟩
def stepW (o : Option Wa) (nm : ByteArray) (sh : List Shr) (tg : List Tgo) (now wh : Int) : Wa := match o with
  | none => newW nm sh sh tg now wh
  | some x => if keepsW x sh wh = true then oldW x tg now else newW nm x.sh sh tg now wh
def turnW (l : List Wa) (nm : ByteArray) (sh : List Shr) (tg : List Tgo) (now wh : Int) : List Wa := match findW l nm with
  | none => l ++ [stepW none nm sh tg now wh]
  | some _ => l.map fun y => if y.nm = nm then stepW (some y) nm sh tg now wh else y
def dropW (l : List Wa) (nm : ByteArray) : List Wa := l.filter fun y => !decide (y.nm = nm)
/-- What is so of ways: no name twice. -/
def WaOk (l : List Wa) : Prop := l.Pairwise (fun a b => a.nm ≠ b.nm)
theorem findW_mem {l : List Wa} {s : ByteArray} {x : Wa} (h : findW l s = some x) : x ∈ l ∧ x.nm = s := by
  unfold findW at h
  exact ⟨List.mem_of_find?_eq_some h, by simpa using List.find?_some h⟩
theorem findW_none {l : List Wa} {s : ByteArray} : findW l s = none ↔ ∀ x, x ∈ l → x.nm ≠ s := by
  unfold findW
  rw [List.find?_eq_none]
  simp
theorem stepW_nm (o : Option Wa) {nm : ByteArray} (h : ∀ x, o = some x → x.nm = nm) (sh : List Shr) (tg : List Tgo) (now wh : Int) : (stepW o nm sh tg now wh).nm = nm := by
  cases o with
  | none => rfl
  | some x =>
    unfold stepW
    dsimp only
    split
    · exact h x rfl
    · rfl
theorem stepW_tg (o : Option Wa) (nm : ByteArray) (sh : List Shr) (tg : List Tgo) (now wh : Int) : (stepW o nm sh tg now wh).tg = tg := by
  cases o with
  | none => rfl
  | some x =>
    unfold stepW
    dsimp only
    split <;> rfl
theorem mapW_nm {l : List Wa} {nm : ByteArray} {sh : List Shr} {tg : List Tgo} {now wh : Int} (y : Wa) : (if y.nm = nm then stepW (some y) nm sh tg now wh else y).nm = y.nm := by
  split
  · rename_i h
    rw [stepW_nm (some y) (fun x e => by cases e; exact h), h]
  · rfl
/-- What a turn tells, and leaves of the others. -/
theorem turnW_find (l : List Wa) (nm : ByteArray) (sh : List Shr) (tg : List Tgo) (now wh : Int) (s : ByteArray) : findW (turnW l nm sh tg now wh) s = if s = nm then some (stepW (findW l nm) nm sh tg now wh) else findW l s := by
  cases e : findW l nm with
  | none =>
    have h0 := findW_none.1 e
    have e1 : turnW l nm sh tg now wh = l ++ [stepW none nm sh tg now wh] := by unfold turnW; rw [e]
    rw [e1]
    show List.find? _ (l ++ _) = _
    rw [List.find?_append]
    by_cases h : s = nm
    · subst h
      rw [if_pos rfl, show List.find? (fun x => decide (x.nm = s)) l = none from e, Option.none_or]
      rw [List.find?_cons_of_pos (by exact decide_eq_true (stepW_nm none (fun x q => by cases q) sh tg now wh))]
    · rw [if_neg h, List.find?_cons_of_neg (by rw [decide_eq_true_eq]; exact fun q => h (by rw [← q]; exact stepW_nm none (fun x q => by cases q) sh tg now wh))]
      rw [List.find?_nil, Option.or_none]; rfl
  | some x =>
    obtain ⟨h1, h2⟩ := findW_mem e
    have e1 : turnW l nm sh tg now wh = l.map fun y => if y.nm = nm then stepW (some y) nm sh tg now wh else y := by unfold turnW; rw [e]
    rw [e1]
    show List.find? _ (l.map _) = _
    rw [List.find?_map]
    have e2 : ((fun x : Wa => decide (x.nm = s)) ∘ fun y => if y.nm = nm then stepW (some y) nm sh tg now wh else y) = fun x => decide (x.nm = s) := by
      funext y
      show decide (_ = s) = _
      rw [mapW_nm (l := l) y]
    rw [e2]
    by_cases h : s = nm
    · subst h
      rw [if_pos rfl, show List.find? (fun x => decide (x.nm = s)) l = some x from e]
      show some (if x.nm = s then _ else _) = _
      rw [if_pos h2]
    · rw [if_neg h]
      cases e3 : List.find? (fun x => decide (x.nm = s)) l with
      | none => exact e3.symm
      | some y =>
        have h3 : y.nm = s := by simpa using List.find?_some e3
        show some (if y.nm = nm then _ else _) = _
        rw [if_neg (fun q => h (h3.symm.trans q))]
        exact e3.symm
theorem dropW_find (l : List Wa) (nm s : ByteArray) : findW (dropW l nm) s = if s = nm then none else findW l s := by
  by_cases h : s = nm
  · subst h
    rw [if_pos rfl]
    refine findW_none.2 fun x hx e => ?_
    unfold dropW at hx
    have := (List.mem_filter.1 hx).2
    rw [decide_eq_true e] at this
    cases this
  · rw [if_neg h]
    unfold findW dropW
    rw [List.find?_filter]
    congr 1
    funext x
    by_cases q : x.nm = s
    · have z : ¬ x.nm = nm := fun z => h (q.symm.trans z)
      simp [q, h]
    · simp [q]
theorem WaOk.turn {l : List Wa} (ok : WaOk l) (nm : ByteArray) (sh : List Shr) (tg : List Tgo) (now wh : Int) : WaOk (turnW l nm sh tg now wh) := by
  unfold turnW
  cases e : findW l nm with
  | none =>
    dsimp only
    unfold WaOk
    rw [List.pairwise_append]
    refine ⟨ok, List.pairwise_singleton _ _, fun a ha b hb q => ?_⟩
    rw [List.mem_singleton] at hb
    subst hb
    exact findW_none.1 e a ha (q.trans (stepW_nm none (fun x q => by cases q) sh tg now wh))
  | some x =>
    dsimp only
    unfold WaOk
    rw [List.pairwise_map]
    exact ok.imp fun {a b} h => by rw [mapW_nm (l := l), mapW_nm (l := l)]; exact h
theorem WaOk.drop {l : List Wa} (ok : WaOk l) (nm : ByteArray) : WaOk (dropW l nm) := ok.sublist List.filter_sublist
theorem turnW_len (l : List Wa) (nm : ByteArray) (sh : List Shr) (tg : List Tgo) (now wh : Int) : (turnW l nm sh tg now wh).length ≤ l.length + 1 := by
  unfold turnW
  split
  · rw [List.length_append, List.length_singleton]; exact Nat.le_refl _
  · rw [List.length_map]; omega

theorem sumW_len : ∀ {l : List Shr}, (∀ s, s ∈ l → 1 ≤ s.w) → (l.length : Int) ≤ sumW l
  | [], _ => by simp [sumW]
  | x :: l, h => by
    have h1 := h x List.mem_cons_self
    have h2 := sumW_len (l := l) fun s hs => h s (List.mem_cons_of_mem _ hs)
    rw [sumW, List.length_cons]
    omega
theorem sd_len {l : List Shr} (h : Sd l) : l.length ≤ 100 := by
  have := sumW_len (l := l) fun s hs => (h.ok s hs).2.1
  have := h.sum
  omega
theorem names_len {a b : List Shr} (ha : Sd a) (hb : Sd b) : (namesL a b).length ≤ 500 := by
  have := namesL_len a b; have := sd_len ha; have := sd_len hb
  omega
theorem roll_sd' {a b : List Shr} {t n : Int} (ha : Sd a) (hb : Sd b) : Sd (rollL a b t n) := roll_sd ha hb (names_len ha hb)
theorem roll_self {a : List Shr} {t n : Int} (ha : Sd a) : rollL a a t n = a := roll_same ha (names_len ha ha)
/-- Ways as they may be. -/
structure WSd (x : Wa) : Prop where
  f : Sd x.fr
  t : Sd x.to
  s : Sd x.sh
theorem stepW_sd {o : Option Wa} {nm : ByteArray} {sh : List Shr} {tg : List Tgo} {now wh : Int} (h : ∀ x, o = some x → WSd x) (hs : Sd sh) : WSd (stepW o nm sh tg now wh) := by
  cases o with
  | none => exact ⟨hs, hs, roll_sd' hs hs⟩
  | some x =>
    have hx := h x rfl
    unfold stepW
    dsimp only
    split
    · exact ⟨hx.f, hx.t, roll_sd' hx.f hx.t⟩
    · exact ⟨hx.s, hs, roll_sd' hx.s hs⟩
theorem turnW_sd {l : List Wa} {nm : ByteArray} {sh : List Shr} {tg : List Tgo} {now wh : Int} (h : ∀ x, x ∈ l → WSd x) (hs : Sd sh) : ∀ x, x ∈ turnW l nm sh tg now wh → WSd x := by
  intro x hx
  unfold turnW at hx
  split at hx
  · rcases List.mem_append.1 hx with hx | hx
    · exact h x hx
    · rw [List.mem_singleton] at hx
      subst hx
      exact stepW_sd (fun x q => by cases q) hs
  · obtain ⟨y, hy, rfl⟩ := List.mem_map.1 hx
    split
    · exact stepW_sd (fun x q => by cases q; exact h y hy) hs
    · exact h y hy
theorem keepsW_iff {x : Wa} {sh : List Shr} {wh : Int} : keepsW x sh wh = true ↔ x.wh = wh ∧ x.to = sh := by
  unfold keepsW
  rw [Bool.and_eq_true, beq_iff_eq]
  exact and_congr Iff.rfl (sameL_iff shrB_iff)
/-- It goes on as it went. -/
theorem stepW_on {x : Wa} {nm : ByteArray} {tg : List Tgo} {now : Int} : stepW (some x) nm x.to tg now x.wh = oldW x tg now := if_pos (keepsW_iff.2 ⟨rfl, rfl⟩)
end Go.Proofs.Ytjhfjjkfnmnkgaa

/- Routes led, plain: what turns leave of names. -/
namespace Go.Proofs.Ytjhfjjkfnmnkgaa
set_option maxRecDepth 100000
set_option linter.unusedVariables false
set_option linter.unusedSimpArgs false
open Go.RowKit

section
variable {l : List Wa} {s nm : ByteArray} {sh a b : List Shr} {tg u : List Tgo} {now wh : Int} {x : Wa} {o : Option Wa}
theorem findW_turn (l : List Wa) (nm : ByteArray) (sh : List Shr) (tg : List Tgo) (now wh : Int) : findW (turnW l nm sh tg now wh) nm = some (stepW (findW l nm) nm sh tg now wh) := by rw [turnW_find, if_pos rfl]
end
end Go.Proofs.Ytjhfjjkfnmnkgaa
