/- My own texts FlW, FlO, FlK, FlN, FlA, laid in one file. -/
import Derived.Test.YtfnpghekkhnjkaaZ74
import Derived.Test.YtfnpghekkhnjkaaZ75

/- Pods of revisions: who has a request, as requests come and go. -/
namespace Go.Proofs.Ytfnpghekkhnjkaa
set_option maxRecDepth 100000
set_option linter.unusedVariables false
set_option linter.unusedSimpArgs false
open Go.RowKit

def whoL (l : List Po) (x : Int) : Int := match whereP l x with | none => 0 | some h => h.id
def Po.key (h : Po) : Int × ByteArray × Int × Int := (h.id, h.rv, h.p.st, h.p.c)
section
variable {l : List Po} {h : Po} {x y : Int} {i : Nat}
theorem where_at (ok : PosOk l) (hi : l[i]? = some h) (hx : x ∈ h.p.l) : whereP l x = some h := by
  cases e : whereP l x with
  | none => exact absurd hx (whereP_none e h (List.mem_of_getElem? hi))
  | some b =>
    obtain ⟨hb, hxb⟩ := whereP_mem e
    obtain ⟨j, hj⟩ := mem_at hb
    have : j = i := by
      obtain ⟨hli, ei⟩ := List.getElem?_eq_some_iff.1 hi
      obtain ⟨hlj, ej⟩ := List.getElem?_eq_some_iff.1 hj
      subst ei ej
      rcases Nat.lt_trichotomy j i with q | q | q
      · exact absurd hx (List.pairwise_iff_getElem.1 ok.apart j i hlj hli q x hxb)
      · exact q
      · exact absurd hxb (List.pairwise_iff_getElem.1 ok.apart i j hli hlj q x hx)
    subst this
    rw [hi] at hj; cases hj; rfl
theorem who_at (ok : PosOk l) (hi : l[i]? = some h) (hx : x ∈ h.p.l) : whoL l x = h.id := by unfold whoL; rw [where_at ok hi hx]
theorem where_no (hn : ∀ b, b ∈ l → x ∉ b.p.l) : whereP l x = none := by
  cases e : whereP l x with
  | none => rfl
  | some b => exact absurd (whereP_mem e).2 (hn b (whereP_mem e).1)
theorem who_no (hn : ∀ b, b ∈ l → x ∉ b.p.l) : whoL l x = 0 := by unfold whoL; rw [where_no hn]
theorem who_set (ok : PosOk l) (hi : l[i]? = some h) {p : Pd} (ok2 : PosOk (l.set i (h.to p))) (hy : y ∈ p.l ↔ y ∈ h.p.l) : whoL (l.set i (h.to p)) y = whoL l y := by
  cases e : whereP l y with
  | none =>
    have hn := whereP_none e
    rw [who_no hn]
    refine who_no fun b hb => ?_
    rcases List.mem_or_eq_of_mem_set hb with hb | rfl
    · exact hn b hb
    · exact fun q => hn h (List.mem_of_getElem? hi) (hy.1 q)
  | some b =>
    obtain ⟨hb, hyb⟩ := whereP_mem e
    obtain ⟨j, hj⟩ := mem_at hb
    rw [who_at ok hj hyb]
    by_cases q : j = i
    · subst q
      rw [hi] at hj; cases hj
      exact who_at (h := h.to p) ok2 (List.getElem?_set_self (List.getElem?_eq_some_iff.1 hi).1) (hy.2 hyb)
    · exact who_at ok2 ((List.getElem?_set_ne (fun r => q r.symm)).trans hj) hyb
theorem who_erase (ok : PosOk l) (hi : l[i]? = some h) : whoL (l.eraseIdx i) y = if whoL l y = h.id then 0 else whoL l y := by
  have ok2 := ok.sub (List.eraseIdx_sublist l i)
  cases e : whereP l y with
  | none =>
    have hn := whereP_none e
    rw [who_no hn, who_no fun b hb => hn b ((List.eraseIdx_sublist l i).subset hb)]
    split <;> rfl
  | some b =>
    obtain ⟨hb, hyb⟩ := whereP_mem e
    obtain ⟨j, hj⟩ := mem_at hb
    rw [who_at ok hj hyb]
    by_cases q : j = i
    · subst q
      rw [hi] at hj; cases hj
      rw [if_pos rfl]
      refine who_no fun a ha hya => ?_
      obtain ⟨m, hm⟩ := mem_at ha
      rw [List.getElem?_eraseIdx] at hm
      split at hm
      · have h1 := where_at ok hm hya
        rw [e] at h1; cases h1
        have := find_unique ok.ids hi hm rfl; omega
      · have h1 := where_at ok hm hya
        rw [e] at h1; cases h1
        have := find_unique ok.ids hi hm rfl; omega
    · have hne : b.id ≠ h.id := fun r => q (find_unique ok.ids hi hj r)
      rw [if_neg hne]
      have : b ∈ l.eraseIdx i := by
        rcases Nat.lt_or_gt_of_ne q with r | r
        · exact List.mem_of_getElem? (i := j) (by rw [List.getElem?_eraseIdx_of_lt r]; exact hj)
        · exact List.mem_of_getElem? (i := j - 1) (by rw [List.getElem?_eraseIdx_of_ge (by omega), show j - 1 + 1 = j by omega]; exact hj)
      obtain ⟨m, hm⟩ := mem_at this
      exact who_at ok2 hm hyb
theorem key_set (hi : l[i]? = some h) {p : Pd} (e1 : p.st = h.p.st) (e2 : p.c = h.p.c) : (l.set i (h.to p)).map Po.key = l.map Po.key := by
  refine List.ext_getElem? fun j => ?_
  rw [List.getElem?_map, List.getElem?_map, List.getElem?_set]
  by_cases q : i = j
  · subst q
    rw [if_pos rfl, if_pos (List.getElem?_eq_some_iff.1 hi).1, hi]
    simp [Po.key, Po.to, e1, e2]
  · rw [if_neg q]
theorem key_at {m : List Po} (e : l.map Po.key = m.map Po.key) (hi : l[i]? = some h) : ∃ b, m[i]? = some b ∧ b.id = h.id ∧ b.rv = h.rv ∧ b.p.st = h.p.st ∧ b.p.c = h.p.c := by
  have := congrArg (fun r : List _ => r[i]?) e
  simp only [List.getElem?_map, hi] at this
  cases hm : m[i]? with
  | none => rw [hm] at this; cases this
  | some b =>
    rw [hm] at this
    simp only [Option.map_some, Option.some.injEq, Po.key, Prod.mk.injEq] at this
    exact ⟨b, rfl, this.1.symm, this.2.1.symm, this.2.2.1.symm, this.2.2.2.symm⟩
end
namespace Fl
variable {f : Fl} {rv : ByteArray} {x : Int} {h : Po}
theorem take_none (e : f.takeH rv x = none) : f.take rv x = 0 ∧ f.takeB rv x = false ∧ f.aftTake rv x = f := by
  refine ⟨?_, ?_, ?_⟩
  · unfold take; rw [e]
  · unfold takeB; rw [e]; rfl
  · unfold aftTake; rw [e]
theorem take_some (ok : f.ok) (hx : wf64 x) (e : f.takeH rv x = some h) : ∃ i : Nat, f.l[i]? = some h ∧ pickP f.l rv = some h ∧ h.rv = rv ∧ h.p.st = 2 ∧ (h.load : Int) < h.p.c ∧ whoL f.l x = 0 ∧ x ∉ h.p.l ∧ f.take rv x = h.id ∧ f.takeB rv x = true ∧
    f.aftTake rv x = ⟨f.room, f.n, f.l.set i (h.to ⟨h.p.c, h.p.st, insZ h.p.l x⟩)⟩ ∧ (f.aftTake rv x).l.map Po.key = f.l.map Po.key ∧ whoL (f.aftTake rv x).l x = h.id ∧ ∀ y, y ≠ x → whoL (f.aftTake rv x).l y = whoL f.l y := by
  have ok2 := ok_take ok rv hx
  obtain ⟨hno, hp⟩ := takeH_some e
  obtain ⟨hh, hrv, hst, hld⟩ := pickP_mem hp
  obtain ⟨i, hi⟩ := mem_at hh
  have h0 : h.p.take x = 0 := by
    unfold Pd.take
    rw [if_pos hst, if_neg (hno h hh), if_neg (by show ¬ h.p.c ≤ (h.load : Int); omega)]
  have ha : h.p.aftTake x = ⟨h.p.c, h.p.st, insZ h.p.l x⟩ := by unfold Pd.aftTake; rw [if_pos h0]
  have hf : f.aftTake rv x = ⟨f.room, f.n, f.l.set i (h.to ⟨h.p.c, h.p.st, insZ h.p.l x⟩)⟩ := by
    have := chgP_at ok.l hi (g := fun p => p.aftTake x) (by rw [ha]; show h.p.st ≠ 4; omega)
    unfold aftTake
    rw [e]
    dsimp only
    rw [this, ha]
  have hl : (f.aftTake rv x).l = f.l.set i (h.to ⟨h.p.c, h.p.st, insZ h.p.l x⟩) := by rw [hf]
  have okl : PosOk (f.l.set i (h.to ⟨h.p.c, h.p.st, insZ h.p.l x⟩)) := by rw [← hl]; exact ok2.l
  refine ⟨i, hi, hp, hrv, hst, hld, who_no hno, hno h hh, by unfold take; rw [e], by unfold takeB; rw [e]; rfl, hf, by rw [hl]; exact key_set hi rfl rfl, ?_, fun y hy => ?_⟩
  · rw [hl]
    exact who_at (h := h.to ⟨h.p.c, h.p.st, insZ h.p.l x⟩) okl (List.getElem?_set_self (List.getElem?_eq_some_iff.1 hi).1) (by show x ∈ insZ _ _; rw [insZ_mem]; exact .inl rfl)
  · rw [hl]
    exact who_set ok.l hi okl (by show y ∈ insZ _ _ ↔ _; rw [insZ_mem]; exact ⟨fun q => q.resolve_left hy, .inr⟩)
theorem give_none (e : whoL f.l x = 0) (ok : f.ok) : f.give x = 6 ∧ f.giveR x = ⟨#[]⟩ ∧ f.aftGive x = f := by
  have hw : whereP f.l x = none := by
    cases q : whereP f.l x with
    | none => rfl
    | some b =>
      unfold whoL at e; rw [q] at e
      have := ok.rng b (whereP_mem q).1
      have e : b.id = 0 := e
      omega
  refine ⟨?_, ?_, ?_⟩
  · unfold give; rw [hw]
  · unfold giveR; rw [hw]
  · unfold aftGive; rw [hw]
theorem give_some (ok : f.ok) (e : whoL f.l x ≠ 0) (hst : ∀ b, b ∈ f.l → b.p.st ≠ 3) : ∃ (i : Nat) (h : Po), f.l[i]? = some h ∧ h.id = whoL f.l x ∧ x ∈ h.p.l ∧ f.give x = 0 ∧ f.giveR x = h.rv ∧
    f.aftGive x = ⟨f.room, f.n, f.l.set i (h.to ⟨h.p.c, h.p.st, cutZ h.p.l x⟩)⟩ ∧ (f.aftGive x).l.map Po.key = f.l.map Po.key ∧ whoL (f.aftGive x).l x = 0 ∧ ∀ y, y ≠ x → whoL (f.aftGive x).l y = whoL f.l y := by
  have ok2 := ok_give ok x
  cases q : whereP f.l x with
  | none => exact absurd (who_no (whereP_none q)) e
  | some h =>
    obtain ⟨hh, hx⟩ := whereP_mem q
    obtain ⟨i, hi⟩ := mem_at hh
    have h3 := hst h hh
    have h4 := (ok.l.pod h hh).2.1
    have ha : h.p.aftGive x = ⟨h.p.c, h.p.st, cutZ h.p.l x⟩ := by unfold Pd.aftGive; rw [if_pos hx, if_neg (fun r => h3 r.1)]
    have hf : f.aftGive x = ⟨f.room, f.n, f.l.set i (h.to ⟨h.p.c, h.p.st, cutZ h.p.l x⟩)⟩ := by
      have := chgP_at ok.l hi (g := fun p => p.aftGive x) (by rw [ha]; exact h4)
      unfold aftGive
      rw [q]
      dsimp only
      rw [this, ha]
    have hl : (f.aftGive x).l = f.l.set i (h.to ⟨h.p.c, h.p.st, cutZ h.p.l x⟩) := by rw [hf]
    have okl : PosOk (f.l.set i (h.to ⟨h.p.c, h.p.st, cutZ h.p.l x⟩)) := by rw [← hl]; exact ok2.l
    refine ⟨i, h, hi, by unfold whoL; rw [q], hx, by unfold give; rw [q], by unfold giveR; rw [q], hf, by rw [hl]; exact key_set hi rfl rfl, ?_, fun y hy => ?_⟩
    · rw [hl]
      refine who_no fun b hb hxb => ?_
      obtain ⟨j, hj⟩ := mem_at hb
      rw [List.getElem?_set] at hj
      split at hj
      · split at hj
        · cases hj
          have hxb : x ∈ cutZ h.p.l x := hxb
          rw [cutZ_mem] at hxb
          exact hxb.2 rfl
        · cases hj
      · rename_i hne
        have := where_at ok.l hj hxb
        rw [q] at this; cases this
        exact hne (find_unique ok.l.ids hj hi rfl)
    · rw [hl]
      exact who_set ok.l hi okl (by show y ∈ cutZ _ _ ↔ _; rw [cutZ_mem]; exact ⟨fun q => q.1, fun q => ⟨q, hy⟩⟩)
theorem kill_at (ok : f.ok) {i : Nat} (hi : f.l[i]? = some h) : f.kill h.id = 0 ∧ f.lost h.id = h.p.l ∧ f.aftKill h.id = ⟨f.room, f.n, f.l.eraseIdx i⟩ := by
  have hf := findP_at ok.l.ids hi
  have h4 := (ok.l.pod h (List.mem_of_getElem? hi)).2.1
  refine ⟨?_, ?_, ?_⟩
  · unfold kill; rw [hf]; exact if_neg h4
  · unfold lost; rw [hf]; exact if_neg h4
  · unfold aftKill; rw [chgP_dead ok.l hi (kill_st _)]
theorem of_at (ok : f.ok) {i : Nat} (hi : f.l[i]? = some h) : f.ofP h.id = h.rv := by unfold ofP; rw [findP_at ok.l.ids hi]
theorem of_no {id : Int} (hn : ∀ b, b ∈ f.l → b.id ≠ id) : f.ofP id = ⟨#[]⟩ := by
  unfold ofP
  cases e : findP f.l id with
  | none => rfl
  | some b => exact absurd (findP_mem e).2 (hn b (findP_mem e).1)
end Fl
/-- Two rising rows of the same numbers are one. -/
theorem rise_ext {a b : List Int} (ha : a.Pairwise (· < ·)) (hb : b.Pairwise (· < ·)) (h : ∀ x, x ∈ a ↔ x ∈ b) : a = b := by
  have hp : a.Perm b := (List.perm_ext_iff_of_nodup (nodup_lt ha) (nodup_lt hb)).2 h
  rw [← MapV.sortedZ hb hp, MapV.sortedZ ha (List.Perm.refl a)]
/-- Those of 1 .. j that g leads to k. -/
def wantF (g : Int → Int) (k : Int) : Nat → List Int
  | 0 => []
  | j + 1 => wantF g k j ++ if g ((j : Int) + 1) = k then [(j : Int) + 1] else []
theorem wantF_mem (g : Int → Int) (k y : Int) : ∀ j : Nat, y ∈ wantF g k j ↔ (1 ≤ y ∧ y ≤ j) ∧ g y = k
  | 0 => by simp [wantF]; omega
  | j + 1 => by
    unfold wantF
    rw [List.mem_append, wantF_mem g k y j]
    by_cases e : g ((j : Int) + 1) = k
    · rw [if_pos e, List.mem_singleton]
      constructor
      · rintro (⟨h1, h2⟩ | rfl)
        · exact ⟨by omega, h2⟩
        · exact ⟨by omega, e⟩
      · rintro ⟨h1, h2⟩
        by_cases q : y = (j : Int) + 1
        · exact .inr q
        · exact .inl ⟨by omega, h2⟩
    · rw [if_neg e]
      constructor
      · rintro (⟨h1, h2⟩ | q)
        · exact ⟨by omega, h2⟩
        · cases q
      · rintro ⟨h1, h2⟩
        by_cases q : y = (j : Int) + 1
        · subst q; exact absurd h2 e
        · exact .inl ⟨by omega, h2⟩
theorem wantF_lt (g : Int → Int) (k : Int) : ∀ j : Nat, (wantF g k j).Pairwise (· < ·)
  | 0 => List.Pairwise.nil
  | j + 1 => by
    unfold wantF
    rw [List.pairwise_append]
    refine ⟨wantF_lt g k j, by split <;> simp, fun a ha b hb => ?_⟩
    have h1 := (wantF_mem g k a j).1 ha
    split at hb
    · rw [List.mem_singleton] at hb; omega
    · cases hb
theorem wantF_len (g : Int → Int) (k : Int) : ∀ j : Nat, (wantF g k j).length ≤ j
  | 0 => Nat.le_refl _
  | j + 1 => by
    unfold wantF
    have := wantF_len g k j
    rw [List.length_append]
    split <;> simp <;> omega

def onceP (k : Nat) (i : Nat) : Po := ⟨(i : Int) + 1, if i < 3 then rvA1 else rvB1, ⟨3, if i < k then 2 else 1, []⟩⟩
def onceF (k : Nat) : Fl := ⟨12, 6, [onceP k 0, onceP k 1, onceP k 2, onceP k 3, onceP k 4, onceP k 5]⟩
def once3 : Fl := ⟨12, 3, [onceP 0 0, onceP 0 1, onceP 0 2]⟩
theorem once_1 : (Fl.new 12).made rvA1 3 = [1, 2, 3] ∧ (Fl.new 12).gone rvA1 3 = [] ∧ (Fl.new 12).scale rvA1 3 3 = once3 := ⟨by decide +kernel, by decide +kernel, by kernel_rfl⟩
theorem once_2 : once3.made rvB1 3 = [4, 5, 6] ∧ once3.gone rvB1 3 = [] ∧ once3.scale rvB1 3 3 = onceF 0 := ⟨by decide +kernel, by decide +kernel, by kernel_rfl⟩
theorem once_up {k : Nat} (h : k < 6) : (onceF k).up ((k : Int) + 1) = 0 ∧ (onceF k).aftUp ((k : Int) + 1) = onceF (k + 1) := by
  obtain rfl | rfl | rfl | rfl | rfl | rfl : k = 0 ∨ k = 1 ∨ k = 2 ∨ k = 3 ∨ k = 4 ∨ k = 5 := by omega
  all_goals exact ⟨by kernel_rfl, by kernel_rfl⟩
structure OnceI (f : Fl) (at_ : List Int) : Prop where
  ok : f.ok
  key : f.l.map Po.key = (onceF 6).l.map Po.key
  len : at_.length = 20
  who : ∀ y : Nat, 1 ≤ y → y < 20 → at_[y]? = some (whoL f.l y)
  rng : ∀ y : Int, whoL f.l y ≠ 0 → 1 ≤ y ∧ y ≤ 19
theorem once_start (ok : (onceF 6).ok) : OnceI (onceF 6) (List.replicate 20 0) := by
  have hw : ∀ y, whoL (onceF 6).l y = 0 := fun y => who_no fun b hb => by
    simp only [onceF, List.mem_cons, List.mem_nil_iff, or_false] at hb
    rcases hb with rfl | rfl | rfl | rfl | rfl | rfl <;> exact List.not_mem_nil
  exact ⟨ok, rfl, rfl, fun y h1 h2 => by rw [hw, List.getElem?_replicate, if_pos h2], fun y hy => absurd (hw y) hy⟩
namespace OnceI
variable {f : Fl} {at_ : List Int}
theorem st2 (hI : OnceI f at_) : ∀ b, b ∈ f.l → b.p.st = 2 ∧ 1 ≤ b.id ∧ b.id ≤ 6 := fun b hb => by
  obtain ⟨i, hi⟩ := mem_at hb
  obtain ⟨c, hc, e1, _, e3, _⟩ := key_at hI.key hi
  have : ∀ c, c ∈ (onceF 6).l → c.p.st = 2 ∧ 1 ≤ c.id ∧ c.id ≤ 6 := by
    intro c hc
    simp only [onceF, List.mem_cons, List.mem_nil_iff, or_false] at hc
    rcases hc with rfl | rfl | rfl | rfl | rfl | rfl <;> decide
  have := this c (List.mem_of_getElem? hc)
  omega
theorem pod_at (hI : OnceI f at_) {i : Nat} (h : i < 6) : ∃ b, f.l[i]? = some b ∧ b.id = (i : Int) + 1 := by
  have h6 : f.l.length = 6 := by have := congrArg List.length hI.key; simpa [onceF] using this
  obtain ⟨b, hb⟩ : ∃ b, f.l[i]? = some b := ⟨_, List.getElem?_eq_getElem (by omega)⟩
  obtain ⟨c, hc, e1, _⟩ := key_at hI.key hb
  refine ⟨b, hb, ?_⟩
  rw [← e1]
  obtain rfl | rfl | rfl | rfl | rfl | rfl : i = 0 ∨ i = 1 ∨ i = 2 ∨ i = 3 ∨ i = 4 ∨ i = 5 := by omega
  all_goals (cases hc; rfl)
theorem n6 (hI : OnceI f at_) : f.l.length = 6 := by have := congrArg List.length hI.key; simpa [onceF] using this
theorem take (hI : OnceI f at_) (rv : ByteArray) {X : Nat} (h1 : 1 ≤ X) (h2 : X < 20) :
    (f.takeB rv X = false ∧ f.take rv X = 0 ∧ f.aftTake rv X = f) ∨
    (f.takeB rv X = true ∧ (1 ≤ f.take rv X ∧ f.take rv X ≤ 6) ∧ at_[X]? = some 0 ∧ (f.aftTake rv X).ofP (f.take rv X) = rv ∧ OnceI (f.aftTake rv X) (at_.set X (f.take rv X))) := by
  have hx : wf64 (X : Int) := ⟨by omega, by omega⟩
  have ok2 := Fl.ok_take hI.ok rv hx
  cases e : f.takeH rv X with
  | none =>
    obtain ⟨q1, q2, q3⟩ := Fl.take_none e
    exact .inl ⟨q2, q1, q3⟩
  | some h =>
    obtain ⟨i, hi, hp, hrv, hst, hld, hw, hno, ht, hb, hf, hk, hwx, hwy⟩ := Fl.take_some hI.ok hx e
    have hid := (hI.st2 h (List.mem_of_getElem? hi)).2
    refine .inr ⟨hb, by rw [ht]; exact hid, by rw [hI.who X h1 h2, hw], ?_, ok2, hk.trans hI.key, by rw [List.length_set]; exact hI.len, fun y y1 y2 => ?_, fun y hy => ?_⟩
    · have hl : (f.aftTake rv X).l[i]? = some (h.to ⟨h.p.c, h.p.st, insZ h.p.l X⟩) := by rw [hf]; exact List.getElem?_set_self (List.getElem?_eq_some_iff.1 hi).1
      have := Fl.of_at ok2 hl
      rw [ht]
      exact this.trans hrv
    · rw [List.getElem?_set]
      by_cases q : X = y
      · subst q
        rw [if_pos rfl, if_pos (by rw [hI.len]; exact h2), hwx, ht]
      · rw [if_neg q, hI.who y y1 y2, hwy y (by omega)]
    · by_cases q : y = X
      · subst q; omega
      · rw [hwy y q] at hy
        exact hI.rng y hy
theorem kill (hI : OnceI f at_) {i : Nat} (h : i < 6) : f.kill ((i : Int) + 1) = 0 ∧ f.lost ((i : Int) + 1) = wantF (whoL f.l) ((i : Int) + 1) 19 ∧ (f.aftKill ((i : Int) + 1)).ofP ((i : Int) + 1) = ⟨#[]⟩ ∧ (f.aftKill ((i : Int) + 1)).l.length = 5 ∧
    (f.aftKill ((i : Int) + 1)).ok ∧ (∀ b, b ∈ (f.aftKill ((i : Int) + 1)).l → b.p.st ≠ 3) ∧ ∀ y, whoL (f.aftKill ((i : Int) + 1)).l y = if whoL f.l y = (i : Int) + 1 then 0 else whoL f.l y := by
  obtain ⟨b, hb, e⟩ := hI.pod_at h
  rw [← e]
  have hm := List.mem_of_getElem? hb
  obtain ⟨k1, k2, k3⟩ := Fl.kill_at hI.ok hb
  have ok2 := Fl.ok_kill hI.ok b.id
  have hs := List.eraseIdx_sublist f.l i
  refine ⟨k1, ?_, ?_, ?_, ok2, ?_, fun y => ?_⟩
  · rw [k2]
    refine rise_ext (hI.ok.l.pod b hm).1.lt (wantF_lt _ _ _) fun x => ?_
    rw [wantF_mem]
    constructor
    · intro hx
      have hw := who_at hI.ok.l hb hx
      refine ⟨?_, hw⟩
      have := hI.rng x (by rw [hw]; have := hI.st2 b hm; omega)
      omega
    · rintro ⟨_, hw⟩
      unfold whoL at hw
      cases q : whereP f.l x with
      | none =>
        rw [q] at hw
        have hw : (0 : Int) = b.id := hw
        have := hI.st2 b hm; omega
      | some c =>
        rw [q] at hw
        have hw : c.id = b.id := hw
        obtain ⟨hc, hxc⟩ := whereP_mem q
        obtain ⟨j, hj⟩ := mem_at hc
        have := find_unique hI.ok.l.ids hb hj hw
        subst this
        rw [hb] at hj; cases hj
        exact hxc
  · refine Fl.of_no fun c hc e => ?_
    rw [k3] at hc
    obtain ⟨j, hj⟩ := mem_at hc
    have hj : (f.l.eraseIdx i)[j]? = some c := hj
    rw [List.getElem?_eraseIdx] at hj
    split at hj
    · have := find_unique hI.ok.l.ids hb hj e; omega
    · have := find_unique hI.ok.l.ids hb hj e; omega
  · rw [k3]
    show (f.l.eraseIdx i).length = 5
    rw [List.length_eraseIdx_of_lt (List.getElem?_eq_some_iff.1 hb).1, hI.n6]
  · rw [k3]
    intro c hc
    have := (hI.st2 c (hs.subset hc)).1
    omega
  · rw [k3]
    exact who_erase hI.ok.l hb
end OnceI
theorem who_pos {f : Fl} (ok : f.ok) (y : Int) : whoL f.l y = 0 ∨ 1 ≤ whoL f.l y := by
  cases q : whereP f.l y with
  | none => exact .inl (who_no (whereP_none q))
  | some b =>
    have := ok.rng b (whereP_mem q).1
    unfold whoL
    rw [q]
    exact .inr this.1
structure GiveI (g : Int → Int) (j : Int) (f : Fl) : Prop where
  ok : f.ok
  st : ∀ b, b ∈ f.l → b.p.st ≠ 3
  who : ∀ y, j ≤ y → whoL f.l y = g y
theorem GiveI.step {g : Int → Int} {j : Int} {f : Fl} (hI : GiveI g j f) : f.give j = (if g j = 0 then 6 else 0) ∧ GiveI g (j + 1) (f.aftGive j) := by
  have hw := hI.who j (Int.le_refl _)
  by_cases e : g j = 0
  · rw [if_pos e]
    obtain ⟨g1, g2, g3⟩ := Fl.give_none (hw.trans e) hI.ok
    exact ⟨g1, by rw [g3]; exact ⟨hI.ok, hI.st, fun y hy => hI.who y (by omega)⟩⟩
  · rw [if_neg e]
    obtain ⟨i, h, hi, hid, hx, g1, g2, g3, g4, g5, g6⟩ := Fl.give_some hI.ok (by rw [hw]; exact e) hI.st
    refine ⟨g1, Fl.ok_give hI.ok j, fun b hb => ?_, fun y hy => by rw [g6 y (by omega)]; exact hI.who y (by omega)⟩
    rw [g3] at hb
    rcases List.mem_or_eq_of_mem_set hb with hb | rfl
    · exact hI.st b hb
    · exact hI.st h (List.mem_of_getElem? hi)

structure PickI (f : Fl) (c : Int) (n : Nat) (load : List Int) (ready : List Bool) : Prop where
  ok : f.ok
  len : f.l.length = n
  ll : load.length = n
  rl : ready.length = n
  pod : ∀ i, i < n → ∃ h b, f.l[i]? = some h ∧ h.id = (i : Int) + 1 ∧ h.rv = rvA1 ∧ h.p.c = c ∧ ready[i]? = some b ∧ h.p.st = (if b = true then 2 else 1) ∧ load[i]? = some (h.load : Int)
theorem pick_start {c : Int} {n : Nat} (hc : 1 ≤ c ∧ c ≤ 8) (hn : n ≤ 9) : (Fl.new 10).made rvA1 n = idsP 0 n ∧ (Fl.new 10).gone rvA1 n = [] ∧ PickI ((Fl.new 10).scale rvA1 c n) c n (List.replicate n 0) (List.replicate n false) ∧ ((Fl.new 10).scale rvA1 c n).room = 10 ∧ ((Fl.new 10).scale rvA1 c n).n = n := by
  have hm : (Fl.new 10).more rvA1 n = n := by
    unfold Fl.more
    show min ((n : Int) - ((0 : Nat) : Int)).toNat ((10 : Int) - ((0 : Nat) : Int)).toNat = n
    omega
  have ok := Fl.ok_scale (f := Fl.new 10) (Fl.ok_new (by decide)) rvA1 (c := c) (want := n) hc ⟨by omega, by omega⟩ (by decide)
  have hmade : (Fl.new 10).made rvA1 n = idsP 0 n := by unfold Fl.made; rw [hm]; rfl
  rcases (Fl.new 10).scale_cases rvA1 c n with ⟨h1, h2, h3, h4⟩ | ⟨h1, _⟩
  · refine ⟨hmade, h3, ?_, by rw [h4]; rfl, by rw [h4, hm]; show (0 : Int) + n = n; omega⟩
    have hl : ((Fl.new 10).scale rvA1 c n).l = newP rvA1 c 0 n := by rw [h4, hm]; rfl
    refine ⟨ok, by rw [hl, newP_len], by simp, by simp, fun i hi => ⟨⟨0 + 1 + (i : Int), rvA1, Pd.new c⟩, false, by rw [hl, newP_at hi], by dsimp only; omega, rfl, rfl, by rw [List.getElem?_replicate, if_pos hi], rfl, ?_⟩⟩
    rw [List.getElem?_replicate, if_pos hi]
    rfl
  · exfalso
    have : countP (Fl.new 10).l rvA1 = 0 := rfl
    omega
namespace PickI
variable {f : Fl} {c : Int} {n : Nat} {load : List Int} {ready : List Bool}
theorem set (hI : PickI f c n load ready) {f2 : Fl} (ok2 : f2.ok) {i : Nat} {h : Po} {p : Pd} {b : Bool} (hi : f.l[i]? = some h) (hf : f2.l = f.l.set i (h.to p)) (hc : p.c = h.p.c) (hst : p.st = if b = true then 2 else 1) : PickI f2 c n (load.set i (p.l.length : Int)) (ready.set i b) := by
  have hin : i < n := by rw [← hI.len]; exact (List.getElem?_eq_some_iff.1 hi).1
  refine ⟨ok2, by rw [hf, List.length_set, hI.len], by rw [List.length_set, hI.ll], by rw [List.length_set, hI.rl], fun j hj => ?_⟩
  obtain ⟨h', b', q1, q2, q3, q4, q5, q6, q7⟩ := hI.pod j hj
  by_cases e : i = j
  · subst e
    rw [hi] at q1; cases q1
    exact ⟨h.to p, b, by rw [hf]; exact List.getElem?_set_self (List.getElem?_eq_some_iff.1 hi).1, q2, q3, hc.trans q4, List.getElem?_set_self (by rw [hI.rl]; exact hin), hst, List.getElem?_set_self (by rw [hI.ll]; exact hin)⟩
  · exact ⟨h', b', by rw [hf, List.getElem?_set_ne e]; exact q1, q2, q3, q4, by rw [List.getElem?_set_ne e]; exact q5, q6, by rw [List.getElem?_set_ne e]; exact q7⟩
theorem set_same {α : Type} {l : List α} {i : Nat} {x : α} (h : l[i]? = some x) : l.set i x = l := by
  refine List.ext_getElem? fun j => ?_
  rw [List.getElem?_set]
  by_cases e : i = j
  · subst e; rw [if_pos rfl, if_pos (List.getElem?_eq_some_iff.1 h).1, h]
  · rw [if_neg e]
theorem up (hI : PickI f c n load ready) {i : Nat} (hi : i < n) (hr : ready[i]? = some false) : f.up ((i : Int) + 1) = 0 ∧ PickI (f.aftUp ((i : Int) + 1)) c n load (ready.set i true) ∧ (f.aftUp ((i : Int) + 1)).n = f.n ∧ (f.aftUp ((i : Int) + 1)).l.map Po.load = f.l.map Po.load := by
  obtain ⟨h, b, q1, q2, q3, q4, q5, q6, q7⟩ := hI.pod i hi
  rw [hr] at q5; cases q5
  have hst : h.p.st = 1 := q6
  have ha : h.p.aftUp = ⟨h.p.c, 2, h.p.l⟩ := by unfold Pd.aftUp; rw [if_pos hst]
  have hl : (f.aftUp h.id).l = f.l.set i (h.to ⟨h.p.c, 2, h.p.l⟩) := by
    have := chgP_at hI.ok.l q1 (g := Pd.aftUp) (by rw [ha]; show (2 : Int) ≠ 4; decide)
    rw [ha] at this
    exact this
  rw [← q2]
  refine ⟨?_, ?_, rfl, ?_⟩
  · unfold Fl.up
    rw [findP_at hI.ok.l.ids q1]
    exact if_pos hst
  · have := hI.set (p := ⟨h.p.c, 2, h.p.l⟩) (b := true) (Fl.ok_up hI.ok h.id) q1 hl rfl rfl
    rwa [set_same (show load[i]? = some ((⟨h.p.c, 2, h.p.l⟩ : Pd).l.length : Int) from q7)] at this
  · rw [hl, List.map_set]
    exact set_same (by rw [List.getElem?_map, q1]; rfl)
/-- One request more: whom it goes to. -/
theorem take (hI : PickI f c n load ready) {x : Int} (hx : wf64 x) (hw : whoL f.l x = 0) :
    (pickP f.l rvA1 = none ∧ f.takeB rvA1 x = false ∧ f.take rvA1 x = 0 ∧ f.aftTake rvA1 x = f) ∨
    ∃ (i : Nat) (h : Po), pickP f.l rvA1 = some h ∧ i < n ∧ h.id = (i : Int) + 1 ∧ f.takeB rvA1 x = true ∧ f.take rvA1 x = (i : Int) + 1 ∧ load[i]? = some (h.load : Int) ∧ (h.load : Int) < c ∧ ready[i]? = some true ∧ PickI (f.aftTake rvA1 x) c n (load.set i ((h.load : Int) + 1)) ready ∧
      whoL (f.aftTake rvA1 x).l x = (i : Int) + 1 ∧ (∀ y, y ≠ x → whoL (f.aftTake rvA1 x).l y = whoL f.l y) ∧ (f.aftTake rvA1 x).n = f.n := by
  have hwn : whereP f.l x = none := by
    cases q : whereP f.l x with
    | none => rfl
    | some b =>
      unfold whoL at hw; rw [q] at hw
      have := hI.ok.rng b (whereP_mem q).1
      have hw : b.id = 0 := hw
      omega
  have hT : f.takeH rvA1 x = pickP f.l rvA1 := by unfold Fl.takeH; rw [hwn]
  cases e : pickP f.l rvA1 with
  | none =>
    obtain ⟨q1, q2, q3⟩ := Fl.take_none (hT.trans e)
    exact .inl ⟨rfl, q2, q1, q3⟩
  | some h =>
    obtain ⟨i, hi, hp, hrv, hst, hld, _, hno, ht, hb, hf, hk, hwx, hwy⟩ := Fl.take_some hI.ok hx (hT.trans e)
    have hin : i < n := by rw [← hI.len]; exact (List.getElem?_eq_some_iff.1 hi).1
    obtain ⟨h', b', q1, q2, q3, q4, q5, q6, q7⟩ := hI.pod i hin
    rw [hi] at q1; cases q1
    have hb' : b' = true := by
      cases b' with
      | true => rfl
      | false => have q6 : h.p.st = 1 := q6; omega
    subst hb'
    have hcb := (hI.ok.l.pod h (List.mem_of_getElem? hi)).1.c
    have hS := hI.set (p := ⟨h.p.c, h.p.st, insZ h.p.l x⟩) (b := true) (Fl.ok_take hI.ok rvA1 hx) hi (by rw [hf]) rfl (by show h.p.st = 2; exact hst)
    rw [set_same q5] at hS
    have hlen : ((insZ h.p.l x).length : Int) = (h.load : Int) + 1 := by rw [insZ_len]; unfold Po.load; omega
    refine .inr ⟨i, h, rfl, hin, q2, hb, by rw [ht, q2], q7, by rw [← q4]; exact hld, q5, by rw [← hlen]; exact hS, by rw [hwx, q2], hwy, by rw [hf]⟩
/-- One request less. -/
theorem give (hI : PickI f c n load ready) {x : Int} {i : Nat} (hw : whoL f.l x = (i : Int) + 1) : i < n ∧ f.give x = 0 ∧ f.giveR x = rvA1 ∧ ∃ m : Nat, load[i]? = some ((m : Int) + 1) ∧ (m : Int) + 1 ≤ c ∧ PickI (f.aftGive x) c n (load.set i (m : Int)) ready ∧
    whoL (f.aftGive x).l x = 0 ∧ ∀ y, y ≠ x → whoL (f.aftGive x).l y = whoL f.l y := by
  have hst3 : ∀ b, b ∈ f.l → b.p.st ≠ 3 := fun b hb => by
    obtain ⟨j, hj⟩ := mem_at hb
    obtain ⟨h', b', q1, q2, q3, q4, q5, q6, q7⟩ := hI.pod j (by rw [← hI.len]; exact (List.getElem?_eq_some_iff.1 hj).1)
    rw [hj] at q1; cases q1
    rw [q6]; split <;> decide
  obtain ⟨j, h, hj, hid, hx, g1, g2, g3, g4, g5, g6⟩ := Fl.give_some hI.ok (by rw [hw]; omega) hst3
  have hjn : j < n := by rw [← hI.len]; exact (List.getElem?_eq_some_iff.1 hj).1
  obtain ⟨h', b', q1, q2, q3, q4, q5, q6, q7⟩ := hI.pod j hjn
  rw [hj] at q1; cases q1
  obtain rfl : j = i := by omega
  have hcl := cutZ_len (Pd.nodup (hI.ok.l.pod h (List.mem_of_getElem? hj)).1) hx
  have hS := hI.set (p := ⟨h.p.c, h.p.st, cutZ h.p.l x⟩) (b := b') (Fl.ok_give hI.ok x) hj (by rw [g3]) rfl (by show h.p.st = _; exact q6)
  rw [set_same q5] at hS
  refine ⟨hjn, g1, g2.trans q3, (cutZ h.p.l x).length, ?_, by have := (hI.ok.l.pod h (List.mem_of_getElem? hj)).1.len; rw [q4] at this; omega, hS, g5, g6⟩
  rw [q7]
  unfold Po.load
  rw [← hcl]
  simp
theorem none (hI : PickI f c n load ready) {x : Int} (hw : whoL f.l x = 0) : f.give x = 6 ∧ f.giveR x = ⟨#[]⟩ ∧ f.aftGive x = f := Fl.give_none hw hI.ok
def bestV (o : Option Po) : Int := match o with | .none => -1 | some h => h.id - 1
theorem best_start (f : Fl) : bestV (pickP (f.l.take 0) rvA1) = -1 := rfl
theorem best_end (hI : PickI f c n load ready) : pickP (f.l.take n) rvA1 = pickP f.l rvA1 := by rw [List.take_of_length_le (by rw [hI.len]; exact Nat.le_refl _)]
theorem best_step (hI : PickI f c n load ready) {k : Nat} (hk : k < n) {b : Bool} {x : Int} (hr : ready[k]? = some b) (hl : load[k]? = some x) :
    ((b = false ∨ ¬ x < c) ∧ bestV (pickP (f.l.take (k + 1)) rvA1) = bestV (pickP (f.l.take k) rvA1)) ∨
    ((b = true ∧ x < c) ∧ bestV (pickP (f.l.take k) rvA1) = -1 ∧ bestV (pickP (f.l.take (k + 1)) rvA1) = k) ∨
    ((b = true ∧ x < c) ∧ ∃ (j : Nat) (y : Int), j < k ∧ bestV (pickP (f.l.take k) rvA1) = j ∧ load[j]? = some y ∧ ((x < y ∧ bestV (pickP (f.l.take (k + 1)) rvA1) = k) ∨ (¬ x < y ∧ bestV (pickP (f.l.take (k + 1)) rvA1) = j))) := by
  obtain ⟨h, b', q1, q2, q3, q4, q5, q6, q7⟩ := hI.pod k hk
  rw [hr] at q5; cases q5
  rw [hl] at q7; cases q7
  have hs : pickP (f.l.take (k + 1)) rvA1 = pickS rvA1 (pickP (f.l.take k) rvA1) h := by
    rw [List.take_add_one, q1]
    exact pickP_snoc _ _ _
  rw [hs]
  by_cases e : b = true ∧ (h.load : Int) < c
  · have hif : h.rv = rvA1 ∧ h.p.st = 2 ∧ (h.load : Int) < h.p.c := ⟨q3, by rw [q6, if_pos e.1], by rw [q4]; exact e.2⟩
    refine .inr ?_
    unfold pickS
    rw [if_pos hif]
    cases ep : pickP (f.l.take k) rvA1 with
    | none => exact .inl ⟨e, rfl, by show h.id - 1 = _; omega⟩
    | some a =>
      obtain ⟨ha, _, _, _⟩ := pickP_mem ep
      obtain ⟨j, hj⟩ := mem_at ha
      have hjk : j < k := by have := (List.getElem?_eq_some_iff.1 hj).1; rw [List.length_take] at this; omega
      rw [List.getElem?_take_of_lt hjk] at hj
      obtain ⟨a', b'', p1, p2, p3, p4, p5, p6, p7⟩ := hI.pod j (by omega)
      rw [hj] at p1; cases p1
      refine .inr ⟨e, j, _, hjk, by show a.id - 1 = _; omega, p7, ?_⟩
      by_cases hc : h.load < a.load
      · dsimp only; rw [if_pos hc]
        exact .inl ⟨by omega, by show h.id - 1 = _; omega⟩
      · dsimp only; rw [if_neg hc]
        exact .inr ⟨by omega, by show a.id - 1 = _; omega⟩
  · refine .inl ⟨?_, ?_⟩
    · cases b with
      | false => exact .inl rfl
      | true => exact .inr (fun q => e ⟨rfl, q⟩)
    · unfold pickS
      have hno : ¬ (h.rv = rvA1 ∧ h.p.st = 2 ∧ (h.load : Int) < h.p.c) := fun q => by
        refine e ⟨?_, by rw [← q4]; exact q.2.2⟩
        have h2 := q.2.1
        rw [q6] at h2
        by_cases hb : b = true
        · exact hb
        · rw [if_neg hb] at h2; cases h2
      rw [if_neg hno]
theorem who0 (hI : PickI f c n (List.replicate n 0) ready) (y : Int) : whoL f.l y = 0 := who_no fun b hb hy => by
  obtain ⟨j, hj⟩ := mem_at hb
  have hjn : j < n := by rw [← hI.len]; exact (List.getElem?_eq_some_iff.1 hj).1
  obtain ⟨h', b', q1, q2, q3, q4, q5, q6, q7⟩ := hI.pod j hjn
  rw [hj] at q1; cases q1
  rw [List.getElem?_replicate, if_pos hjn] at q7
  injection q7 with q7
  have : b.p.l.length = 0 := by unfold Po.load at q7; omega
  rw [List.eq_nil_of_length_eq_zero this] at hy
  cases hy
theorem no_other (hI : PickI f c n load ready) (x : Int) : f.takeB rvA2 x = false ∧ f.take rvA2 x = 0 ∧ f.aftTake rvA2 x = f := by
  have hp : pickP f.l rvA2 = Option.none := by
    cases e : pickP f.l rvA2 with
    | none => rfl
    | some h =>
      obtain ⟨hh, hrv, _⟩ := pickP_mem e
      obtain ⟨j, hj⟩ := mem_at hh
      obtain ⟨h', b', q1, q2, q3, _⟩ := hI.pod j (by rw [← hI.len]; exact (List.getElem?_eq_some_iff.1 hj).1)
      rw [hj] at q1; cases q1
      rw [q3] at hrv
      exact absurd hrv (by decide)
  have ht : f.takeH rvA2 x = Option.none := by
    unfold Fl.takeH
    cases whereP f.l x with
    | none => exact hp
    | some b => rfl
  obtain ⟨q1, q2, q3⟩ := Fl.take_none ht
  exact ⟨q2, q1, q3⟩
end PickI
/-- What a row tells of who has each request. -/
structure WhI (f : Fl) (whr : List Int) : Prop where
  who : ∀ q, q < whr.length → whr[q]? = some (whoL f.l ((q : Int) + 1) - 1)
  rng : ∀ y, whoL f.l y ≠ 0 → 1 ≤ y ∧ y ≤ whr.length
theorem WhI.set {f f2 : Fl} {whr : List Int} (h : WhI f whr) {q : Nat} (hq : q < whr.length) (h0 : whoL f2.l ((q : Int) + 1) = 0) (hy : ∀ y, y ≠ (q : Int) + 1 → whoL f2.l y = whoL f.l y) : WhI f2 (whr.set q (-1)) := by
  refine ⟨fun j hj => ?_, fun y hy2 => ?_⟩
  · rw [List.length_set] at hj
    rw [List.getElem?_set]
    by_cases e : q = j
    · subst e
      rw [if_pos rfl, if_pos hq, h0]; rfl
    · rw [if_neg e, h.who j hj, hy _ (by omega)]
  · rw [List.length_set]
    by_cases e : y = (q : Int) + 1
    · subst e; exact absurd h0 hy2
    · rw [hy y e] at hy2; exact h.rng y hy2
theorem WhI.add {f f2 : Fl} {whr : List Int} (h : WhI f whr) {v : Int} (h0 : whoL f2.l ((whr.length : Int) + 1) - 1 = v) (hy : ∀ y, y ≠ (whr.length : Int) + 1 → whoL f2.l y = whoL f.l y) : WhI f2 (whr ++ [v]) := by
  refine ⟨fun j hj => ?_, fun y hy2 => ?_⟩
  · rw [List.length_append, List.length_singleton] at hj
    rcases Nat.lt_or_ge j whr.length with e | e
    · rw [List.getElem?_append_left e, h.who j e, hy _ (by omega)]
    · obtain rfl : j = whr.length := by omega
      rw [List.getElem?_append_right (Nat.le_refl _), Nat.sub_self, h0]; rfl
  · rw [List.length_append, List.length_singleton]
    by_cases e : y = (whr.length : Int) + 1
    · omega
    · rw [hy y e] at hy2; have := h.rng y hy2; omega
theorem WhI.fresh {f : Fl} {whr : List Int} (h : WhI f whr) : whoL f.l ((whr.length : Int) + 1) = 0 := by
  rcases Int.lt_trichotomy (whoL f.l ((whr.length : Int) + 1)) 0 with e | e | e
  · have := h.rng ((whr.length : Int) + 1) (by omega); omega
  · exact e
  · have := h.rng ((whr.length : Int) + 1) (by omega); omega

/-- Those that may be drained. -/
def canP (rv : ByteArray) (h : Po) : Bool := decide (h.rv = rv) && h.act
def actL (rv : ByteArray) (l : List Po) : List Po := l.filter (canP rv)
theorem can_iff {rv : ByteArray} {h : Po} : canP rv h = true ↔ h.rv = rv ∧ h.act = true := by unfold canP; simp
theorem lastP_act (rv : ByteArray) (l : List Po) : lastP (actL rv l) rv = lastP l rv := by
  unfold lastP actL
  rw [List.foldl_filter]
  congr 1
  funext b h
  unfold lastS
  by_cases e : h.rv = rv ∧ h.act = true
  · rw [if_pos (can_iff.2 e), if_pos e]
  · rw [if_neg (fun q => e (can_iff.1 q)), if_neg e]
theorem act_chg (rv : ByteArray) (id : Int) (l : List Po) : actL rv (chgP l id Pd.aftDrain) = (actL rv l).filter fun b => decide (b.id ≠ id) := by
  unfold actL chgP
  induction l with
  | nil => rfl
  | cons b l ih =>
    have h1 : ∀ (x : Po) (m : List Po), canP rv x = false → List.filter (canP rv) (List.filter Po.alive (x :: m)) = List.filter (canP rv) (List.filter Po.alive m) := fun x m hx => by
      rw [List.filter_cons]
      split
      · rw [List.filter_cons_of_neg (by rw [hx]; decide)]
      · rfl
    by_cases e : b.id = id
    · have hA : canP rv (b.to b.p.aftDrain) = false := by
        have : (b.to b.p.aftDrain).act = false := by
          by_cases ha : b.act = true
          · exact drain_act ha
          · have hn : ¬ (b.p.st = 1 ∨ b.p.st = 2) := fun q => ha (act_iff.2 q)
            have : b.p.aftDrain = b.p := by unfold Pd.aftDrain; rw [if_neg hn]
            rw [this]
            show b.act = false
            simpa using ha
        unfold canP
        rw [this, Bool.and_false]
      rw [List.map_cons, if_pos e, h1 _ _ hA, ih]
      have h2 : ∀ m : List Po, List.filter (fun b => decide (b.id ≠ id)) (List.filter (canP rv) (b :: m)) = List.filter (fun b => decide (b.id ≠ id)) (List.filter (canP rv) m) := fun m => by
        rw [List.filter_cons]
        split
        · rw [List.filter_cons_of_neg (by simp [e])]
        · rfl
      rw [h2]
    · rw [List.map_cons, if_neg e]
      by_cases hA : canP rv b = true
      · have hal : b.alive = true := alive_iff.2 (by
          have := act_iff.1 (can_iff.1 hA).2
          omega)
        rw [List.filter_cons_of_pos hal, List.filter_cons_of_pos hA, ih, List.filter_cons_of_pos hA, List.filter_cons_of_pos (by simp [e])]
      · have hA' : canP rv b = false := by simpa using hA
        rw [h1 _ _ hA', ih, List.filter_cons_of_neg hA]
/-- Which go, one by one, out of those that may. -/
def goneM (rv : ByteArray) : Nat → List Po → List Int
  | 0, _ => []
  | k + 1, M => match lastP M rv with
    | none => []
    | some h => h.id :: goneM rv k (M.filter fun b => decide (b.id ≠ h.id))
theorem gone_is (rv : ByteArray) : ∀ (k : Nat) (l : List Po), (drainP rv k l).2 = goneM rv k (actL rv l)
  | 0, l => rfl
  | k + 1, l => by
    have hl := lastP_act rv l
    show (match lastP l rv with | none => (l, ([] : List Int)) | some h => ((drainP rv k (chgP l h.id Pd.aftDrain)).1, h.id :: (drainP rv k (chgP l h.id Pd.aftDrain)).2)).2 = (match lastP (actL rv l) rv with | none => [] | some h => h.id :: goneM rv k ((actL rv l).filter fun b => decide (b.id ≠ h.id)))
    rw [hl]
    cases e : lastP l rv with
    | none => rfl
    | some h =>
      show h.id :: (drainP rv k (chgP l h.id Pd.aftDrain)).2 = h.id :: _
      rw [gone_is rv k, act_chg]
/-- Those that are not out. -/
def notOut (ou : List Bool) (b : Po) : Bool := !(ou.getD (b.id - 1).toNat false)
def bd (o : Option Po) : Int := match o with | none => 0 | some h => h.id
namespace PickI
variable {f : Fl} {c : Int} {n : Nat} {load : List Int} {ready : List Bool}
theorem acts (hI : PickI f c n load ready) : actL rvA1 f.l = f.l := by
  refine List.filter_eq_self.2 fun b hb => ?_
  obtain ⟨j, hj⟩ := mem_at hb
  obtain ⟨h', b', q1, q2, q3, q4, q5, q6, q7⟩ := hI.pod j (by rw [← hI.len]; exact (List.getElem?_eq_some_iff.1 hj).1)
  rw [hj] at q1; cases q1
  exact can_iff.2 ⟨q3, act_iff.2 (by rw [q6]; split <;> decide)⟩
theorem count (hI : PickI f c n load ready) : countP f.l rvA1 = n := by
  have := hI.acts
  show (actL rvA1 f.l).length = n
  rw [this, hI.len]
/-- Fewer are asked for. -/
theorem down (hI : PickI f c n load ready) {w : Nat} (hw : w ≤ n) : f.made rvA1 w = [] ∧ f.gone rvA1 w = goneM rvA1 (n - w) f.l ∧ (goneM rvA1 (n - w) f.l).length = n - w := by
  have hc := hI.count
  have hm : f.more rvA1 w = 0 := by unfold Fl.more; rw [hc]; omega
  have hl : f.less rvA1 w = n - w := by unfold Fl.less; rw [hc]; omega
  have hg : f.gone rvA1 w = goneM rvA1 (n - w) f.l := by unfold Fl.gone; rw [hl, gone_is, hI.acts]
  refine ⟨by unfold Fl.made; rw [hm]; rfl, hg, ?_⟩
  have := (drainP_ok rvA1 (n - w) f.l hI.ok.l (by rw [hc]; omega)).2.2.1
  rw [gone_is, hI.acts] at this
  exact this
theorem at_ (hI : PickI f c n load ready) {k : Nat} (hk : k < n) : ∃ h, f.l[k]? = some h ∧ h.id = (k : Int) + 1 := by
  obtain ⟨h, b, q1, q2, _⟩ := hI.pod k hk
  exact ⟨h, q1, q2⟩
theorem down_step (hI : PickI f c n load ready) (h0 : ∀ i : Nat, ready[i]? = some false → load[i]? = some 0) (ou : List Bool) {k : Nat} (hk : k < n) {rk : Bool} (hr : ready[k]? = some rk) {xk : Int} (hx : load[k]? = some xk) {o : Bool} (ho : ou[k]? = some o) :
    (o = true ∧ bd (lastP ((f.l.take (k + 1)).filter (notOut ou)) rvA1) = bd (lastP ((f.l.take k).filter (notOut ou)) rvA1)) ∨
    (o = false ∧ bd (lastP ((f.l.take k).filter (notOut ou)) rvA1) = 0 ∧ bd (lastP ((f.l.take (k + 1)).filter (notOut ou)) rvA1) = (k : Int) + 1) ∨
    (o = false ∧ ∃ (j : Nat) (rb : Bool) (xb : Int), j < k ∧ bd (lastP ((f.l.take k).filter (notOut ou)) rvA1) = (j : Int) + 1 ∧ ready[j]? = some rb ∧ load[j]? = some xb ∧
      ((rk = false ∧ bd (lastP ((f.l.take (k + 1)).filter (notOut ou)) rvA1) = (k : Int) + 1) ∨ (rk = true ∧ rb = false ∧ bd (lastP ((f.l.take (k + 1)).filter (notOut ou)) rvA1) = (j : Int) + 1) ∨
       (rk = true ∧ rb = true ∧ ((xk ≤ xb ∧ bd (lastP ((f.l.take (k + 1)).filter (notOut ou)) rvA1) = (k : Int) + 1) ∨ (¬ xk ≤ xb ∧ bd (lastP ((f.l.take (k + 1)).filter (notOut ou)) rvA1) = (j : Int) + 1))))) := by
  obtain ⟨h, b', q1, q2, q3, q4, q5, q6, q7⟩ := hI.pod k hk
  rw [hr] at q5; cases q5
  have hx0 := hx
  rw [q7] at hx; cases hx
  have hP : notOut ou h = !o := by
    unfold notOut
    rw [q2, show ((k : Int) + 1 - 1).toNat = k by omega, List.getD_eq_getElem?_getD, ho]
    rfl
  have htk : f.l.take (k + 1) = f.l.take k ++ [h] := by rw [List.take_add_one, q1]; rfl
  cases o with
  | true =>
    refine .inl ⟨rfl, ?_⟩
    rw [htk, List.filter_append, List.filter_cons_of_neg (by rw [hP]; decide), List.filter_nil, List.append_nil]
  | false =>
    have hs : lastP ((f.l.take (k + 1)).filter (notOut ou)) rvA1 = lastS rvA1 (lastP ((f.l.take k).filter (notOut ou)) rvA1) h := by
      rw [htk, List.filter_append, List.filter_cons_of_pos (by rw [hP]; rfl), List.filter_nil]
      exact lastP_snoc _ _ _
    rw [hs]
    have hact : h.act = true := act_iff.2 (by rw [q6]; split <;> decide)
    refine .inr ?_
    unfold lastS
    rw [if_pos ⟨q3, hact⟩]
    cases ep : lastP ((f.l.take k).filter (notOut ou)) rvA1 with
    | none => exact .inl ⟨rfl, rfl, q2⟩
    | some a =>
      obtain ⟨ha, _, _⟩ := lastP_mem ep
      obtain ⟨j, hj⟩ := mem_at (List.mem_filter.1 ha).1
      have hjk : j < k := by have := (List.getElem?_eq_some_iff.1 hj).1; rw [List.length_take] at this; omega
      rw [List.getElem?_take_of_lt hjk] at hj
      obtain ⟨a', rb, p1, p2, p3, p4, p5, p6, p7⟩ := hI.pod j (by omega)
      rw [hj] at p1; cases p1
      refine .inr ⟨rfl, j, rb, _, hjk, p2, p5, p7, ?_⟩
      dsimp only
      cases rk with
      | false =>
        have hk0 := h0 k hr
        rw [hk0] at q7
        injection q7 with q7
        have hst : h.p.st = 1 := q6
        refine .inl ⟨rfl, ?_⟩
        rw [if_pos]
        · exact q2
        · unfold Po.before
          cases rb with
          | false =>
            have hb : a.p.st = 1 := p6
            exact .inr ⟨by omega, by omega⟩
          | true =>
            have hb : a.p.st = 2 := p6
            exact .inl (by omega)
      | true =>
        have hst : h.p.st = 2 := q6
        cases rb with
        | false =>
          have hb : a.p.st = 1 := p6
          refine .inr (.inl ⟨rfl, rfl, ?_⟩)
          rw [if_neg]
          · exact p2
          · unfold Po.before; omega
        | true =>
          have hb : a.p.st = 2 := p6
          refine .inr (.inr ⟨rfl, rfl, ?_⟩)
          by_cases hc : h.load ≤ a.load
          · refine .inl ⟨by omega, ?_⟩
            rw [if_pos]
            · exact q2
            · unfold Po.before; omega
          · refine .inr ⟨by omega, ?_⟩
            rw [if_neg]
            · exact p2
            · unfold Po.before; omega
theorem out_set (hI : PickI f c n load ready) (ou : List Bool) (hn : ou.length = n) {j : Nat} (hj : j < n) : f.l.filter (notOut (ou.set j true)) = (f.l.filter (notOut ou)).filter fun b => decide (b.id ≠ (j : Int) + 1) := by
  rw [List.filter_filter]
  refine List.filter_congr fun b hb => ?_
  obtain ⟨i, hi⟩ := mem_at hb
  have hin : i < n := by rw [← hI.len]; exact (List.getElem?_eq_some_iff.1 hi).1
  obtain ⟨h', b', q1, q2, _⟩ := hI.pod i hin
  rw [hi] at q1; cases q1
  unfold notOut
  rw [q2, show ((i : Int) + 1 - 1).toNat = i by omega, List.getD_eq_getElem?_getD, List.getD_eq_getElem?_getD, List.getElem?_set]
  by_cases e : j = i
  · subst e
    rw [if_pos rfl, if_pos (by omega)]
    simp
  · rw [if_neg e]
    have : decide ((i : Int) + 1 ≠ (j : Int) + 1) = true := decide_eq_true (by omega)
    rw [this, Bool.true_and]
theorem out_none (hI : PickI f c n load ready) : f.l.filter (notOut (List.replicate n false)) = f.l := List.filter_eq_self.2 fun b hb => by
  unfold notOut
  rw [List.getD_eq_getElem?_getD, List.getElem?_replicate]
  split <;> rfl
theorem best_all (hI : PickI f c n load ready) (ou : List Bool) : (f.l.take n).filter (notOut ou) = f.l.filter (notOut ou) := by rw [List.take_of_length_le (by rw [hI.len]; exact Nat.le_refl _)]
end PickI
/-- The next that goes. -/
theorem goneM_next {rv : ByteArray} {k : Nat} {M : List Po} (hl : (goneM rv (k + 1) M).length = k + 1) : ∃ h, lastP M rv = some h ∧ goneM rv (k + 1) M = h.id :: goneM rv k (M.filter fun b => decide (b.id ≠ h.id)) := by
  cases e : lastP M rv with
  | none =>
    have : goneM rv (k + 1) M = [] := by unfold goneM; rw [e]
    rw [this] at hl; cases hl
  | some h => exact ⟨h, rfl, by conv => lhs; unfold goneM; rw [e]⟩

def ofA (l : List Po) : List Po := l.filter fun h => decide (h.rv = rvA1)
structure ApQ (l : List Po) : Prop where
  pod : ∀ h, h ∈ l → (h.rv = rvA1 ∧ h.id ≤ 3 ∧ ∀ y, y ∈ h.p.l → y ≤ 20) ∨ (h.rv ≠ rvA1 ∧ 3 < h.id ∧ ∀ y, y ∈ h.p.l → 100 ≤ y)
theorem ofA_chg (l : List Po) (id : Int) (g : Pd → Pd) : ofA (chgP l id g) = chgP (ofA l) id g := by
  unfold ofA chgP
  induction l with
  | nil => rfl
  | cons b l ih =>
    have hrv : (if b.id = id then b.to (g b.p) else b).rv = b.rv := by split <;> rfl
    rw [List.map_cons]
    by_cases e : b.rv = rvA1
    · rw [List.filter_cons_of_pos (p := fun h : Po => decide (h.rv = rvA1)) (l := l) (by simpa using e), List.map_cons]
      by_cases ha : (if b.id = id then b.to (g b.p) else b).alive = true
      · rw [List.filter_cons_of_pos ha, List.filter_cons_of_pos (by rw [hrv]; simpa using e), List.filter_cons_of_pos ha, ih]
      · rw [List.filter_cons_of_neg ha, List.filter_cons_of_neg ha, ih]
    · rw [List.filter_cons_of_neg (p := fun h : Po => decide (h.rv = rvA1)) (l := l) (by simpa using e)]
      by_cases ha : (if b.id = id then b.to (g b.p) else b).alive = true
      · rw [List.filter_cons_of_pos ha, List.filter_cons_of_neg (by rw [hrv]; simpa using e), ih]
      · rw [List.filter_cons_of_neg ha, ih]
theorem ApQ.keep {l : List Po} (hq : ApQ l) (ok : PosOk l) {id : Int} (hid : 3 < id) (g : Pd → Pd) : ofA (chgP l id g) = ofA l := by
  rw [ofA_chg]
  refine chgP_no (ok.sub List.filter_sublist) (fun b hb => ?_) g
  obtain ⟨h1, h2⟩ := List.mem_filter.1 hb
  rcases hq.pod b h1 with ⟨_, h3, _⟩ | ⟨h3, _⟩
  · omega
  · exact absurd (by simpa using h2) h3
theorem ApQ.chg {l : List Po} (hq : ApQ l) {id : Int} {g : Pd → Pd} (hg : ∀ h, h ∈ l → h.id = id → ∀ y, y ∈ (g h.p).l → y ∈ h.p.l ∨ (h.rv = rvA1 ∧ y ≤ 20) ∨ (h.rv ≠ rvA1 ∧ 100 ≤ y)) : ApQ (chgP l id g) := by
  refine ⟨fun b hb => ?_⟩
  unfold chgP at hb
  obtain ⟨a, ha, rfl⟩ := List.mem_map.1 (List.mem_filter.1 hb).1
  split
  · rename_i e
    have h := hg a ha e
    rcases hq.pod a ha with ⟨h1, h2, h3⟩ | ⟨h1, h2, h3⟩
    · refine .inl ⟨h1, h2, fun y hy => ?_⟩
      rcases h y hy with q | q | q
      · exact h3 y q
      · exact q.2
      · exact absurd h1 q.1
    · refine .inr ⟨h1, h2, fun y hy => ?_⟩
      rcases h y hy with q | q | q
      · exact h3 y q
      · exact absurd q.1 h1
      · exact q.2
  · exact hq.pod a ha
theorem pick_ofA (l : List Po) : pickP (ofA l) rvA1 = pickP l rvA1 := by
  unfold pickP ofA
  rw [List.foldl_filter]
  congr 1
  funext b h
  unfold pickS
  by_cases e : h.rv = rvA1
  · rw [if_pos (by simpa using e)]
  · rw [if_neg (by simpa using e), if_neg (fun q => e q.1)]
theorem find_congr {α : Type} {p q : α → Bool} : ∀ {l : List α}, (∀ a, a ∈ l → p a = q a) → l.find? p = l.find? q
  | [], _ => rfl
  | b :: l, h => by
    rw [List.find?_cons, List.find?_cons, h b List.mem_cons_self, find_congr fun a ha => h a (List.mem_cons_of_mem _ ha)]
theorem where_ofA {l : List Po} (hq : ApQ l) {x : Int} (hx : x ≤ 20) : whereP (ofA l) x = whereP l x := by
  unfold whereP ofA
  rw [List.find?_filter]
  refine find_congr fun b hb => ?_
  rcases hq.pod b hb with ⟨h1, _⟩ | ⟨h1, _, h3⟩
  · simp [h1]
  · have : x ∉ b.p.l := fun q => by have := h3 x q; omega
    simp [this]
theorem whereP_A {l : List Po} (hq : ApQ l) {x : Int} (hx : 100 ≤ x) {h : Po} (e : whereP l x = some h) : 3 < h.id ∧ h.rv ≠ rvA1 := by
  obtain ⟨h1, h2⟩ := whereP_mem e
  rcases hq.pod h h1 with ⟨_, _, h3⟩ | ⟨h3, h4, _⟩
  · have := h3 x h2; omega
  · exact ⟨h4, h3⟩
/-- Both are asked for a request of the first revision. -/
theorem ap_take {f x : Fl} (ok : f.ok) (hq : ApQ f.l) (e : ofA f.l = x.l) {y : Int} (hy : y ≤ 20) : f.take rvA1 y = x.take rvA1 y ∧ f.takeB rvA1 y = x.takeB rvA1 y ∧ ofA (f.aftTake rvA1 y).l = (x.aftTake rvA1 y).l ∧ ApQ (f.aftTake rvA1 y).l ∧ (f.aftTake rvA1 y).n = f.n := by
  have ht : f.takeH rvA1 y = x.takeH rvA1 y := by
    unfold Fl.takeH
    rw [← e, where_ofA hq hy, pick_ofA]
  refine ⟨by unfold Fl.take; rw [ht], by unfold Fl.takeB; rw [ht], ?_, ?_, ?_⟩
  · unfold Fl.aftTake
    rw [ht]
    cases x.takeH rvA1 y with
    | none => exact e
    | some h => show ofA (chgP f.l h.id fun p => p.aftTake y) = chgP x.l h.id fun p => p.aftTake y; rw [ofA_chg, e]
  · unfold Fl.aftTake
    cases ht2 : f.takeH rvA1 y with
    | none => exact hq
    | some h =>
      obtain ⟨_, hp⟩ := Fl.takeH_some ht2
      obtain ⟨hh, hrv, _⟩ := pickP_mem hp
      show ApQ (chgP f.l h.id fun p => p.aftTake y)
      refine hq.chg fun b hb hid z hz => ?_
      obtain ⟨i, hi⟩ := mem_at hh
      obtain ⟨j, hj⟩ := mem_at hb
      have := find_unique ok.l.ids hi hj hid
      subst this
      rw [hi] at hj; cases hj
      rcases take_l _ _ _ hz with rfl | hz
      · exact .inr (.inl ⟨hrv, hy⟩)
      · exact .inl hz
  · unfold Fl.aftTake
    cases f.takeH rvA1 y <;> rfl
theorem ap_takeB {f : Fl} (ok : f.ok) (hq : ApQ f.l) {y : Int} (hy : 100 ≤ y) : ofA (f.aftTake rvB1 y).l = ofA f.l ∧ ApQ (f.aftTake rvB1 y).l ∧ (f.aftTake rvB1 y).n = f.n := by
  unfold Fl.aftTake
  cases ht2 : f.takeH rvB1 y with
  | none => exact ⟨rfl, hq, rfl⟩
  | some h =>
    obtain ⟨_, hp⟩ := Fl.takeH_some ht2
    obtain ⟨hh, hrv, _⟩ := pickP_mem hp
    have hne : h.rv ≠ rvA1 := by rw [hrv]; decide
    have hid : 3 < h.id := by
      rcases hq.pod h hh with ⟨h1, _⟩ | ⟨_, h2, _⟩
      · exact absurd h1 hne
      · exact h2
    refine ⟨hq.keep ok.l hid fun p => p.aftTake y, ?_, rfl⟩
    show ApQ (chgP f.l h.id fun p => p.aftTake y)
    refine hq.chg fun b hb hid z hz => ?_
    obtain ⟨i, hi⟩ := mem_at hh
    obtain ⟨j, hj⟩ := mem_at hb
    have := find_unique ok.l.ids hi hj hid
    subst this
    rw [hi] at hj; cases hj
    rcases take_l _ _ _ hz with rfl | hz
    · exact .inr (.inr ⟨hne, hy⟩)
    · exact .inl hz
theorem ap_give {f : Fl} (ok : f.ok) (hq : ApQ f.l) {y : Int} (hy : 100 ≤ y) : ofA (f.aftGive y).l = ofA f.l ∧ ApQ (f.aftGive y).l ∧ (f.aftGive y).n = f.n := by
  unfold Fl.aftGive
  cases ht2 : whereP f.l y with
  | none => exact ⟨rfl, hq, rfl⟩
  | some h =>
    obtain ⟨hid, _⟩ := whereP_A hq hy ht2
    refine ⟨hq.keep ok.l hid fun p => p.aftGive y, ?_, rfl⟩
    show ApQ (chgP f.l h.id fun p => p.aftGive y)
    exact hq.chg fun b hb _ z hz => .inl (give_l _ _ _ hz)
theorem ap_up {f : Fl} (ok : f.ok) (hq : ApQ f.l) {id : Int} (hid : 3 < id) : ofA (f.aftUp id).l = ofA f.l ∧ ApQ (f.aftUp id).l ∧ (f.aftUp id).n = f.n :=
  ⟨hq.keep ok.l hid _, hq.chg fun b hb _ z hz => .inl (by rwa [up_l] at hz), rfl⟩
theorem ap_drain (rv : ByteArray) (hrv : rv ≠ rvA1) : ∀ (k : Nat) (l : List Po), PosOk l → ApQ l → ofA (drainP rv k l).1 = ofA l ∧ ApQ (drainP rv k l).1
  | 0, l, _, hq => ⟨rfl, hq⟩
  | k + 1, l, ok, hq => by
    cases e : lastP l rv with
    | none =>
      have : drainP rv (k + 1) l = (l, []) := by
        show (match lastP l rv with | none => (l, []) | some h => _) = _
        rw [e]
      rw [this]
      exact ⟨rfl, hq⟩
    | some h =>
      obtain ⟨h1, h2, h3⟩ := lastP_mem e
      have hid : 3 < h.id := by
        rcases hq.pod h h1 with ⟨q, _⟩ | ⟨_, q, _⟩
        · exact absurd (h2.symm.trans q) hrv
        · exact q
      have hr : (drainP rv (k + 1) l).1 = (drainP rv k (chgP l h.id Pd.aftDrain)).1 := by
        show (match lastP l rv with | none => (l, ([] : List Int)) | some h => ((drainP rv k (chgP l h.id Pd.aftDrain)).1, h.id :: (drainP rv k (chgP l h.id Pd.aftDrain)).2)).1 = _
        rw [e]
      obtain ⟨i1, i2⟩ := ap_drain rv hrv k (chgP l h.id Pd.aftDrain) (ok.drain h1) (hq.chg fun b hb _ z hz => .inl (by rwa [drain_l] at hz))
      rw [hr]
      exact ⟨i1.trans (hq.keep ok hid _), i2⟩
theorem ap_scale {f : Fl} (ok : f.ok) (hq : ApQ f.l) (hn : 3 ≤ f.n) {want : Int} (hw : 0 ≤ want ∧ want ≤ 10) : ofA (f.scale rvB1 1 want).l = ofA f.l ∧ ApQ (f.scale rvB1 1 want).l ∧ (f.scale rvB1 1 want).n = f.n + ((f.made rvB1 want).length : Int) ∧ (f.made rvB1 want).length ≤ 10 ∧ ∀ (j : Nat) x, (f.made rvB1 want)[j]? = some x → 3 < x ∧ x ≤ f.n + 10 := by
  have hm := f.more_le rvB1 want hw.2
  have hml : (f.made rvB1 want).length = f.more rvB1 want := idsP_len _ _
  have hB : rvB1 ≠ rvA1 := by decide
  have hids : ∀ (j : Nat) x, (f.made rvB1 want)[j]? = some x → 3 < x ∧ x ≤ f.n + 10 := fun j x hx => by
    have hj := (List.getElem?_eq_some_iff.1 hx).1
    rw [hml] at hj
    have := idsP_at (n := f.n) hj
    unfold Fl.made at hx
    rw [hx] at this
    injection this with this
    omega
  rcases f.scale_cases rvB1 1 want with ⟨h1, h2, h3, h4⟩ | ⟨h1, h2, h3, h4⟩
  · rw [h4]
    refine ⟨?_, ⟨fun b hb => ?_⟩, by rw [hml], by rw [hml]; exact hm.1, hids⟩
    · show ofA (f.l ++ newP rvB1 1 f.n (f.more rvB1 want)) = ofA f.l
      unfold ofA
      rw [List.filter_append]
      have : (newP rvB1 1 f.n (f.more rvB1 want)).filter (fun h => decide (h.rv = rvA1)) = [] := List.filter_eq_nil_iff.2 fun b hb => by
        obtain ⟨i, _, rfl⟩ := newP_mem hb
        simpa using hB
      rw [this, List.append_nil]
    · rcases List.mem_append.1 hb with hb | hb
      · exact hq.pod b hb
      · obtain ⟨i, _, rfl⟩ := newP_mem hb
        exact .inr ⟨hB, by dsimp only; omega, fun y hy => absurd hy List.not_mem_nil⟩
  · obtain ⟨d1, d2⟩ := ap_drain rvB1 hB (f.less rvB1 want) f.l ok.l hq
    rw [h4]
    exact ⟨d1, d2, by rw [h3]; simp, by rw [h3]; exact Nat.zero_le _, hids⟩
/-- How both begin. -/
def apart0 (k : Nat) : Fl := ⟨30, 3, [⟨1, rvA1, ⟨2, if 0 < k then 2 else 1, []⟩⟩, ⟨2, rvA1, ⟨2, if 1 < k then 2 else 1, []⟩⟩, ⟨3, rvA1, ⟨2, if 2 < k then 2 else 1, []⟩⟩]⟩
theorem apart_new : (Fl.new 30).made rvA1 3 = [1, 2, 3] ∧ (Fl.new 30).gone rvA1 3 = [] ∧ (Fl.new 30).scale rvA1 2 3 = apart0 0 := ⟨by decide +kernel, by decide +kernel, by kernel_rfl⟩
theorem apart_up {k : Nat} (h : k < 3) : (apart0 k).up ((k : Int) + 1) = 0 ∧ (apart0 k).aftUp ((k : Int) + 1) = apart0 (k + 1) := by
  obtain rfl | rfl | rfl : k = 0 ∨ k = 1 ∨ k = 2 := by omega
  all_goals exact ⟨by kernel_rfl, by kernel_rfl⟩
theorem apart_q : ApQ (apart0 3).l ∧ ofA (apart0 3).l = (apart0 3).l := by
  refine ⟨⟨fun h hh => ?_⟩, by kernel_rfl⟩
  simp only [apart0, List.mem_cons, List.mem_nil_iff, or_false] at hh
  rcases hh with rfl | rfl | rfl <;> exact .inl ⟨rfl, by decide, fun y hy => absurd hy List.not_mem_nil⟩
end Go.Proofs.Ytfnpghekkhnjkaa
