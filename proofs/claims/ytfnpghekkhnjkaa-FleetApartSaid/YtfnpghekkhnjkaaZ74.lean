/- My own texts FlP, FlQ, FlS, laid in one file. -/
import Derived.Test.YtfnpghekkhnjkaaZ54
import Derived.Test.YtfnpghekkhnjkaaZ1

/- Pods of revisions: plain facts. -/
namespace Go.Proofs.Ytfnpghekkhnjkaa
set_option maxRecDepth 100000
set_option linter.unusedVariables false
set_option linter.unusedSimpArgs false
open Go.RowKit

/-- A pod: its number, whose it is, what it is. -/
structure Po where
  id : Int
  rv : ByteArray
  p : Pd
namespace Po
def load (h : Po) : Nat := h.p.l.length
def act (h : Po) : Bool := h.p.st == 1 || h.p.st == 2
def alive (h : Po) : Bool := h.p.st != 4
/-- The same pod, another state. -/
def to (h : Po) (p : Pd) : Po := ⟨h.id, h.rv, p⟩
/-- Which of two is drained first. -/
def before (h b : Po) : Prop := h.p.st < b.p.st ∨ h.p.st = b.p.st ∧ h.load ≤ b.load
instance (h b : Po) : Decidable (before h b) := by unfold before; infer_instance
end Po
/-- What Pods tells of a pod. -/
def Po.look (h : Po) : List Value := [.int .i64 h.id, .int .i64 h.p.st, .int .i64 h.load]
abbrev looks (l : List Po) : List Value := l.flatMap Po.look
/-- Pods by numbers: one of them is turned, the dead go. -/
def chgP (l : List Po) (id : Int) (g : Pd → Pd) : List Po := (l.map fun h => if h.id = id then h.to (g h.p) else h).filter Po.alive
def findP (l : List Po) (id : Int) : Option Po := l.find? fun h => h.id == id
def whereP (l : List Po) (x : Int) : Option Po := l.find? fun h => decide (x ∈ h.p.l)
def lastS (rv : ByteArray) (b : Option Po) (h : Po) : Option Po :=
  if h.rv = rv ∧ h.act = true then (match b with | none => some h | some b => if h.before b then some h else some b) else b
def lastP (l : List Po) (rv : ByteArray) : Option Po := l.foldl (lastS rv) none
def pickS (rv : ByteArray) (b : Option Po) (h : Po) : Option Po :=
  if h.rv = rv ∧ h.p.st = 2 ∧ (h.load : Int) < h.p.c then (match b with | none => some h | some b => if h.load < b.load then some h else some b) else b
def pickP (l : List Po) (rv : ByteArray) : Option Po := l.foldl (pickS rv) none
def countP (l : List Po) (rv : ByteArray) : Nat := (l.filter fun h => decide (h.rv = rv) && h.act).length
/-- So many are drained, one by one. -/
def drainP (rv : ByteArray) : Nat → List Po → List Po × List Int
  | 0, l => (l, [])
  | k + 1, l => match lastP l rv with
    | none => (l, [])
    | some h => ((drainP rv k (chgP l h.id Pd.aftDrain)).1, h.id :: (drainP rv k (chgP l h.id Pd.aftDrain)).2)
/-- So many more, from n on. -/
def newP (rv : ByteArray) (c n : Int) (k : Nat) : List Po := (List.range k).map fun i : Nat => ⟨n + 1 + (i : Int), rv, Pd.new c⟩
def idsP (n : Int) (k : Nat) : List Int := (List.range k).map fun i : Nat => n + 1 + (i : Int)
structure Fl where
  room : Int
  n : Int
  l : List Po
namespace Fl
def new (room : Int) : Fl := ⟨room, 0, []⟩
/-- How many Scale makes. -/
def more (f : Fl) (rv : ByteArray) (want : Int) : Nat := min (want - countP f.l rv).toNat (f.room - f.l.length).toNat
/-- How many it drains. -/
def less (f : Fl) (rv : ByteArray) (want : Int) : Nat := (countP f.l rv - want : Int).toNat
def scale (f : Fl) (rv : ByteArray) (c want : Int) : Fl := ⟨f.room, f.n + f.more rv want, (drainP rv (f.less rv want) (f.l ++ newP rv c f.n (f.more rv want))).1⟩
def made (f : Fl) (rv : ByteArray) (want : Int) : List Int := idsP f.n (f.more rv want)
def gone (f : Fl) (rv : ByteArray) (want : Int) : List Int := (drainP rv (f.less rv want) f.l).2
def up (f : Fl) (id : Int) : Int := match findP f.l id with | none => 6 | some h => h.p.up
def aftUp (f : Fl) (id : Int) : Fl := ⟨f.room, f.n, chgP f.l id Pd.aftUp⟩
def kill (f : Fl) (id : Int) : Int := match findP f.l id with | none => 6 | some h => h.p.kill
def lost (f : Fl) (id : Int) : List Int := match findP f.l id with | none => [] | some h => h.p.lost
def aftKill (f : Fl) (id : Int) : Fl := ⟨f.room, f.n, chgP f.l id Pd.aftKill⟩
def takeH (f : Fl) (rv : ByteArray) (x : Int) : Option Po := match whereP f.l x with | none => pickP f.l rv | some _ => none
def take (f : Fl) (rv : ByteArray) (x : Int) : Int := match f.takeH rv x with | none => 0 | some h => h.id
def takeB (f : Fl) (rv : ByteArray) (x : Int) : Bool := (f.takeH rv x).isSome
def aftTake (f : Fl) (rv : ByteArray) (x : Int) : Fl := match f.takeH rv x with | none => f | some h => ⟨f.room, f.n, chgP f.l h.id (fun p => p.aftTake x)⟩
def give (f : Fl) (x : Int) : Int := match whereP f.l x with | none => 6 | some _ => 0
def giveR (f : Fl) (x : Int) : ByteArray := match whereP f.l x with | none => ⟨#[]⟩ | some h => h.rv
def aftGive (f : Fl) (x : Int) : Fl := match whereP f.l x with | none => f | some h => ⟨f.room, f.n, chgP f.l h.id (fun p => p.aftGive x)⟩
def ofP (f : Fl) (id : Int) : ByteArray := match findP f.l id with | none => ⟨#[]⟩ | some h => h.rv
def pods (f : Fl) (rv : ByteArray) : List Po := f.l.filter fun h => decide (h.rv = rv)
end Fl
/-- What is so of pods that live, side by side. -/
structure PosOk (l : List Po) : Prop where
  ids : l.Pairwise fun a b => a.id < b.id
  pod : ∀ h, h ∈ l → h.p.ok ∧ h.p.st ≠ 4 ∧ 1 ≤ h.p.c
  apart : l.Pairwise fun a b => ∀ x, x ∈ a.p.l → x ∉ b.p.l
structure Fl.ok (f : Fl) : Prop where
  room : 1 ≤ f.room ∧ f.room ≤ 30
  len : (f.l.length : Int) ≤ f.room
  n : 0 ≤ f.n ∧ f.n ≤ 100000
  rng : ∀ h, h ∈ f.l → 1 ≤ h.id ∧ h.id ≤ f.n
  l : PosOk f.l
section
variable {l : List Po} {h : Po}
theorem alive_iff : h.alive = true ↔ h.p.st ≠ 4 := by unfold Po.alive; simp
theorem PosOk.alive (ok : PosOk l) : l.filter Po.alive = l := List.filter_eq_self.2 fun h hh => alive_iff.2 (ok.pod h hh).2.1
theorem find_unique (hp : l.Pairwise fun a b => a.id < b.id) {i : Nat} (hi : l[i]? = some h) {j : Nat} {b : Po} (hj : l[j]? = some b) (e : b.id = h.id) : j = i := by
  obtain ⟨hli, ei⟩ := List.getElem?_eq_some_iff.1 hi
  obtain ⟨hlj, ej⟩ := List.getElem?_eq_some_iff.1 hj
  subst ei ej
  rcases Nat.lt_trichotomy j i with q | q | q
  · have := List.pairwise_iff_getElem.1 hp j i hlj hli q; omega
  · exact q
  · have := List.pairwise_iff_getElem.1 hp i j hli hlj q; omega
theorem findP_at (hp : l.Pairwise fun a b => a.id < b.id) {i : Nat} (hi : l[i]? = some h) : findP l h.id = some h := by
  unfold findP
  cases e : l.find? (fun b => b.id == h.id) with
  | none =>
    have := List.find?_eq_none.1 e h (List.mem_of_getElem? hi)
    simp at this
  | some b =>
    have h1 := List.find?_some e
    obtain ⟨j, hj⟩ := List.getElem?_of_mem (List.mem_of_find?_eq_some e)
    have := find_unique hp hi hj (by simpa using h1)
    subst this
    rw [hi] at hj; cases hj; rfl
theorem findP_mem {id : Int} (e : findP l id = some h) : h ∈ l ∧ h.id = id := ⟨List.mem_of_find?_eq_some e, by simpa using List.find?_some e⟩
theorem findP_none {id : Int} (e : findP l id = none) : ∀ b, b ∈ l → b.id ≠ id := fun b hb => by simpa using List.find?_eq_none.1 e b hb
theorem whereP_mem {x : Int} (e : whereP l x = some h) : h ∈ l ∧ x ∈ h.p.l := ⟨List.mem_of_find?_eq_some e, by simpa using List.find?_some e⟩
theorem whereP_none {x : Int} (e : whereP l x = none) : ∀ b, b ∈ l → x ∉ b.p.l := fun b hb => by simpa using List.find?_eq_none.1 e b hb
/-- One of them turned, still living. -/
theorem chgP_at (ok : PosOk l) {i : Nat} (hi : l[i]? = some h) {g : Pd → Pd} (hg : (g h.p).st ≠ 4) : chgP l h.id g = l.set i (h.to (g h.p)) := by
  have e : (l.map fun b => if b.id = h.id then b.to (g b.p) else b) = l.set i (h.to (g h.p)) := by
    refine List.ext_getElem? fun j => ?_
    rw [List.getElem?_map, List.getElem?_set]
    by_cases q : i = j
    · subst q
      rw [if_pos rfl, if_pos (List.getElem?_eq_some_iff.1 hi).1, hi]
      simp
    · rw [if_neg q]
      cases hj : l[j]? with
      | none => rfl
      | some b =>
        have : b.id ≠ h.id := fun e => q (find_unique ok.ids hi hj e).symm
        simp [this]
  unfold chgP
  rw [e]
  refine List.filter_eq_self.2 fun b hb => ?_
  rcases List.mem_or_eq_of_mem_set hb with hb | rfl
  · exact alive_iff.2 (ok.pod b hb).2.1
  · exact alive_iff.2 hg
/-- One of them turned, dead. -/
theorem chgP_dead (ok : PosOk l) {i : Nat} (hi : l[i]? = some h) {g : Pd → Pd} (hg : (g h.p).st = 4) : chgP l h.id g = l.eraseIdx i := by
  obtain ⟨hl, ei⟩ := List.getElem?_eq_some_iff.1 hi
  have hs : l = l.take i ++ h :: l.drop (i + 1) := by rw [← ei, ← List.drop_eq_getElem_cons hl, List.take_append_drop]
  have hne : ∀ b, b ∈ l.take i ∨ b ∈ l.drop (i + 1) → b.id ≠ h.id := by
    rintro b (hb | hb) e
    · obtain ⟨j, hj⟩ := List.getElem?_of_mem hb
      rw [List.getElem?_take] at hj
      split at hj
      · have := find_unique ok.ids hi hj e; omega
      · cases hj
    · obtain ⟨j, hj⟩ := List.getElem?_of_mem hb
      rw [List.getElem?_drop] at hj
      have := find_unique ok.ids hi hj e; omega
  rw [List.eraseIdx_eq_take_drop_succ]
  unfold chgP
  conv => lhs; rw [hs]
  rw [List.map_append, List.map_cons, if_pos rfl, List.filter_append, List.filter_cons_of_neg (by unfold Po.alive Po.to; simp [hg])]
  have e1 : ∀ (m : List Po), (∀ b, b ∈ m → b.id ≠ h.id ∧ b ∈ l) → (m.map fun b => if b.id = h.id then b.to (g b.p) else b).filter Po.alive = m := fun m hm => by
    have : (m.map fun b => if b.id = h.id then b.to (g b.p) else b) = m := by
      conv => rhs; rw [← List.map_id m]
      exact List.map_congr_left fun b hb => by simp [(hm b hb).1]
    rw [this]
    exact List.filter_eq_self.2 fun b hb => alive_iff.2 (ok.pod b (hm b hb).2).2.1
  rw [e1 _ fun b hb => ⟨hne b (.inl hb), List.mem_of_mem_take hb⟩, e1 _ fun b hb => ⟨hne b (.inr hb), List.mem_of_mem_drop hb⟩]
theorem chgP_no {id : Int} (ok : PosOk l) (hn : ∀ b, b ∈ l → b.id ≠ id) (g : Pd → Pd) : chgP l id g = l := by
  unfold chgP
  have : (l.map fun b => if b.id = id then b.to (g b.p) else b) = l := by
    conv => rhs; rw [← List.map_id l]
    exact List.map_congr_left fun b hb => by simp [hn b hb]
  rw [this, ok.alive]
theorem PosOk.sub {m : List Po} (ok : PosOk l) (hs : m.Sublist l) : PosOk m := ⟨ok.ids.sublist hs, fun h hh => ok.pod h (hs.subset hh), ok.apart.sublist hs⟩
theorem PosOk.set (ok : PosOk l) {i : Nat} (hi : l[i]? = some h) {p : Pd} (hp : p.ok ∧ p.st ≠ 4 ∧ 1 ≤ p.c) (hx : ∀ x, x ∈ p.l → x ∈ h.p.l ∨ ∀ b, b ∈ l → x ∉ b.p.l) : PosOk (l.set i (h.to p)) := by
  have hil := (List.getElem?_eq_some_iff.1 hi).1
  have hat : ∀ j b, (l.set i (h.to p))[j]? = some b → (j = i ∧ b = h.to p) ∨ (j ≠ i ∧ l[j]? = some b) := fun j b hj => by
    by_cases q : j = i
    · subst q
      rw [List.getElem?_set_self hil] at hj
      cases hj; exact .inl ⟨rfl, rfl⟩
    · rw [List.getElem?_set_ne (fun r => q r.symm)] at hj
      exact .inr ⟨q, hj⟩
  have ap : ∀ j b, l[j]? = some b → j ≠ i → (∀ x, x ∈ h.p.l → x ∉ b.p.l) ∧ b.id ≠ h.id := fun j b hj hne => by
    obtain ⟨hlj, ej⟩ := List.getElem?_eq_some_iff.1 hj
    obtain ⟨_, ei⟩ := List.getElem?_eq_some_iff.1 hi
    refine ⟨fun x hx hb => ?_, fun e => hne (find_unique ok.ids hi hj e)⟩
    subst ei ej
    rcases Nat.lt_or_gt_of_ne hne with q | q
    · exact List.pairwise_iff_getElem.1 ok.apart j i hlj hil q x hb hx
    · exact List.pairwise_iff_getElem.1 ok.apart i j hil hlj q x hx hb
  refine ⟨?_, fun b hb => ?_, ?_⟩
  · rw [List.pairwise_iff_getElem]
    intro a b ha hb hab
    have ga := List.getElem?_eq_getElem ha
    have gb := List.getElem?_eq_getElem hb
    have hm := fun a b (ha : a < l.length) (hb : b < l.length) hab => List.pairwise_iff_getElem.1 ok.ids a b ha hb hab
    rw [List.length_set] at ha hb
    have ha' := hm a b ha hb hab
    have hii : l[i] = h := (List.getElem?_eq_some_iff.1 hi).2
    rcases hat a _ ga with ⟨qa, ea⟩ | ⟨qa, ga'⟩
    · rcases hat b _ gb with ⟨qb, eb⟩ | ⟨qb, gb'⟩
      · omega
      · rw [ea]
        obtain ⟨_, eb⟩ := List.getElem?_eq_some_iff.1 gb'
        rw [← eb]
        subst qa
        rw [hii] at ha'
        exact ha'
    · obtain ⟨_, ea⟩ := List.getElem?_eq_some_iff.1 ga'
      rcases hat b _ gb with ⟨qb, eb⟩ | ⟨qb, gb'⟩
      · rw [eb, ← ea]
        subst qb
        rw [hii] at ha'
        exact ha'
      · obtain ⟨_, eb⟩ := List.getElem?_eq_some_iff.1 gb'
        rw [← ea, ← eb]; exact ha'
  · rcases List.mem_or_eq_of_mem_set hb with hb | rfl
    · exact ok.pod b hb
    · exact hp
  · rw [List.pairwise_iff_getElem]
    intro a b ha hb hab x hxa hxb
    have ga := List.getElem?_eq_getElem ha
    have gb := List.getElem?_eq_getElem hb
    rcases hat a _ ga with ⟨qa, ea⟩ | ⟨qa, ga'⟩
    · rcases hat b _ gb with ⟨qb, eb⟩ | ⟨qb, gb'⟩
      · omega
      · rw [ea] at hxa
        rcases hx x hxa with q | q
        · exact (ap b _ gb' qb).1 x q hxb
        · exact q _ (List.mem_of_getElem? gb') hxb
    · rcases hat b _ gb with ⟨qb, eb⟩ | ⟨qb, gb'⟩
      · rw [eb] at hxb
        rcases hx x hxb with q | q
        · exact (ap a _ ga' qa).1 x q hxa
        · exact q _ (List.mem_of_getElem? ga') hxa
      · obtain ⟨ha1, ea⟩ := List.getElem?_eq_some_iff.1 ga'
        obtain ⟨hb1, eb⟩ := List.getElem?_eq_some_iff.1 gb'
        exact List.pairwise_iff_getElem.1 ok.apart a b ha1 hb1 hab x (by rw [ea]; exact hxa) (by rw [eb]; exact hxb)
end
end Go.Proofs.Ytfnpghekkhnjkaa

/- Pods of revisions: what is so stays so. -/
namespace Go.Proofs.Ytfnpghekkhnjkaa
set_option maxRecDepth 100000
set_option linter.unusedVariables false
set_option linter.unusedSimpArgs false
open Go.RowKit

section
variable {l : List Po} {h : Po} {g : Pd → Pd} {i : Nat}
theorem mem_at (hh : h ∈ l) : ∃ i : Nat, l[i]? = some h := List.getElem?_of_mem hh
/-- Numbers and owners after a turn: those of before. -/
theorem chgP_from {b : Po} {id : Int} (hb : b ∈ chgP l id g) : ∃ a, a ∈ l ∧ a.id = b.id ∧ a.rv = b.rv := by
  unfold chgP at hb
  obtain ⟨hb, _⟩ := List.mem_filter.1 hb
  obtain ⟨a, ha, e⟩ := List.mem_map.1 hb
  refine ⟨a, ha, ?_⟩
  split at e <;> subst e <;> exact ⟨rfl, rfl⟩
theorem chgP_len (id : Int) : (chgP l id g).length ≤ l.length := by
  unfold chgP
  exact Nat.le_trans (List.length_filter_le _ _) (by rw [List.length_map]; exact Nat.le_refl _)
theorem PosOk.chg (ok : PosOk l) (hi : l[i]? = some h) (hp : (g h.p).ok) (hc : (g h.p).c = h.p.c) (hx : ∀ x, x ∈ (g h.p).l → x ∈ h.p.l ∨ ∀ b, b ∈ l → x ∉ b.p.l) : PosOk (chgP l h.id g) := by
  have hh := ok.pod h (List.mem_of_getElem? hi)
  by_cases hs : (g h.p).st = 4
  · rw [chgP_dead ok hi hs]
    exact ok.sub (List.eraseIdx_sublist l i)
  · rw [chgP_at ok hi hs]
    exact ok.set hi ⟨hp, hs, by rw [hc]; exact hh.2.2⟩ hx
theorem Fl.ok_chg {f : Fl} (ok : f.ok) {id : Int} (hl : PosOk (chgP f.l id g)) : (⟨f.room, f.n, chgP f.l id g⟩ : Fl).ok :=
  ⟨ok.room, by have := chgP_len (l := f.l) (g := g) id; have := ok.len; show ((chgP f.l id g).length : Int) ≤ f.room; omega, ok.n, fun h hh => by
    obtain ⟨a, ha, e, _⟩ := chgP_from hh
    rw [← e]; exact ok.rng a ha, hl⟩
end
theorem drain_c (p : Pd) : p.aftDrain.c = p.c := by unfold Pd.aftDrain; split <;> rfl
theorem drain_l (p : Pd) : p.aftDrain.l = p.l := by unfold Pd.aftDrain; split <;> rfl
theorem up_c (p : Pd) : p.aftUp.c = p.c := by unfold Pd.aftUp; split <;> rfl
theorem up_l (p : Pd) : p.aftUp.l = p.l := by unfold Pd.aftUp; split <;> rfl
theorem up_st (p : Pd) (h : p.st ≠ 4) : p.aftUp.st ≠ 4 := by unfold Pd.aftUp; split <;> simp_all
theorem kill_c (p : Pd) : p.aftKill.c = p.c := by unfold Pd.aftKill; split <;> rfl
theorem kill_l (p : Pd) : ∀ x, x ∈ p.aftKill.l → x ∈ p.l := by unfold Pd.aftKill; split <;> simp
theorem kill_st (p : Pd) : p.aftKill.st = 4 := by unfold Pd.aftKill; split <;> simp_all
theorem take_c (p : Pd) (x : Int) : (p.aftTake x).c = p.c := by unfold Pd.aftTake; split <;> rfl
theorem take_st (p : Pd) (x : Int) : (p.aftTake x).st = p.st := by unfold Pd.aftTake; split <;> rfl
theorem take_l (p : Pd) (x y : Int) (h : y ∈ (p.aftTake x).l) : y = x ∨ y ∈ p.l := by
  unfold Pd.aftTake at h
  split at h
  · exact (insZ_mem x y p.l).1 h
  · exact .inr h
theorem give_c (p : Pd) (x : Int) : (p.aftGive x).c = p.c := by unfold Pd.aftGive; split <;> rfl
theorem give_l (p : Pd) (x y : Int) (h : y ∈ (p.aftGive x).l) : y ∈ p.l := by
  unfold Pd.aftGive at h
  split at h
  · exact (cutZ_mem.1 h).1
  · exact h
namespace Fl
variable {f : Fl}
theorem ok_new {room : Int} (h : 1 ≤ room ∧ room ≤ 30) : (new room).ok := ⟨h, by show (0 : Int) ≤ room; omega, by show (0 : Int) ≤ 0 ∧ (0 : Int) ≤ 100000; omega, fun h hh => absurd hh List.not_mem_nil, List.Pairwise.nil, fun h hh => absurd hh List.not_mem_nil, List.Pairwise.nil⟩
theorem ok_up (ok : f.ok) (id : Int) : (f.aftUp id).ok := by
  refine Fl.ok_chg ok ?_
  cases e : findP f.l id with
  | none => rw [chgP_no ok.l (findP_none e)]; exact ok.l
  | some h =>
    obtain ⟨hh, rfl⟩ := findP_mem e
    obtain ⟨i, hi⟩ := mem_at hh
    exact ok.l.chg hi (Pd.ok_up (ok.l.pod h hh).1) (up_c _) fun x hx => .inl (by rwa [up_l] at hx)
theorem ok_kill (ok : f.ok) (id : Int) : (f.aftKill id).ok := by
  refine Fl.ok_chg ok ?_
  cases e : findP f.l id with
  | none => rw [chgP_no ok.l (findP_none e)]; exact ok.l
  | some h =>
    obtain ⟨hh, rfl⟩ := findP_mem e
    obtain ⟨i, hi⟩ := mem_at hh
    exact ok.l.chg hi (Pd.ok_kill (ok.l.pod h hh).1) (kill_c _) fun x hx => .inl (kill_l _ x hx)
theorem ok_give (ok : f.ok) (x : Int) : (f.aftGive x).ok := by
  unfold aftGive
  cases e : whereP f.l x with
  | none => exact ok
  | some h =>
    obtain ⟨hh, _⟩ := whereP_mem e
    obtain ⟨i, hi⟩ := mem_at hh
    exact Fl.ok_chg ok (ok.l.chg hi (Pd.ok_give (ok.l.pod h hh).1 x) (give_c _ _) fun y hy => .inl (give_l _ _ _ hy))
end Fl
/-! ### which one is taken -/
theorem lastP_snoc (l : List Po) (h : Po) (rv : ByteArray) : lastP (l ++ [h]) rv = lastS rv (lastP l rv) h := by unfold lastP; rw [List.foldl_append]; rfl
theorem pickP_snoc (l : List Po) (h : Po) (rv : ByteArray) : pickP (l ++ [h]) rv = pickS rv (pickP l rv) h := by unfold pickP; rw [List.foldl_append]; rfl
theorem snoc_ind {α : Type} {p : List α → Prop} (h0 : p []) (h1 : ∀ l x, p l → p (l ++ [x])) (l : List α) : p l := by
  have h : ∀ m : List α, p m.reverse := fun m => by
    induction m with
    | nil => exact h0
    | cons x m ih => rw [List.reverse_cons]; exact h1 _ _ ih
  have := h l.reverse
  rwa [List.reverse_reverse] at this
/-- The one that is drained: of those that may be; none of them is ahead of it; of those behind it none is as it. -/
def LastOk (rv : ByteArray) (l : List Po) : Option Po → Prop
  | none => ∀ h, h ∈ l → ¬ (h.rv = rv ∧ h.act = true)
  | some b => ∃ p q, l = p ++ b :: q ∧ b.rv = rv ∧ b.act = true ∧ (∀ h, h ∈ q → h.rv = rv → h.act = true → ¬ h.before b) ∧ (∀ h, h ∈ p → h.rv = rv → h.act = true → b.before h)
theorem Po.before_trans {a b c : Po} (h1 : a.before b) (h2 : b.before c) : a.before c := by unfold Po.before at *; omega
theorem Po.before_total {a b : Po} (h : ¬ a.before b) : b.before a := by unfold Po.before at *; omega
theorem lastP_is (rv : ByteArray) : ∀ l : List Po, LastOk rv l (lastP l rv) := by
  refine snoc_ind (fun h hh => absurd hh List.not_mem_nil) (fun l h ih => ?_)
  rw [lastP_snoc]
  generalize lastP l rv = o at *
  unfold lastS
  by_cases hr : h.rv = rv ∧ h.act = true
  · rw [if_pos hr]
    cases o with
    | none => exact ⟨l, [], rfl, hr.1, hr.2, fun _ hh => absurd hh List.not_mem_nil, fun b hb h1 h2 => absurd ⟨h1, h2⟩ (ih b hb)⟩
    | some b =>
      obtain ⟨p, q, e, h1, h2, h3, h4⟩ := ih
      dsimp only
      by_cases hb : h.before b
      · rw [if_pos hb]
        refine ⟨l, [], rfl, hr.1, hr.2, fun _ hh => absurd hh List.not_mem_nil, fun a ha q1 q2 => ?_⟩
        rw [e] at ha
        rcases List.mem_append.1 ha with ha | ha
        · exact Po.before_trans hb (h4 a ha q1 q2)
        · rcases List.mem_cons.1 ha with rfl | ha
          · exact hb
          · exact Po.before_trans hb (Po.before_total (h3 a ha q1 q2))
      · rw [if_neg hb]
        refine ⟨p, q ++ [h], by rw [e]; simp, h1, h2, fun a ha q1 q2 => ?_, h4⟩
        rcases List.mem_append.1 ha with ha | ha
        · exact h3 a ha q1 q2
        · rw [List.mem_singleton] at ha; rw [ha]; exact hb
  · rw [if_neg hr]
    cases o with
    | none =>
      intro a ha
      rcases List.mem_append.1 ha with ha | ha
      · exact ih a ha
      · rw [List.mem_singleton] at ha; rw [ha]; exact hr
    | some b =>
      obtain ⟨p, q, e, h1, h2, h3, h4⟩ := ih
      refine ⟨p, q ++ [h], by rw [e]; simp, h1, h2, fun a ha q1 q2 => ?_, h4⟩
      rcases List.mem_append.1 ha with ha | ha
      · exact h3 a ha q1 q2
      · rw [List.mem_singleton] at ha; rw [ha] at q1 q2; exact absurd ⟨q1, q2⟩ hr
/-- The one that takes: of those that may; it has least, the first of such. -/
def PickOk (rv : ByteArray) (l : List Po) : Option Po → Prop
  | none => ∀ h, h ∈ l → ¬ (h.rv = rv ∧ h.p.st = 2 ∧ (h.load : Int) < h.p.c)
  | some b => ∃ p q, l = p ++ b :: q ∧ b.rv = rv ∧ b.p.st = 2 ∧ (b.load : Int) < b.p.c ∧ (∀ h, h ∈ p → h.rv = rv → h.p.st = 2 → (h.load : Int) < h.p.c → b.load < h.load) ∧ (∀ h, h ∈ q → h.rv = rv → h.p.st = 2 → (h.load : Int) < h.p.c → b.load ≤ h.load)
theorem pickP_is (rv : ByteArray) : ∀ l : List Po, PickOk rv l (pickP l rv) := by
  refine snoc_ind (fun h hh => absurd hh List.not_mem_nil) (fun l h ih => ?_)
  rw [pickP_snoc]
  generalize pickP l rv = o at *
  unfold pickS
  by_cases hr : h.rv = rv ∧ h.p.st = 2 ∧ (h.load : Int) < h.p.c
  · rw [if_pos hr]
    cases o with
    | none => exact ⟨l, [], rfl, hr.1, hr.2.1, hr.2.2, fun b hb h1 h2 h3 => absurd ⟨h1, h2, h3⟩ (ih b hb), fun _ hh => absurd hh List.not_mem_nil⟩
    | some b =>
      obtain ⟨p, q, e, h1, h2, h3, h4, h5⟩ := ih
      dsimp only
      by_cases hb : h.load < b.load
      · rw [if_pos hb]
        refine ⟨l, [], rfl, hr.1, hr.2.1, hr.2.2, fun a ha q1 q2 q3 => ?_, fun _ hh => absurd hh List.not_mem_nil⟩
        rw [e] at ha
        rcases List.mem_append.1 ha with ha | ha
        · have := h4 a ha q1 q2 q3; omega
        · rcases List.mem_cons.1 ha with rfl | ha
          · exact hb
          · have := h5 a ha q1 q2 q3; omega
      · rw [if_neg hb]
        refine ⟨p, q ++ [h], by rw [e]; simp, h1, h2, h3, h4, fun a ha q1 q2 q3 => ?_⟩
        rcases List.mem_append.1 ha with ha | ha
        · exact h5 a ha q1 q2 q3
        · rw [List.mem_singleton] at ha; rw [ha]; omega
  · rw [if_neg hr]
    cases o with
    | none =>
      intro a ha
      rcases List.mem_append.1 ha with ha | ha
      · exact ih a ha
      · rw [List.mem_singleton] at ha; rw [ha]; exact hr
    | some b =>
      obtain ⟨p, q, e, h1, h2, h3, h4, h5⟩ := ih
      refine ⟨p, q ++ [h], by rw [e]; simp, h1, h2, h3, h4, fun a ha q1 q2 q3 => ?_⟩
      rcases List.mem_append.1 ha with ha | ha
      · exact h5 a ha q1 q2 q3
      · rw [List.mem_singleton] at ha; rw [ha] at q1 q2 q3; exact absurd ⟨q1, q2, q3⟩ hr
section
variable {l : List Po} {rv : ByteArray} {h : Po}
theorem lastP_mem (e : lastP l rv = some h) : h ∈ l ∧ h.rv = rv ∧ h.act = true := by
  have := lastP_is rv l
  rw [e] at this
  obtain ⟨p, q, rfl, h1, h2, _⟩ := this
  exact ⟨by simp, h1, h2⟩
theorem pickP_mem (e : pickP l rv = some h) : h ∈ l ∧ h.rv = rv ∧ h.p.st = 2 ∧ (h.load : Int) < h.p.c := by
  have := pickP_is rv l
  rw [e] at this
  obtain ⟨p, q, rfl, h1, h2, h3, _⟩ := this
  exact ⟨by simp, h1, h2, h3⟩
theorem act_iff : h.act = true ↔ h.p.st = 1 ∨ h.p.st = 2 := by unfold Po.act; simp
theorem drain_act (ha : h.act = true) : (h.to h.p.aftDrain).act = false := by
  unfold Po.act Po.to Pd.aftDrain
  rw [if_pos (act_iff.1 ha)]
  dsimp only
  split <;> rfl
theorem countP_pos : lastP l rv = none ↔ countP l rv = 0 := by
  constructor
  · intro e
    have := lastP_is rv l
    rw [e] at this
    unfold countP
    rw [List.filter_eq_nil_iff.2 fun h hh => by simpa using fun h1 => by simpa using fun h2 => this h hh ⟨h1, h2⟩]
    rfl
  · intro e
    cases e2 : lastP l rv with
    | none => rfl
    | some h =>
      obtain ⟨h1, h2, h3⟩ := lastP_mem e2
      have : h ∈ l.filter fun h => decide (h.rv = rv) && h.act := List.mem_filter.2 ⟨h1, by simp [h2, h3]⟩
      unfold countP at e
      rw [List.eq_nil_of_length_eq_zero e] at this
      cases this
/-- One fewer that may be drained. -/
theorem countP_drain (ok : PosOk l) (e : lastP l rv = some h) : countP (chgP l h.id Pd.aftDrain) rv + 1 = countP l rv := by
  obtain ⟨h1, h2, h3⟩ := lastP_mem e
  obtain ⟨i, hi⟩ := mem_at h1
  obtain ⟨hl, ei⟩ := List.getElem?_eq_some_iff.1 hi
  have hs : l = l.take i ++ h :: l.drop (i + 1) := by rw [← ei, ← List.drop_eq_getElem_cons hl, List.take_append_drop]
  have c1 : countP l rv = countP (l.take i) rv + (1 + countP (l.drop (i + 1)) rv) := by
    unfold countP
    conv => lhs; rw [hs]
    rw [List.filter_append, List.length_append, List.filter_cons_of_pos (by simp [h2, h3]), List.length_cons]
    omega
  by_cases hd : h.p.aftDrain.st = 4
  · rw [chgP_dead ok hi hd, List.eraseIdx_eq_take_drop_succ, c1]
    unfold countP
    rw [List.filter_append, List.length_append]
    omega
  · rw [chgP_at ok hi hd, c1, List.set_eq_take_append_cons_drop, if_pos hl]
    unfold countP
    rw [List.filter_append, List.length_append, List.filter_cons_of_neg (by simp [drain_act h3])]
    omega
theorem PosOk.drain (ok : PosOk l) (hh : h ∈ l) : PosOk (chgP l h.id Pd.aftDrain) := by
  obtain ⟨i, hi⟩ := mem_at hh
  exact ok.chg hi (Pd.ok_drain (ok.pod h hh).1) (drain_c _) fun x hx => .inl (by rwa [drain_l] at hx)
end
/-- What so many drains leave. -/
theorem drainP_ok (rv : ByteArray) : ∀ (k : Nat) (l : List Po), PosOk l → k ≤ countP l rv → PosOk (drainP rv k l).1 ∧ countP (drainP rv k l).1 rv + k = countP l rv ∧ (drainP rv k l).2.length = k ∧ (drainP rv k l).1.length ≤ l.length ∧
    (∀ b, b ∈ (drainP rv k l).1 → ∃ a, a ∈ l ∧ a.id = b.id ∧ a.rv = b.rv) ∧ (∀ x, x ∈ (drainP rv k l).2 → ∃ a, a ∈ l ∧ a.id = x ∧ a.rv = rv)
  | 0, l, ok, hk => ⟨ok, rfl, rfl, Nat.le_refl _, fun b hb => ⟨b, hb, rfl, rfl⟩, fun x hx => absurd hx List.not_mem_nil⟩
  | k + 1, l, ok, hk => by
    cases e : lastP l rv with
    | none => rw [countP_pos.1 e] at hk; omega
    | some h =>
      obtain ⟨h1, h2, h3⟩ := lastP_mem e
      have hc := countP_drain ok e
      obtain ⟨i1, i2, i3, i4, i5, i6⟩ := drainP_ok rv k (chgP l h.id Pd.aftDrain) (ok.drain h1) (by omega)
      have hr : drainP rv (k + 1) l = ((drainP rv k (chgP l h.id Pd.aftDrain)).1, h.id :: (drainP rv k (chgP l h.id Pd.aftDrain)).2) := by
        show (match lastP l rv with | none => (l, []) | some h => _) = _
        rw [e]
      rw [hr]
      refine ⟨i1, by dsimp only; omega, by dsimp only; rw [List.length_cons, i3], Nat.le_trans i4 (chgP_len _), fun b hb => ?_, fun x hx => ?_⟩
      · obtain ⟨a, ha, e1, e2⟩ := i5 b hb
        obtain ⟨a', ha', e3, e4⟩ := chgP_from ha
        exact ⟨a', ha', e3.trans e1, e4.trans e2⟩
      · rcases List.mem_cons.1 hx with rfl | hx
        · exact ⟨h, h1, rfl, h2⟩
        · obtain ⟨a, ha, e1, e2⟩ := i6 x hx
          obtain ⟨a', ha', e3, e4⟩ := chgP_from ha
          exact ⟨a', ha', e3.trans e1, e4.trans e2⟩
end Go.Proofs.Ytfnpghekkhnjkaa

/- Pods of revisions: takes, scales. -/
namespace Go.Proofs.Ytfnpghekkhnjkaa
set_option maxRecDepth 100000
set_option linter.unusedVariables false
set_option linter.unusedSimpArgs false
open Go.RowKit

namespace Fl
variable {f : Fl}
theorem takeH_some {rv : ByteArray} {x : Int} {h : Po} (e : f.takeH rv x = some h) : (∀ b, b ∈ f.l → x ∉ b.p.l) ∧ pickP f.l rv = some h := by
  unfold takeH at e
  cases e2 : whereP f.l x with
  | none => rw [e2] at e; exact ⟨whereP_none e2, e⟩
  | some b => rw [e2] at e; cases e
theorem ok_take (ok : f.ok) (rv : ByteArray) {x : Int} (hx : wf64 x) : (f.aftTake rv x).ok := by
  unfold aftTake
  cases e : f.takeH rv x with
  | none => exact ok
  | some h =>
    obtain ⟨h1, h2⟩ := takeH_some e
    obtain ⟨hh, _⟩ := pickP_mem h2
    obtain ⟨i, hi⟩ := mem_at hh
    refine Fl.ok_chg ok (ok.l.chg (g := fun p => p.aftTake x) hi (Pd.ok_take (ok.l.pod h hh).1 hx) (take_c _ _) fun y hy => ?_)
    rcases take_l _ _ _ hy with rfl | hy
    · exact .inr h1
    · exact .inl hy
end Fl
theorem newP_len (rv : ByteArray) (c n : Int) (k : Nat) : (newP rv c n k).length = k := by unfold newP; simp
theorem idsP_len (n : Int) (k : Nat) : (idsP n k).length = k := by unfold idsP; simp
theorem idsP_at {n : Int} {k i : Nat} (h : i < k) : (idsP n k)[i]? = some (n + 1 + (i : Int)) := by
  unfold idsP
  rw [List.getElem?_map, List.getElem?_range h]; rfl
theorem newP_mem {rv : ByteArray} {c n : Int} {k : Nat} {h : Po} (hh : h ∈ newP rv c n k) : ∃ i : Nat, i < k ∧ h = ⟨n + 1 + (i : Int), rv, Pd.new c⟩ := by
  unfold newP at hh
  obtain ⟨i, hi, rfl⟩ := List.mem_map.1 hh
  exact ⟨i, List.mem_range.1 hi, rfl⟩
theorem newP_at {rv : ByteArray} {c n : Int} {k i : Nat} (h : i < k) : (newP rv c n k)[i]? = some ⟨n + 1 + (i : Int), rv, Pd.new c⟩ := by
  unfold newP
  rw [List.getElem?_map, List.getElem?_range h]; rfl
theorem PosOk.add {l : List Po} (ok : PosOk l) {rv : ByteArray} {c n : Int} (hc : 1 ≤ c ∧ c ≤ 8) (hn : ∀ h, h ∈ l → h.id ≤ n) (k : Nat) : PosOk (l ++ newP rv c n k) := by
  refine ⟨?_, fun h hh => ?_, ?_⟩
  · rw [List.pairwise_append]
    refine ⟨ok.ids, ?_, fun a ha b hb => ?_⟩
    · unfold newP
      rw [List.pairwise_map]
      exact List.pairwise_lt_range.imp fun {a b} q => by show n + 1 + (a : Int) < n + 1 + (b : Int); omega
    · obtain ⟨i, _, rfl⟩ := newP_mem hb
      have := hn a ha
      show a.id < n + 1 + (i : Int)
      omega
  · rcases List.mem_append.1 hh with hh | hh
    · exact ok.pod h hh
    · obtain ⟨i, _, rfl⟩ := newP_mem hh
      exact ⟨Pd.ok_new (by omega), by show (1 : Int) ≠ 4; decide, hc.1⟩
  · rw [List.pairwise_append]
    refine ⟨ok.apart, ?_, fun a ha b hb x hx hxb => ?_⟩
    · refine List.Pairwise.imp_of_mem (R := fun _ _ => True) (fun {a b} ha hb _ x hx => ?_) (List.pairwise_of_forall (fun _ _ => trivial))
      obtain ⟨i, _, rfl⟩ := newP_mem ha
      cases hx
    · obtain ⟨i, _, rfl⟩ := newP_mem hb
      cases hxb
namespace Fl
variable {f : Fl}
/-- Scale makes, or drains, or neither. -/
theorem scale_cases (f : Fl) (rv : ByteArray) (c want : Int) :
    ((countP f.l rv : Int) ≤ want ∧ f.less rv want = 0 ∧ f.gone rv want = [] ∧ f.scale rv c want = ⟨f.room, f.n + f.more rv want, f.l ++ newP rv c f.n (f.more rv want)⟩) ∨
    (want < countP f.l rv ∧ f.more rv want = 0 ∧ f.made rv want = [] ∧ f.scale rv c want = ⟨f.room, f.n, (drainP rv (f.less rv want) f.l).1⟩) := by
  rcases Int.lt_or_le want (countP f.l rv) with h | h
  · have hm : f.more rv want = 0 := by unfold more; omega
    refine .inr ⟨h, hm, by unfold made; rw [hm]; rfl, ?_⟩
    unfold scale
    rw [hm]
    show Fl.mk f.room (f.n + ((0 : Nat) : Int)) (drainP rv (f.less rv want) (f.l ++ [])).1 = _
    rw [List.append_nil]
    simp
  · have hl : f.less rv want = 0 := by unfold less; omega
    refine .inl ⟨h, hl, by unfold gone; rw [hl]; rfl, ?_⟩
    unfold scale
    rw [hl]
    rfl
theorem more_le (f : Fl) (rv : ByteArray) (want : Int) (hw : want ≤ 10) : f.more rv want ≤ 10 ∧ ((f.l.length : Int) ≤ f.room → (f.l.length : Int) + f.more rv want ≤ f.room) := by unfold more; omega
theorem less_le (f : Fl) (rv : ByteArray) (want : Int) (hw : 0 ≤ want) : f.less rv want ≤ countP f.l rv := by unfold less; omega
theorem ok_scale (ok : f.ok) (rv : ByteArray) {c want : Int} (hc : 1 ≤ c ∧ c ≤ 8) (hw : 0 ≤ want ∧ want ≤ 10) (hn : f.n ≤ 99000) : (f.scale rv c want).ok := by
  have hm := f.more_le rv want hw.2
  have hr := ok.room; have hl := ok.len; have hn2 := ok.n
  rcases f.scale_cases rv c want with ⟨h1, h2, h3, h4⟩ | ⟨h1, h2, h3, h4⟩
  · rw [h4]
    refine ⟨ok.room, ?_, ⟨by dsimp only; omega, by dsimp only; omega⟩, fun h hh => ?_, ok.l.add hc (fun h hh => (ok.rng h hh).2) _⟩
    · have := hm.2 hl
      show ((f.l ++ newP rv c f.n (f.more rv want)).length : Int) ≤ f.room
      rw [List.length_append, newP_len]
      omega
    · rcases List.mem_append.1 hh with hh | hh
      · have := ok.rng h hh
        dsimp only
        omega
      · obtain ⟨i, hi, rfl⟩ := newP_mem hh
        dsimp only
        omega
  · rw [h4]
    obtain ⟨i1, i2, i3, i4, i5, i6⟩ := drainP_ok rv (f.less rv want) f.l ok.l (f.less_le rv want hw.1)
    refine ⟨ok.room, by dsimp only; omega, ok.n, fun h hh => ?_, i1⟩
    obtain ⟨a, ha, e, _⟩ := i5 h hh
    rw [← e]
    exact ok.rng a ha
end Fl
end Go.Proofs.Ytfnpghekkhnjkaa
