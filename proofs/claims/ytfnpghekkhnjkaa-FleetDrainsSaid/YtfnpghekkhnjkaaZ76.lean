/- My own texts FlR, FlD, laid in one file. -/
import Derived.Test.YtfnpghekkhnjkaaZ74
import Derived.Test.YtfnpghekkhnjkaaZ75

/- Pods of revisions: only made, and drained while they start. -/
namespace Go.Proofs.Ytfnpghekkhnjkaa
set_option maxRecDepth 100000
set_option linter.unusedVariables false
set_option linter.unusedSimpArgs false
open Go.RowKit

/-- All are starting, none has anything. -/
def Raw (l : List Po) : Prop := ∀ h, h ∈ l → h.p.st = 1 ∧ h.p.l = []
theorem raw_drain {l : List Po} {h : Po} (ok : PosOk l) (hr : Raw l) (hh : h ∈ l) : Raw (chgP l h.id Pd.aftDrain) ∧ ∀ b, b ∈ chgP l h.id Pd.aftDrain → b.id ≠ h.id := by
  obtain ⟨i, hi⟩ := mem_at hh
  have h1 := hr h hh
  have hd : h.p.aftDrain.st = 4 := by
    unfold Pd.aftDrain
    rw [if_pos (Or.inl h1.1)]
    show (if h.p.l = [] then (4 : Int) else 3) = 4
    rw [if_pos h1.2]
  rw [chgP_dead ok hi hd]
  refine ⟨fun b hb => hr b ((List.eraseIdx_sublist l i).subset hb), fun b hb e => ?_⟩
  obtain ⟨j, hj⟩ := List.getElem?_of_mem hb
  rw [List.getElem?_eraseIdx] at hj
  split at hj
  · have := find_unique ok.ids hi hj e; omega
  · have := find_unique ok.ids hi hj e; omega
theorem raw_drainP (rv : ByteArray) : ∀ (k : Nat) (l : List Po), PosOk l → Raw l → k ≤ countP l rv → Raw (drainP rv k l).1 ∧ (drainP rv k l).1.length + k = l.length ∧ ∀ x, x ∈ (drainP rv k l).2 → ∀ b, b ∈ (drainP rv k l).1 → b.id ≠ x
  | 0, l, ok, hr, hk => ⟨hr, rfl, fun x hx => absurd hx List.not_mem_nil⟩
  | k + 1, l, ok, hr, hk => by
    cases e : lastP l rv with
    | none => rw [countP_pos.1 e] at hk; omega
    | some h =>
      obtain ⟨h1, h2, h3⟩ := lastP_mem e
      have hc := countP_drain ok e
      obtain ⟨r1, r2⟩ := raw_drain ok hr h1
      have ok2 := ok.drain h1
      obtain ⟨i1, i2, i3⟩ := raw_drainP rv k (chgP l h.id Pd.aftDrain) ok2 r1 (by omega)
      obtain ⟨_, _, _, _, d5, _⟩ := drainP_ok rv k (chgP l h.id Pd.aftDrain) ok2 (by omega)
      have hrw : drainP rv (k + 1) l = ((drainP rv k (chgP l h.id Pd.aftDrain)).1, h.id :: (drainP rv k (chgP l h.id Pd.aftDrain)).2) := by
        show (match lastP l rv with | none => (l, []) | some h => _) = _
        rw [e]
      have hlen : (chgP l h.id Pd.aftDrain).length + 1 = l.length := by
        obtain ⟨i, hi⟩ := mem_at h1
        have hd : h.p.aftDrain.st = 4 := by
          have h4 := hr h h1
          unfold Pd.aftDrain
          rw [if_pos (Or.inl h4.1)]
          show (if h.p.l = [] then (4 : Int) else 3) = 4
          rw [if_pos h4.2]
        rw [chgP_dead ok hi hd, List.length_eraseIdx_of_lt (List.getElem?_eq_some_iff.1 hi).1]
        have := (List.getElem?_eq_some_iff.1 hi).1
        omega
      rw [hrw]
      refine ⟨i1, by dsimp only; omega, fun x hx b hb => ?_⟩
      rcases List.mem_cons.1 hx with rfl | hx
      · obtain ⟨a, ha, e1, _⟩ := d5 b hb
        rw [← e1]
        exact r2 a ha
      · exact i3 x hx b hb
theorem raw_count {l : List Po} (hr : Raw l) (rv : ByteArray) : countP l rv = (l.filter fun h => decide (h.rv = rv)).length := by
  unfold countP
  congr 1
  refine List.filter_congr fun h hh => ?_
  have := (hr h hh).1
  unfold Po.act
  rw [this]
  simp
/-- FleetRoom: what one Scale does. -/
theorem raw_scale {f : Fl} (ok : f.ok) (hr : Raw f.l) (rv : ByteArray) {want : Int} (hw : 0 ≤ want ∧ want ≤ 10) (hn : f.n ≤ 99000) :
    Raw (f.scale rv 1 want).l ∧ (f.scale rv 1 want).room = f.room ∧ ((f.scale rv 1 want).l.length : Int) ≤ f.room ∧ (f.scale rv 1 want).n = f.n + ((f.made rv want).length : Int) ∧ (f.made rv want).length ≤ 10 ∧ (f.gone rv want).length ≤ 30 ∧
      ¬ (0 < (f.made rv want).length ∧ 0 < (f.gone rv want).length) ∧ (((f.scale rv 1 want).pods rv).length : Int) ≤ want ∧ ¬ ((((f.scale rv 1 want).pods rv).length : Int) < want ∧ ((f.scale rv 1 want).l.length : Int) < f.room) ∧
      (∀ j, j < (f.made rv want).length → (f.made rv want)[j]? = some (f.n + 1 + (j : Int)) ∧ (f.scale rv 1 want).ofP (f.n + 1 + (j : Int)) = rv) ∧ (∀ x, x ∈ (f.gone rv want) → (f.scale rv 1 want).ofP x = ⟨#[]⟩) := by
  have ok2 := Fl.ok_scale ok rv (c := 1) (by decide) hw hn
  have hm := f.more_le rv want hw.2
  have hl := ok.len; have hroom := ok.room
  have hcnt := raw_count hr rv
  have hcl : countP f.l rv ≤ f.l.length := by unfold countP; exact List.length_filter_le _ _
  have hml : (f.made rv want).length = f.more rv want := idsP_len _ _
  rcases f.scale_cases rv 1 want with ⟨h1, h2, h3, h4⟩ | ⟨h1, h2, h3, h4⟩
  · have e : f.more rv want = min (want - countP f.l rv).toNat (f.room - f.l.length).toNat := rfl
    have hp : (((f.scale rv 1 want).pods rv).length : Int) = countP f.l rv + f.more rv want := by
      rw [h4]
      show (((f.l ++ newP rv 1 f.n (f.more rv want)).filter fun h => decide (h.rv = rv)).length : Int) = _
      rw [List.filter_append, List.length_append, hcnt]
      have : (newP rv 1 f.n (f.more rv want)).filter (fun h => decide (h.rv = rv)) = newP rv 1 f.n (f.more rv want) := List.filter_eq_self.2 fun b hb => by
        obtain ⟨i, _, rfl⟩ := newP_mem hb
        simp
      rw [this, newP_len]
      omega
    have hlen : ((f.scale rv 1 want).l.length : Int) = f.l.length + f.more rv want := by
      rw [h4]
      show ((f.l ++ newP rv 1 f.n (f.more rv want)).length : Int) = _
      rw [List.length_append, newP_len]; omega
    have hraw : Raw (f.scale rv 1 want).l := by
      rw [h4]
      intro b hb
      rcases List.mem_append.1 hb with hb | hb
      · exact hr b hb
      · obtain ⟨i, _, rfl⟩ := newP_mem hb
        exact ⟨rfl, rfl⟩
    refine ⟨hraw, by rw [h4], by rw [hlen]; exact hm.2 hl, by rw [hml, h4], by rw [hml]; exact hm.1, by rw [h3]; exact Nat.zero_le _, by rw [h3]; simp, by rw [hp]; omega, by rw [hp, hlen]; omega, fun j hj => ?_, fun x hx => by rw [h3] at hx; cases hx⟩
    rw [hml] at hj
    refine ⟨idsP_at hj, ?_⟩
    have hat : (f.scale rv 1 want).l[f.l.length + j]? = some ⟨f.n + 1 + (j : Int), rv, Pd.new 1⟩ := by
      rw [h4]
      show (f.l ++ newP rv 1 f.n (f.more rv want))[f.l.length + j]? = _
      rw [List.getElem?_append_right (by omega), Nat.add_sub_cancel_left, newP_at hj]
    unfold Fl.ofP
    have := findP_at ok2.l.ids hat
    rw [show (⟨f.n + 1 + (j : Int), rv, Pd.new 1⟩ : Po).id = f.n + 1 + (j : Int) from rfl] at this
    rw [this]
  · have hle := f.less_le rv want hw.1
    have e : f.less rv want = (countP f.l rv - want : Int).toNat := rfl
    obtain ⟨d1, d2, d3, d4, d5, d6⟩ := drainP_ok rv (f.less rv want) f.l ok.l hle
    obtain ⟨r1, r2, r3⟩ := raw_drainP rv (f.less rv want) f.l ok.l hr hle
    have hp : (((f.scale rv 1 want).pods rv).length : Int) = want := by
      rw [h4]
      show (((drainP rv (f.less rv want) f.l).1.filter fun h => decide (h.rv = rv)).length : Int) = _
      rw [← raw_count r1 rv]
      omega
    have hgl : (f.gone rv want).length = f.less rv want := d3
    refine ⟨by rw [h4]; exact r1, by rw [h4], by rw [h4]; show ((drainP rv (f.less rv want) f.l).1.length : Int) ≤ f.room; omega, by rw [h4, h3]; simp, by rw [h3]; exact Nat.zero_le _, by rw [hgl]; omega, by rw [h3]; simp, by rw [hp]; exact Int.le_refl _, by rw [hp]; omega, fun j hj => (by rw [h3] at hj; cases hj), fun x hx => ?_⟩
    rw [h4]
    unfold Fl.ofP
    cases ef : findP (drainP rv (f.less rv want) f.l).1 x with
    | none => rfl
    | some b =>
      obtain ⟨hb, hbx⟩ := findP_mem ef
      exact absurd hbx (r3 x hx b hb)
theorem gone_rng {f : Fl} (ok : f.ok) (rv : ByteArray) {want : Int} (hw : 0 ≤ want) : ∀ x, x ∈ f.gone rv want → 1 ≤ x ∧ x ≤ 100000 := fun x hx => by
  obtain ⟨_, _, _, _, _, d6⟩ := drainP_ok rv (f.less rv want) f.l ok.l (f.less_le rv want hw)
  obtain ⟨a, ha, e, _⟩ := d6 x hx
  have := ok.rng a ha
  have := ok.n
  omega

/-- One pod of the first revision. -/
def fdP (c st : Int) (l : List Int) : Po := ⟨1, rvA1, ⟨c, st, l⟩⟩
def FD (c st : Int) (l : List Int) : Fl := ⟨2, 1, [fdP c st l]⟩
def FE : Fl := ⟨2, 1, []⟩
theorem idsP_mem {n x : Int} {k : Nat} : x ∈ idsP n k ↔ n + 1 ≤ x ∧ x ≤ n + k := by
  unfold idsP
  rw [List.mem_map]
  constructor
  · rintro ⟨i, hi, rfl⟩
    have := List.mem_range.1 hi
    omega
  · intro h
    exact ⟨(x - n - 1).toNat, List.mem_range.2 (by omega), by omega⟩
theorem idsP_succ (n : Int) (k : Nat) : idsP n (k + 1) = idsP n k ++ [n + 1 + (k : Int)] := by unfold idsP; rw [List.range_succ, List.map_append]; rfl
theorem idsP_head (n : Int) (k : Nat) : idsP n (k + 1) = (n + 1) :: idsP (n + 1) k := by
  refine List.ext_getElem? fun i => ?_
  rcases Nat.lt_or_ge i (k + 1) with h | h
  · rw [idsP_at h]
    cases i with
    | zero => simp
    | succ i => rw [List.getElem?_cons_succ, idsP_at (by omega)]; congr 1; omega
  · rw [List.getElem?_eq_none (by rw [idsP_len]; exact h), List.getElem?_eq_none (by rw [List.length_cons, idsP_len]; exact h)]
theorem fd_make (c : Int) : (Fl.new 2).made rvA1 1 = [1] ∧ (Fl.new 2).gone rvA1 1 = [] ∧ (Fl.new 2).scale rvA1 c 1 = FD c 1 [] := ⟨by decide +kernel, by decide +kernel, rfl⟩
theorem fd_up (c : Int) : (FD c 1 []).up 1 = 0 ∧ (FD c 1 []).aftUp 1 = FD c 2 [] := ⟨rfl, rfl⟩
theorem fd_where {c st x : Int} {l : List Int} : whereP (FD c st l).l x = if x ∈ l then some (fdP c st l) else none := by
  unfold whereP FD
  rw [List.find?_cons]
  by_cases h : x ∈ l
  · rw [if_pos h]; simp [fdP, h]
  · rw [if_neg h]; simp [fdP, h]
theorem fd_chg {c st : Int} {l : List Int} (g : Pd → Pd) : chgP (FD c st l).l 1 g = if (g ⟨c, st, l⟩).st = 4 then [] else [⟨1, rvA1, g ⟨c, st, l⟩⟩] := by
  unfold chgP FD
  show List.filter Po.alive [(fdP c st l).to (g ⟨c, st, l⟩)] = _
  by_cases h : (g ⟨c, st, l⟩).st = 4
  · rw [if_pos h, List.filter_cons_of_neg (by unfold Po.alive Po.to; simp [h])]; rfl
  · rw [if_neg h, List.filter_cons_of_pos (by unfold Po.alive Po.to; simp [h])]; rfl
theorem fd_take {c : Int} {i : Nat} (h : (i : Int) < c) : (FD c 2 (idsP 0 i)).takeB rvA1 ((i : Int) + 1) = true ∧ (FD c 2 (idsP 0 i)).aftTake rvA1 ((i : Int) + 1) = FD c 2 (idsP 0 (i + 1)) := by
  have hn : ((i : Int) + 1) ∉ idsP 0 i := by rw [idsP_mem]; omega
  have hp : pickP (FD c 2 (idsP 0 i)).l rvA1 = some (fdP c 2 (idsP 0 i)) := by
    unfold pickP FD
    show pickS rvA1 none (fdP c 2 (idsP 0 i)) = _
    unfold pickS
    rw [if_pos ⟨rfl, rfl, by show ((idsP 0 i).length : Int) < c; rw [idsP_len]; exact h⟩]
  have ht : (FD c 2 (idsP 0 i)).takeH rvA1 ((i : Int) + 1) = some (fdP c 2 (idsP 0 i)) := by
    unfold Fl.takeH
    rw [fd_where, if_neg hn]
    exact hp
  refine ⟨by unfold Fl.takeB; rw [ht]; rfl, ?_⟩
  unfold Fl.aftTake
  rw [ht]
  show Fl.mk 2 1 (chgP (FD c 2 (idsP 0 i)).l 1 fun p => p.aftTake ((i : Int) + 1)) = _
  rw [fd_chg]
  have h0 : (⟨c, 2, idsP 0 i⟩ : Pd).take ((i : Int) + 1) = 0 := by
    unfold Pd.take
    rw [if_pos rfl, if_neg hn, if_neg (by show ¬ c ≤ ((idsP 0 i).length : Int); rw [idsP_len]; omega)]
  have e : (⟨c, 2, idsP 0 i⟩ : Pd).aftTake ((i : Int) + 1) = ⟨c, 2, idsP 0 (i + 1)⟩ := by
    unfold Pd.aftTake
    rw [if_pos h0]
    show Pd.mk c 2 (insZ (idsP 0 i) _) = _
    have := insZ_pre ((i : Int) + 1) (idsP 0 i) [] (fun y hy => by rw [idsP_mem] at hy; omega)
    rw [List.append_nil] at this
    rw [this, idsP_succ]
    simp [insZ]
    omega
  rw [e, if_neg (by show ¬ (2 : Int) = 4; decide)]
  rfl
theorem fd_drain {c : Int} (m : Nat) : (FD c 2 (idsP 0 m)).made rvA1 0 = [] ∧ (FD c 2 (idsP 0 m)).gone rvA1 0 = [1] ∧ (FD c 2 (idsP 0 m)).scale rvA1 c 0 = if m = 0 then FE else FD c 3 (idsP 0 m) := by
  have hc : countP (FD c 2 (idsP 0 m)).l rvA1 = 1 := rfl
  have hl : (FD c 2 (idsP 0 m)).less rvA1 0 = 1 := by unfold Fl.less; rw [hc]; rfl
  have hm : (FD c 2 (idsP 0 m)).more rvA1 0 = 0 := by unfold Fl.more; rw [hc]; rfl
  have hp : lastP (FD c 2 (idsP 0 m)).l rvA1 = some (fdP c 2 (idsP 0 m)) := rfl
  have hd : drainP rvA1 1 (FD c 2 (idsP 0 m)).l = (chgP (FD c 2 (idsP 0 m)).l 1 Pd.aftDrain, [1]) := by
    show (match lastP (FD c 2 (idsP 0 m)).l rvA1 with | none => ((FD c 2 (idsP 0 m)).l, ([] : List Int)) | some h => ((drainP rvA1 0 (chgP (FD c 2 (idsP 0 m)).l h.id Pd.aftDrain)).1, h.id :: (drainP rvA1 0 (chgP (FD c 2 (idsP 0 m)).l h.id Pd.aftDrain)).2)) = _
    rw [hp]
    rfl
  refine ⟨by unfold Fl.made; rw [hm]; rfl, by unfold Fl.gone; rw [hl, hd], ?_⟩
  rcases (FD c 2 (idsP 0 m)).scale_cases rvA1 c 0 with ⟨h1, _⟩ | ⟨_, _, _, h4⟩
  · rw [hc] at h1; omega
  · rw [h4, hl, hd]
    show Fl.mk 2 1 (chgP (FD c 2 (idsP 0 m)).l 1 Pd.aftDrain) = _
    have e : (⟨c, 2, idsP 0 m⟩ : Pd).aftDrain = ⟨c, if idsP 0 m = [] then 4 else 3, idsP 0 m⟩ := by unfold Pd.aftDrain; rw [if_pos (Or.inr rfl)]
    rw [fd_chg, e]
    cases m with
    | zero => rfl
    | succ m =>
      have : (idsP 0 (m + 1)) ≠ [] := fun e => by have := idsP_len 0 (m + 1); rw [e] at this; cases this
      rw [if_neg this, if_neg (by show ¬ (3 : Int) = 4; decide), if_neg (by omega)]
      rfl
theorem fd_no {c : Int} {m : Nat} (h : m ≤ 8) : (FD c 3 (idsP 0 m)).takeB rvA1 99 = false ∧ FE.takeB rvA1 99 = false := by
  refine ⟨?_, rfl⟩
  unfold Fl.takeB Fl.takeH
  rw [fd_where, if_neg (by rw [idsP_mem]; omega)]
  rfl
theorem fd_give {c : Int} {j m : Nat} (h : j < m) : (FD c 3 (idsP j (m - j))).giveR ((j : Int) + 1) = rvA1 ∧ (FD c 3 (idsP j (m - j))).give ((j : Int) + 1) = 0 ∧
    (FD c 3 (idsP j (m - j))).aftGive ((j : Int) + 1) = if j + 1 = m then FE else FD c 3 (idsP ((j + 1 : Nat) : Int) (m - (j + 1))) := by
  obtain ⟨k, hk⟩ : ∃ k, m - j = k + 1 := ⟨m - j - 1, by omega⟩
  rw [hk, show m - (j + 1) = k by omega]
  have hm : ((j : Int) + 1) ∈ idsP j (k + 1) := by rw [idsP_mem]; omega
  have hw : whereP (FD c 3 (idsP j (k + 1))).l ((j : Int) + 1) = some (fdP c 3 (idsP j (k + 1))) := by rw [fd_where, if_pos hm]
  refine ⟨by unfold Fl.giveR; rw [hw]; rfl, by unfold Fl.give; rw [hw], ?_⟩
  unfold Fl.aftGive
  rw [hw]
  show Fl.mk 2 1 (chgP (FD c 3 (idsP j (k + 1))).l 1 fun p => p.aftGive ((j : Int) + 1)) = _
  have hcut : cutZ (idsP j (k + 1)) ((j : Int) + 1) = idsP ((j + 1 : Nat) : Int) k := by
    rw [idsP_head]
    show List.filter _ _ = _
    rw [List.filter_cons_of_neg (by simp)]
    rw [show ((j : Int) + 1) = ((j + 1 : Nat) : Int) by omega]
    exact List.filter_eq_self.2 fun y hy => by rw [idsP_mem] at hy; simp; omega
  have eg : (⟨c, 3, idsP j (k + 1)⟩ : Pd).aftGive ((j : Int) + 1) = ⟨c, if idsP ((j + 1 : Nat) : Int) k = [] then 4 else 3, idsP ((j + 1 : Nat) : Int) k⟩ := by
    unfold Pd.aftGive
    rw [if_pos hm]
    dsimp only
    rw [hcut]
    congr 1
    by_cases q : idsP ((j + 1 : Nat) : Int) k = [] <;> simp [q]
  rw [fd_chg, eg]
  by_cases e : j + 1 = m
  · have : k = 0 := by omega
    subst this
    rw [if_pos e]
    rfl
  · have hne : idsP ((j + 1 : Nat) : Int) k ≠ [] := fun q => by
      have h1 := idsP_len ((j + 1 : Nat) : Int) k
      rw [q] at h1
      have : k = 0 := h1.symm
      omega
    rw [if_neg hne, if_neg (by show ¬ (3 : Int) = 4; decide), if_neg e]
    rfl
end Go.Proofs.Ytfnpghekkhnjkaa
