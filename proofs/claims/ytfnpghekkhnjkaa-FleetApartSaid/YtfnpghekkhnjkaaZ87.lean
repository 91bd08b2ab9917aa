/- My own texts FpU, FpB, FpD, laid in one file. -/
import Derived.Test.YtfnpghekkhnjkaaZ86
import Derived.Test.YtfnpghekkhnjkaaZ59

/- Pods of revisions: which are drained, which takes, told by an order (plain facts). -/
namespace Go.Proofs.Ytfnpghekkhnjkaa
set_option maxRecDepth 100000
set_option linter.unusedVariables false
set_option linter.unusedSimpArgs false
open Go.RowKit

/-- Those that may be drained, as each tells them. -/
def canO (rv : ByteArray) (h : Po) : Bool := decide (h.rv = rv) && h.act
theorem canO_iff {rv : ByteArray} {h : Po} : canO rv h = true ↔ h.rv = rv ∧ h.act = true := by unfold canO; simp
theorem fitL_is (l : List Po) (rv : ByteArray) : fitL l rv = l.filter (canO rv) := by
  unfold fitL eachL
  rw [List.filter_filter]
  congr 1
  funext h
  unfold canO
  exact Bool.and_comm _ _
theorem fitL_len (l : List Po) (rv : ByteArray) : (fitL l rv).length = countP l rv := by rw [fitL_is]; rfl
theorem lastP_fit (rv : ByteArray) (l : List Po) : lastP (fitL l rv) rv = lastP l rv := by
  rw [fitL_is]
  unfold lastP
  rw [List.foldl_filter]
  congr 1
  funext b h
  unfold lastS
  by_cases e : h.rv = rv ∧ h.act = true
  · rw [if_pos (canO_iff.2 e), if_pos e]
  · rw [if_neg (fun q => e (canO_iff.1 q)), if_neg e]
theorem fit_chg (rv : ByteArray) (id : Int) (l : List Po) : fitL (chgP l id Pd.aftDrain) rv = (fitL l rv).filter fun b => decide (b.id ≠ id) := by
  rw [fitL_is, fitL_is]
  unfold chgP
  induction l with
  | nil => rfl
  | cons b l ih =>
    have h1 : ∀ (x : Po) (m : List Po), canO rv x = false → List.filter (canO rv) (List.filter Po.alive (x :: m)) = List.filter (canO rv) (List.filter Po.alive m) := fun x m hx => by
      rw [List.filter_cons]
      split
      · rw [List.filter_cons_of_neg (by rw [hx]; decide)]
      · rfl
    by_cases e : b.id = id
    · have hA : canO rv (b.to b.p.aftDrain) = false := by
        have : (b.to b.p.aftDrain).act = false := by
          by_cases ha : b.act = true
          · exact drain_act ha
          · have hn : ¬ (b.p.st = 1 ∨ b.p.st = 2) := fun q => ha (act_iff.2 q)
            have : b.p.aftDrain = b.p := by unfold Pd.aftDrain; rw [if_neg hn]
            rw [this]
            show b.act = false
            simpa using ha
        unfold canO
        rw [this, Bool.and_false]
      rw [List.map_cons, if_pos e, h1 _ _ hA, ih]
      have h2 : ∀ m : List Po, List.filter (fun b => decide (b.id ≠ id)) (List.filter (canO rv) (b :: m)) = List.filter (fun b => decide (b.id ≠ id)) (List.filter (canO rv) m) := fun m => by
        rw [List.filter_cons]
        split
        · rw [List.filter_cons_of_neg (by simp [e])]
        · rfl
      rw [h2]
    · rw [List.map_cons, if_neg e]
      by_cases hA : canO rv b = true
      · have hal : b.alive = true := alive_iff.2 (by
          have := act_iff.1 (canO_iff.1 hA).2
          omega)
        rw [List.filter_cons_of_pos hal, List.filter_cons_of_pos hA, ih, List.filter_cons_of_pos hA, List.filter_cons_of_pos (by simp [e])]
      · have hA' : canO rv b = false := by simpa using hA
        rw [h1 _ _ hA', ih, List.filter_cons_of_neg hA]
/-- The one ahead of all, in the order of who goes sooner, is the one that is drained. -/
theorem last_min {rv : ByteArray} {M : List Po} (hids : M.Pairwise fun a b => a.id < b.id) (hall : ∀ h, h ∈ M → h.rv = rv ∧ h.act = true) {x : Po} (hx : x ∈ M) (hmin : ∀ b, b ∈ M → ltOf soonC (t3 b) (t3 x) = false) : lastP M rv = some x := by
  have L := lastP_is rv M
  cases e : lastP M rv with
  | none => rw [e] at L; exact absurd (hall x hx) (L x hx)
  | some b =>
    rw [e] at L
    obtain ⟨p, q, rfl, h1, h2, h3, h4⟩ := L
    have hm := hmin b (by simp)
    rw [soon_lt] at hm
    have hm := of_decide_eq_false hm
    simp only [t3] at hm
    rw [List.pairwise_append, List.pairwise_cons] at hids
    obtain ⟨-, ⟨i2, -⟩, i3⟩ := hids
    rcases List.mem_append.1 hx with hx | hx
    · exfalso
      have hb := h4 x hx (hall x (by simp [hx])).1 (hall x (by simp [hx])).2
      have hi := i3 x hx b List.mem_cons_self
      unfold Po.before at hb
      omega
    · rcases List.mem_cons.1 hx with rfl | hx
      · rfl
      · exfalso
        have hb := h3 x hx (hall x (by simp [hx])).1 (hall x (by simp [hx])).2
        have hi := i2 x hx
        unfold Po.before at hb
        omega
/-- One drain more. -/
theorem drain_snoc (rv : ByteArray) : ∀ (k : Nat) (l : List Po) (x : Po), lastP (drainP rv k l).1 rv = some x → drainP rv (k + 1) l = (chgP (drainP rv k l).1 x.id Pd.aftDrain, (drainP rv k l).2 ++ [x.id])
  | 0, l, x, h => by
    have h : lastP l rv = some x := h
    show (match lastP l rv with | none => (l, ([] : List Int)) | some h => _) = _
    rw [h]; rfl
  | k + 1, l, x, h => by
    cases e : lastP l rv with
    | none =>
      exfalso
      have : drainP rv (k + 1) l = (l, []) := by
        show (match lastP l rv with | none => (l, ([] : List Int)) | some h => _) = _
        rw [e]
      rw [this] at h
      rw [e] at h; cases h
    | some y =>
      have e1 : ∀ j, drainP rv (j + 1) l = ((drainP rv j (chgP l y.id Pd.aftDrain)).1, y.id :: (drainP rv j (chgP l y.id Pd.aftDrain)).2) := fun j => by
        show (match lastP l rv with | none => (l, ([] : List Int)) | some h => _) = _
        rw [e]
      rw [e1 k] at h ⊢
      rw [e1 (k + 1), drain_snoc rv k _ x h]
      rfl
/-- So many drained are the first ones of those in order. -/
theorem drain_order {rv : ByteArray} {l s : List Po} (ok : PosOk l) (hp : s.Perm (fitL l rv)) (hs : s.Pairwise fun a b => ltOf soonC (t3 b) (t3 a) = false) :
    ∀ k, k ≤ s.length → PosOk (drainP rv k l).1 ∧ (drainP rv k l).2 = (s.take k).map Po.id ∧ (∀ x, x ∈ fitL (drainP rv k l).1 rv ↔ x ∈ s.drop k) ∧ ∀ x, s[k]? = some x → lastP (drainP rv k l).1 rv = some x ∧ x ∈ (drainP rv k l).1 := by
  have hnd : s.Pairwise fun a b => a.id ≠ b.id := by
    refine (List.Perm.pairwise_iff (R := fun a b : Po => a.id ≠ b.id) (fun {a b} h e => h e.symm) hp).2 ?_
    rw [fitL_is]
    exact (ok.ids.filter _).imp fun {a b} h => by omega
  have step : ∀ k, PosOk (drainP rv k l).1 → (∀ x, x ∈ fitL (drainP rv k l).1 rv ↔ x ∈ s.drop k) → ∀ x, s[k]? = some x → lastP (drainP rv k l).1 rv = some x ∧ x ∈ (drainP rv k l).1 := fun k okk hm x hx => by
    obtain ⟨hk, rfl⟩ := List.getElem?_eq_some_iff.1 hx
    have hd : s.drop k = s[k] :: s.drop (k + 1) := List.drop_eq_getElem_cons hk
    have hx2 : s[k] ∈ fitL (drainP rv k l).1 rv := (hm _).2 (by rw [hd]; exact List.mem_cons_self)
    have hf := fitL_is (drainP rv k l).1 rv
    refine ⟨?_, ?_⟩
    · rw [← lastP_fit]
      refine last_min ?_ ?_ hx2 fun b hb => ?_
      · rw [hf]; exact okk.ids.filter _
      · intro h hh
        rw [hf] at hh
        exact canO_iff.1 (List.mem_filter.1 hh).2
      · have hb := (hm b).1 hb
        have hs2 := hs.sublist (List.drop_sublist k s)
        rw [hd] at hb hs2
        rcases List.mem_cons.1 hb with rfl | hb
        · exact swoS.irrefl _
        · exact (List.pairwise_cons.1 hs2).1 b hb
    · rw [hf] at hx2
      exact (List.mem_filter.1 hx2).1
  intro k
  induction k with
  | zero => exact fun _ => ⟨ok, rfl, fun x => (hp.mem_iff).symm, step 0 ok fun x => (hp.mem_iff).symm⟩
  | succ k ih =>
    intro hk
    obtain ⟨i1, i2, i3, i4⟩ := ih (by omega)
    have hx : s[k]? = some (s[k]'(by omega)) := List.getElem?_eq_getElem _
    obtain ⟨h1, h2⟩ := i4 _ hx
    have hd : s.drop k = s[k]'(by omega) :: s.drop (k + 1) := List.drop_eq_getElem_cons _
    have e := drain_snoc rv k l _ h1
    have o2 : PosOk (drainP rv (k + 1) l).1 := by rw [e]; exact i1.drain h2
    have m2 : ∀ x, x ∈ fitL (drainP rv (k + 1) l).1 rv ↔ x ∈ s.drop (k + 1) := fun x => by
      rw [e]
      show x ∈ fitL (chgP _ _ _) rv ↔ _
      rw [fit_chg, List.mem_filter, i3, hd, decide_eq_true_eq]
      have hn := hnd.sublist (List.drop_sublist k s)
      rw [hd, List.pairwise_cons] at hn
      constructor
      · rintro ⟨q1, q2⟩
        rcases List.mem_cons.1 q1 with rfl | q1
        · exact absurd rfl q2
        · exact q1
      · exact fun q => ⟨List.mem_cons_of_mem _ q, fun e => hn.1 x q e.symm⟩
    refine ⟨o2, ?_, m2, step (k + 1) o2 m2⟩
    rw [e]
    show (drainP rv k l).2 ++ [_] = _
    rw [i2, List.take_add_one, hx, List.map_append]
    rfl
/-- The first one in order that may take is the one that takes. -/
theorem pick_order {rv : ByteArray} {l s : List Po} (ok : PosOk l) (hp : s.Perm (eachL l rv)) (hs : s.Pairwise fun a b => ltOf freeC (t3 b) (t3 a) = false) {k : Nat} {x : Po} (hx : s[k]? = some x) (hc : x.p.st = 2 ∧ (x.load : Int) < x.p.c)
    (hn : ∀ y, y ∈ s.take k → ¬ (y.p.st = 2 ∧ (y.load : Int) < y.p.c)) : pickP l rv = some x := by
  have hmem : ∀ y, y ∈ s ↔ y ∈ l ∧ y.rv = rv := fun y => by rw [hp.mem_iff]; unfold eachL; rw [List.mem_filter, decide_eq_true_eq]
  have hxl := (hmem x).1 (List.mem_of_getElem? hx)
  have L := pickP_is rv l
  cases e : pickP l rv with
  | none => rw [e] at L; exact absurd ⟨hxl.2, hc.1, hc.2⟩ (L x hxl.1)
  | some b =>
    rw [e] at L
    obtain ⟨p, q, rfl, h1, h2, h3, h4, h5⟩ := L
    have hbs : b ∈ s := (hmem b).2 ⟨by simp, h1⟩
    obtain ⟨j, hj⟩ := List.getElem?_of_mem hbs
    obtain ⟨hjl, ej⟩ := List.getElem?_eq_some_iff.1 hj
    obtain ⟨hkl, ek⟩ := List.getElem?_eq_some_iff.1 hx
    have hkj : k ≤ j := by
      rcases Nat.lt_or_ge j k with q2 | q2
      · exfalso
        refine hn b ?_ ⟨h2, h3⟩
        rw [List.mem_iff_getElem?]
        exact ⟨j, by rw [List.getElem?_take_of_lt q2]; exact hj⟩
      · exact q2
    rcases Nat.lt_or_ge k j with q2 | q2
    · exfalso
      have hm := List.pairwise_iff_getElem.1 hs k j hkl hjl q2
      rw [ej, ek, free_lt] at hm
      have hm := of_decide_eq_false hm
      simp only [t3] at hm
      have hids := ok.ids
      rw [List.pairwise_append, List.pairwise_cons] at hids
      obtain ⟨-, ⟨i2, -⟩, i3⟩ := hids
      rcases List.mem_append.1 hxl.1 with hx' | hx'
      · have := h4 x hx' hxl.2 hc.1 hc.2
        omega
      · rcases List.mem_cons.1 hx' with rfl | hx'
        · have hnd : s.Nodup := by
            refine hp.nodup_iff.2 ?_
            unfold eachL
            exact ((ok.ids.imp fun {a b} (h : a.id < b.id) => show a ≠ b from fun e => by rw [e] at h; omega) : List.Pairwise (fun a b => a ≠ b) _).filter _
          exact absurd (List.getElem_inj hnd |>.1 (ek.trans ej.symm)) (by omega)
        · have := h5 x hx' hxl.2 hc.1 hc.2
          have := i2 x hx'
          omega
    · obtain rfl : k = j := by omega
      rw [hx] at hj
      exact hj.symm
theorem pick_none {rv : ByteArray} {l s : List Po} (hp : s.Perm (eachL l rv)) (hn : ∀ y, y ∈ s → ¬ (y.p.st = 2 ∧ (y.load : Int) < y.p.c)) : pickP l rv = none := by
  cases e : pickP l rv with
  | none => rfl
  | some b =>
    obtain ⟨h1, h2, h3, h4⟩ := pickP_mem e
    refine absurd ⟨h3, h4⟩ (hn b (hp.mem_iff.2 ?_))
    unfold eachL
    rw [List.mem_filter, decide_eq_true_eq]
    exact ⟨h1, h2⟩
end Go.Proofs.Ytfnpghekkhnjkaa

/- The program's fleet among what a call holds: opened, closed, one pod taken out; New, Live, Of, bury, Up. -/
namespace Go.Proofs.Ytfnpghekkhnjkaa
set_option maxRecDepth 100000
set_option linter.unusedVariables false
set_option linter.unusedSimpArgs false
set_option linter.unnecessarySimpa false
open Go.RowKit Go.MapV Go.Maps

section
variable {w0 w : World} {L : List MBox} {A B : Hp} {g : Nat} {f f' : Fl} {r n : Int} {mp ma : Nat} {lm p q : List PM} {m : PM} {ks : List Int} {av : Int → Value}
theorem hold_flopen (h : Hold w0 w L (Sep (FlP g f) B)) : ∃ mp ma lm, lm.map PM.h = f.l ∧ f.ok ∧ Hold w0 w L (Sep (FlS g f.room f.n mp ma lm (reqsP f.l) (whereV f.l)) B) := by
  obtain ⟨F, ⟨F1, F2, ⟨mp, ma, lm, h1, h2, h3⟩, hb, ap, e⟩, q1, q2⟩ := h.st
  exact ⟨mp, ma, lm, h1, h2, h.mem, F, ⟨F1, F2, h3, hb, ap, e⟩, q1, q2⟩
theorem FlS.at {F : Nat → Prop} (h : FlS g r n mp ma lm ks av w F) {ks' : List Int} {av' : Int → Value} (hn : ks'.Nodup) (hm : ∀ x, x ∈ ks' ↔ x ∈ ks) (hv : ∀ x, x ∈ ks → av' x = av x) : FlS g r n mp ma lm ks' av' w F :=
  h.under fun F h => h.under fun F h => h.over fun F h => h.same undI hn hm hv
theorem hold_flclose (h : Hold w0 w L (Sep (FlS g f.room f.n mp ma lm ks av) B)) (h1 : lm.map PM.h = f.l) (ok : f.ok) (hm : ∀ x, x ∈ reqsP f.l ↔ x ∈ ks) (hv : ∀ x, x ∈ ks → whereV f.l x = av x) : Hold w0 w L (Sep (FlP g f) B) :=
  h.map fun F h => h.over fun F h => ⟨mp, ma, lm, h1, ok, h.at (reqs_nodup ok.l) hm hv⟩
/-- One pod taken out; what is left. -/
def FlR (g : Nat) (r n : Int) (mp ma : Nat) (ids : List Int) (ov : Int → Value) (lm : List PM) (ks : List Int) (av : Int → Value) : Hp := Sep (BlkF g (flC r n mp ma) fleetT) (Sep (MapP mp ids ov) (Sep (MapP ma ks av) (SepL PmF lm)))
theorem FlR.foot (g : Nat) (r n : Int) (mp ma : Nat) (ids : List Int) (ov : Int → Value) (lm : List PM) (ks : List Int) (av : Int → Value) : Foot (FlR g r n mp ma ids ov lm ks av) := (BlkF.foot _ _ _).sep ((MapF.foot _ _ _ _ _).sep ((MapF.foot _ _ _ _ _).sep (SepL.foot PmF.foot lm)))
theorem hold_pm (h : Hold w0 w L (Sep (FlS g r n mp ma (p ++ m :: q) ks av) B)) : Hold w0 w L (Sep (PdP m.p m.h.p) (Sep (FlR g r n mp ma (idsM (p ++ m :: q)) (ownV (p ++ m :: q)) (p ++ q) ks av) B)) := by
  refine h.map fun F h => ?_
  refine Sep.assoc (h.over fun F h => ?_)
  have h1 : Sep (BlkF g (flC r n mp ma) fleetT) (Sep (MapP mp (idsM (p ++ m :: q)) (ownV (p ++ m :: q))) (Sep (MapP ma ks av) (Sep (PmF m) (SepL PmF (p ++ q))))) w F := h.under fun F h => h.under fun F h => h.under fun F h => h.out
  have h2 : Sep (BlkF g (flC r n mp ma) fleetT) (Sep (MapP mp (idsM (p ++ m :: q)) (ownV (p ++ m :: q))) (Sep (PmF m) (Sep (MapP ma ks av) (SepL PmF (p ++ q))))) w F := h1.under fun F h => h.under fun F h => h.rot
  have h3 : Sep (BlkF g (flC r n mp ma) fleetT) (Sep (PmF m) (Sep (MapP mp (idsM (p ++ m :: q)) (ownV (p ++ m :: q))) (Sep (MapP ma ks av) (SepL PmF (p ++ q))))) w F := h2.under fun F h => h.rot
  exact h3.rot
theorem own_key (lm : List PM) (id : Int) : ownV lm id = (((lm.map fun m => (m.h.id, m.own)).find? fun k => k.1 == id).map Prod.snd).getD ownZ := by
  unfold ownV findM
  rw [List.find?_map]
  show _ = Option.getD (Option.map Prod.snd (Option.map _ (List.find? (fun m : PM => m.h.id == id) lm))) ownZ
  cases List.find? (fun m : PM => m.h.id == id) lm <;> rfl
theorem own_to (p q : List PM) (m : PM) (s : Pd) : ownV (p ++ m.to s :: q) = ownV (p ++ m :: q) := by
  funext id
  rw [own_key, own_key]
  simp only [List.map_append, List.map_cons]
  rfl
theorem ids_to (p q : List PM) (m : PM) (s : Pd) : idsM (p ++ m.to s :: q) = idsM (p ++ m :: q) := by unfold idsM; simp only [List.map_append, List.map_cons]; rfl
theorem hold_pm' {s : Pd} (h : Hold w0 w L (Sep (PdP m.p s) (Sep (FlR g r n mp ma (idsM (p ++ m :: q)) (ownV (p ++ m :: q)) (p ++ q) ks av) B))) : Hold w0 w L (Sep (FlS g r n mp ma (p ++ m.to s :: q) ks av) B) := by
  refine h.map fun F h => ?_
  refine (Sep.assoc' h).over fun F h => ?_
  have h1 : Sep (BlkF g (flC r n mp ma) fleetT) (Sep (PmF (m.to s)) (Sep (MapP mp (idsM (p ++ m :: q)) (ownV (p ++ m :: q))) (Sep (MapP ma ks av) (SepL PmF (p ++ q))))) w F := h.rot
  rw [← own_to p q m s, ← ids_to p q m s] at h1
  exact h1.under fun F h => h.rot.under fun F h => h.rot.under fun F h => SepL.inn h
theorem hold_FS (h : Hold w0 w L (Sep (FlS g r n mp ma lm ks av) B)) : ∃ F, FlRd w F g r n mp ma lm := by
  obtain ⟨F, ⟨F1, F2, hs, _⟩, _⟩ := h.st
  exact ⟨F1, hs.rd⟩
theorem hold_AS (h : Hold w0 w L (Sep (FlS g r n mp ma lm ks av) B)) : MapQ w ma ks av := by
  obtain ⟨F, ⟨F1, F2, ⟨F3, F4, _, ⟨F5, F6, _, ⟨F7, F8, a, _⟩, _⟩, _⟩, _⟩, _⟩ := h.st
  exact a.1
/-- The pods' map ahead of all. -/
theorem hold_mp (h : Hold w0 w L (Sep (FlS g r n mp ma lm ks av) B)) : Hold w0 w L (Sep (MapP mp (idsM lm) (ownV lm)) (Sep (BlkF g (flC r n mp ma) fleetT) (Sep (Sep (MapP ma ks av) (SepL PmF lm)) B))) :=
  h.map fun F h => Sep.rot ((Sep.assoc h).under fun F h => Sep.assoc h)
theorem hold_mp' {lm' : List PM} (h : Hold w0 w L (Sep (MapP mp (idsM lm') (ownV lm')) (Sep (BlkF g (flC r n mp ma) fleetT) (Sep (Sep (MapP ma ks av) (SepL PmF lm')) B)))) : Hold w0 w L (Sep (FlS g r n mp ma lm' ks av) B) :=
  h.map fun F h => Sep.assoc' (h.rot.under fun F h => Sep.assoc' h)
/-- The other one. -/
theorem hold_ma (h : Hold w0 w L (Sep (FlS g r n mp ma lm ks av) B)) : Hold w0 w L (Sep (MapP ma ks av) (Sep (BlkF g (flC r n mp ma) fleetT) (Sep (Sep (MapP mp (idsM lm) (ownV lm)) (SepL PmF lm)) B))) :=
  h.map fun F h => Sep.rot ((Sep.assoc (h.over fun F h => h.under fun F h => h.rot)).under fun F h => Sep.assoc h)
theorem hold_ma' {ks' : List Int} {av' : Int → Value} (h : Hold w0 w L (Sep (MapP ma ks' av') (Sep (BlkF g (flC r n mp ma) fleetT) (Sep (Sep (MapP mp (idsM lm) (ownV lm)) (SepL PmF lm)) B)))) : Hold w0 w L (Sep (FlS g r n mp ma lm ks' av') B) :=
  h.map fun F h => (Sep.assoc' (h.rot.under fun F h => Sep.assoc' h)).over fun F h => h.under fun F h => h.rot
end
/-- A pod that lives is found. -/
theorem findM_split {lm : List PM} {id : Int} {m : PM} (e : findM lm id = some m) : ∃ p q, lm = p ++ m :: q ∧ m.h.id = id := by
  obtain ⟨h1, h2⟩ := findM_mem e
  obtain ⟨p, q, rfl⟩ := List.append_of_mem h1
  exact ⟨p, q, rfl, h2⟩
theorem chgP_midP {p q : List PM} {m : PM} (ok : PosOk (p.map PM.h ++ m.h :: q.map PM.h)) {gg : Pd → Pd} (hg : (gg m.h.p).st ≠ 4) : chgP (p.map PM.h ++ m.h :: q.map PM.h) m.h.id gg = (p ++ m.to (gg m.h.p) :: q).map PM.h := by
  have := chgP_at ok (i := p.length) (h := m.h) (g := gg) (by rw [List.getElem?_append_right (by simp)]; simp) hg
  rw [this, List.set_append_right _ _ (by simp)]
  simp [PM.to]
theorem chgP_outP {p q : List PM} {m : PM} (ok : PosOk (p.map PM.h ++ m.h :: q.map PM.h)) {gg : Pd → Pd} (hg : (gg m.h.p).st = 4) : chgP (p.map PM.h ++ m.h :: q.map PM.h) m.h.id gg = (p ++ q).map PM.h := by
  have := chgP_dead ok (i := p.length) (h := m.h) (g := gg) (by rw [List.getElem?_append_right (by simp)]; simp) hg
  rw [this, List.eraseIdx_append_of_length_le (by simp)]
  simp
theorem nodup_ids {lm : List PM} (ok : PosOk (lm.map PM.h)) : (idsM lm).Nodup := by rw [ids_map]; exact nodup_lt (ids_lt ok)
theorem fld0 (s : ByteArray) (p : Option Addr) (w : World) : (Instr.field ownedT (.agg #[.string s, .pointer p]) 0).run Try.prog w = .ok (.string s) w := by kernel_rfl
theorem fld1 (s : ByteArray) (p : Option Addr) (w : World) : (Instr.field ownedT (.agg #[.string s, .pointer p]) 1).run Try.prog w = .ok (.pointer p) w := by kernel_rfl
/-! ### what only reads -/
set_option maxHeartbeats 1000000 in
theorem flive_any (F : Nat → Prop) (g : Nat) (r n : Int) (mp ma : Nat) (lm : List PM) (w : World) (h : FlRd w F g r n mp ma lm) :
    Calls Try.prog 16 #[pz g] w fun e w' => e = .returned (.int .i64 lm.length) ∧ w = w' := by
  have c2 := h.c2
  have hl := h.hb.lt
  have HM := Lib.hid h.hm.mapN
  have HN := Lib.hid h.hm.1
  have HS := Lib.hid (keysM_some (idsM lm) (ownV lm))
  have HL : Hid ((idsM lm).length = lm.length) := Lib.hid (by unfold idsM; simp)
  clear h
  go_enter Try.func16, Try.ntmps16
  go_wp2_with (refine lenZ rfl rfl Try.underlying59 undI rfl HM.out HN.out HS.out ?_)
  go_ret
  rw [HL.out]
  exact ⟨rfl, rfl⟩
set_option maxHeartbeats 1000000 in
theorem fof_low (g : Nat) (r n : Int) (mp ma : Nat) (lm : List PM) (id : Int) (w : World) (h : Blk w g (flC r n mp ma).toArray fleetT) (hm : MapQ w mp (idsM lm) (ownV lm)) (hi : wf64 id) :
    Calls Try.prog 17 #[pz g, .int .i64 id] w fun e w' => e = .returned (.string (match findM lm id with | none => ⟨#[]⟩ | some m => m.h.rv)) ∧ w = w' := by
  have c2 : w.cell? ⟨g, 2, none⟩ = some (.map (some mp)) := (h.cell 2).trans rfl
  have hl := h.lt
  have HM := Lib.hid hm.mapN
  have HK := Lib.hid (keysI id hi)
  cases e : findM lm id with
  | none =>
    have HA : Hid ((onZ (keysM (idsM lm) (ownV lm)) (intK id)).getD ownZ = .agg #[.string ⟨#[]⟩, .pointer none]) := Lib.hid (by rw [own_at]; unfold ownV; rw [e]; rfl)
    have X0 := fld0 ⟨#[]⟩ none
    clear h hm
    go_enter Try.func17, Try.ntmps17
    go_wp2_with (at_lookup; refine look1v (.agg #[.string ⟨#[]⟩, .pointer none]) rfl rfl keyedZ Try.underlying59 zeroOwned rfl HM.out rfl HK.out HA.out ?_)
    go_ret
    exact ⟨rfl, rfl⟩
  | some m =>
    have HA : Hid ((onZ (keysM (idsM lm) (ownV lm)) (intK id)).getD ownZ = .agg #[.string m.h.rv, pz m.p]) := Lib.hid (by rw [own_at]; unfold ownV; rw [e]; rfl)
    have X0 := fld0 m.h.rv (some ⟨m.p, 0, none⟩)
    clear h hm
    go_enter Try.func17, Try.ntmps17
    go_wp2_with (at_lookup; refine look1v (.agg #[.string m.h.rv, pz m.p]) rfl rfl keyedZ Try.underlying59 zeroOwned rfl HM.out rfl HK.out HA.out ?_)
    go_ret
    exact ⟨rfl, rfl⟩
end Go.Proofs.Ytfnpghekkhnjkaa

/- The program's fleet: New, bury, Up, add. -/
namespace Go.Proofs.Ytfnpghekkhnjkaa
set_option maxRecDepth 100000
set_option linter.unusedVariables false
set_option linter.unusedSimpArgs false
set_option linter.unnecessarySimpa false
open Go.RowKit Go.MapV Go.Maps

section
variable {w0 w : World} {L : List MBox} {A B : Hp} {g : Nat} {f f' : Fl} {r n : Int} {mp ma : Nat} {lm p q : List PM} {m : PM} {ks : List Int} {av : Int → Value} {er : Int}
set_option maxHeartbeats 1000000 in
theorem hold_fnew (h : Hold w0 w L A) (hA : Foot A) (room : Int) (hr : 1 ≤ room ∧ room ≤ 30) : Calls Try.prog 12 #[.int .i64 room] w fun e w' => ∃ g, e = .returned (pz g) ∧ Hold w0 w' L (Sep (FlP g (Fl.new room)) A) := by
  have H := Lib.hid h
  have FA := Lib.hid hA
  have hmm := @run_makeMap Try.prog
  clear h hA
  go_enter Try.func12, Try.ntmps12
  go_wp2_with fail
  go_ret
  have M1 : MapQ (w.alloc (.map #[] 0)) w.heap.size [] (ownV []) := MapL.made w _ _ _
  have M2 := MapL.made (w.alloc (.map #[] 0)) Try.prog 3 (whereV [])
  rw [World.size_alloc] at M2
  have M3 := M1.grow (Grow.G.alloc (Grow.G.refl _) (.map #[] 0))
  have BN := Blk.new ((w.alloc (.map #[] 0)).alloc (.map #[] 0)) (flC room 0 w.heap.size (w.heap.size + 1)).toArray fleetT
  rw [World.size_alloc, World.size_alloc] at BN
  have G1 := Grow.G.alloc (Grow.G.refl ((w.alloc (.map #[] 0)).alloc (.map #[] 0))) (.cells (flC room 0 w.heap.size (w.heap.size + 1)).toArray fleetT)
  have G0 : Grow.G w (((w.alloc (.map #[] 0)).alloc (.map #[] 0)).alloc (.cells (flC room 0 w.heap.size (w.heap.size + 1)).toArray fleetT)) := Grow.G.alloc (Grow.G.alloc (Grow.G.alloc (Grow.G.refl _) _) _) _
  refine ⟨w.heap.size + 1 + 1, rfl, H.out.beside FA.out G0 (F₁ := fun k => k = w.heap.size + 1 + 1 ∨ (k = w.heap.size ∨ (k = w.heap.size + 1 ∨ False))) ⟨w.heap.size, w.heap.size + 1, [], rfl, Fl.ok_new hr, ?_⟩ (fun k hk => by rcases hk with hk | hk | hk | hk <;> first | exact hk.elim | omega)⟩
  exact ⟨fun k => k = w.heap.size + 1 + 1, fun k => k = w.heap.size ∨ (k = w.heap.size + 1 ∨ False), ⟨BN, fun k => Iff.rfl⟩, ⟨fun k => k = w.heap.size, fun k => k = w.heap.size + 1 ∨ False, ⟨M3.grow G1, fun k => Iff.rfl⟩, ⟨fun k => k = w.heap.size + 1, fun _ => False, ⟨M2.grow G1, fun k => Iff.rfl⟩, SepL.nil _, fun k _ h => h, fun k => Iff.rfl⟩, fun k h1 h2 => by rcases h2 with h2 | h2 <;> first | exact h2.elim | (have h1 : k = w.heap.size := h1; omega), fun k => Iff.rfl⟩, fun k h1 h2 => by rcases h2 with h2 | h2 | h2 <;> first | exact h2.elim | (have h1 : k = w.heap.size + 1 + 1 := h1; omega), fun k => Iff.rfl⟩
/-- What bury leaves of the pods. -/
def buryM (p q : List PM) (m : PM) : List PM := if m.h.p.st = 4 then p ++ q else p ++ m :: q
set_option maxHeartbeats 4000000 in
theorem hold_bury (h : Hold w0 w L (Sep (FlS g r n mp ma (p ++ m :: q) ks av) B)) (hB : Foot B) (hn : (idsM (p ++ m :: q)).Nodup) (hi : wf64 m.h.id) :
    Calls Try.prog 33 #[pz g, .int .i64 m.h.id] w fun e w' => e = .returned (.tuple #[]) ∧ Hold w0 w' L (Sep (FlS g r n mp ma (buryM p q m) ks av) B) := by
  obtain ⟨F, hF⟩ := hold_FS h
  have c2 := hF.c2
  have hl := hF.hb.lt
  have HM := Lib.hid hF.hm.mapN
  have HK := Lib.hid (keysI m.h.id hi)
  have hmm : m ∈ p ++ m :: q := by simp
  have HA : Hid ((onZ (keysM (idsM (p ++ m :: q)) (ownV (p ++ m :: q))) (intK m.h.id)).getD ownZ = .agg #[.string m.h.rv, pz m.p]) := Lib.hid ((own_at _ _).trans (ownV_at hn hmm))
  have X1 := fld1 m.h.rv (some ⟨m.p, 0, none⟩)
  obtain ⟨mm, hP, _⟩ := hF.pod m hmm
  have SM := Lib.hid (pstate_any m.p m.h.p mm w hP)
  have H := Lib.hid h
  have HN := Lib.hid hn
  have FB := Lib.hid hB
  unfold buryM
  by_cases e : m.h.p.st = 4
  · have d1 : (m.h.p.st == 4) = true := by simp [e]
    rw [if_pos e]
    have HP := Lib.hid (hold_mp h)
    have FZ := Lib.hid ((BlkF.foot g (flC r n mp ma) fleetT).sep (((MapF.foot Try.prog 3 ma ks av).sep (SepL.foot PmF.foot (p ++ m :: q))).sep hB))
    have hn2 : (idsM (p ++ q)).Nodup := by
      refine hn.sublist ?_
      unfold idsM
      exact (List.Sublist.append (List.Sublist.refl p) (List.sublist_cons_self m q)).map _
    have hno : m.h.id ∉ idsM (p ++ q) := fun hx => by
      obtain ⟨m2, h2, e2⟩ := mem_ids.1 hx
      unfold idsM at hn
      rw [List.map_append, List.map_cons, List.nodup_append, List.nodup_cons] at hn
      rcases List.mem_append.1 h2 with h2 | h2
      · exact hn.2.2 _ (List.mem_map.2 ⟨m2, h2, rfl⟩) _ List.mem_cons_self (by rw [e2])
      · exact hn.2.1.1 (List.mem_map.2 ⟨m2, h2, e2⟩)
    have HL : Hid (∀ z, z ∈ idsM (p ++ q) ↔ z ∈ idsM (p ++ m :: q) ∧ z ≠ m.h.id) := Lib.hid (fun z => by
      rw [mem_ids, mem_ids]
      constructor
      · rintro ⟨m2, h2, rfl⟩
        refine ⟨⟨m2, ?_, rfl⟩, fun e => hno (mem_ids.2 ⟨m2, h2, e⟩)⟩
        rcases List.mem_append.1 h2 with h2 | h2
        · exact List.mem_append_left _ h2
        · exact List.mem_append_right _ (List.mem_cons_of_mem _ h2)
      · rintro ⟨⟨m2, h2, rfl⟩, hz⟩
        refine ⟨m2, ?_, rfl⟩
        rcases List.mem_append.1 h2 with h2 | h2
        · exact List.mem_append_left _ h2
        · rcases List.mem_cons.1 h2 with rfl | h2
          · exact absurd rfl hz
          · exact List.mem_append_right _ h2)
    have HV : Hid (∀ z, z ∈ idsM (p ++ q) → ownV (p ++ q) z = ownV (p ++ m :: q) z) := Lib.hid (fun z hz => by
      obtain ⟨m2, h2, rfl⟩ := mem_ids.1 hz
      rw [ownV_at hn2 h2, ownV_at hn (by
        rcases List.mem_append.1 h2 with h2 | h2
        · exact List.mem_append_left _ h2
        · exact List.mem_append_right _ (List.mem_cons_of_mem _ h2))])
    have HN2 := Lib.hid hn2
    obtain ⟨st, hst⟩ : ∃ st, m.h.p.st = st := ⟨_, rfl⟩
    rw [hst] at SM d1
    clear hF h hP e hst hn hn2 hno hmm hB
    go_enter Try.func33, Try.ntmps33
    go_wp2_with (at_lookup; refine look1v (.agg #[.string m.h.rv, pz m.p]) rfl rfl keyedZ Try.underlying59 zeroOwned rfl HM.out rfl HK.out HA.out ?_)
    refine SM.out.mono ?_
    rintro e w1 ⟨rfl, rfl⟩
    go_wp2_with (at_delete; refine Hold.delF FZ.out rfl rfl Try.underlying59 undI rfl HP.out rfl hi.1 hi.2 (idsM (p ++ q)) (ownV (p ++ q)) HN2.out HL.out HV.out ?_; intro w9 H9)
    refine Stay.go ?_
    have H10 := Lib.hid (hold_mp' (lm' := p ++ q) (H9.weak fun F h => h.weakR fun F h => h.weakR fun F h => h.weakL fun F h => h.weakR fun F h => SepL.sub (List.Sublist.append (List.Sublist.refl p) (List.sublist_cons_self m q)) h))
    clear H9 HP
    go_wp2_with fail
    go_returns
    exact ⟨rfl, H10.out⟩
  · have d1 : (m.h.p.st == 4) = false := by simpa using e
    rw [if_neg e]
    obtain ⟨st, hst⟩ : ∃ st, m.h.p.st = st := ⟨_, rfl⟩
    rw [hst] at SM d1
    have ne := e
    rw [hst] at ne
    clear hF h hP e hst hn hmm hB
    go_enter Try.func33, Try.ntmps33
    go_wp2_with (at_lookup; refine look1v (.agg #[.string m.h.rv, pz m.p]) rfl rfl keyedZ Try.underlying59 zeroOwned rfl HM.out rfl HK.out HA.out ?_)
    refine SM.out.mono ?_
    rintro e w1 ⟨rfl, rfl⟩
    go_wp2_with fail
    go_returns
    exact ⟨rfl, H.out⟩
end
end Go.Proofs.Ytfnpghekkhnjkaa
