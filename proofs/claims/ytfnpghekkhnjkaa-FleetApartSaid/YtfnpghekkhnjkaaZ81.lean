/- My own texts Hd5, laid in one file. -/
import Derived.Test.YtfnpghekkhnjkaaZ80

/- The second form's fleet: Take. -/
namespace Go.Proofs.Ytfnpghekkhnjkaa
set_option maxRecDepth 100000
set_option linter.unusedVariables false
set_option linter.unusedSimpArgs false
set_option linter.unnecessarySimpa false
open Go.RowKit

def pickHS (rv : ByteArray) (b : Option HM) (m : HM) : Option HM :=
  if m.h.rv = rv ∧ m.h.p.st = 2 ∧ (m.h.load : Int) < m.h.p.c then (match b with | none => some m | some b => if m.h.load < b.h.load then some m else some b) else b
def pickM (lm : List HM) (rv : ByteArray) : Option HM := lm.foldl (pickHS rv) none
theorem pickM_map (lm : List HM) (rv : ByteArray) : (pickM lm rv).map HM.h = pickP (lm.map HM.h) rv := by
  unfold pickM pickP
  rw [List.foldl_map]
  suffices H : ∀ (b : Option HM) (c : Option Po), b.map HM.h = c → (lm.foldl (pickHS rv) b).map HM.h = lm.foldl (fun x y => pickS rv x y.h) c from H none none rfl
  induction lm with
  | nil => exact fun b c h => h
  | cons m l ih =>
    intro b c h
    refine ih _ _ ?_
    subst h
    show Option.map HM.h (pickHS rv b m) = pickS rv (Option.map HM.h b) m.h
    unfold pickHS pickS
    by_cases e : m.h.rv = rv ∧ m.h.p.st = 2 ∧ (m.h.load : Int) < m.h.p.c
    · rw [if_pos e, if_pos e]
      cases b with
      | none => rfl
      | some b =>
        show Option.map HM.h (if m.h.load < b.h.load then some m else some b) = if m.h.load < b.h.load then some m.h else some b.h
        split <;> rfl
    · rw [if_neg e, if_neg e]
theorem pickM_snoc (l : List HM) (m : HM) (rv : ByteArray) : pickM (l ++ [m]) rv = pickHS rv (pickM l rv) m := by unfold pickM; rw [List.foldl_append]; rfl
theorem pickM_mem (rv : ByteArray) (l : List HM) : ∀ m, pickM l rv = some m → m ∈ l := by
  refine snoc_ind (p := fun l => ∀ m, pickM l rv = some m → m ∈ l) (fun m e => by cases e) (fun l x ih m e => ?_) l
  rw [pickM_snoc] at e
  unfold pickHS at e
  split at e
  · cases hb : pickM l rv with
    | none => rw [hb] at e; cases e; simp
    | some b =>
      rw [hb] at e
      dsimp only at e
      split at e
      · cases e; simp
      · cases e; exact List.mem_append_left _ (ih _ hb)
  · exact List.mem_append_left _ (ih _ e)
set_option maxHeartbeats 32000000 in
theorem hold_rltake {w0 w : World} {L : List MBox} {A B : Hp} {g : Nat} {f f' : Fl} {er : Int} {bo : Bool} (h : Hold w0 w L (Sep A (Sep (RflP g f) B))) (hA : Foot A) (hB : Foot B) (rv : ByteArray) (x : Int) (hx : wf64 x) (h1 : f.take rv x = er := by rfl) (h2 : f.takeB rv x = bo := by rfl) (h3 : f.aftTake rv x = f' := by rfl) :
    Calls Try.prog 26 #[pz g, .string rv, .int .i64 x] w fun e w' => e = .returned (.tuple #[.int .i64 er, .bool bo]) ∧ Hold w0 w' L (Sep A (Sep (RflP g f') B)) := by
  obtain ⟨v, lm, e1, ok, HS⟩ := hold_rlopen h
  obtain ⟨F, hS⟩ := hold_S HS
  have hlen : lm.length ≤ 30 := by
    have := ok.len; have := ok.room
    rw [← e1, List.length_map] at *
    omega
  have WH := Lib.hid (rlwhere_any g f.room f.n v lm x w F hS (by omega))
  have hmap := whereH_map lm x
  rw [e1] at hmap
  cases hf : whereH lm x with
  | some m =>
    rw [hf] at WH hmap
    have hwp : whereP f.l x = some m.h := hmap.symm
    have ht : f.takeH rv x = none := by unfold Fl.takeH; rw [hwp]
    have hr : f.take rv x = 0 ∧ f.takeB rv x = false ∧ f.aftTake rv x = f := ⟨by unfold Fl.take; rw [ht], by unfold Fl.takeB; rw [ht]; rfl, by unfold Fl.aftTake; rw [ht]⟩
    obtain rfl := h1.symm.trans hr.1
    obtain rfl := h2.symm.trans hr.2.1
    obtain rfl := h3.symm.trans hr.2.2
    have H := Lib.hid h
    clear h HS hS hmap hwp hf h1 h2 h3 ht hr
    dsimp only [ptrO] at WH
    go_enter Try.func26, Try.ntmps26
    go_wp2_with fail
    refine WH.out.mono ?_
    rintro e w1 ⟨rfl, rfl⟩
    go_wp2_with fail
    go_returns
    exact ⟨rfl, H.out⟩
  | none =>
    rw [hf] at WH hmap
    have hwp : whereP f.l x = none := hmap.symm
    have ht : f.takeH rv x = pickP f.l rv := by unfold Fl.takeH; rw [hwp]
    have hpm := pickM_map lm rv
    rw [e1] at hpm
    obtain ⟨a, c, rfl⟩ := hS.sl
    have H : Hid (Hold w0 w L (Sep A (Sep (RflS g f.room f.n (.slice a lm.length c) lm) B))) := Lib.hid HS
    have FX := Lib.hid (hA.sep ((RflS.foot g f.room f.n (.slice a lm.length c) lm).sep hB))
    have HT := Lib.hid ht
    have HPM := Lib.hid hpm
    have HE := Lib.hid e1
    have HOK := Lib.hid ok
    have H123 := Lib.hid (And.intro h1 (And.intro h2 h3))
    clear h HS hS hmap hwp hf h1 h2 h3 ht hpm e1 ok
    dsimp only [ptrO] at WH
    go_enter Try.func26, Try.ntmps26
    go_wp2_with fail
    refine WH.out.mono ?_
    rintro e w1 ⟨rfl, rfl⟩
    go_wp2_with fail
    go_loopw [8, 9] (fun bv i wr => ∃ k : Nat, k ≤ lm.length ∧ bv = ptrO (pickM (lm.take k) rv) ∧ i = .int .i64 k ∧ Hid (Hold w0 wr L (Sep A (Sep (RflS g f.room f.n (.slice a lm.length c) lm) B)))) (fun _ i _ => lm.length - (_root_.Go.RowKit.intOf i).toNat)
    case atStart => exact ⟨0, by omega, rfl, rfl, H⟩
    case round =>
      clear H
      obtain ⟨k, hk, rfl, rfl, H⟩ := hrel
      obtain ⟨F2, hS⟩ := hold_S H.out
      have c0 : wr.cell? ⟨g, 2, none⟩ = some (.slice a lm.length c) := (hS.hb.cell 2).trans rfl
      have hgl := hS.hb.lt
      by_cases hlt : k < lm.length
      · obtain ⟨m, hm⟩ : ∃ m, lm[k]? = some m := ⟨_, List.getElem?_eq_getElem hlt⟩
        obtain ⟨q, c', e, cr, hql⟩ := hS.at hm
        cases e
        obtain ⟨hB2, u, hP⟩ := hS.ob hm
        have c1 : wr.cell? ⟨m.b, 1, none⟩ = some (.string m.h.rv) := (hB2.cell 1).trans rfl
        have c2 : wr.cell? ⟨m.b, 2, none⟩ = some (pz m.p) := (hB2.cell 2).trans rfl
        have cc := hP.c0
        have hbl := hB2.lt
        have hpl := hP.hb.lt
        have SM := Lib.hid (fun (w' : World) (h : Chg (fun _ => False) wr w') => quietG (rpstate_any m.p m.h.p u w' (hP.chg h (fun _ _ => id))))
        have LM := Lib.hid (fun (w' : World) (h : Chg (fun _ => False) wr w') => quietG (rpload_any m.p m.h.p u w' (hP.chg h (fun _ _ => id))))
        have d0 : decide ((k : Int) < (lm.length : Int)) = true := decide_eq_true (by omega)
        have hk1 : IntKind.i64.wrap ((k : Int) + 1) = (k : Int) + 1 := IntWalk.i64_in _ ⟨by omega, by omega⟩
        have k1 : (0 : Int) ≤ (k : Int) := by omega
        have k2 : (k : Int) < (lm.length : Int) := by omega
        have HSN : Hid (pickM (lm.take (k + 1)) rv = pickHS rv (pickM (lm.take k) rv) m) := Lib.hid (by rw [List.take_add_one, hm]; exact pickM_snoc _ _ _)
        have HMB := Lib.hid (fun x (hx : pickM (lm.take k) rv = some x) => pickM_mem rv _ x hx)
        obtain ⟨o, ho⟩ : ∃ o, pickM (lm.take k) rv = o := ⟨_, rfl⟩
        rw [ho] at HSN HMB ⊢
        have hno : ∀ (he : ¬ (m.h.rv = rv ∧ m.h.p.st = 2 ∧ (m.h.load : Int) < m.h.p.c)), Hid (pickM (lm.take (k + 1)) rv = o) := fun he => Lib.hid (by rw [HSN.out]; unfold pickHS; rw [if_neg he])
        have LB := LM
        have hcase : (m.h.rv.toList == rv.toList) = false ∧ ¬ (m.h.rv = rv ∧ m.h.p.st = 2 ∧ (m.h.load : Int) < m.h.p.c) ∨ ((m.h.rv.toList == rv.toList) = true ∧ (m.h.p.st == 2) = false ∧ ¬ (m.h.rv = rv ∧ m.h.p.st = 2 ∧ (m.h.load : Int) < m.h.p.c)) ∨
            ((m.h.rv.toList == rv.toList) = true ∧ (m.h.p.st == 2) = true ∧ (¬ ((m.h.p.l.length : Int) < m.h.p.c)) ∧ ¬ (m.h.rv = rv ∧ m.h.p.st = 2 ∧ (m.h.load : Int) < m.h.p.c)) ∨
            ((m.h.rv.toList == rv.toList) = true ∧ (m.h.p.st == 2) = true ∧ ((m.h.p.l.length : Int) < m.h.p.c) ∧ (m.h.rv = rv ∧ m.h.p.st = 2 ∧ (m.h.load : Int) < m.h.p.c)) := by
          by_cases q1 : m.h.rv = rv
          · by_cases q2 : m.h.p.st = 2
            · by_cases q3 : (m.h.p.l.length : Int) < m.h.p.c
              · exact .inr (.inr (.inr ⟨eqS_iff.2 q1, by simpa using q2, q3, q1, q2, q3⟩))
              · exact .inr (.inr (.inl ⟨eqS_iff.2 q1, by simpa using q2, q3, fun q => q3 q.2.2⟩))
            · exact .inr (.inl ⟨eqS_iff.2 q1, by simpa using q2, fun q => q2 q.2.1⟩)
          · exact .inl ⟨neS_iff.2 q1, fun q => q1 q.1⟩
        rcases hcase with ⟨q1, hn⟩ | ⟨q1, q2, hn⟩ | ⟨q1, q2, q3, hn⟩ | ⟨q1, q2, q3, hy⟩
        · have HB2 := hno hn
          obtain ⟨st, hst⟩ : ∃ st, m.h.p.st = st := ⟨_, rfl⟩
          obtain ⟨x1, hx1⟩ : ∃ x1, m.h.p.l.length = x1 := ⟨_, rfl⟩
          obtain ⟨cm, hcm⟩ : ∃ cm, m.h.p.c = cm := ⟨_, rfl⟩
          rw [hst] at SM
          rw [hx1] at LM LB
          have KC := Lib.hid (fun (w' : World) (h : Chg (fun _ => False) wr w') => (⟨h.cell c1 id, h.cell c2 id, h.cell cc id, h.cell c2 id, trivial⟩ : w'.cell? ⟨m.b, 1, none⟩ = some (.string m.h.rv) ∧ w'.cell? ⟨m.b, 2, none⟩ = some (pz m.p) ∧ w'.cell? ⟨m.p, 0, none⟩ = some (.int .i64 m.h.p.c) ∧ w'.cell? ⟨m.b, 2, none⟩ = some (pz m.p) ∧ True))
          rw [hcm] at KC
          clear hno hn hm hB2 hP hS HSN HMB ho hst hx1 hcm c1 cc
          go_wp2_with fail
          refine Evo2.start' (ℓ := none) (S := Chg (fun _ => False)) (E := Grow.G) (by kernel_rfl) ⟨Chg.pre _, by decide +kernel, (by intro c a d v w h; cases d <;> exact h), by decide +kernel⟩ (fun ok => ?_)
          refine Evo2.va ok 0 _ _ ?_
          refine Evo2.va ok 1 _ _ ?_
          refine Evo2.va ok 2 _ _ ?_
          first | (refine Evo2.vl ok 3 KC.out (Chg.refl (fun _ => False) _) _ _ ?_) | (refine Evo2.va ok 3 _ _ ?_)
          refine Evo2.va ok 4 _ _ ?_
          refine Evo2.va ok 5 _ _ ?_
          refine Evo2.va ok 6 _ _ ?_
          first | (refine Evo2.va ok 7 _ _ ?_) | (refine Evo2.vi ok 7 _ ?_)
          first | (refine Evo2.va ok 8 _ _ ?_) | (refine Evo2.vi ok 8 _ ?_)
          first | (refine Evo2.va ok 9 _ _ ?_) | (refine Evo2.vi ok 9 _ ?_)
          first | (refine Evo2.vl ok 10 KC.out (Chg.refl (fun _ => False) _) _ _ ?_) | (refine Evo2.va ok 10 _ _ ?_) | (refine Evo2.vi ok 10 _ ?_)
          first | (refine Evo2.cal ok 11 ?_ 49 ?_ ?_ ?_ ?_; rotate_left 2; (focus (intro w'; go_simp <;> with_reducible rfl)); (focus (intro w' g'; with_reducible exact SM.out w' (Chg.trans (Chg.refl (fun _ => False) _) g'))); simp only [Act.put, L0, L1, L2]) | (refine Evo2.vi ok 11 _ ?_)
          first | (refine Evo2.va ok 12 _ _ ?_) | (refine Evo2.vi ok 12 _ ?_)
          refine Evo2.va ok 13 _ _ ?_
          refine Evo2.va ok 14 _ _ ?_
          first | (refine Evo2.va ok 15 _ _ ?_) | (refine Evo2.vi ok 15 _ ?_)
          first | (refine Evo2.va ok 16 _ _ ?_) | (refine Evo2.vi ok 16 _ ?_)
          first | (refine Evo2.va ok 17 _ _ ?_) | (refine Evo2.vi ok 17 _ ?_)
          first | (refine Evo2.vl ok 18 KC.out (Chg.refl (fun _ => False) _) _ _ ?_) | (refine Evo2.va ok 18 _ _ ?_) | (refine Evo2.vi ok 18 _ ?_)
          first | (refine Evo2.cal ok 19 ?_ 50 ?_ ?_ ?_ ?_; rotate_left 2; (focus (intro w'; go_simp <;> with_reducible rfl)); (focus (intro w' g'; with_reducible exact LM.out w' (Chg.trans (Chg.refl (fun _ => False) _) g'))); simp only [Act.put, L0, L1, L2]) | (refine Evo2.vi ok 19 _ ?_)
          first | (refine Evo2.va ok 20 _ _ ?_) | (refine Evo2.vi ok 20 _ ?_)
          first | (refine Evo2.va ok 21 _ _ ?_) | (refine Evo2.vi ok 21 _ ?_)
          first | (refine Evo2.va ok 22 _ _ ?_) | (refine Evo2.vi ok 22 _ ?_)
          first | (refine Evo2.vl ok 23 KC.out (Chg.refl (fun _ => False) _) _ _ ?_) | (refine Evo2.va ok 23 _ _ ?_) | (refine Evo2.vi ok 23 _ ?_)
          first | (refine Evo2.va ok 24 _ _ ?_) | (refine Evo2.vi ok 24 _ ?_)
          first | (refine Evo2.va ok 25 _ _ ?_) | (refine Evo2.vi ok 25 _ ?_)
          first | (refine Evo2.vl ok 26 KC.out (Chg.refl (fun _ => False) _) _ _ ?_) | (refine Evo2.va ok 26 _ _ ?_) | (refine Evo2.vi ok 26 _ ?_)
          first | (refine Evo2.va ok 27 _ _ ?_) | (refine Evo2.vi ok 27 _ ?_)
          refine Evo2.va ok 28 _ _ ?_
          refine Evo2.va ok 29 _ _ ?_
          first | (refine Evo2.va ok 30 _ _ ?_) | (refine Evo2.vi ok 30 _ ?_)
          first | (refine Evo2.va ok 31 _ _ ?_) | (refine Evo2.vi ok 31 _ ?_)
          first | (refine Evo2.va ok 32 _ _ ?_) | (refine Evo2.vi ok 32 _ ?_)
          first | (refine Evo2.va ok 33 _ _ ?_) | (refine Evo2.vi ok 33 _ ?_)
          first | (refine Evo2.va ok 34 _ _ ?_) | (refine Evo2.vi ok 34 _ ?_)
          first | (refine Evo2.va ok 35 _ _ ?_) | (refine Evo2.vi ok 35 _ ?_)
          first | (refine Evo2.vl ok 36 KC.out (Chg.refl (fun _ => False) _) _ _ ?_) | (refine Evo2.va ok 36 _ _ ?_) | (refine Evo2.vi ok 36 _ ?_)
          first | (refine Evo2.cal ok 37 ?_ 50 ?_ ?_ ?_ ?_; rotate_left 2; (focus (intro w'; go_simp <;> with_reducible rfl)); (focus (intro w' g'; with_reducible exact LM.out w' (Chg.trans (Chg.refl (fun _ => False) _) g'))); simp only [Act.put, L0, L1, L2]) | (refine Evo2.vi ok 37 _ ?_)
          first | (refine Evo2.va ok 38 _ _ ?_) | (refine Evo2.vi ok 38 _ ?_)
          first | (refine Evo2.va ok 39 _ _ ?_) | (refine Evo2.vi ok 39 _ ?_)
          first | (refine Evo2.va ok 40 _ _ ?_) | (refine Evo2.vi ok 40 _ ?_)
          first | (refine Evo2.vl ok 41 KC.out (Chg.refl (fun _ => False) _) _ _ ?_) | (refine Evo2.va ok 41 _ _ ?_) | (refine Evo2.vi ok 41 _ ?_)
          first | (refine Evo2.cal ok 42 ?_ 50 ?_ ?_ ?_ ?_; rotate_left 2; (focus (intro w'; go_simp <;> with_reducible rfl)); (focus (intro w' g'; with_reducible exact LB.out w' (Chg.trans (Chg.refl (fun _ => False) _) g'))); simp only [Act.put, L0, L1, L2]) | (refine Evo2.vi ok 42 _ ?_)
          first | (refine Evo2.va ok 43 _ _ ?_) | (refine Evo2.vi ok 43 _ ?_)
          first | (refine Evo2.va ok 44 _ _ ?_) | (refine Evo2.vi ok 44 _ ?_)
          refine Evo2.va ok 45 _ _ ?_
          refine Evo2.done (by decide +kernel) (fun wz gz => ?_)
          have AZ := Chg.trans (Chg.refl (fun _ => False) _) (Chg.grow gz)
          have H2 := Lib.hid (H.out.grow FX.out (AZ.toGrow (fun _ _ => id)))
          clear AZ gz KC
          go_wp2_with fail
          go_roundw
          case rel => exact ⟨k + 1, by omega, (by rw [HB2.out]; first | done | rfl), by go_num, H2⟩
          case measure => simp [_root_.Go.RowKit.intOf]; omega
        · have HB2 := hno hn
          obtain ⟨st, hst⟩ : ∃ st, m.h.p.st = st := ⟨_, rfl⟩
          obtain ⟨x1, hx1⟩ : ∃ x1, m.h.p.l.length = x1 := ⟨_, rfl⟩
          obtain ⟨cm, hcm⟩ : ∃ cm, m.h.p.c = cm := ⟨_, rfl⟩
          rw [hst] at q2
          rw [hst] at SM
          rw [hx1] at LM LB
          have KC := Lib.hid (fun (w' : World) (h : Chg (fun _ => False) wr w') => (⟨h.cell c1 id, h.cell c2 id, h.cell cc id, h.cell c2 id, trivial⟩ : w'.cell? ⟨m.b, 1, none⟩ = some (.string m.h.rv) ∧ w'.cell? ⟨m.b, 2, none⟩ = some (pz m.p) ∧ w'.cell? ⟨m.p, 0, none⟩ = some (.int .i64 m.h.p.c) ∧ w'.cell? ⟨m.b, 2, none⟩ = some (pz m.p) ∧ True))
          rw [hcm] at KC
          clear hno hn hm hB2 hP hS HSN HMB ho hst hx1 hcm c1 cc
          go_wp2_with fail
          refine Evo2.start' (ℓ := none) (S := Chg (fun _ => False)) (E := Grow.G) (by kernel_rfl) ⟨Chg.pre _, by decide +kernel, (by intro c a d v w h; cases d <;> exact h), by decide +kernel⟩ (fun ok => ?_)
          refine Evo2.va ok 0 _ _ ?_
          refine Evo2.va ok 1 _ _ ?_
          refine Evo2.va ok 2 _ _ ?_
          first | (refine Evo2.vl ok 3 KC.out (Chg.refl (fun _ => False) _) _ _ ?_) | (refine Evo2.va ok 3 _ _ ?_)
          refine Evo2.va ok 4 _ _ ?_
          refine Evo2.va ok 5 _ _ ?_
          refine Evo2.va ok 6 _ _ ?_
          first | (refine Evo2.va ok 7 _ _ ?_) | (refine Evo2.vi ok 7 _ ?_)
          first | (refine Evo2.va ok 8 _ _ ?_) | (refine Evo2.vi ok 8 _ ?_)
          first | (refine Evo2.va ok 9 _ _ ?_) | (refine Evo2.vi ok 9 _ ?_)
          first | (refine Evo2.vl ok 10 KC.out (Chg.refl (fun _ => False) _) _ _ ?_) | (refine Evo2.va ok 10 _ _ ?_) | (refine Evo2.vi ok 10 _ ?_)
          first | (refine Evo2.cal ok 11 ?_ 49 ?_ ?_ ?_ ?_; rotate_left 2; (focus (intro w'; go_simp <;> with_reducible rfl)); (focus (intro w' g'; with_reducible exact SM.out w' (Chg.trans (Chg.refl (fun _ => False) _) g'))); simp only [Act.put, L0, L1, L2]) | (refine Evo2.vi ok 11 _ ?_)
          first | (refine Evo2.va ok 12 _ _ ?_) | (refine Evo2.vi ok 12 _ ?_)
          refine Evo2.va ok 13 _ _ ?_
          refine Evo2.va ok 14 _ _ ?_
          first | (refine Evo2.va ok 15 _ _ ?_) | (refine Evo2.vi ok 15 _ ?_)
          first | (refine Evo2.va ok 16 _ _ ?_) | (refine Evo2.vi ok 16 _ ?_)
          first | (refine Evo2.va ok 17 _ _ ?_) | (refine Evo2.vi ok 17 _ ?_)
          first | (refine Evo2.vl ok 18 KC.out (Chg.refl (fun _ => False) _) _ _ ?_) | (refine Evo2.va ok 18 _ _ ?_) | (refine Evo2.vi ok 18 _ ?_)
          first | (refine Evo2.cal ok 19 ?_ 50 ?_ ?_ ?_ ?_; rotate_left 2; (focus (intro w'; go_simp <;> with_reducible rfl)); (focus (intro w' g'; with_reducible exact LM.out w' (Chg.trans (Chg.refl (fun _ => False) _) g'))); simp only [Act.put, L0, L1, L2]) | (refine Evo2.vi ok 19 _ ?_)
          first | (refine Evo2.va ok 20 _ _ ?_) | (refine Evo2.vi ok 20 _ ?_)
          first | (refine Evo2.va ok 21 _ _ ?_) | (refine Evo2.vi ok 21 _ ?_)
          first | (refine Evo2.va ok 22 _ _ ?_) | (refine Evo2.vi ok 22 _ ?_)
          first | (refine Evo2.vl ok 23 KC.out (Chg.refl (fun _ => False) _) _ _ ?_) | (refine Evo2.va ok 23 _ _ ?_) | (refine Evo2.vi ok 23 _ ?_)
          first | (refine Evo2.va ok 24 _ _ ?_) | (refine Evo2.vi ok 24 _ ?_)
          first | (refine Evo2.va ok 25 _ _ ?_) | (refine Evo2.vi ok 25 _ ?_)
          first | (refine Evo2.vl ok 26 KC.out (Chg.refl (fun _ => False) _) _ _ ?_) | (refine Evo2.va ok 26 _ _ ?_) | (refine Evo2.vi ok 26 _ ?_)
          first | (refine Evo2.va ok 27 _ _ ?_) | (refine Evo2.vi ok 27 _ ?_)
          refine Evo2.va ok 28 _ _ ?_
          refine Evo2.va ok 29 _ _ ?_
          first | (refine Evo2.va ok 30 _ _ ?_) | (refine Evo2.vi ok 30 _ ?_)
          first | (refine Evo2.va ok 31 _ _ ?_) | (refine Evo2.vi ok 31 _ ?_)
          first | (refine Evo2.va ok 32 _ _ ?_) | (refine Evo2.vi ok 32 _ ?_)
          first | (refine Evo2.va ok 33 _ _ ?_) | (refine Evo2.vi ok 33 _ ?_)
          first | (refine Evo2.va ok 34 _ _ ?_) | (refine Evo2.vi ok 34 _ ?_)
          first | (refine Evo2.va ok 35 _ _ ?_) | (refine Evo2.vi ok 35 _ ?_)
          first | (refine Evo2.vl ok 36 KC.out (Chg.refl (fun _ => False) _) _ _ ?_) | (refine Evo2.va ok 36 _ _ ?_) | (refine Evo2.vi ok 36 _ ?_)
          first | (refine Evo2.cal ok 37 ?_ 50 ?_ ?_ ?_ ?_; rotate_left 2; (focus (intro w'; go_simp <;> with_reducible rfl)); (focus (intro w' g'; with_reducible exact LM.out w' (Chg.trans (Chg.refl (fun _ => False) _) g'))); simp only [Act.put, L0, L1, L2]) | (refine Evo2.vi ok 37 _ ?_)
          first | (refine Evo2.va ok 38 _ _ ?_) | (refine Evo2.vi ok 38 _ ?_)
          first | (refine Evo2.va ok 39 _ _ ?_) | (refine Evo2.vi ok 39 _ ?_)
          first | (refine Evo2.va ok 40 _ _ ?_) | (refine Evo2.vi ok 40 _ ?_)
          first | (refine Evo2.vl ok 41 KC.out (Chg.refl (fun _ => False) _) _ _ ?_) | (refine Evo2.va ok 41 _ _ ?_) | (refine Evo2.vi ok 41 _ ?_)
          first | (refine Evo2.cal ok 42 ?_ 50 ?_ ?_ ?_ ?_; rotate_left 2; (focus (intro w'; go_simp <;> with_reducible rfl)); (focus (intro w' g'; with_reducible exact LB.out w' (Chg.trans (Chg.refl (fun _ => False) _) g'))); simp only [Act.put, L0, L1, L2]) | (refine Evo2.vi ok 42 _ ?_)
          first | (refine Evo2.va ok 43 _ _ ?_) | (refine Evo2.vi ok 43 _ ?_)
          first | (refine Evo2.va ok 44 _ _ ?_) | (refine Evo2.vi ok 44 _ ?_)
          refine Evo2.va ok 45 _ _ ?_
          refine Evo2.done (by decide +kernel) (fun wz gz => ?_)
          have AZ := Chg.trans (Chg.refl (fun _ => False) _) (Chg.grow gz)
          have H2 := Lib.hid (H.out.grow FX.out (AZ.toGrow (fun _ _ => id)))
          clear AZ gz KC
          go_wp2_with fail
          go_roundw
          case rel => exact ⟨k + 1, by omega, (by rw [HB2.out]; first | done | rfl), by go_num, H2⟩
          case measure => simp [_root_.Go.RowKit.intOf]; omega
        · have HB2 := hno hn
          obtain ⟨st, hst⟩ : ∃ st, m.h.p.st = st := ⟨_, rfl⟩
          obtain ⟨x1, hx1⟩ : ∃ x1, m.h.p.l.length = x1 := ⟨_, rfl⟩
          obtain ⟨cm, hcm⟩ : ∃ cm, m.h.p.c = cm := ⟨_, rfl⟩
          rw [hst] at q2
          rw [hx1, hcm] at q3
          have d3 : decide ((x1 : Int) < cm) = false := decide_eq_false q3
          rw [hst] at SM
          rw [hx1] at LM LB
          have KC := Lib.hid (fun (w' : World) (h : Chg (fun _ => False) wr w') => (⟨h.cell c1 id, h.cell c2 id, h.cell cc id, h.cell c2 id, trivial⟩ : w'.cell? ⟨m.b, 1, none⟩ = some (.string m.h.rv) ∧ w'.cell? ⟨m.b, 2, none⟩ = some (pz m.p) ∧ w'.cell? ⟨m.p, 0, none⟩ = some (.int .i64 m.h.p.c) ∧ w'.cell? ⟨m.b, 2, none⟩ = some (pz m.p) ∧ True))
          rw [hcm] at KC
          clear hno hn hm hB2 hP hS HSN HMB ho hst hx1 hcm c1 cc
          go_wp2_with fail
          refine Evo2.start' (ℓ := none) (S := Chg (fun _ => False)) (E := Grow.G) (by kernel_rfl) ⟨Chg.pre _, by decide +kernel, (by intro c a d v w h; cases d <;> exact h), by decide +kernel⟩ (fun ok => ?_)
          refine Evo2.va ok 0 _ _ ?_
          refine Evo2.va ok 1 _ _ ?_
          refine Evo2.va ok 2 _ _ ?_
          first | (refine Evo2.vl ok 3 KC.out (Chg.refl (fun _ => False) _) _ _ ?_) | (refine Evo2.va ok 3 _ _ ?_)
          refine Evo2.va ok 4 _ _ ?_
          refine Evo2.va ok 5 _ _ ?_
          refine Evo2.va ok 6 _ _ ?_
          first | (refine Evo2.va ok 7 _ _ ?_) | (refine Evo2.vi ok 7 _ ?_)
          first | (refine Evo2.va ok 8 _ _ ?_) | (refine Evo2.vi ok 8 _ ?_)
          first | (refine Evo2.va ok 9 _ _ ?_) | (refine Evo2.vi ok 9 _ ?_)
          first | (refine Evo2.vl ok 10 KC.out (Chg.refl (fun _ => False) _) _ _ ?_) | (refine Evo2.va ok 10 _ _ ?_) | (refine Evo2.vi ok 10 _ ?_)
          first | (refine Evo2.cal ok 11 ?_ 49 ?_ ?_ ?_ ?_; rotate_left 2; (focus (intro w'; go_simp <;> with_reducible rfl)); (focus (intro w' g'; with_reducible exact SM.out w' (Chg.trans (Chg.refl (fun _ => False) _) g'))); simp only [Act.put, L0, L1, L2]) | (refine Evo2.vi ok 11 _ ?_)
          first | (refine Evo2.va ok 12 _ _ ?_) | (refine Evo2.vi ok 12 _ ?_)
          refine Evo2.va ok 13 _ _ ?_
          refine Evo2.va ok 14 _ _ ?_
          first | (refine Evo2.va ok 15 _ _ ?_) | (refine Evo2.vi ok 15 _ ?_)
          first | (refine Evo2.va ok 16 _ _ ?_) | (refine Evo2.vi ok 16 _ ?_)
          first | (refine Evo2.va ok 17 _ _ ?_) | (refine Evo2.vi ok 17 _ ?_)
          first | (refine Evo2.vl ok 18 KC.out (Chg.refl (fun _ => False) _) _ _ ?_) | (refine Evo2.va ok 18 _ _ ?_) | (refine Evo2.vi ok 18 _ ?_)
          first | (refine Evo2.cal ok 19 ?_ 50 ?_ ?_ ?_ ?_; rotate_left 2; (focus (intro w'; go_simp <;> with_reducible rfl)); (focus (intro w' g'; with_reducible exact LM.out w' (Chg.trans (Chg.refl (fun _ => False) _) g'))); simp only [Act.put, L0, L1, L2]) | (refine Evo2.vi ok 19 _ ?_)
          first | (refine Evo2.va ok 20 _ _ ?_) | (refine Evo2.vi ok 20 _ ?_)
          first | (refine Evo2.va ok 21 _ _ ?_) | (refine Evo2.vi ok 21 _ ?_)
          first | (refine Evo2.va ok 22 _ _ ?_) | (refine Evo2.vi ok 22 _ ?_)
          first | (refine Evo2.vl ok 23 KC.out (Chg.refl (fun _ => False) _) _ _ ?_) | (refine Evo2.va ok 23 _ _ ?_) | (refine Evo2.vi ok 23 _ ?_)
          first | (refine Evo2.va ok 24 _ _ ?_) | (refine Evo2.vi ok 24 _ ?_)
          first | (refine Evo2.va ok 25 _ _ ?_) | (refine Evo2.vi ok 25 _ ?_)
          first | (refine Evo2.vl ok 26 KC.out (Chg.refl (fun _ => False) _) _ _ ?_) | (refine Evo2.va ok 26 _ _ ?_) | (refine Evo2.vi ok 26 _ ?_)
          first | (refine Evo2.va ok 27 _ _ ?_) | (refine Evo2.vi ok 27 _ ?_)
          refine Evo2.va ok 28 _ _ ?_
          refine Evo2.va ok 29 _ _ ?_
          first | (refine Evo2.va ok 30 _ _ ?_) | (refine Evo2.vi ok 30 _ ?_)
          first | (refine Evo2.va ok 31 _ _ ?_) | (refine Evo2.vi ok 31 _ ?_)
          first | (refine Evo2.va ok 32 _ _ ?_) | (refine Evo2.vi ok 32 _ ?_)
          first | (refine Evo2.va ok 33 _ _ ?_) | (refine Evo2.vi ok 33 _ ?_)
          first | (refine Evo2.va ok 34 _ _ ?_) | (refine Evo2.vi ok 34 _ ?_)
          first | (refine Evo2.va ok 35 _ _ ?_) | (refine Evo2.vi ok 35 _ ?_)
          first | (refine Evo2.vl ok 36 KC.out (Chg.refl (fun _ => False) _) _ _ ?_) | (refine Evo2.va ok 36 _ _ ?_) | (refine Evo2.vi ok 36 _ ?_)
          first | (refine Evo2.cal ok 37 ?_ 50 ?_ ?_ ?_ ?_; rotate_left 2; (focus (intro w'; go_simp <;> with_reducible rfl)); (focus (intro w' g'; with_reducible exact LM.out w' (Chg.trans (Chg.refl (fun _ => False) _) g'))); simp only [Act.put, L0, L1, L2]) | (refine Evo2.vi ok 37 _ ?_)
          first | (refine Evo2.va ok 38 _ _ ?_) | (refine Evo2.vi ok 38 _ ?_)
          first | (refine Evo2.va ok 39 _ _ ?_) | (refine Evo2.vi ok 39 _ ?_)
          first | (refine Evo2.va ok 40 _ _ ?_) | (refine Evo2.vi ok 40 _ ?_)
          first | (refine Evo2.vl ok 41 KC.out (Chg.refl (fun _ => False) _) _ _ ?_) | (refine Evo2.va ok 41 _ _ ?_) | (refine Evo2.vi ok 41 _ ?_)
          first | (refine Evo2.cal ok 42 ?_ 50 ?_ ?_ ?_ ?_; rotate_left 2; (focus (intro w'; go_simp <;> with_reducible rfl)); (focus (intro w' g'; with_reducible exact LB.out w' (Chg.trans (Chg.refl (fun _ => False) _) g'))); simp only [Act.put, L0, L1, L2]) | (refine Evo2.vi ok 42 _ ?_)
          first | (refine Evo2.va ok 43 _ _ ?_) | (refine Evo2.vi ok 43 _ ?_)
          first | (refine Evo2.va ok 44 _ _ ?_) | (refine Evo2.vi ok 44 _ ?_)
          refine Evo2.va ok 45 _ _ ?_
          refine Evo2.done (by decide +kernel) (fun wz gz => ?_)
          have AZ := Chg.trans (Chg.refl (fun _ => False) _) (Chg.grow gz)
          have H2 := Lib.hid (H.out.grow FX.out (AZ.toGrow (fun _ _ => id)))
          clear AZ gz KC
          go_wp2_with fail
          go_roundw
          case rel => exact ⟨k + 1, by omega, (by rw [HB2.out]; first | done | rfl), by go_num, H2⟩
          case measure => simp [_root_.Go.RowKit.intOf]; omega
        · cases o with
          | none =>
            dsimp only [ptrO]
            have HB2 : Hid (pickM (lm.take (k + 1)) rv = some m) := Lib.hid (by rw [HSN.out]; unfold pickHS; rw [if_pos hy])
            obtain ⟨st, hst⟩ : ∃ st, m.h.p.st = st := ⟨_, rfl⟩
            obtain ⟨x1, hx1⟩ : ∃ x1, m.h.p.l.length = x1 := ⟨_, rfl⟩
            obtain ⟨cm, hcm⟩ : ∃ cm, m.h.p.c = cm := ⟨_, rfl⟩
            rw [hst] at q2
            rw [hx1, hcm] at q3
            have d3 : decide ((x1 : Int) < cm) = true := decide_eq_true q3
            rw [hst] at SM
            rw [hx1] at LM LB
            have KC := Lib.hid (fun (w' : World) (h : Chg (fun _ => False) wr w') => (⟨h.cell c1 id, h.cell c2 id, h.cell cc id, h.cell c2 id, trivial⟩ : w'.cell? ⟨m.b, 1, none⟩ = some (.string m.h.rv) ∧ w'.cell? ⟨m.b, 2, none⟩ = some (pz m.p) ∧ w'.cell? ⟨m.p, 0, none⟩ = some (.int .i64 m.h.p.c) ∧ w'.cell? ⟨m.b, 2, none⟩ = some (pz m.p) ∧ True))
            rw [hcm] at KC
            clear hno hy hm hB2 hP hS HSN HMB ho hst hx1 hcm c1 cc
            go_wp2_with fail
            refine Evo2.start' (ℓ := none) (S := Chg (fun _ => False)) (E := Grow.G) (by kernel_rfl) ⟨Chg.pre _, by decide +kernel, (by intro c a d v w h; cases d <;> exact h), by decide +kernel⟩ (fun ok => ?_)
            refine Evo2.va ok 0 _ _ ?_
            refine Evo2.va ok 1 _ _ ?_
            refine Evo2.va ok 2 _ _ ?_
            first | (refine Evo2.vl ok 3 KC.out (Chg.refl (fun _ => False) _) _ _ ?_) | (refine Evo2.va ok 3 _ _ ?_)
            refine Evo2.va ok 4 _ _ ?_
            refine Evo2.va ok 5 _ _ ?_
            refine Evo2.va ok 6 _ _ ?_
            first | (refine Evo2.va ok 7 _ _ ?_) | (refine Evo2.vi ok 7 _ ?_)
            first | (refine Evo2.va ok 8 _ _ ?_) | (refine Evo2.vi ok 8 _ ?_)
            first | (refine Evo2.va ok 9 _ _ ?_) | (refine Evo2.vi ok 9 _ ?_)
            first | (refine Evo2.vl ok 10 KC.out (Chg.refl (fun _ => False) _) _ _ ?_) | (refine Evo2.va ok 10 _ _ ?_) | (refine Evo2.vi ok 10 _ ?_)
            first | (refine Evo2.cal ok 11 ?_ 49 ?_ ?_ ?_ ?_; rotate_left 2; (focus (intro w'; go_simp <;> with_reducible rfl)); (focus (intro w' g'; with_reducible exact SM.out w' (Chg.trans (Chg.refl (fun _ => False) _) g'))); simp only [Act.put, L0, L1, L2]) | (refine Evo2.vi ok 11 _ ?_)
            first | (refine Evo2.va ok 12 _ _ ?_) | (refine Evo2.vi ok 12 _ ?_)
            refine Evo2.va ok 13 _ _ ?_
            refine Evo2.va ok 14 _ _ ?_
            first | (refine Evo2.va ok 15 _ _ ?_) | (refine Evo2.vi ok 15 _ ?_)
            first | (refine Evo2.va ok 16 _ _ ?_) | (refine Evo2.vi ok 16 _ ?_)
            first | (refine Evo2.va ok 17 _ _ ?_) | (refine Evo2.vi ok 17 _ ?_)
            first | (refine Evo2.vl ok 18 KC.out (Chg.refl (fun _ => False) _) _ _ ?_) | (refine Evo2.va ok 18 _ _ ?_) | (refine Evo2.vi ok 18 _ ?_)
            first | (refine Evo2.cal ok 19 ?_ 50 ?_ ?_ ?_ ?_; rotate_left 2; (focus (intro w'; go_simp <;> with_reducible rfl)); (focus (intro w' g'; with_reducible exact LM.out w' (Chg.trans (Chg.refl (fun _ => False) _) g'))); simp only [Act.put, L0, L1, L2]) | (refine Evo2.vi ok 19 _ ?_)
            first | (refine Evo2.va ok 20 _ _ ?_) | (refine Evo2.vi ok 20 _ ?_)
            first | (refine Evo2.va ok 21 _ _ ?_) | (refine Evo2.vi ok 21 _ ?_)
            first | (refine Evo2.va ok 22 _ _ ?_) | (refine Evo2.vi ok 22 _ ?_)
            first | (refine Evo2.vl ok 23 KC.out (Chg.refl (fun _ => False) _) _ _ ?_) | (refine Evo2.va ok 23 _ _ ?_) | (refine Evo2.vi ok 23 _ ?_)
            first | (refine Evo2.va ok 24 _ _ ?_) | (refine Evo2.vi ok 24 _ ?_)
            first | (refine Evo2.va ok 25 _ _ ?_) | (refine Evo2.vi ok 25 _ ?_)
            first | (refine Evo2.vl ok 26 KC.out (Chg.refl (fun _ => False) _) _ _ ?_) | (refine Evo2.va ok 26 _ _ ?_) | (refine Evo2.vi ok 26 _ ?_)
            first | (refine Evo2.va ok 27 _ _ ?_) | (refine Evo2.vi ok 27 _ ?_)
            refine Evo2.va ok 28 _ _ ?_
            refine Evo2.va ok 29 _ _ ?_
            first | (refine Evo2.va ok 30 _ _ ?_) | (refine Evo2.vi ok 30 _ ?_)
            first | (refine Evo2.va ok 31 _ _ ?_) | (refine Evo2.vi ok 31 _ ?_)
            first | (refine Evo2.va ok 32 _ _ ?_) | (refine Evo2.vi ok 32 _ ?_)
            first | (refine Evo2.va ok 33 _ _ ?_) | (refine Evo2.vi ok 33 _ ?_)
            first | (refine Evo2.va ok 34 _ _ ?_) | (refine Evo2.vi ok 34 _ ?_)
            first | (refine Evo2.va ok 35 _ _ ?_) | (refine Evo2.vi ok 35 _ ?_)
            first | (refine Evo2.vl ok 36 KC.out (Chg.refl (fun _ => False) _) _ _ ?_) | (refine Evo2.va ok 36 _ _ ?_) | (refine Evo2.vi ok 36 _ ?_)
            first | (refine Evo2.cal ok 37 ?_ 50 ?_ ?_ ?_ ?_; rotate_left 2; (focus (intro w'; go_simp <;> with_reducible rfl)); (focus (intro w' g'; with_reducible exact LM.out w' (Chg.trans (Chg.refl (fun _ => False) _) g'))); simp only [Act.put, L0, L1, L2]) | (refine Evo2.vi ok 37 _ ?_)
            first | (refine Evo2.va ok 38 _ _ ?_) | (refine Evo2.vi ok 38 _ ?_)
            first | (refine Evo2.va ok 39 _ _ ?_) | (refine Evo2.vi ok 39 _ ?_)
            first | (refine Evo2.va ok 40 _ _ ?_) | (refine Evo2.vi ok 40 _ ?_)
            first | (refine Evo2.vl ok 41 KC.out (Chg.refl (fun _ => False) _) _ _ ?_) | (refine Evo2.va ok 41 _ _ ?_) | (refine Evo2.vi ok 41 _ ?_)
            first | (refine Evo2.cal ok 42 ?_ 50 ?_ ?_ ?_ ?_; rotate_left 2; (focus (intro w'; go_simp <;> with_reducible rfl)); (focus (intro w' g'; with_reducible exact LB.out w' (Chg.trans (Chg.refl (fun _ => False) _) g'))); simp only [Act.put, L0, L1, L2]) | (refine Evo2.vi ok 42 _ ?_)
            first | (refine Evo2.va ok 43 _ _ ?_) | (refine Evo2.vi ok 43 _ ?_)
            first | (refine Evo2.va ok 44 _ _ ?_) | (refine Evo2.vi ok 44 _ ?_)
            refine Evo2.va ok 45 _ _ ?_
            refine Evo2.done (by decide +kernel) (fun wz gz => ?_)
            have AZ := Chg.trans (Chg.refl (fun _ => False) _) (Chg.grow gz)
            have H2 := Lib.hid (H.out.grow FX.out (AZ.toGrow (fun _ _ => id)))
            clear AZ gz KC
            go_wp2_with fail
            go_roundw
            case rel => exact ⟨k + 1, by omega, (by rw [HB2.out]; first | done | rfl), by go_num, H2⟩
            case measure => simp [_root_.Go.RowKit.intOf]; omega
          | some mb =>
            dsimp only [ptrO]
            obtain ⟨j, hj⟩ := mem_at' (HMB.out mb rfl)
            have hjk : lm[j]? = some mb := by
              have := (List.getElem?_eq_some_iff.1 hj).1
              rw [List.length_take] at this
              rwa [List.getElem?_take_of_lt (by omega)] at hj
            obtain ⟨hBb, ub, hPb⟩ := hS.ob hjk
            have cb2 : wr.cell? ⟨mb.b, 2, none⟩ = some (pz mb.p) := (hBb.cell 2).trans rfl
            have hbbl := hBb.lt
            replace LB := Lib.hid (fun (w' : World) (h : Chg (fun _ => False) wr w') => quietG (rpload_any mb.p mb.h.p ub w' (hPb.chg h (fun _ _ => id))))
            have HSN2 : Hid (pickM (lm.take (k + 1)) rv = if m.h.load < mb.h.load then some m else some mb) := Lib.hid (by rw [HSN.out]; unfold pickHS; rw [if_pos hy])
            unfold Po.load at HSN2
            obtain ⟨st, hst⟩ : ∃ st, m.h.p.st = st := ⟨_, rfl⟩
            obtain ⟨x1, hx1⟩ : ∃ x1, m.h.p.l.length = x1 := ⟨_, rfl⟩
            obtain ⟨x2, hx2⟩ : ∃ x2, mb.h.p.l.length = x2 := ⟨_, rfl⟩
            obtain ⟨cm, hcm⟩ : ∃ cm, m.h.p.c = cm := ⟨_, rfl⟩
            rw [hst] at q2 SM
            rw [hx1, hcm] at q3
            rw [hx1] at LM
            rw [hx2] at LB
            rw [hx1, hx2] at HSN2
            have d3 : decide ((x1 : Int) < cm) = true := decide_eq_true q3
            have KC := Lib.hid (fun (w' : World) (h : Chg (fun _ => False) wr w') => (⟨h.cell c1 id, h.cell c2 id, h.cell cc id, h.cell cb2 id, trivial⟩ : w'.cell? ⟨m.b, 1, none⟩ = some (.string m.h.rv) ∧ w'.cell? ⟨m.b, 2, none⟩ = some (pz m.p) ∧ w'.cell? ⟨m.p, 0, none⟩ = some (.int .i64 m.h.p.c) ∧ w'.cell? ⟨mb.b, 2, none⟩ = some (pz mb.p) ∧ True))
            rw [hcm] at KC
            clear hno hy hm hB2 hP hS HSN HMB ho hst hx1 hx2 hcm c1 cc hj hjk hBb hPb
            by_cases hxx : x1 < x2
            · have HB2 : Hid (pickM (lm.take (k + 1)) rv = some m) := Lib.hid (by rw [HSN2.out, if_pos hxx])
              have d4 : decide (x1 < x2) = true := decide_eq_true hxx
              clear HSN2
              go_wp2_with fail
              refine Evo2.start' (ℓ := none) (S := Chg (fun _ => False)) (E := Grow.G) (by kernel_rfl) ⟨Chg.pre _, by decide +kernel, (by intro c a d v w h; cases d <;> exact h), by decide +kernel⟩ (fun ok => ?_)
              refine Evo2.va ok 0 _ _ ?_
              refine Evo2.va ok 1 _ _ ?_
              refine Evo2.va ok 2 _ _ ?_
              first | (refine Evo2.vl ok 3 KC.out (Chg.refl (fun _ => False) _) _ _ ?_) | (refine Evo2.va ok 3 _ _ ?_)
              refine Evo2.va ok 4 _ _ ?_
              refine Evo2.va ok 5 _ _ ?_
              refine Evo2.va ok 6 _ _ ?_
              first | (refine Evo2.va ok 7 _ _ ?_) | (refine Evo2.vi ok 7 _ ?_)
              first | (refine Evo2.va ok 8 _ _ ?_) | (refine Evo2.vi ok 8 _ ?_)
              first | (refine Evo2.va ok 9 _ _ ?_) | (refine Evo2.vi ok 9 _ ?_)
              first | (refine Evo2.vl ok 10 KC.out (Chg.refl (fun _ => False) _) _ _ ?_) | (refine Evo2.va ok 10 _ _ ?_) | (refine Evo2.vi ok 10 _ ?_)
              first | (refine Evo2.cal ok 11 ?_ 49 ?_ ?_ ?_ ?_; rotate_left 2; (focus (intro w'; go_simp <;> with_reducible rfl)); (focus (intro w' g'; with_reducible exact SM.out w' (Chg.trans (Chg.refl (fun _ => False) _) g'))); simp only [Act.put, L0, L1, L2]) | (refine Evo2.vi ok 11 _ ?_)
              first | (refine Evo2.va ok 12 _ _ ?_) | (refine Evo2.vi ok 12 _ ?_)
              refine Evo2.va ok 13 _ _ ?_
              refine Evo2.va ok 14 _ _ ?_
              first | (refine Evo2.va ok 15 _ _ ?_) | (refine Evo2.vi ok 15 _ ?_)
              first | (refine Evo2.va ok 16 _ _ ?_) | (refine Evo2.vi ok 16 _ ?_)
              first | (refine Evo2.va ok 17 _ _ ?_) | (refine Evo2.vi ok 17 _ ?_)
              first | (refine Evo2.vl ok 18 KC.out (Chg.refl (fun _ => False) _) _ _ ?_) | (refine Evo2.va ok 18 _ _ ?_) | (refine Evo2.vi ok 18 _ ?_)
              first | (refine Evo2.cal ok 19 ?_ 50 ?_ ?_ ?_ ?_; rotate_left 2; (focus (intro w'; go_simp <;> with_reducible rfl)); (focus (intro w' g'; with_reducible exact LM.out w' (Chg.trans (Chg.refl (fun _ => False) _) g'))); simp only [Act.put, L0, L1, L2]) | (refine Evo2.vi ok 19 _ ?_)
              first | (refine Evo2.va ok 20 _ _ ?_) | (refine Evo2.vi ok 20 _ ?_)
              first | (refine Evo2.va ok 21 _ _ ?_) | (refine Evo2.vi ok 21 _ ?_)
              first | (refine Evo2.va ok 22 _ _ ?_) | (refine Evo2.vi ok 22 _ ?_)
              first | (refine Evo2.vl ok 23 KC.out (Chg.refl (fun _ => False) _) _ _ ?_) | (refine Evo2.va ok 23 _ _ ?_) | (refine Evo2.vi ok 23 _ ?_)
              first | (refine Evo2.va ok 24 _ _ ?_) | (refine Evo2.vi ok 24 _ ?_)
              first | (refine Evo2.va ok 25 _ _ ?_) | (refine Evo2.vi ok 25 _ ?_)
              first | (refine Evo2.vl ok 26 KC.out (Chg.refl (fun _ => False) _) _ _ ?_) | (refine Evo2.va ok 26 _ _ ?_) | (refine Evo2.vi ok 26 _ ?_)
              first | (refine Evo2.va ok 27 _ _ ?_) | (refine Evo2.vi ok 27 _ ?_)
              refine Evo2.va ok 28 _ _ ?_
              refine Evo2.va ok 29 _ _ ?_
              first | (refine Evo2.va ok 30 _ _ ?_) | (refine Evo2.vi ok 30 _ ?_)
              first | (refine Evo2.va ok 31 _ _ ?_) | (refine Evo2.vi ok 31 _ ?_)
              first | (refine Evo2.va ok 32 _ _ ?_) | (refine Evo2.vi ok 32 _ ?_)
              first | (refine Evo2.va ok 33 _ _ ?_) | (refine Evo2.vi ok 33 _ ?_)
              first | (refine Evo2.va ok 34 _ _ ?_) | (refine Evo2.vi ok 34 _ ?_)
              first | (refine Evo2.va ok 35 _ _ ?_) | (refine Evo2.vi ok 35 _ ?_)
              first | (refine Evo2.vl ok 36 KC.out (Chg.refl (fun _ => False) _) _ _ ?_) | (refine Evo2.va ok 36 _ _ ?_) | (refine Evo2.vi ok 36 _ ?_)
              first | (refine Evo2.cal ok 37 ?_ 50 ?_ ?_ ?_ ?_; rotate_left 2; (focus (intro w'; go_simp <;> with_reducible rfl)); (focus (intro w' g'; with_reducible exact LM.out w' (Chg.trans (Chg.refl (fun _ => False) _) g'))); simp only [Act.put, L0, L1, L2]) | (refine Evo2.vi ok 37 _ ?_)
              first | (refine Evo2.va ok 38 _ _ ?_) | (refine Evo2.vi ok 38 _ ?_)
              first | (refine Evo2.va ok 39 _ _ ?_) | (refine Evo2.vi ok 39 _ ?_)
              first | (refine Evo2.va ok 40 _ _ ?_) | (refine Evo2.vi ok 40 _ ?_)
              first | (refine Evo2.vl ok 41 KC.out (Chg.refl (fun _ => False) _) _ _ ?_) | (refine Evo2.va ok 41 _ _ ?_) | (refine Evo2.vi ok 41 _ ?_)
              first | (refine Evo2.cal ok 42 ?_ 50 ?_ ?_ ?_ ?_; rotate_left 2; (focus (intro w'; go_simp <;> with_reducible rfl)); (focus (intro w' g'; with_reducible exact LB.out w' (Chg.trans (Chg.refl (fun _ => False) _) g'))); simp only [Act.put, L0, L1, L2]) | (refine Evo2.vi ok 42 _ ?_)
              first | (refine Evo2.va ok 43 _ _ ?_) | (refine Evo2.vi ok 43 _ ?_)
              first | (refine Evo2.va ok 44 _ _ ?_) | (refine Evo2.vi ok 44 _ ?_)
              refine Evo2.va ok 45 _ _ ?_
              refine Evo2.done (by decide +kernel) (fun wz gz => ?_)
              have AZ := Chg.trans (Chg.refl (fun _ => False) _) (Chg.grow gz)
              have H2 := Lib.hid (H.out.grow FX.out (AZ.toGrow (fun _ _ => id)))
              clear AZ gz KC
              go_wp2_with fail
              go_roundw
              case rel => exact ⟨k + 1, by omega, (by rw [HB2.out]; first | done | rfl), by go_num, H2⟩
              case measure => simp [_root_.Go.RowKit.intOf]; omega
            · have HB2 : Hid (pickM (lm.take (k + 1)) rv = some mb) := Lib.hid (by rw [HSN2.out, if_neg hxx])
              have d4 : decide (x1 < x2) = false := decide_eq_false hxx
              clear HSN2
              go_wp2_with fail
              refine Evo2.start' (ℓ := none) (S := Chg (fun _ => False)) (E := Grow.G) (by kernel_rfl) ⟨Chg.pre _, by decide +kernel, (by intro c a d v w h; cases d <;> exact h), by decide +kernel⟩ (fun ok => ?_)
              refine Evo2.va ok 0 _ _ ?_
              refine Evo2.va ok 1 _ _ ?_
              refine Evo2.va ok 2 _ _ ?_
              first | (refine Evo2.vl ok 3 KC.out (Chg.refl (fun _ => False) _) _ _ ?_) | (refine Evo2.va ok 3 _ _ ?_)
              refine Evo2.va ok 4 _ _ ?_
              refine Evo2.va ok 5 _ _ ?_
              refine Evo2.va ok 6 _ _ ?_
              first | (refine Evo2.va ok 7 _ _ ?_) | (refine Evo2.vi ok 7 _ ?_)
              first | (refine Evo2.va ok 8 _ _ ?_) | (refine Evo2.vi ok 8 _ ?_)
              first | (refine Evo2.va ok 9 _ _ ?_) | (refine Evo2.vi ok 9 _ ?_)
              first | (refine Evo2.vl ok 10 KC.out (Chg.refl (fun _ => False) _) _ _ ?_) | (refine Evo2.va ok 10 _ _ ?_) | (refine Evo2.vi ok 10 _ ?_)
              first | (refine Evo2.cal ok 11 ?_ 49 ?_ ?_ ?_ ?_; rotate_left 2; (focus (intro w'; go_simp <;> with_reducible rfl)); (focus (intro w' g'; with_reducible exact SM.out w' (Chg.trans (Chg.refl (fun _ => False) _) g'))); simp only [Act.put, L0, L1, L2]) | (refine Evo2.vi ok 11 _ ?_)
              first | (refine Evo2.va ok 12 _ _ ?_) | (refine Evo2.vi ok 12 _ ?_)
              refine Evo2.va ok 13 _ _ ?_
              refine Evo2.va ok 14 _ _ ?_
              first | (refine Evo2.va ok 15 _ _ ?_) | (refine Evo2.vi ok 15 _ ?_)
              first | (refine Evo2.va ok 16 _ _ ?_) | (refine Evo2.vi ok 16 _ ?_)
              first | (refine Evo2.va ok 17 _ _ ?_) | (refine Evo2.vi ok 17 _ ?_)
              first | (refine Evo2.vl ok 18 KC.out (Chg.refl (fun _ => False) _) _ _ ?_) | (refine Evo2.va ok 18 _ _ ?_) | (refine Evo2.vi ok 18 _ ?_)
              first | (refine Evo2.cal ok 19 ?_ 50 ?_ ?_ ?_ ?_; rotate_left 2; (focus (intro w'; go_simp <;> with_reducible rfl)); (focus (intro w' g'; with_reducible exact LM.out w' (Chg.trans (Chg.refl (fun _ => False) _) g'))); simp only [Act.put, L0, L1, L2]) | (refine Evo2.vi ok 19 _ ?_)
              first | (refine Evo2.va ok 20 _ _ ?_) | (refine Evo2.vi ok 20 _ ?_)
              first | (refine Evo2.va ok 21 _ _ ?_) | (refine Evo2.vi ok 21 _ ?_)
              first | (refine Evo2.va ok 22 _ _ ?_) | (refine Evo2.vi ok 22 _ ?_)
              first | (refine Evo2.vl ok 23 KC.out (Chg.refl (fun _ => False) _) _ _ ?_) | (refine Evo2.va ok 23 _ _ ?_) | (refine Evo2.vi ok 23 _ ?_)
              first | (refine Evo2.va ok 24 _ _ ?_) | (refine Evo2.vi ok 24 _ ?_)
              first | (refine Evo2.va ok 25 _ _ ?_) | (refine Evo2.vi ok 25 _ ?_)
              first | (refine Evo2.vl ok 26 KC.out (Chg.refl (fun _ => False) _) _ _ ?_) | (refine Evo2.va ok 26 _ _ ?_) | (refine Evo2.vi ok 26 _ ?_)
              first | (refine Evo2.va ok 27 _ _ ?_) | (refine Evo2.vi ok 27 _ ?_)
              refine Evo2.va ok 28 _ _ ?_
              refine Evo2.va ok 29 _ _ ?_
              first | (refine Evo2.va ok 30 _ _ ?_) | (refine Evo2.vi ok 30 _ ?_)
              first | (refine Evo2.va ok 31 _ _ ?_) | (refine Evo2.vi ok 31 _ ?_)
              first | (refine Evo2.va ok 32 _ _ ?_) | (refine Evo2.vi ok 32 _ ?_)
              first | (refine Evo2.va ok 33 _ _ ?_) | (refine Evo2.vi ok 33 _ ?_)
              first | (refine Evo2.va ok 34 _ _ ?_) | (refine Evo2.vi ok 34 _ ?_)
              first | (refine Evo2.va ok 35 _ _ ?_) | (refine Evo2.vi ok 35 _ ?_)
              first | (refine Evo2.vl ok 36 KC.out (Chg.refl (fun _ => False) _) _ _ ?_) | (refine Evo2.va ok 36 _ _ ?_) | (refine Evo2.vi ok 36 _ ?_)
              first | (refine Evo2.cal ok 37 ?_ 50 ?_ ?_ ?_ ?_; rotate_left 2; (focus (intro w'; go_simp <;> with_reducible rfl)); (focus (intro w' g'; with_reducible exact LM.out w' (Chg.trans (Chg.refl (fun _ => False) _) g'))); simp only [Act.put, L0, L1, L2]) | (refine Evo2.vi ok 37 _ ?_)
              first | (refine Evo2.va ok 38 _ _ ?_) | (refine Evo2.vi ok 38 _ ?_)
              first | (refine Evo2.va ok 39 _ _ ?_) | (refine Evo2.vi ok 39 _ ?_)
              first | (refine Evo2.va ok 40 _ _ ?_) | (refine Evo2.vi ok 40 _ ?_)
              first | (refine Evo2.vl ok 41 KC.out (Chg.refl (fun _ => False) _) _ _ ?_) | (refine Evo2.va ok 41 _ _ ?_) | (refine Evo2.vi ok 41 _ ?_)
              first | (refine Evo2.cal ok 42 ?_ 50 ?_ ?_ ?_ ?_; rotate_left 2; (focus (intro w'; go_simp <;> with_reducible rfl)); (focus (intro w' g'; with_reducible exact LB.out w' (Chg.trans (Chg.refl (fun _ => False) _) g'))); simp only [Act.put, L0, L1, L2]) | (refine Evo2.vi ok 42 _ ?_)
              first | (refine Evo2.va ok 43 _ _ ?_) | (refine Evo2.vi ok 43 _ ?_)
              first | (refine Evo2.va ok 44 _ _ ?_) | (refine Evo2.vi ok 44 _ ?_)
              refine Evo2.va ok 45 _ _ ?_
              refine Evo2.done (by decide +kernel) (fun wz gz => ?_)
              have AZ := Chg.trans (Chg.refl (fun _ => False) _) (Chg.grow gz)
              have H2 := Lib.hid (H.out.grow FX.out (AZ.toGrow (fun _ _ => id)))
              clear AZ gz KC
              go_wp2_with fail
              go_roundw
              case rel => exact ⟨k + 1, by omega, (by rw [HB2.out]; first | done | rfl), by go_num, H2⟩
              case measure => simp [_root_.Go.RowKit.intOf]; omega
      · have d0 : decide ((k : Int) < (lm.length : Int)) = false := decide_eq_false (by omega)
        have nk : ¬ ((k : Int) < (lm.length : Int)) := by omega
        have RES : lm.take k = lm := List.take_of_length_le (by omega)
        have hmem := pickM_mem rv lm
        rw [RES]
        cases hp : pickM lm rv with
        | none =>
          dsimp only [ptrO]
          have hpn : f.takeH rv x = none := by rw [HT.out, ← HPM.out, hp]; rfl
          obtain ⟨r1, r2, r3⟩ := H123.out
          have hr : f.take rv x = 0 ∧ f.takeB rv x = false ∧ f.aftTake rv x = f := ⟨by unfold Fl.take; rw [hpn], by unfold Fl.takeB; rw [hpn]; rfl, by unfold Fl.aftTake; rw [hpn]⟩
          obtain rfl := r1.symm.trans hr.1
          obtain rfl := r2.symm.trans hr.2.1
          obtain rfl := r3.symm.trans hr.2.2
          have H2 := Lib.hid (hold_rlclose H.out HE.out HOK.out)
          clear r1 r2 r3 hr hpn hp RES hS hmem
          go_wp2_with fail
          go_returns
          exact ⟨rfl, H2.out⟩
        | some m =>
          dsimp only [ptrO]
          have hpn : f.takeH rv x = some m.h := by rw [HT.out, ← HPM.out, hp]; rfl
          obtain ⟨r1, r2, r3⟩ := H123.out
          obtain ⟨i, hi⟩ := mem_at' (hmem m hp)
          obtain ⟨hB2, u, hP⟩ := hS.ob hi
          have c2 : wr.cell? ⟨m.b, 2, none⟩ = some (pz m.p) := (hB2.cell 2).trans rfl
          have hbl := hB2.lt
          obtain ⟨p, q, hpq, -⟩ := split_at hi
          have hr : f.take rv x = m.h.id ∧ f.takeB rv x = true ∧ f.aftTake rv x = ⟨f.room, f.n, chgP f.l m.h.id (fun p => p.aftTake x)⟩ := ⟨by unfold Fl.take; rw [hpn], by unfold Fl.takeB; rw [hpn]; rfl, by unfold Fl.aftTake; rw [hpn]⟩
          have hf' : (p ++ m.to (m.h.p.aftTake x) :: q).map HM.h = f'.l ∧ f'.room = f.room ∧ f'.n = f.n ∧ f'.ok := by
            have e := HE.out
            have ok' := HOK.out.l
            have hst := (ok'.pod m.h (by rw [← e, hpq]; simp)).2.1
            refine ⟨?_, by rw [← r3, hr.2.2], by rw [← r3, hr.2.2], by rw [← r3]; exact Fl.ok_take HOK.out rv hx⟩
            rw [← r3, hr.2.2]
            show _ = chgP f.l m.h.id (fun p => p.aftTake x)
            have e2 : f.l = p.map HM.h ++ m.h :: q.map HM.h := by rw [← e, hpq, List.map_append, List.map_cons]
            rw [e2] at ok' ⊢
            rw [chgP_mid (f := fun p => p.aftTake x) ok' (by rw [take_st]; exact hst), List.map_append, List.map_cons]
            rfl
          have HF := Lib.hid hf'
          obtain rfl := r1.symm.trans hr.1
          obtain rfl := r2.symm.trans hr.2.1
          have HP := H.out
          rw [hpq] at HP
          have HP2 := Lib.hid (hold_pod HP)
          clear r1 r2 r3 hr hpn hp RES hS hmem hP hf' hi hpq HP
          go_wp2_with fail
          refine (hold_rptake HP2.out hA ((RflR.foot _ _ _ _ _ _ _).sep hB) x hx rfl rfl).mono ?_
          rintro e w2 ⟨rfl, hh⟩
          obtain ⟨F3, hS3⟩ := hold_S (hold_pod' hh)
          obtain ⟨hB3, u3, hP3⟩ := hS3.ob (i := p.length) (m := m.to (m.h.p.aftTake x)) (by simp)
          have c4 : w2.cell? ⟨m.b, 0, none⟩ = some (.int .i64 m.h.id) := (hB3.cell 0).trans rfl
          have hbl3 : m.b < w2.heap.size := hB3.lt
          have H2 := Lib.hid (hold_rlclose (f := f') (by rw [HF.out.2.1, HF.out.2.2.1]; exact hold_pod' hh) HF.out.1 HF.out.2.2.2)
          clear hh hS3 hB3 hP3
          go_wp2_with fail
          go_returns
          exact ⟨rfl, H2.out⟩
end Go.Proofs.Ytfnpghekkhnjkaa
