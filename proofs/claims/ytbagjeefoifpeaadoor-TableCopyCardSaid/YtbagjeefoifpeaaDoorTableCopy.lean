
/- TableCopy: a table is not changed by what is asked of it, nor by a change of another one of the same. -/
import Derived.Test.YtbagjeefoifpeaaDoorTableShift
import Derived.Test.YtbagjeefoifpeaaDoorZ42
import Derived.Test.YtbagjeefoifpeaaDoorZ47
import Derived.Test.YtbagjeefoifpeaaDoorSlSet
namespace Go.Proofs.YtbagjeefoifpeaaDoor
set_option maxRecDepth 100000
set_option linter.unusedVariables false
set_option linter.unusedSimpArgs false
set_option linter.unnecessarySimpa false
open Go.RowKit Go.Args

theorem digS_inj {a b : Nat} (ha : 1 ≤ a) (hb : 1 ≤ b) (h : digS a = digS b) : a = b := by
  have h1 := (dec_num a ha).2
  have h2 := (dec_num b hb).2
  have e : Lib.decDigits a = Lib.decDigits b := by rw [← digS_list, ← digS_list, h]
  rw [← h1, ← h2, e]
theorem sameShr_refl (l : List Shr) : sameShr l l = true := (sameL_iff shrB_iff).2 rfl
theorem sameTgo_refl (l : List Tgo) : sameTgo l l = true := (sameL_iff tgoB_iff).2 rfl
theorem tabSame_iff {l l' : List Shr} {m m' : List Tgo} : tabSame l m l' m' = true ↔ rowsL l m = rowsL l' m' := sameL_iff r3B_iff
/-- A row of a call's own, in memory: its block. -/
theorem own_block {w : World} {base e sz n : Nat} {v : Value} {xs : List Value} (h : w.ownsRow base e sz v n xs) (hn : 1 ≤ n) : ∃ b c cur, v = .slice (some ⟨b, 0, none⟩) n c ∧ base ≤ b ∧ Blk w b cur e := by
  rcases h.2 with ⟨_, h0⟩ | ⟨b, cap, cur, hv, hb, hh, _⟩
  · omega
  · exact ⟨b, cap, cur, hv, hb, hh⟩
def bump : List Shr → List Shr
  | [] => []
  | x :: r => ⟨x.rev, x.w + 1⟩ :: r
theorem bump_len (l : List Shr) : (bump l).length = l.length := by cases l <;> simp [bump]
theorem bump_sum {l : List Shr} (h : 0 < l.length) : sumW (bump l) = sumW l + 1 := by
  cases l with
  | nil => simp at h
  | cons x r => simp only [bump, sumW]; omega
theorem bump_small {l : List Shr} (h : Small l) (h2 : ∀ s, s ∈ l → s.w ≤ 100) : Small (bump l) := by
  refine ⟨by rw [bump_len]; exact h.1, fun s hs => ?_⟩
  cases l with
  | nil => cases hs
  | cons x r =>
    rcases List.mem_cons.1 hs with rfl | hs
    · have h3 := h.2 x (by simp)
      have := h2 x (by simp)
      exact ⟨by dsimp only; omega, by dsimp only; omega, h3.2.2⟩
    · exact h.2 s (by simp [hs])
theorem bump_set {l : List Shr} {x : Shr} (h : l[0]? = some x) : l.set 0 ⟨x.rev, x.w + 1⟩ = bump l := by
  cases l with
  | nil => simp at h
  | cons y r => simp at h; subst h; rfl
/-- What a made table is, its rows by name. -/
theorem made_l (w : World) (v : Value) (zs : List Int) (hz : IntSlice w v zs) (v2 : Value) (ms : List Int) (hm : IntSlice w v2 ms) (l : List Shr) (m : List Tgo) (hl : mkS zs = l) (hm' : mkT ms = m) :
    Calls Tryd.prog 11 #[v, v2] w fun e w' => ∃ a c a' c', e = .returned (.agg #[.slice a l.length c, .slice a' m.length c']) ∧ w'.ownsRow w.heap.size 32 2 (.slice a l.length c) l.length (l.flatMap Shr.cells) ∧ w'.ownsRow w.heap.size 35 2 (.slice a' m.length c') m.length (m.flatMap Tgo.cells) ∧ Grow.G w w' := by
  subst hl hm'
  exact (make_any w v zs hz v2 ms hm).mono fun e w' ⟨a, c, a', c', he, hd, hg⟩ => ⟨a, c, a', c', he, hd.sh, hd.tg, hg⟩
theorem bump_ne {l : List Shr} {m : List Tgo} (h : 0 < l.length) (h2 : ∀ s, s ∈ l → 1 ≤ s.w ∧ s.w ≤ 100) : tabSame l m (bump l) m = false := by
  rw [← Bool.not_eq_true]
  intro e
  rw [tabSame_iff] at e
  cases l with
  | nil => simp at h
  | cons x r =>
    have h1 := congrArg List.head? e
    simp only [rowsL, bump, List.map_cons, List.cons_append, List.head?_cons, Option.some.injEq, rowS, R3.mk.injEq] at h1
    have hx := h2 x (by simp)
    have := digS_inj (by omega) (by omega) h1.2.2
    omega
set_option maxHeartbeats 8000000 in
theorem walkTableCopy (w : World) (v : Value) (zs : List Int) (hz : IntSlice w v zs) (v2 : Value) (ms : List Int) (hm : IntSlice w v2 ms) (d : Int) (hd : wf64 d) (ht : Tab w) :
    Calls Tryd.prog 8 #[v, v2, .int .i64 d] w fun e w' => e = .returned (.bool true) ∧ Below w.heap.size w w' := by
  have KN := Lib.hid (known5_any w ht)
  have HT := Lib.hid ht
  have MK := Lib.hid (fun w' (g : Grow.G w w') => made_l w' v zs (hz.below g) v2 ms (hm.below g) _ _ rfl rfl)
  clear ht hz hm
  have SM := mkS_small zs
  have TM := mkT_small ms
  have SU := mkS_sum zs
  have SP := mkS_pos zs
  have SW : ∀ s, s ∈ mkS zs → 1 ≤ s.w ∧ s.w ≤ 100 := fun s hs => by obtain ⟨_, _, _, h⟩ := mkS_rev hs; exact h
  have SR := mk_right zs ms
  generalize mkS zs = l at *
  generalize mkT ms = m at *
  have SM := Lib.hid SM
  have TM := Lib.hid TM
  have SW := Lib.hid SW
  have lm := TM.out.1
  have ll := SM.out.1
  go_enter Tryd.func8, Tryd.ntmps8
  go_wp2_with fail
  refine KN.out.mono ?_
  rintro e w1 ⟨rfl, hg1⟩
  go_wp2_with fail
  refine (MK.out _ hg1).mono ?_
  rintro e w2 ⟨ta, tc, ta', tc', rfl, OT, OT', hg2⟩
  have G2 := hg1.trans hg2
  go_wp2_with fail
  refine (MK.out _ G2).mono ?_
  rintro e w3 ⟨ua, uc, ua', uc', rfl, OU, OU', hg3⟩
  go_wp2_with fail
  have B7 := (Blk.new w3 #[.slice ta l.length tc, .slice ta' m.length tc'] 25).alloc (.cells #[.slice ua l.length uc, .slice ua' m.length uc'] 25)
  have B8 := Blk.new (w3.alloc (.cells #[.slice ta l.length tc, .slice ta' m.length tc'] 25)) #[.slice ua l.length uc, .slice ua' m.length uc'] 25
  have g4 : Grow.G w3 ((w3.alloc (.cells #[.slice ta l.length tc, .slice ta' m.length tc'] 25)).alloc (.cells #[.slice ua l.length uc, .slice ua' m.length uc'] 25)) := by (repeat (first | with_reducible exact Grow.G.refl _ | with_reducible exact Below.refl _ _ | with_reducible refine Grow.G.alloc ?_ _ | with_reducible refine Grow.G.trans ?_ hb1 | ((with_reducible refine Below.setCell ?_ ?_ _); rotate_left; (focus (first | omega | (simp; done) | (simp; omega)))) | with_reducible assumption | with_reducible refine Grow.G.trans ?_ (by with_reducible assumption)))
  have hub : w2.heap.size ≤ w3.heap.size := hg3.size
  obtain ⟨W4, hW4⟩ : ∃ W4, W4 = (w3.alloc (.cells #[.slice ta l.length tc, .slice ta' m.length tc'] 25)).alloc (.cells #[.slice ua l.length uc, .slice ua' m.length uc'] 25) := ⟨_, rfl⟩
  rw [← hW4] at B7 B8 g4 ⊢
  simp only [World.size_alloc] at B8
  have B7 := Lib.hid B7
  have B8 := Lib.hid B8
  have G4 := Lib.hid ((G2.trans hg3).trans g4)
  have TL : ∀ k, (Value.slice ta l.length tc).ownBlock = some k → k < w2.heap.size := fun k hk => (OT.lt k hk).2
  have TL' : ∀ k, (Value.slice ta' m.length tc').ownBlock = some k → k < w2.heap.size := fun k hk => (OT'.lt k hk).2
  have OT := Lib.hid (own_later OT (hg3.trans g4))
  have OT' := Lib.hid (own_later OT' (hg3.trans g4))
  have OU := Lib.hid (own_later OU g4)
  have OU' := Lib.hid (own_later OU' g4)
  have TL := Lib.hid (And.intro TL TL')
  have hw2 : w.heap.size ≤ w2.heap.size := G2.size
  clear hW4 hg1 hg2 hg3 G2 g4 TL'
  generalize w3.heap.size = gb at *
  have TF := Lib.hid (fun w' (g : Grow.G W4 w') => (⟨(SlOf.own (fun x => rfl) OT.out : ShSl W4 ta l).later g, (SlOf.own (fun x => rfl) OT'.out : TgSl W4 ta' m).later g⟩ : ShSl w' ta l ∧ TgSl w' ta' m))
  have PK := Lib.hid (fun w' (g : Grow.G W4 w') => (show Calls Tryd.prog 16 #[.agg #[.slice ta l.length tc, .slice ta' m.length tc'], .int .i64 d] w' fun e w'' => e = .returned (.string (pickL l (d % 100))) ∧ Grow.G w' w'' from pick_any ta l tc ta' _ tc' d w' hd (TF.out w' g).1 SM.out))
  have BT := Lib.hid (fun w' (g : Grow.G W4 w') (x : ByteArray) => (show Calls Tryd.prog 18 #[.agg #[.slice ta l.length tc, .slice ta' m.length tc'], .string x] w' fun e w'' => e = .returned (tagV (byTag m x)) ∧ Grow.G w' w'' from bytag_any ta _ tc ta' m tc' x w' (by omega) (TF.out w' g).2 TM.out.ok))
  have RT := Lib.hid (fun w' (g : Grow.G W4 w') => (show Calls Tryd.prog 12 #[.agg #[.slice ta l.length tc, .slice ta' m.length tc']] w' fun e w'' => e = .returned (.bool true) ∧ Grow.G w' w'' from SR ▸ right_any ta l tc ta' m tc' w' (by omega) (by omega) (TF.out w' g).1 (TF.out w' g).2 SM.out.ok TM.out.ok))
  have TX := Lib.hid (fun w' (h : ShSl w' ta l) (h' : TgSl w' ta' m) (ht : Tab w') => (show Calls Tryd.prog 22 #[.agg #[.slice ta l.length tc, .slice ta' m.length tc']] w' fun e w'' => e = .returned (.string (textB l m)) ∧ Grow.G w' w'' from ttext_any ta l tc ta' m tc' w' h h' SM.out TM.out ht))
  generalize textB l m = tx at *
  have R4 := Lib.hid (Grow.G.refl W4)
  have e0 := Blk.at (cs := [.slice ta l.length tc, .slice ta' m.length tc']) (k := 0) (B7.out.grow R4.out) rfl
  have e1 := Blk.at (cs := [.slice ta l.length tc, .slice ta' m.length tc']) (k := 1) (B7.out.grow R4.out) rfl
  go_wp2_with fail
  refine (PK.out _ R4.out).mono ?_
  rintro e w5 ⟨rfl, hg⟩
  have Gw5 := Lib.hid (R4.out.trans hg)
  clear hg e0 e1 R4
  have e0 := Blk.at (cs := [.slice ta l.length tc, .slice ta' m.length tc']) (k := 0) (B7.out.grow Gw5.out) rfl
  have e1 := Blk.at (cs := [.slice ta l.length tc, .slice ta' m.length tc']) (k := 1) (B7.out.grow Gw5.out) rfl
  go_wp2_with fail
  refine (BT.out _ Gw5.out _).mono ?_
  rintro e w6 ⟨rfl, hg⟩
  have Gw6 := Lib.hid (Gw5.out.trans hg)
  clear hg e0 e1 Gw5
  have e0 := Blk.at (cs := [.slice ta l.length tc, .slice ta' m.length tc']) (k := 0) (B7.out.grow Gw6.out) rfl
  have e1 := Blk.at (cs := [.slice ta l.length tc, .slice ta' m.length tc']) (k := 1) (B7.out.grow Gw6.out) rfl
  go_wp2_with fail
  refine (RT.out _ Gw6.out).mono ?_
  rintro e w7 ⟨rfl, hg⟩
  have Gw7 := Lib.hid (Gw6.out.trans hg)
  clear hg e0 e1 Gw6
  have e0 := Blk.at (cs := [.slice ta l.length tc, .slice ta' m.length tc']) (k := 0) (B7.out.grow Gw7.out) rfl
  have e1 := Blk.at (cs := [.slice ta l.length tc, .slice ta' m.length tc']) (k := 1) (B7.out.grow Gw7.out) rfl
  go_wp2_with fail
  refine (TX.out _ (TF.out _ Gw7.out).1 (TF.out _ Gw7.out).2 (HT.out.below (G4.out.trans Gw7.out))).mono ?_
  rintro e w8 ⟨rfl, hg⟩
  have Gw8 := Lib.hid (Gw7.out.trans hg)
  clear hg e0 e1 Gw7
  have OU8 := own_later OU.out Gw8.out
  have OU8' := own_later OU'.out Gw8.out
  have OT8 := own_later OT.out Gw8.out
  have OT8' := own_later OT'.out Gw8.out
  obtain ⟨ub, c, cur, hv, hbb, hbk⟩ := own_block OU8 SP
  cases hv
  obtain ⟨x, hx⟩ : ∃ x, l[0]? = some x := ⟨_, List.getElem?_eq_getElem SP⟩
  have SU8 : ShSl w8 (some ⟨ub, 0, none⟩) l := SlOf.own (fun x => rfl) OU8
  obtain ⟨b', off', e, hc⟩ := ShSl.at SU8 hx
  cases e
  have c1 : w8.cell? ⟨ub, 1, none⟩ = some (.int .i64 x.w) := (hc _ (Grow.G.refl _)).2
  have xw := SW.out x (List.mem_of_getElem? hx)
  have hxw : IntKind.i64.wrap (x.w + 1) = x.w + 1 := IntWalk.i64_in _ ⟨by omega, by omega⟩
  have fz := hbk.free 1
  have lz := hbk.lt
  have b8 := B8.out.grow Gw8.out
  have b7 := B7.out.grow Gw8.out
  have e0 := Blk.at (cs := [.slice (some ⟨ub, 0, none⟩) l.length uc, .slice ua' m.length uc']) (k := 0) b8 rfl
  have l0 : (0 : Int) < (l.length : Int) := by omega
  have CS : Chg (fun k => k = ub) w8 (w8.setCell ⟨ub, 1, none⟩ (.int .i64 (x.w + 1))) := Chg.setCell (G := fun k => k = ub) (Chg.refl _ _) (fun _ => rfl) _ _
  have SU9 : ShSl (w8.setCell ⟨ub, 1, none⟩ (.int .i64 (x.w + 1))) (some ⟨ub, 0, none⟩) (bump l) := by
    rw [← bump_set hx]
    exact SlOf.setw (n := 2) (k := 0) (j := 1) (fun x => rfl) SU8 hx (by omega) rfl
  have TU9 : TgSl (w8.setCell ⟨ub, 1, none⟩ (.int .i64 (x.w + 1))) ua' m := SlOf.own (fun x => rfl) (CS.own OU8' (fun k hk q => own_types OU8' OU8 (by decide) hk (by rw [show k = ub from q]; rfl)))
  have ST9 : ShSl (w8.setCell ⟨ub, 1, none⟩ (.int .i64 (x.w + 1))) ta l := SlOf.own (fun x => rfl) (CS.own OT8 (fun k hk q => by have q : k = ub := q; have := TL.out.1 k hk; omega))
  have TT9 : TgSl (w8.setCell ⟨ub, 1, none⟩ (.int .i64 (x.w + 1))) ta' m := SlOf.own (fun x => rfl) (CS.own OT8' (fun k hk q => by have q : k = ub := q; have := TL.out.2 k hk; omega))
  have G9 : Grow.G w (w8.setCell ⟨ub, 1, none⟩ (.int .i64 (x.w + 1))) := g0 ((Chg.grow (G := fun _ => False) (G4.out.trans Gw8.out)).join CS (fun i hi q => by have q : i = ub := q; omega))
  have b79 := CS.blk b7 (fun q => by have q : gb = ub := q; subst q; exact own_blk_types OU8 b7 (by decide) rfl)
  have b89 := CS.blk b8 (fun q => by have q : gb + 1 = ub := q; subst q; exact own_blk_types OU8 b8 (by decide) rfl)
  have H9 := Lib.hid (And.intro SU9 (And.intro TU9 (And.intro ST9 (And.intro TT9 (And.intro G9 (And.intro b79 b89))))))
  clear SU9 TU9 ST9 TT9 G9 b79 b89 CS b7 hc SU8 hbk OU8 OU8' OT8 OT8' b8
  go_wp2_with fail
  obtain ⟨W9, hW9⟩ : ∃ W9, W9 = w8.setCell ⟨ub, 1, none⟩ (.int .i64 (x.w + 1)) := ⟨_, rfl⟩
  rw [← hW9] at H9 ⊢
  obtain ⟨SU9, TU9, ST9, TT9, G9, B79, B89⟩ := H9.out
  clear hW9 H9 Gw8 G4 PK BT RT OT OT' OU OU' TF B7 B8 KN c1 fz lz e0
  have G9 := Lib.hid G9
  have T9 := Lib.hid (HT.out.below G9.out)
  have BL := bump_len l
  have MKr := Lib.hid (fun w' (h : Chg (fun _ => False) W9 w') => MK.out w' (G9.out.trans (g0 h)))
  have RS := Lib.hid (fun w' (h : Chg (fun _ => False) W9 w') xa xc xa' xc' (h3 : ShSl w' xa l) (h4 : TgSl w' xa' m) => (show Calls Tryd.prog 21 #[.agg #[.slice ta l.length tc, .slice ta' m.length tc'], .agg #[.slice xa l.length xc, .slice xa' m.length xc']] w' fun e w'' => e = .returned (.bool true) ∧ Grow.G w' w'' from by
    have := rsame_any ta l tc ta' m tc' xa l xc xa' m xc' w' (SlOf.later ST9 (g0 h)) (SlOf.later TT9 (g0 h)) h3 h4 ll (by omega)
    rw [sameShr_refl, sameTgo_refl] at this
    exact this))
  have SS := Lib.hid (fun w' (h : Chg (fun _ => False) W9 w') => (show Calls Tryd.prog 20 #[.agg #[.slice ta l.length tc, .slice ta' m.length tc'], .agg #[.slice (some ⟨ub, 0, none⟩) l.length uc, .slice ua' m.length uc']] w' fun e w'' => e = .returned (.bool false) ∧ Grow.G w' w'' from by
    have := same_any ta l tc ta' m tc' (some ⟨ub, 0, none⟩) (bump l) uc ua' m uc' w' (SlOf.later ST9 (g0 h)) (SlOf.later TT9 (g0 h)) (SlOf.later SU9 (g0 h)) (SlOf.later TU9 (g0 h)) SM.out (bump_small SM.out (fun s hs => (SW.out s hs).2)) (by omega) (by omega) (T9.out.below (g0 h))
    rw [bump_ne SP SW.out, BL] at this
    exact this))
  have TXr := Lib.hid (fun w' (h : Chg (fun _ => False) W9 w') => TX.out w' (SlOf.later ST9 (g0 h)) (SlOf.later TT9 (g0 h)) (T9.out.below (g0 h)))
  have RU := Lib.hid (fun w' (h : Chg (fun _ => False) W9 w') => (show Calls Tryd.prog 12 #[.agg #[.slice (some ⟨ub, 0, none⟩) l.length uc, .slice ua' m.length uc']] w' fun e w'' => e = .returned (.bool false) ∧ Grow.G w' w'' from by
    have hs : rightB (bump l) m = false := by
      unfold rightB soundB
      rw [bump_sum SP, SU]
      simp
    have := right_any (some ⟨ub, 0, none⟩) (bump l) uc ua' m uc' w' (by omega) (by omega) (SlOf.later SU9 (g0 h)) (SlOf.later TU9 (g0 h)) (bump_small SM.out (fun s hs => (SW.out s hs).2)).ok TM.out.ok
    rw [hs, BL] at this
    exact this))
  have KC := Lib.hid (fun (w' : World) (h : Chg (fun _ => False) W9 w') => (⟨h.cell (Blk.at (cs := [.slice ta l.length tc, .slice ta' m.length tc']) (k := 0) B79 rfl) id, h.cell (Blk.at (cs := [.slice ta l.length tc, .slice ta' m.length tc']) (k := 1) B79 rfl) id, h.cell (Blk.at (cs := [.slice (some ⟨ub, 0, none⟩) l.length uc, .slice ua' m.length uc']) (k := 0) B89 rfl) id, h.cell (Blk.at (cs := [.slice (some ⟨ub, 0, none⟩) l.length uc, .slice ua' m.length uc']) (k := 1) B89 rfl) id, trivial⟩ : w'.cell? ⟨gb, 0, none⟩ = some (.slice ta l.length tc) ∧ w'.cell? ⟨gb, 1, none⟩ = some (.slice ta' m.length tc') ∧ w'.cell? ⟨gb + 1, 0, none⟩ = some (.slice (some ⟨ub, 0, none⟩) l.length uc) ∧ w'.cell? ⟨gb + 1, 1, none⟩ = some (.slice ua' m.length uc') ∧ True))
  clear SU9 TU9 ST9 TT9 B79 B89 MK TX
  go_wp2_with fail
  refine Evo2.start' (ℓ := none) (S := Chg (fun _ => False)) (E := Grow.G) (by kernel_rfl) ⟨Chg.pre _, by decide +kernel, (by intro c a d v w h; cases d <;> exact h), by decide +kernel⟩ (fun ok => ?_)
  first | (refine Evo2.vl ok 0 KC.out (Chg.refl (fun _ => False) _) _ _ ?_) | (refine Evo2.va ok 0 _ _ ?_)
  refine Evo2.va ok 1 _ _ ?_
  refine Evo2.va ok 2 _ _ ?_
  refine Evo2.all [3] (by decide +kernel) rfl ?_
  intro wp1 gp1 iq hq
  simp only [List.mem_cons, List.mem_nil_iff, or_false] at hq
  have AP1 := Chg.trans (Chg.refl (fun _ => False) _) (Chg.grow gp1)
  (try replace S1 := SlOf.later S1 gp1); (try replace S2 := SlOf.later S2 gp1)
  subst hq
  refine Evo2.enters 11 _ (by rfl) (by rfl) (by go_simp; exact ⟨rfl, rfl⟩) ?_
  refine (MKr.out _ AP1).mono ?_
  rintro e wc1 ⟨xa, xc, xa', xc', rfl, X1, X2, hg⟩; have S1 : ShSl _ xa l := SlOf.own (fun x => rfl) X1; have S2 : TgSl _ xa' m := SlOf.own (fun x => rfl) X2; have CH1 := Chg.grow (G := fun _ => False) hg; clear hg X1 X2
  refine ⟨_, rfl, .inr CH1, ?_⟩
  have AC1 := Chg.trans AP1 CH1
  simp only [Act.put, L0, L1, L2]
  refine Evo2.all [4] (by decide +kernel) rfl ?_
  intro wp2 gp2 iq hq
  simp only [List.mem_cons, List.mem_nil_iff, or_false] at hq
  have AP2 := Chg.trans AC1 (Chg.grow gp2)
  (try replace S1 := SlOf.later S1 gp2); (try replace S2 := SlOf.later S2 gp2)
  subst hq
  refine Evo2.enters 21 _ (by rfl) (by rfl) (by go_simp; exact ⟨rfl, rfl⟩) ?_
  refine (RS.out _ AP2 _ _ _ _ S1 S2).mono ?_
  rintro e wc2 ⟨rfl, hg⟩; have CH2 := Chg.grow (G := fun _ => False) hg; clear hg S1 S2
  refine ⟨_, rfl, .inr CH2, ?_⟩
  have AC2 := Chg.trans AP2 CH2
  simp only [Act.put, L0, L1, L2]
  refine Evo2.va ok 5 _ _ ?_
  first | (refine Evo2.vl ok 6 KC.out AC2 _ _ ?_) | (refine Evo2.va ok 6 _ _ ?_) | (refine Evo2.vi ok 6 _ ?_)
  first | (refine Evo2.vl ok 7 KC.out AC2 _ _ ?_) | (refine Evo2.va ok 7 _ _ ?_) | (refine Evo2.vi ok 7 _ ?_)
  first | (refine Evo2.cal ok 8 ?_ 20 ?_ ?_ ?_ ?_; rotate_left 2; (focus (intro w'; go_simp <;> with_reducible rfl)); (focus (intro w' g'; with_reducible exact SS.out w' (Chg.trans AC2 g'))); simp only [Act.put, L0, L1, L2]) | (refine Evo2.vi ok 8 _ ?_)
  first | (refine Evo2.va ok 9 _ _ ?_) | (refine Evo2.vi ok 9 _ ?_)
  refine Evo2.va ok 10 _ _ ?_
  refine Evo2.va ok 11 _ _ ?_
  first | (refine Evo2.vl ok 12 KC.out AC2 _ _ ?_) | (refine Evo2.va ok 12 _ _ ?_) | (refine Evo2.vi ok 12 _ ?_)
  first | (refine Evo2.cal ok 13 ?_ 22 ?_ ?_ ?_ ?_; rotate_left 2; (focus (intro w'; go_simp <;> with_reducible rfl)); (focus (intro w' g'; with_reducible exact TXr.out w' (Chg.trans AC2 g'))); simp only [Act.put, L0, L1, L2]) | (refine Evo2.vi ok 13 _ ?_)
  first | (refine Evo2.va ok 14 _ _ ?_) | (refine Evo2.vi ok 14 _ ?_)
  first | (refine Evo2.va ok 15 _ _ ?_) | (refine Evo2.vi ok 15 _ ?_)
  refine Evo2.va ok 16 _ _ ?_
  refine Evo2.va ok 17 _ _ ?_
  first | (refine Evo2.vl ok 18 KC.out AC2 _ _ ?_) | (refine Evo2.va ok 18 _ _ ?_) | (refine Evo2.vi ok 18 _ ?_)
  first | (refine Evo2.cal ok 19 ?_ 12 ?_ ?_ ?_ ?_; rotate_left 2; (focus (intro w'; go_simp <;> with_reducible rfl)); (focus (intro w' g'; with_reducible exact RU.out w' (Chg.trans AC2 g'))); simp only [Act.put, L0, L1, L2]) | (refine Evo2.vi ok 19 _ ?_)
  first | (refine Evo2.va ok 20 _ _ ?_) | (refine Evo2.vi ok 20 _ ?_)
  refine Evo2.va ok 21 _ _ ?_
  refine Evo2.va ok 22 _ _ ?_
  refine Evo2.done (by decide +kernel) (fun wz gz => ?_)
  have AZ := Chg.trans AC2 (Chg.grow gz)
  (try replace S1 := SlOf.later S1 gz); (try replace S2 := SlOf.later S2 gz)
  go_wp2_with fail
  go_ret
  exact ⟨by simp, G9.out.trans (g0 AZ)⟩
end Go.Proofs.YtbagjeefoifpeaaDoor
