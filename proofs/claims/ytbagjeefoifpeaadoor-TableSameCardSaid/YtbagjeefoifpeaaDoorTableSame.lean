
/- TableSame: two tables are the same just where their texts are; one thing another one, and they are not. -/
import Derived.Test.YtbagjeefoifpeaaDoorTabX
namespace Go.Proofs.YtbagjeefoifpeaaDoor
set_option maxRecDepth 100000
set_option linter.unusedVariables false
set_option linter.unusedSimpArgs false
set_option linter.unnecessarySimpa false
open Go.RowKit Go.Args

def zT : Tgo := ⟨⟨#[122]⟩, ⟨#[119, 101, 98, 45, 49]⟩⟩
theorem more_small {m : List Tgo} (h : SmallT m) (hl : m.length ≤ 4) : SmallT (m ++ [zT]) := by
  refine ⟨by rw [List.length_append, List.length_singleton]; omega, fun t ht => ?_⟩
  rcases List.mem_append.1 ht with ht | ht
  · exact h.2 t ht
  · rw [List.mem_singleton.1 ht]; exact ⟨by decide, by decide⟩
set_option maxHeartbeats 12000000 in
theorem walkTableSame (w : World) (v : Value) (zs : List Int) (hz : IntSlice w v zs) (v2 : Value) (ms : List Int) (hm : IntSlice w v2 ms) (v3 : Value) (os : List Int) (ho : IntSlice w v3 os) (v4 : Value) (ps : List Int) (hp : IntSlice w v4 ps) (ht : Tab w) :
    Calls Tryd.prog 6 #[v, v2, v3, v4] w fun e w' => e = .returned (.bool true) ∧ Below w.heap.size w w' := by
  have KN := Lib.hid (known5_any w ht)
  have HT := Lib.hid ht
  have MK := Lib.hid (fun w' (g : Grow.G w w') => made_l w' v zs (hz.below g) v2 ms (hm.below g) _ _ rfl rfl)
  have MO := Lib.hid (fun w' (g : Grow.G w w') => made_l w' v3 os (ho.below g) v4 ps (hp.below g) _ _ rfl rfl)
  clear ht hz hm ho hp
  have SM := mkS_small zs
  have TM := mkT_small ms
  have SO := mkS_small os
  have TO := mkT_small ps
  have lt4 := mkT_len ms
  have SB := same_text zs ms os ps
  generalize mkS zs = l at *
  generalize mkT ms = m at *
  generalize mkS os = l2 at *
  generalize mkT ps = m2 at *
  have TZ := Lib.hid (more_small TM lt4)
  have D1 := tabSame_more l m zT
  have D2 := tabSame_comm l (m ++ [zT]) l m
  have D3 := tabSame_comm l2 m2 l m
  rw [D1] at D2
  have M3 : (m ++ [zT]).length = m.length + 1 := by simp
  have F3 : (m ++ [zT]).flatMap Tgo.cells = m.flatMap Tgo.cells ++ [.string ⟨#[122]⟩, .string ⟨#[119, 101, 98, 45, 49]⟩] := by rw [List.flatMap_append]; rfl
  have SM := Lib.hid SM
  have TM := Lib.hid TM
  have SO := Lib.hid SO
  have TO := Lib.hid TO
  have lm := TM.out.1
  have ll := SM.out.1
  have lm2 := TO.out.1
  have ll2 := SO.out.1
  have HF3 := Lib.hid F3
  have HM3 := Lib.hid M3
  have HD := Lib.hid (And.intro D1 (And.intro D2 (And.intro D3 SB)))
  clear F3 M3 D1 D2 D3 SB
  go_enter Tryd.func6, Tryd.ntmps6
  go_wp2_with fail
  refine KN.out.mono ?_
  rintro e w1 ⟨rfl, hg1⟩
  go_wp2_with fail
  refine (MK.out _ hg1).mono ?_
  rintro e w2 ⟨ta, tc, ta', tc', rfl, OT, OT', hg2⟩
  have G2 := hg1.trans hg2
  go_wp2_with fail
  refine (MO.out _ G2).mono ?_
  rintro e w3 ⟨ua, uc, ua', uc', rfl, OU, OU', hg3⟩
  go_wp2_with fail
  have B7 := (Blk.new w3 #[.slice ta l.length tc, .slice ta' m.length tc'] 25).alloc (.cells #[.slice ua l2.length uc, .slice ua' m2.length uc'] 25)
  have B8 := Blk.new (w3.alloc (.cells #[.slice ta l.length tc, .slice ta' m.length tc'] 25)) #[.slice ua l2.length uc, .slice ua' m2.length uc'] 25
  have g4 : Grow.G w3 ((w3.alloc (.cells #[.slice ta l.length tc, .slice ta' m.length tc'] 25)).alloc (.cells #[.slice ua l2.length uc, .slice ua' m2.length uc'] 25)) := by (repeat (first | with_reducible exact Grow.G.refl _ | with_reducible exact Below.refl _ _ | with_reducible refine Grow.G.alloc ?_ _ | with_reducible refine Grow.G.trans ?_ hb1 | ((with_reducible refine Below.setCell ?_ ?_ _); rotate_left; (focus (first | omega | (simp; done) | (simp; omega)))) | with_reducible assumption | with_reducible refine Grow.G.trans ?_ (by with_reducible assumption)))
  obtain ⟨W4, hW4⟩ : ∃ W4, W4 = (w3.alloc (.cells #[.slice ta l.length tc, .slice ta' m.length tc'] 25)).alloc (.cells #[.slice ua l2.length uc, .slice ua' m2.length uc'] 25) := ⟨_, rfl⟩
  rw [← hW4] at B7 B8 g4 ⊢
  simp only [World.size_alloc] at B8
  have S1 : ShSl W4 ta l := SlOf.own (fun x => rfl) (own_later OT (hg3.trans g4))
  have S2 : TgSl W4 ta' m := SlOf.own (fun x => rfl) (own_later OT' (hg3.trans g4))
  have S3 : ShSl W4 ua l2 := SlOf.own (fun x => rfl) (own_later OU g4)
  have S4 : TgSl W4 ua' m2 := SlOf.own (fun x => rfl) (own_later OU' g4)
  have G4 := (G2.trans hg3).trans g4
  have H4 := Lib.hid (And.intro S1 (And.intro S2 (And.intro S3 (And.intro S4 (And.intro B7 B8)))))
  have G4 := Lib.hid G4
  clear hW4 hg1 hg2 hg3 G2 g4 OT OT' OU OU' KN S1 S2 S3 S4 B7 B8 MO
  generalize w3.heap.size = gb at *
  refine (MK.out _ G4.out).mono ?_
  rintro e w5 ⟨xa, xc, xa', xc', rfl, OX, OX', hg5⟩
  have hz45 := hg5.size
  have hw4 := G4.out.size
  have HX := Lib.hid (And.intro OX (And.intro OX' hg5))
  clear OX OX' hg5
  obtain ⟨i0, hi, ha0, ha1, ha2⟩ := info_parts infoTgo
  have HI := Lib.hid (And.intro hi (And.intro ha0 (And.intro ha1 ha2)))
  clear hi ha0 ha1 ha2
  go_wp2_with (at_builtin; refine Fr.wpList_append_fr _ rfl _ _ 23 rfl W4.heap.size 35 i0 (.agg #[.string ⟨#[]⟩, .string ⟨#[]⟩]) 2 32 Tryd.underlying23 HI.out.1 HI.out.2.1 HI.out.2.2.1 HI.out.2.2.2 rfl (by decide) _ _ _ rfl (own_later HX.out.2.1 (Grow.G.alloc (Grow.G.alloc (Grow.G.refl _) _) _)) ⟨w5.heap.size + 1, 0, none⟩ 1 1 [.string ⟨#[122]⟩, .string ⟨#[119, 101, 98, 45, 49]⟩] rfl rfl (news_new _ _ _ _ (by simp)) (by intro u hu; simp at hu; rcases hu with rfl | rfl <;> rfl) (by unfold maxLen; omega) (by omega) (by simp; omega) ?_; intro v' w' hown hfr; obtain ⟨g9, c9, rfl, hg9⟩ := own_some hown (by omega); have B9 := (Blk.new w5 #[.slice xa l.length xc, .slice xa' m.length xc'] 25).alloc (.cells #[.string ⟨#[122]⟩, .string ⟨#[119, 101, 98, 45, 49]⟩] 35); have O9 := own_later HX.out.2.1 (Grow.G.alloc (Grow.G.alloc (Grow.G.refl _) (.cells #[.slice xa l.length xc, .slice xa' m.length xc'] 25)) (.cells #[.string ⟨#[122]⟩, .string ⟨#[119, 101, 98, 45, 49]⟩] 35)); have B9 := B9.chg (Chg.ofFr hfr) (own_blk_types O9 B9 (by decide)); have e9 := Blk.at (cs := [.slice xa l.length xc, .slice xa' m.length xc']) (k := 1) B9 rfl; have f9 := B9.free 1; have l9 := B9.lt; have HF := Lib.hid (And.intro hown (And.intro hfr B9)); clear hown hfr B9 O9)
  obtain ⟨OX, OX', hg5⟩ := HX.out
  obtain ⟨O9, hfr, B9⟩ := HF.out
  have AP := Chg.trans (G := fun k => (Value.slice xa' m.length xc').ownBlock = some k) (Chg.grow (Grow.G.alloc (Grow.G.alloc (Grow.G.refl w5) (.cells #[.slice xa l.length xc, .slice xa' m.length xc'] 25)) (.cells #[.string ⟨#[122]⟩, .string ⟨#[119, 101, 98, 45, 49]⟩] 35))) (Chg.ofFr hfr)
  have CS : Chg (fun k => k = w5.heap.size) w' (w'.setCell ⟨w5.heap.size, 1, none⟩ (.slice (some ⟨g9, 0, none⟩) (m.length + 1) c9)) := Chg.setCell (G := fun k => k = w5.heap.size) (Chg.refl _ _) (fun _ => rfl) _ _
  have BZ := B9.set 1 (.slice (some ⟨g9, 0, none⟩) (m.length + 1) c9)
  simp only [List.setIfInBounds_toArray, List.set_cons_zero, List.set_cons_succ] at BZ
  have G7 : Grow.G W4 (w'.setCell ⟨w5.heap.size, 1, none⟩ (.slice (some ⟨g9, 0, none⟩) (m.length + 1) c9)) := g0 (((Chg.grow (G := fun _ => False) hg5).join AP (fun i hi q => by have := (OX'.lt i q).1; omega)).join CS (fun i hi q => by have q : i = w5.heap.size := q; omega))
  have X1 := AP.own OX (fun k hk q => own_types OX OX' (by decide) hk q)
  have X1 : ShSl (w'.setCell ⟨w5.heap.size, 1, none⟩ (.slice (some ⟨g9, 0, none⟩) (m.length + 1) c9)) xa l := SlOf.own (fun x => rfl) (CS.own X1 (fun k hk q => by have q : k = w5.heap.size := q; subst q; exact own_blk_types X1 B9 (by decide) hk))
  have X2 := CS.own O9 (fun k hk q => by have q : k = w5.heap.size := q; subst q; exact own_blk_types O9 B9 (by decide) hk)
  have X2 : TgSl (w'.setCell ⟨w5.heap.size, 1, none⟩ (.slice (some ⟨g9, 0, none⟩) (m.length + 1) c9)) (some ⟨g9, 0, none⟩) (m ++ [zT]) := SlOf.own (c := c9) (e := 35) (base := W4.heap.size) (fun x => rfl) (by rw [HM3.out, HF3.out]; exact X2)
  have H7 := Lib.hid (And.intro BZ (And.intro G7 (And.intro X1 X2)))
  clear HX HF OX OX' hg5 O9 hfr B9 AP CS BZ G7 X1 X2 MK e9 f9 l9 HI
  obtain ⟨W7, hW7⟩ : ∃ W7, W7 = w'.setCell ⟨w5.heap.size, 1, none⟩ (.slice (some ⟨g9, 0, none⟩) (m.length + 1) c9) := ⟨_, rfl⟩
  rw [← hW7] at H7 ⊢
  clear hW7
  generalize w5.heap.size = gx at *
  obtain ⟨B9, G7, X1, X2⟩ := H7.out
  obtain ⟨S1, S2, S3, S4, B7, B8⟩ := H4.out
  have KC := Lib.hid (fun (w' : World) (h : Chg (fun _ => False) W7 w') => (⟨h.cell (Blk.at (cs := [.slice ta l.length tc, .slice ta' m.length tc']) (k := 0) (B7.grow G7) rfl) id, h.cell (Blk.at (cs := [.slice ta l.length tc, .slice ta' m.length tc']) (k := 1) (B7.grow G7) rfl) id, h.cell (Blk.at (cs := [.slice ua l2.length uc, .slice ua' m2.length uc']) (k := 0) (B8.grow G7) rfl) id, h.cell (Blk.at (cs := [.slice ua l2.length uc, .slice ua' m2.length uc']) (k := 1) (B8.grow G7) rfl) id, h.cell (Blk.at (cs := [.slice xa l.length xc, .slice (some ⟨g9, 0, none⟩) (m.length + 1) c9]) (k := 0) B9 rfl) id, h.cell (Blk.at (cs := [.slice xa l.length xc, .slice (some ⟨g9, 0, none⟩) (m.length + 1) c9]) (k := 1) B9 rfl) id, trivial⟩ : w'.cell? ⟨gb, 0, none⟩ = some (.slice ta l.length tc) ∧ w'.cell? ⟨gb, 1, none⟩ = some (.slice ta' m.length tc') ∧ w'.cell? ⟨gb + 1, 0, none⟩ = some (.slice ua l2.length uc) ∧ w'.cell? ⟨gb + 1, 1, none⟩ = some (.slice ua' m2.length uc') ∧ w'.cell? ⟨gx, 0, none⟩ = some (.slice xa l.length xc) ∧ w'.cell? ⟨gx, 1, none⟩ = some (.slice (some ⟨g9, 0, none⟩) (m.length + 1) c9) ∧ True))
  have FS := Lib.hid (fun (w' : World) (h : Chg (fun _ => False) W7 w') => (⟨SlOf.later S1 (G7.trans (g0 h)), SlOf.later S2 (G7.trans (g0 h)), SlOf.later S3 (G7.trans (g0 h)), SlOf.later S4 (G7.trans (g0 h)), SlOf.later X1 (g0 h), SlOf.later X2 (g0 h), HT.out.below (G4.out.trans (G7.trans (g0 h))), G4.out.trans (G7.trans (g0 h))⟩ : ShSl w' ta l ∧ TgSl w' ta' m ∧ ShSl w' ua l2 ∧ TgSl w' ua' m2 ∧ ShSl w' xa l ∧ TgSl w' (some ⟨g9, 0, none⟩) (m ++ [zT]) ∧ Tab w' ∧ Grow.G w w'))
  clear B9 G7 X1 X2 S1 S2 S3 S4 B7 B8 H7 H4 HT G4
  obtain ⟨D1, D2, D3, SB⟩ := HD.out
  clear HD
  have Q1 := Lib.hid (fun (w' : World) (h : Chg (fun _ => False) W7 w') => (show Calls Tryd.prog 20 #[.agg #[.slice ta l.length tc, .slice ta' m.length tc'], .agg #[.slice ua l2.length uc, .slice ua' m2.length uc']] w' fun e w'' => e = .returned (.bool (tabSame l m l2 m2)) ∧ Grow.G w' w'' from by
    have := same_any ta l tc ta' m tc' ua l2 uc ua' m2 uc' w' (FS.out w' h).1 (FS.out w' h).2.1 (FS.out w' h).2.2.1 (FS.out w' h).2.2.2.1 SM.out SO.out (by omega) (by omega) (FS.out w' h).2.2.2.2.2.2.1
    exact this))
  have Q2 := Lib.hid (fun (w' : World) (h : Chg (fun _ => False) W7 w') => (show Calls Tryd.prog 20 #[.agg #[.slice ta l.length tc, .slice ta' m.length tc'], .agg #[.slice xa l.length xc, .slice (some ⟨g9, 0, none⟩) (m.length + 1) c9]] w' fun e w'' => e = .returned (.bool false) ∧ Grow.G w' w'' from by
    have := same_any ta l tc ta' m tc' xa l xc (some ⟨g9, 0, none⟩) (m ++ [zT]) c9 w' (FS.out w' h).1 (FS.out w' h).2.1 (FS.out w' h).2.2.2.2.1 (FS.out w' h).2.2.2.2.2.1 SM.out SM.out (by omega) TZ.out.1 (FS.out w' h).2.2.2.2.2.2.1
    rw [D1, HM3.out] at this
    exact this))
  have Q3 := Lib.hid (fun (w' : World) (h : Chg (fun _ => False) W7 w') => (show Calls Tryd.prog 20 #[.agg #[.slice xa l.length xc, .slice (some ⟨g9, 0, none⟩) (m.length + 1) c9], .agg #[.slice ta l.length tc, .slice ta' m.length tc']] w' fun e w'' => e = .returned (.bool false) ∧ Grow.G w' w'' from by
    have := same_any xa l xc (some ⟨g9, 0, none⟩) (m ++ [zT]) c9 ta l tc ta' m tc' w' (FS.out w' h).2.2.2.2.1 (FS.out w' h).2.2.2.2.2.1 (FS.out w' h).1 (FS.out w' h).2.1 SM.out SM.out TZ.out.1 (by omega) (FS.out w' h).2.2.2.2.2.2.1
    rw [D2, HM3.out] at this
    exact this))
  have Q4 := Lib.hid (fun (w' : World) (h : Chg (fun _ => False) W7 w') => (show Calls Tryd.prog 20 #[.agg #[.slice ua l2.length uc, .slice ua' m2.length uc'], .agg #[.slice ta l.length tc, .slice ta' m.length tc']] w' fun e w'' => e = .returned (.bool (tabSame l m l2 m2)) ∧ Grow.G w' w'' from by
    have := same_any ua l2 uc ua' m2 uc' ta l tc ta' m tc' w' (FS.out w' h).2.2.1 (FS.out w' h).2.2.2.1 (FS.out w' h).1 (FS.out w' h).2.1 SO.out SM.out (by omega) (by omega) (FS.out w' h).2.2.2.2.2.2.1
    rw [D3] at this
    exact this))
  have Q5 := Lib.hid (fun (w' : World) (h : Chg (fun _ => False) W7 w') => (show Calls Tryd.prog 22 #[.agg #[.slice ta l.length tc, .slice ta' m.length tc']] w' fun e w'' => e = .returned (.string (textB l m)) ∧ Grow.G w' w'' from ttext_any ta l tc ta' m tc' w' (FS.out w' h).1 (FS.out w' h).2.1 SM.out TM.out (FS.out w' h).2.2.2.2.2.2.1))
  have Q6 := Lib.hid (fun (w' : World) (h : Chg (fun _ => False) W7 w') => (show Calls Tryd.prog 22 #[.agg #[.slice ua l2.length uc, .slice ua' m2.length uc']] w' fun e w'' => e = .returned (.string (textB l2 m2)) ∧ Grow.G w' w'' from ttext_any ua l2 uc ua' m2 uc' w' (FS.out w' h).2.2.1 (FS.out w' h).2.2.2.1 SO.out TO.out (FS.out w' h).2.2.2.2.2.2.1))
  have GF := Lib.hid (fun (w' : World) (h : Chg (fun _ => False) W7 w') => (FS.out w' h).2.2.2.2.2.2.2)
  clear FS D1 D2 D3
  generalize tabSame l m l2 m2 = sq at *
  generalize textB l m = tx at *
  generalize textB l2 m2 = ty at *
  refine Evo2.start' (ℓ := none) (S := Chg (fun _ => False)) (E := Grow.G) (by kernel_rfl) ⟨Chg.pre _, by decide +kernel, (by intro c a d v w h; cases d <;> exact h), by decide +kernel⟩ (fun ok => ?_)
  first | (refine Evo2.vl ok 0 KC.out (Chg.refl (fun _ => False) _) _ _ ?_) | (refine Evo2.va ok 0 _ _ ?_)
  first | (refine Evo2.vl ok 1 KC.out (Chg.refl (fun _ => False) _) _ _ ?_) | (refine Evo2.va ok 1 _ _ ?_)
  (refine Evo2.cal ok 2 ?_ 20 ?_ ?_ ?_ ?_; rotate_left 2; (focus (intro w'; go_simp <;> with_reducible rfl)); (focus (intro w' g'; with_reducible exact Q1.out w' (Chg.trans (Chg.refl (fun _ => False) _) g'))); simp only [Act.put, L0, L1, L2])
  first | (refine Evo2.vl ok 3 KC.out (Chg.refl (fun _ => False) _) _ _ ?_) | (refine Evo2.va ok 3 _ _ ?_)
  (refine Evo2.cal ok 4 ?_ 22 ?_ ?_ ?_ ?_; rotate_left 2; (focus (intro w'; go_simp <;> with_reducible rfl)); (focus (intro w' g'; with_reducible exact Q5.out w' (Chg.trans (Chg.refl (fun _ => False) _) g'))); simp only [Act.put, L0, L1, L2])
  first | (refine Evo2.vl ok 5 KC.out (Chg.refl (fun _ => False) _) _ _ ?_) | (refine Evo2.va ok 5 _ _ ?_)
  (refine Evo2.cal ok 6 ?_ 22 ?_ ?_ ?_ ?_; rotate_left 2; (focus (intro w'; go_simp <;> with_reducible rfl)); (focus (intro w' g'; with_reducible exact Q6.out w' (Chg.trans (Chg.refl (fun _ => False) _) g'))); simp only [Act.put, L0, L1, L2])
  refine Evo2.va ok 7 _ _ ?_
  refine Evo2.va ok 8 _ _ ?_
  refine Evo2.va ok 9 _ _ ?_
  first | (refine Evo2.vl ok 10 KC.out (Chg.refl (fun _ => False) _) _ _ ?_) | (refine Evo2.va ok 10 _ _ ?_) | (refine Evo2.vi ok 10 _ ?_)
  first | (refine Evo2.vl ok 11 KC.out (Chg.refl (fun _ => False) _) _ _ ?_) | (refine Evo2.va ok 11 _ _ ?_) | (refine Evo2.vi ok 11 _ ?_)
  first | (refine Evo2.cal ok 12 ?_ 20 ?_ ?_ ?_ ?_; rotate_left 2; (focus (intro w'; go_simp <;> with_reducible rfl)); (focus (intro w' g'; with_reducible exact Q2.out w' (Chg.trans (Chg.refl (fun _ => False) _) g'))); simp only [Act.put, L0, L1, L2]) | (refine Evo2.vi ok 12 _ ?_)
  first | (refine Evo2.va ok 13 _ _ ?_) | (refine Evo2.vi ok 13 _ ?_)
  refine Evo2.va ok 14 _ _ ?_
  refine Evo2.va ok 15 _ _ ?_
  first | (refine Evo2.vl ok 16 KC.out (Chg.refl (fun _ => False) _) _ _ ?_) | (refine Evo2.va ok 16 _ _ ?_) | (refine Evo2.vi ok 16 _ ?_)
  first | (refine Evo2.vl ok 17 KC.out (Chg.refl (fun _ => False) _) _ _ ?_) | (refine Evo2.va ok 17 _ _ ?_) | (refine Evo2.vi ok 17 _ ?_)
  first | (refine Evo2.cal ok 18 ?_ 20 ?_ ?_ ?_ ?_; rotate_left 2; (focus (intro w'; go_simp <;> with_reducible rfl)); (focus (intro w' g'; with_reducible exact Q3.out w' (Chg.trans (Chg.refl (fun _ => False) _) g'))); simp only [Act.put, L0, L1, L2]) | (refine Evo2.vi ok 18 _ ?_)
  first | (refine Evo2.va ok 19 _ _ ?_) | (refine Evo2.vi ok 19 _ ?_)
  refine Evo2.va ok 20 _ _ ?_
  refine Evo2.va ok 21 _ _ ?_
  first | (refine Evo2.vl ok 22 KC.out (Chg.refl (fun _ => False) _) _ _ ?_) | (refine Evo2.va ok 22 _ _ ?_) | (refine Evo2.vi ok 22 _ ?_)
  first | (refine Evo2.vl ok 23 KC.out (Chg.refl (fun _ => False) _) _ _ ?_) | (refine Evo2.va ok 23 _ _ ?_) | (refine Evo2.vi ok 23 _ ?_)
  first | (refine Evo2.cal ok 24 ?_ 20 ?_ ?_ ?_ ?_; rotate_left 2; (focus (intro w'; go_simp <;> with_reducible rfl)); (focus (intro w' g'; with_reducible exact Q4.out w' (Chg.trans (Chg.refl (fun _ => False) _) g'))); simp only [Act.put, L0, L1, L2]) | (refine Evo2.vi ok 24 _ ?_)
  first | (refine Evo2.vl ok 25 KC.out (Chg.refl (fun _ => False) _) _ _ ?_) | (refine Evo2.va ok 25 _ _ ?_) | (refine Evo2.vi ok 25 _ ?_)
  first | (refine Evo2.vl ok 26 KC.out (Chg.refl (fun _ => False) _) _ _ ?_) | (refine Evo2.va ok 26 _ _ ?_) | (refine Evo2.vi ok 26 _ ?_)
  first | (refine Evo2.cal ok 27 ?_ 20 ?_ ?_ ?_ ?_; rotate_left 2; (focus (intro w'; go_simp <;> with_reducible rfl)); (focus (intro w' g'; with_reducible exact Q1.out w' (Chg.trans (Chg.refl (fun _ => False) _) g'))); simp only [Act.put, L0, L1, L2]) | (refine Evo2.vi ok 27 _ ?_)
  first | (refine Evo2.va ok 28 _ _ ?_) | (refine Evo2.vi ok 28 _ ?_)
  refine Evo2.va ok 29 _ _ ?_
  refine Evo2.va ok 30 _ _ ?_
  refine Evo2.done (by decide +kernel) (fun wz gz => ?_)
  have AZ := Chg.trans (Chg.refl (fun _ => False) _) (Chg.grow gz)
  go_wp2_with fail
  go_ret
  exact ⟨by simp, GF.out _ AZ⟩
end Go.Proofs.YtbagjeefoifpeaaDoor
