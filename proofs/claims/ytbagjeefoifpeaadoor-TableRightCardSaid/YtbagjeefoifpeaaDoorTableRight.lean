
/- TableRight: whether any table is right is the document's; a right one with one thing turned, too. -/
import Derived.Test.YtbagjeefoifpeaaDoorTabG
namespace Go.Proofs.YtbagjeefoifpeaaDoor
set_option maxRecDepth 100000
set_option linter.unusedVariables false
set_option linter.unusedSimpArgs false
set_option linter.unnecessarySimpa false
open Go.RowKit Go.Args

set_option maxHeartbeats 16000000 in
theorem walkTableRight (w : World) (ra : Option Addr) (rl : List Shr) (rc : Nat) (ra' : Option Addr) (rm : List Tgo) (rc' : Nat) (hr : TabIn w ra rl ra' rm) (v : Value) (zs : List Int) (hz : IntSlice w v zs) (v2 : Value) (ms : List Int) (hm : IntSlice w v2 ms) (wh : Int) (hwh : wf64 wh) (at' : Int) (hat : wf64 at') (n : Int) (hn : wf64 n) (v3 : Value) (ks : List Int) (hks : IntSlice w v3 ks) (ht : Tab w) :
    Calls Tryd.prog 3 #[.agg #[.slice ra rl.length rc, .slice ra' rm.length rc'], v, v2, .int .i64 wh, .int .i64 at', .int .i64 n, v3] w fun e w' => e = .returned (.bool true) ∧ Below w.heap.size w w' := by
  have KN := Lib.hid (fun w' (g : Grow.G w w') => known5_any w' (ht.below g))
  have MK := Lib.hid (fun w' (g : Grow.G w w') => made_l w' v zs (hz.below g) v2 ms (hm.below g) _ _ rfl rfl)
  have FW := Lib.hid (fun w' (g : Grow.G w w') => few_any ra rl rc ra' rm rc' w' ⟨hr.sh.later g, hr.tg.later g, hr.ok, hr.ok', hr.ll, hr.lm⟩)
  have TX := Lib.hid (fun w' (g : Grow.G w w') => text_any v3 ks w' (hks.below g))
  have TZ := textS_size ks
  have HR := Lib.hid hr
  clear ht hz hm hks hr
  have SM := mkS_small zs
  have TM := mkT_small ms
  have SP := mkS_pos zs
  have SR := mk_right zs ms
  generalize mkS zs = l at *
  generalize mkT ms = m at *
  generalize textS ks = tx at *
  have SM := Lib.hid SM
  have TM := Lib.hid TM
  have lm := TM.out.1
  have ll := SM.out.1
  have WA := Lib.hid (fun w => within5w_any at' (l.length : Int) w (by omega) (by omega) hat.1 hat.2)
  have RA := withinI_range at' (l.length : Int) (by omega)
  have WW := Lib.hid (fun w => within5w_any wh 7 w (by omega) (by omega) hwh.1 hwh.2)
  have RW := withinI_range wh 7 (by omega)
  clear hat hwh
  go_enter Tryd.func3, Tryd.ntmps3
  go_wp2_with fail
  have gA := Grow.G.alloc (Grow.G.refl w) (.cells #[.slice ra rl.length rc, .slice ra' rm.length rc'] 25)
  have BA := Blk.new w #[.slice ra rl.length rc, .slice ra' rm.length rc'] 25
  refine (KN.out _ gA).mono ?_
  rintro e w1 ⟨rfl, hg1⟩
  have G1 := gA.trans hg1
  have BA := BA.grow hg1
  have a0 := Blk.at (cs := [.slice ra rl.length rc, .slice ra' rm.length rc']) (k := 0) BA rfl
  have a1 := Blk.at (cs := [.slice ra rl.length rc, .slice ra' rm.length rc']) (k := 1) BA rfl
  go_wp2_with fail
  refine (FW.out _ G1).mono ?_
  rintro e w2 ⟨q, rfl, hq, hg2⟩
  have G2 := G1.trans hg2
  have BA := BA.grow hg2
  clear a0 a1
  cases q with
  | false =>
    clear hq
    have GG := Lib.hid G2
    go_wp2_with fail
    go_ret
    exact ⟨rfl, GG.out⟩
  | true =>
  obtain ⟨rl12, rm12⟩ := hq rfl
  go_wp2_with fail
  refine (MK.out _ G2).mono ?_
  rintro e w3 ⟨ta, tc, ta', tc', rfl, OT, OT', hg3⟩
  have G3 := G2.trans hg3
  have BA := BA.grow hg3
  go_wp2_with fail
  have B5 := Blk.new w3 #[.slice ta l.length tc, .slice ta' m.length tc'] 25
  have g5 := Grow.G.alloc (Grow.G.refl w3) (.cells #[.slice ta l.length tc, .slice ta' m.length tc'] 25)
  obtain ⟨W5, hW5⟩ : ∃ W5, W5 = w3.alloc (.cells #[.slice ta l.length tc, .slice ta' m.length tc'] 25) := ⟨_, rfl⟩
  rw [← hW5] at B5 g5 ⊢
  have hw3 := G3.size
  have hw2 := G2.size
  have MB : MadeB w W5 w3.heap.size ta l tc ta' m tc' := ⟨B5, own_base (own_later OT g5) hw2, own_base (own_later OT' g5) hw2, ll, lm, SM.out.ok, TM.out.ok, G3.trans g5, hw3⟩
  have MB := Lib.hid MB
  have BA := BA.grow g5
  have FR : FinT w W5 w.heap.size ra rl rc ra' rm rc' := ⟨BA, HR.out.sh.later (G3.trans g5), HR.out.tg.later (G3.trans g5), by omega, by omega, HR.out.ok, HR.out.ok', G3.trans g5⟩
  have FR := Lib.hid FR
  clear hW5 B5 g5 BA G1 G2 G3 hg1 hg2 hg3 OT OT' gA KN MK FW HR hw2
  generalize w3.heap.size = gb at *
  have F5 := MB.out.fin
  have QR1 := Lib.hid FR.out.q1
  have QR2 := Lib.hid FR.out.q2
  have QT := Lib.hid (fun w' k => SR ▸ F5.q1 w' k)
  have KC := Lib.hid (fun w' (k : Chg (fun _ => False) W5 w') => (⟨(FR.out.kc w' k).1, (FR.out.kc w' k).2.1, (F5.kc w' k).1, (F5.kc w' k).2.1, trivial⟩ : w'.cell? ⟨w.heap.size, 0, none⟩ = some (.slice ra rl.length rc) ∧ w'.cell? ⟨w.heap.size, 1, none⟩ = some (.slice ra' rm.length rc') ∧ w'.cell? ⟨gb, 0, none⟩ = some (.slice ta l.length tc) ∧ w'.cell? ⟨gb, 1, none⟩ = some (.slice ta' m.length tc') ∧ True))
  clear F5 FR
  generalize rightB rl rm = rq at *
  refine Evo2.start' (ℓ := none) (S := Chg (fun _ => False)) (E := Grow.G) (by kernel_rfl) ⟨Chg.pre _, by decide +kernel, (by intro c a d v w h; cases d <;> exact h), by decide +kernel⟩ (fun ok => ?_)
  first | (refine Evo2.vl ok 0 KC.out (Chg.refl (fun _ => False) _) _ _ ?_) | (refine Evo2.va ok 0 _ _ ?_)
  (refine Evo2.cal ok 1 ?_ 12 ?_ ?_ ?_ ?_; rotate_left 2; (focus (intro w'; go_simp <;> with_reducible rfl)); (focus (intro w' g'; with_reducible exact QR1.out w' (Chg.trans (Chg.refl (fun _ => False) _) g'))); simp only [Act.put, L0, L1, L2])
  first | (refine Evo2.vl ok 2 KC.out (Chg.refl (fun _ => False) _) _ _ ?_) | (refine Evo2.va ok 2 _ _ ?_)
  (refine Evo2.cal ok 3 ?_ 13 ?_ ?_ ?_ ?_; rotate_left 2; (focus (intro w'; go_simp <;> with_reducible rfl)); (focus (intro w' g'; with_reducible exact QR2.out w' (Chg.trans (Chg.refl (fun _ => False) _) g'))); simp only [Act.put, L0, L1, L2])
  refine Evo2.va ok 4 _ _ ?_
  refine Evo2.va ok 5 _ _ ?_
  first | (refine Evo2.vl ok 6 KC.out (Chg.refl (fun _ => False) _) _ _ ?_) | (refine Evo2.va ok 6 _ _ ?_) | (refine Evo2.vi ok 6 _ ?_)
  first | (refine Evo2.cal ok 7 ?_ 12 ?_ ?_ ?_ ?_; rotate_left 2; (focus (intro w'; go_simp <;> with_reducible rfl)); (focus (intro w' g'; with_reducible exact QT.out w' (Chg.trans (Chg.refl (fun _ => False) _) g'))); simp only [Act.put, L0, L1, L2]) | (refine Evo2.vi ok 7 _ ?_)
  first | (refine Evo2.va ok 8 _ _ ?_) | (refine Evo2.vi ok 8 _ ?_)
  refine Evo2.va ok 9 _ _ ?_
  refine Evo2.done (by decide +kernel) (fun wz gz => ?_)
  have AZ := Chg.trans (Chg.refl (fun _ => False) _) (Chg.grow gz)
  have MB := Lib.hid (MB.out.grow (g0 AZ))
  clear AZ gz ok KC QR1 QR2 QT
  have b0 := Blk.at (cs := [.slice ta l.length tc, .slice ta' m.length tc']) (k := 0) MB.out.bx rfl
  go_wp2_with fail
  refine (WA.out _).mono ?_
  rintro e wx ⟨rfl, rfl⟩
  go_wp2_with fail
  refine (WW.out _).mono ?_
  rintro e wx ⟨rfl, rfl⟩
  clear WA WW b0
  obtain ⟨k, hk⟩ : ∃ k : Nat, withinI at' (l.length : Int) = (k : Int) := ⟨(withinI at' (l.length : Int)).toNat, by omega⟩
  rw [hk] at RA ⊢
  clear hk
  obtain ⟨s, hs⟩ : ∃ s, l[k]? = some s := ⟨_, List.getElem?_eq_getElem (by omega)⟩
  have hcase : withinI wh 7 = 0 ∨ withinI wh 7 = 1 ∨ withinI wh 7 = 2 ∨ withinI wh 7 = 3 ∨ withinI wh 7 = 4 ∨ withinI wh 7 = 5 ∨ withinI wh 7 = 6 := by omega
  clear RW
  generalize withinI wh 7 = y at *
  rcases hcase with rfl | rfl | rfl | rfl | rfl | rfl | rfl
  · obtain ⟨sb, cur, rfl, hsb, hbk, hne, hcell⟩ := MB.out.row SP
    obtain ⟨j, hj⟩ : ∃ j : Nat, withinI n 6 = (j : Int) := ⟨(withinI n 6).toNat, by have := withinI_range n 6 (by omega); omega⟩
    have hj6 : j < 6 := by have := withinI_range n 6 (by omega); omega
    have W6 := Lib.hid (fun w => (within5w_any n 6 w (by omega) (by omega) hn.1 hn.2).mono (fun e w' (h : _ ∧ _) => (⟨by rw [h.1, hj], h.2 ▸ Grow.G.refl _⟩ : e = .returned (.int .i64 (j : Int)) ∧ Grow.G w w')))
    have hsw := SM.out.2 s (List.mem_of_getElem? hs)
    have hso := SM.out.ok s (List.mem_of_getElem? hs)
    obtain ⟨x, hx, CVB⟩ : ∃ x, wf64 x ∧ ∀ b w', Blk w' b #[.int .i64 0, .int .i64 (-1), .int .i64 100, .int .i64 101, .int .i64 (s.w + 1), .int .i64 n] 3 → w'.cell? ⟨b, j, none⟩ = some (.int .i64 x) := by
      have F : ∀ x, (#[.int .i64 0, .int .i64 (-1), .int .i64 100, .int .i64 101, .int .i64 (s.w + 1), .int .i64 n] : Array Value)[j]? = some (.int .i64 x) → ∀ b w', Blk w' b #[.int .i64 0, .int .i64 (-1), .int .i64 100, .int .i64 101, .int .i64 (s.w + 1), .int .i64 n] 3 → w'.cell? ⟨b, j, none⟩ = some (.int .i64 x) := fun x h b w' hb => by rw [hb.cell]; exact h
      clear W6 hj
      match j, hj6 with
      | 0, _ => exact ⟨_, ⟨by decide, by decide⟩, F _ rfl⟩
      | 1, _ => exact ⟨_, ⟨by decide, by decide⟩, F _ rfl⟩
      | 2, _ => exact ⟨_, ⟨by decide, by decide⟩, F _ rfl⟩
      | 3, _ => exact ⟨_, ⟨by decide, by decide⟩, F _ rfl⟩
      | 4, _ => exact ⟨s.w + 1, ⟨by omega, by omega⟩, F _ rfl⟩
      | 5, _ => exact ⟨n, hn, F _ rfl⟩
    have hw1 : IntKind.i64.wrap (s.w + 1) = s.w + 1 := IntWalk.i64_in _ ⟨by omega, by omega⟩
    obtain ⟨c0, c1⟩ := hcell k s hs
    have KC := Lib.hid (fun w' (h : Chg (fun _ => False) wz w') => (⟨(MB.out.fin.kc w' h).1, h.cell c1 id, trivial⟩ : w'.cell? ⟨gb, 0, none⟩ = some (.slice (some ⟨sb, 0, none⟩) l.length tc) ∧ w'.cell? ⟨sb, k * 2 + 1, none⟩ = some (.int .i64 s.w) ∧ True))
    have k1 : (0 : Int) ≤ (k : Int) := by omega
    have k2 : (k : Int) < (l.length : Int) := by omega
    have j1 : (0 : Int) ≤ (j : Int) := by omega
    have j2 : (j : Int) < 6 := by omega
    have HBK := Lib.hid hbk
    clear hcell c0 hj
    go_wp2_with fail
    refine Evo2.start' (ℓ := some 18) (S := Chg (fun _ => False)) (E := Grow.G) (by kernel_rfl) ⟨Chg.pre _, by decide +kernel, (by intro c a d v w h; cases d <;> exact h), by decide +kernel⟩ (fun ok => ?_)
    refine Evo2.va ok 0 _ _ ?_
    first | (refine Evo2.vl ok 1 KC.out (Chg.refl (fun _ => False) _) _ _ ?_) | (refine Evo2.va ok 1 _ _ ?_)
    refine Evo2.va ok 2 _ _ ?_
    refine Evo2.va ok 3 _ _ ?_
    first | (refine Evo2.vl ok 4 KC.out (Chg.refl (fun _ => False) _) _ _ ?_) | (refine Evo2.va ok 4 _ _ ?_)
    refine Evo2.va ok 5 _ _ ?_
    refine Evo2.va ok 6 _ _ ?_
    refine Evo2.va ok 7 _ _ ?_
    first | (refine Evo2.vl ok 8 KC.out (Chg.refl (fun _ => False) _) _ _ ?_) | (refine Evo2.va ok 8 _ _ ?_)
    refine Evo2.va ok 9 _ _ ?_
    refine Evo2.va ok 10 _ _ ?_
    refine Evo2.va ok 12 _ _ ?_
    (refine Evo2.cal ok 13 ?_ 14 ?_ ?_ ?_ ?_; rotate_left 2; (focus (intro w'; go_simp <;> with_reducible rfl)); (focus (intro w' g'; with_reducible exact W6.out w')); simp only [Act.put, L0, L1, L2])
    refine Evo2.all [11] (by decide +kernel) rfl ?_
    intro wp1 gp1 iq hq
    simp only [List.mem_cons, List.mem_nil_iff, or_false] at hq
    have AP1 := Chg.trans (Chg.refl (fun _ => False) _) (Chg.grow gp1)
    subst hq
    refine Evo2.runs (by rfl) (by rfl) (fun K' hK' => ?_)
    (try obtain ⟨q1, q2⟩ := KC.out wp1 AP1)
    go_simp
    (try (simp only [Evo.after_value, Evo.after_skip]))
    refine hK'.out _ _ ?_
    clear hK'
    simp only [Act.put, L0, L1, L2]
    (try clear q1 q2)
    refine ⟨.inr (Chg.alloc (Chg.refl _ _) _), ?_⟩
    generalize hG1 : World.alloc wp1 _ = wg1
    have GG1 : Grow.G wp1 wg1 := hG1 ▸ Grow.G.alloc (Grow.G.refl _) _
    have NC1 := (congrArg (fun W : World => W.heap[wp1.heap.size]?) hG1).symm.trans (MapKept.heap_alloc wp1 _).1
    have NL1 : wp1.heap.size < wg1.heap.size := by rw [← hG1]; simp
    clear hG1
    refine Evo2.va ok 14 _ _ ?_
    first | (refine Evo2.val ok 15 ?_ ?_ ?_; rotate_left; (intro w' hg; have nq := CVB _ _ (hg.blk NC1 (by intro q; first | exact q | (have h1 := AP1.size; have h2 := NL1; (try dsimp only at q); omega))); go_simp <;> with_reducible rfl); simp only [Act.put, L0, L1, L2]) | (refine Evo2.vl ok 15 KC.out (Chg.trans AP1 (Chg.grow GG1)) _ _ ?_) | (refine Evo2.va ok 15 _ _ ?_) | (refine Evo2.val ok 15 ?_ ?_ ?_; rotate_left; (intro w' hg; have nq := fun j => Blk.cell (w := w') (hg.blk NC1 (by intro q; first | exact q | (have h1 := AP1.size; have h2 := NL1; (try dsimp only at q); omega))) j; go_simp <;> with_reducible rfl); simp only [Act.put, L0, L1, L2])
    refine Evo2.va ok 16 _ _ ?_
    refine Evo2.va ok 17 _ _ ?_
    refine Evo2.all [18] (by decide +kernel) rfl ?_
    intro wp2 gp2 iq hq
    simp only [List.mem_cons, List.mem_nil_iff, or_false] at hq
    have AP2 := Chg.trans (Chg.trans AP1 (Chg.grow GG1)) (Chg.grow gp2)
    have NC1 := (gp2.block _ NL1).trans NC1
    have NL1 := Nat.lt_of_lt_of_le NL1 gp2.size
    subst hq
    refine Evo2.runs (by rfl) (by rfl) (fun K' hK' => ?_)
    (try obtain ⟨q1, q2⟩ := KC.out wp2 AP2)
    have BQ := AP2.blk HBK.out id; have gl := Blk.lt BQ; have f0 := Blk.free BQ (k * 2 + 1); clear BQ
    go_simp
    (try (simp only [Evo.after_value, Evo.after_skip]))
    refine hK'.out _ _ ?_
    clear hK'
    simp only [Act.put, L0, L1, L2]
    (try clear gl f0)
    (try clear q1 q2)
    refine ⟨.inl (by first | rfl | trivial), ?_⟩
    refine Evo2.done (by decide +kernel) (fun wz gz => ?_)
    have FT : FinT w wz gb (some ⟨sb, 0, none⟩) (l.set k ⟨s.rev, x⟩) tc ta' m tc' := FinT.cell (MB.out.grow (g0 AP2)).fin ((MB.out.grow (g0 AP2)).ht (AP2.blk HBK.out id)) hne hsb hs (by omega) rfl ⟨hx, hso.2⟩ gz
    clear MB HBK KC W6 CVB TX gz gp1 gp2 GG1 AP1 AP2 NC1 NL1 ok
    have Q1 := Lib.hid FT.q1
    have Q2 := Lib.hid FT.q2
    have KZ := Lib.hid FT.kc
    have GZ := Lib.hid FT.g
    simp only [List.length_set] at Q1 Q2 KZ
    clear FT
    generalize rightB (l.set k ⟨s.rev, x⟩) m = fq at *
    go_wp2_with fail
    refine Evo2.start' (ℓ := none) (S := Chg (fun _ => False)) (E := Grow.G) (by kernel_rfl) ⟨Chg.pre _, by decide +kernel, (by intro c a d v w h; cases d <;> exact h), by decide +kernel⟩ (fun ok => ?_)
    first | (refine Evo2.vl ok 0 KZ.out (Chg.refl (fun _ => False) _) _ _ ?_) | (refine Evo2.va ok 0 _ _ ?_)
    (refine Evo2.cal ok 1 ?_ 12 ?_ ?_ ?_ ?_; rotate_left 2; (focus (intro w'; go_simp <;> with_reducible rfl)); (focus (intro w' g'; with_reducible exact Q1.out w' (Chg.trans (Chg.refl (fun _ => False) _) g'))); simp only [Act.put, L0, L1, L2])
    first | (refine Evo2.vl ok 2 KZ.out (Chg.refl (fun _ => False) _) _ _ ?_) | (refine Evo2.va ok 2 _ _ ?_)
    (refine Evo2.cal ok 3 ?_ 13 ?_ ?_ ?_ ?_; rotate_left 2; (focus (intro w'; go_simp <;> with_reducible rfl)); (focus (intro w' g'; with_reducible exact Q2.out w' (Chg.trans (Chg.refl (fun _ => False) _) g'))); simp only [Act.put, L0, L1, L2])
    refine Evo2.va ok 4 _ _ ?_
    refine Evo2.va ok 5 _ _ ?_
    refine Evo2.done (by decide +kernel) (fun wz gz => ?_)
    have AZ := Chg.trans (Chg.refl (fun _ => False) _) (Chg.grow gz)
    go_wp2_with fail
    go_ret
    exact ⟨by simp, GZ.out.trans (g0 AZ)⟩
  · obtain ⟨sb, cur, rfl, hsb, hbk, hne, hcell⟩ := MB.out.row SP
    have hso := SM.out.ok s (List.mem_of_getElem? hs)
    obtain ⟨c0, c1⟩ := hcell k s hs
    have KC := Lib.hid (fun w' (h : Chg (fun _ => False) wz w') => (⟨(MB.out.fin.kc w' h).1, h.cell c0 id, trivial⟩ : w'.cell? ⟨gb, 0, none⟩ = some (.slice (some ⟨sb, 0, none⟩) l.length tc) ∧ w'.cell? ⟨sb, k * 2, none⟩ = some (.string s.rev) ∧ True))
    have TX2 := Lib.hid (fun w' (h : Chg (fun _ => False) wz w') => TX.out w' (MB.out.g.trans (g0 h)))
    have k1 : (0 : Int) ≤ (k : Int) := by omega
    have k2 : (k : Int) < (l.length : Int) := by omega
    have HBK := Lib.hid hbk
    have hxz : ((⟨#[119, 101, 98, 45]⟩ : ByteArray) ++ tx).size ≤ 140737488351232 := by rw [ByteArray.size_append]; have : (⟨#[119, 101, 98, 45]⟩ : ByteArray).size = 4 := rfl; omega
    clear hcell c1
    go_wp2_with fail
    refine Evo2.start' (ℓ := some 8) (S := Chg (fun _ => False)) (E := Grow.G) (by kernel_rfl) ⟨Chg.pre _, by decide +kernel, (by intro c a d v w h; cases d <;> exact h), by decide +kernel⟩ (fun ok => ?_)
    refine Evo2.va ok 0 _ _ ?_
    first | (refine Evo2.vl ok 1 KC.out (Chg.refl (fun _ => False) _) _ _ ?_) | (refine Evo2.va ok 1 _ _ ?_)
    refine Evo2.va ok 2 _ _ ?_
    refine Evo2.va ok 3 _ _ ?_
    (refine Evo2.cal ok 4 ?_ 15 ?_ ?_ ?_ ?_; rotate_left 2; (focus (intro w'; go_simp <;> with_reducible rfl)); (focus (intro w' g'; with_reducible exact TX2.out w' (Chg.trans (Chg.refl (fun _ => False) _) g'))); simp only [Act.put, L0, L1, L2])
    refine Evo2.va ok 5 _ _ ?_
    refine Evo2.va ok 6 _ _ ?_
    refine Evo2.va ok 7 _ _ ?_
    refine Evo2.all [8] (by decide +kernel) rfl ?_
    intro wp1 gp1 iq hq
    simp only [List.mem_cons, List.mem_nil_iff, or_false] at hq
    have AP1 := Chg.trans (Chg.refl (fun _ => False) _) (Chg.grow gp1)
    subst hq
    refine Evo2.runs (by rfl) (by rfl) (fun K' hK' => ?_)
    (try obtain ⟨q1, q2⟩ := KC.out wp1 AP1)
    have BQ := AP1.blk HBK.out id; have gl := Blk.lt BQ; have f0 := Blk.free BQ (k * 2); clear BQ
    go_simp
    (try (simp only [Evo.after_value, Evo.after_skip]))
    refine hK'.out _ _ ?_
    clear hK'
    simp only [Act.put, L0, L1, L2]
    (try clear gl f0)
    (try clear q1 q2)
    refine ⟨.inl (by first | rfl | trivial), ?_⟩
    refine Evo2.done (by decide +kernel) (fun wz gz => ?_)
    have FT : FinT w wz gb (some ⟨sb, 0, none⟩) (l.set k ⟨⟨#[119, 101, 98, 45]⟩ ++ tx, s.w⟩) tc ta' m tc' := FinT.cell (j := 0) (MB.out.grow (g0 AP1)).fin ((MB.out.grow (g0 AP1)).ht (AP1.blk HBK.out id)) hne hsb hs (by omega) rfl ⟨hso.1, hxz⟩ gz
    clear MB HBK KC TX TX2 gz gp1 AP1 ok
    have Q1 := Lib.hid FT.q1
    have Q2 := Lib.hid FT.q2
    have KZ := Lib.hid FT.kc
    have GZ := Lib.hid FT.g
    simp only [List.length_set] at Q1 Q2 KZ
    clear FT
    generalize rightB (l.set k ⟨⟨#[119, 101, 98, 45]⟩ ++ tx, s.w⟩) m = fq at *
    go_wp2_with fail
    refine Evo2.start' (ℓ := none) (S := Chg (fun _ => False)) (E := Grow.G) (by kernel_rfl) ⟨Chg.pre _, by decide +kernel, (by intro c a d v w h; cases d <;> exact h), by decide +kernel⟩ (fun ok => ?_)
    first | (refine Evo2.vl ok 0 KZ.out (Chg.refl (fun _ => False) _) _ _ ?_) | (refine Evo2.va ok 0 _ _ ?_)
    (refine Evo2.cal ok 1 ?_ 12 ?_ ?_ ?_ ?_; rotate_left 2; (focus (intro w'; go_simp <;> with_reducible rfl)); (focus (intro w' g'; with_reducible exact Q1.out w' (Chg.trans (Chg.refl (fun _ => False) _) g'))); simp only [Act.put, L0, L1, L2])
    first | (refine Evo2.vl ok 2 KZ.out (Chg.refl (fun _ => False) _) _ _ ?_) | (refine Evo2.va ok 2 _ _ ?_)
    (refine Evo2.cal ok 3 ?_ 13 ?_ ?_ ?_ ?_; rotate_left 2; (focus (intro w'; go_simp <;> with_reducible rfl)); (focus (intro w' g'; with_reducible exact Q2.out w' (Chg.trans (Chg.refl (fun _ => False) _) g'))); simp only [Act.put, L0, L1, L2])
    refine Evo2.va ok 4 _ _ ?_
    refine Evo2.va ok 5 _ _ ?_
    refine Evo2.done (by decide +kernel) (fun wz gz => ?_)
    have AZ := Chg.trans (Chg.refl (fun _ => False) _) (Chg.grow gz)
    go_wp2_with fail
    go_ret
    exact ⟨by simp, GZ.out.trans (g0 AZ)⟩
  · obtain ⟨sb, cur, rfl, hsb, hbk, hne, hcell⟩ := MB.out.row SP
    obtain ⟨s0, hs0⟩ : ∃ s0, l[0]? = some s0 := ⟨_, List.getElem?_eq_getElem SP⟩
    have hkl : k < l.length := by omega
    have hso := SM.out.ok s (List.mem_of_getElem? hs)
    have hso0 := SM.out.ok s0 (List.mem_of_getElem? hs0)
    obtain ⟨z2, z3⟩ := hcell k s hs
    obtain ⟨z0, z1⟩ := hcell 0 s0 hs0
    rw [Nat.zero_mul] at z0 z1
    rw [Nat.zero_add] at z1
    have HT := Lib.hid (MB.out.ht hbk)
    have KC := Lib.hid (fun w' (h : Chg (fun k => k = sb) wz w') => (⟨h.cell (Blk.at (cs := [.slice (some ⟨sb, 0, none⟩) l.length tc, .slice ta' m.length tc']) (k := 0) MB.out.bx rfl) (fun q => hne q.symm), trivial⟩ : w'.cell? ⟨gb, 0, none⟩ = some (.slice (some ⟨sb, 0, none⟩) l.length tc) ∧ True))
    have k1 : (0 : Int) ≤ (k : Int) := by omega
    have k2 : (k : Int) < (l.length : Int) := by omega
    have l0 : (0 : Int) < (l.length : Int) := by omega
    have SBK := hbk
    have MBC := MB.out
    clear hcell hbk
    go_wp2_with fail
    refine wp_spec (fun a0 A W => ∃ x74 x75 x76 x77 x78 x79 x80 x81 x82 x83 x84 x85 x86 x87 x88 x89 : Value, A = ((((((((((((((((a0.put (some 74) x74).put (some 75) x75).put (some 76) x76).put (some 77) x77).put (some 78) x78).put (some 79) x79).put (some 80) x80).put (some 81) x81).put (some 82) x82).put (some 83) x83).put (some 84) x84).put (some 85) x85).put (some 86) x86).put (some 87) x87).put (some 88) x88).put (some 89) x89) ∧ Hid (FinT w W gb (some ⟨sb, 0, none⟩) (swapL l k s s0) tc ta' m tc')) ?_ ?_
    all_goals simp only [Act.put, L0, L1, L2]
    ·
      refine Evo2.start' (ℓ := some 17) (S := Chg (fun k => k = sb)) (E := Grow.G) (by kernel_rfl) ⟨Chg.pre _, by decide +kernel, (by intro c a d v w h; cases d <;> exact h), by decide +kernel⟩ (fun ok => ?_)
      refine Evo2.va ok 0 _ _ ?_
      first | (refine Evo2.vl ok 1 KC.out (Chg.refl (fun k => k = sb) _) _ _ ?_) | (refine Evo2.va ok 1 _ _ ?_)
      refine Evo2.va ok 2 _ _ ?_
      refine Evo2.va ok 3 _ _ ?_
      first | (refine Evo2.vl ok 4 KC.out (Chg.refl (fun k => k = sb) _) _ _ ?_) | (refine Evo2.va ok 4 _ _ ?_)
      refine Evo2.va ok 5 _ _ ?_
      first | (refine Evo2.vl ok 6 KC.out (Chg.refl (fun k => k = sb) _) _ _ ?_) | (refine Evo2.va ok 6 _ _ ?_)
      refine Evo2.va ok 7 _ _ ?_
      refine Evo2.va ok 9 _ _ ?_
      first | (refine Evo2.vl ok 10 KC.out (Chg.refl (fun k => k = sb) _) _ _ ?_) | (refine Evo2.va ok 10 _ _ ?_)
      refine Evo2.va ok 11 _ _ ?_
      refine Evo2.va ok 12 _ _ ?_
      refine Evo2.all [8, 13] (by decide +kernel) rfl ?_
      intro wp1 gp1 iq hq
      simp only [List.mem_cons, List.mem_nil_iff, or_false] at hq
      have AP1 := Chg.trans (Chg.refl (fun k => k = sb) _) (Chg.grow gp1)
      (try replace z0 := cell_later gp1 z0); (try replace z1 := cell_later gp1 z1); (try replace z2 := cell_later gp1 z2); (try replace z3 := cell_later gp1 z3); (try replace SBK := Blk.grow SBK gp1); (try replace MBC := MadeB.grow MBC gp1)
      rcases hq with rfl | rfl
      ·
        refine Evo2.runs (by rfl) (by rfl) (fun K' hK' => ?_)
        (try obtain ⟨q1⟩ := KC.out wp1 AP1)
        go_simp
        (try (simp only [Evo.after_value, Evo.after_skip]))
        refine hK'.out _ _ ?_
        clear hK'
        simp only [Act.put, L0, L1, L2]
        (try clear q1)
        refine ⟨.inr (Chg.refl _ _), ?_⟩
        refine Evo2.all [13] (by decide +kernel) rfl ?_
        intro wp2 gp2 iq hq
        simp only [List.mem_cons, List.mem_nil_iff, or_false] at hq
        have AP2 := Chg.trans AP1 (Chg.grow gp2)
        (try replace z0 := cell_later gp2 z0); (try replace z1 := cell_later gp2 z1); (try replace z2 := cell_later gp2 z2); (try replace z3 := cell_later gp2 z3); (try replace SBK := Blk.grow SBK gp2); (try replace MBC := MadeB.grow MBC gp2)
        subst hq
        refine Evo2.runs (by rfl) (by rfl) (fun K' hK' => ?_)
        (try obtain ⟨q1⟩ := KC.out wp2 AP2)
        go_simp
        (try (simp only [Evo.after_value, Evo.after_skip]))
        refine hK'.out _ _ ?_
        clear hK'
        simp only [Act.put, L0, L1, L2]
        (try clear q1)
        refine ⟨.inr (Chg.refl _ _), ?_⟩
        refine Evo2.va ok 14 _ _ ?_
        refine Evo2.all [15] (by decide +kernel) rfl ?_
        intro wp3 gp3 iq hq
        simp only [List.mem_cons, List.mem_nil_iff, or_false] at hq
        have AP3 := Chg.trans AP2 (Chg.grow gp3)
        (try replace z0 := cell_later gp3 z0); (try replace z1 := cell_later gp3 z1); (try replace z2 := cell_later gp3 z2); (try replace z3 := cell_later gp3 z3); (try replace SBK := Blk.grow SBK gp3); (try replace MBC := MadeB.grow MBC gp3)
        subst hq
        refine Evo2.runs (by rfl) (by rfl) (fun K' hK' => ?_)
        (try obtain ⟨q1⟩ := KC.out wp3 AP3)
        have f0 := Blk.free SBK (k * 2); have f1 := Blk.free SBK (k * 2 + 1); have gl := Blk.lt SBK
        go_simp
        (try (simp only [Evo.after_value, Evo.after_skip]))
        refine hK'.out _ _ ?_
        clear hK'
        simp only [Act.put, L0, L1, L2]
        (try clear f0 f1 gl z0 z1 z2 z3)
        have FA := Lib.hid (FinT.cell (j := 1) (FinT.cell (j := 0) MBC.fin HT.out hne hsb hs (by omega) (s' := ⟨s0.rev, s.w⟩) (v := .string s0.rev) rfl ⟨hso.1, hso0.2⟩ (Grow.G.refl _)) HT.out hne hsb (s := ⟨s0.rev, s.w⟩) (s' := s0) (v := .int .i64 s0.w) (List.getElem?_set_self (by omega)) (by omega) rfl hso0 (Grow.G.refl _)); have SBK := ((Blk.set SBK (k * 2) (.string s0.rev)).set (k * 2 + 1) (.int .i64 s0.w)); clear MBC
        (try clear q1)
        refine ⟨.inr (by (repeat refine Chg.setCell ?_ (fun _ => by first | rfl | (simp; done) | (simp; omega)) _ _); exact Chg.refl _ _), ?_⟩
        refine Evo2.va ok 16 _ _ ?_
        refine Evo2.all [17] (by decide +kernel) rfl ?_
        intro wp4 gp4 iq hq
        simp only [List.mem_cons, List.mem_nil_iff, or_false] at hq
        have AP4 := Chg.trans (Chg.trans AP3 (by (repeat refine Chg.setCell ?_ (fun _ => by first | rfl | (simp; done) | (simp; omega)) _ _); exact Chg.refl _ _)) (Chg.grow gp4)
        (try replace z0 := cell_later gp4 z0); (try replace z1 := cell_later gp4 z1); (try replace z2 := cell_later gp4 z2); (try replace z3 := cell_later gp4 z3); (try replace SBK := Blk.grow SBK gp4); (try replace MBC := MadeB.grow MBC gp4)
        subst hq
        refine Evo2.runs (by rfl) (by rfl) (fun K' hK' => ?_)
        (try obtain ⟨q1⟩ := KC.out wp4 AP4)
        have FB := Lib.hid (FinT.grow FA.out gp4); have SC := FinT.cells FB.out (swap_at hs0 hkl); have y0 := SC.1; have y1 := SC.2; have f0 := Blk.free SBK 0; have f1 := Blk.free SBK 1; have gl := Blk.lt SBK; clear SC
        go_simp
        (try (simp only [Evo.after_value, Evo.after_skip]))
        refine hK'.out _ _ ?_
        clear hK'
        simp only [Act.put, L0, L1, L2]
        (try clear y0 y1 f0 f1 gl)
        (try clear q1)
        refine ⟨.inl (by first | rfl | trivial), ?_⟩
        refine Evo2.done (by decide +kernel) (fun wz gz => ?_)
        dsimp only [PostN] 
        (repeat apply Exists.intro) 
        exact ⟨rfl, Lib.hid (FinT.cell (k := 0) (j := 1) (FinT.cell (k := 0) (j := 0) FB.out HT.out hne hsb (swap_at hs0 hkl) (by omega) (s' := ⟨s.rev, s0.w⟩) (v := .string s.rev) rfl ⟨hso0.1, hso.2⟩ (Grow.G.refl _)) HT.out hne hsb (s := ⟨s.rev, s0.w⟩) (s' := s) (v := .int .i64 s.w) (List.getElem?_set_self (by simp; omega)) (by omega) rfl hso gz)⟩
      ·
        refine Evo2.runs (by rfl) (by rfl) (fun K' hK' => ?_)
        (try obtain ⟨q1⟩ := KC.out wp1 AP1)
        go_simp
        (try (simp only [Evo.after_value, Evo.after_skip]))
        refine hK'.out _ _ ?_
        clear hK'
        simp only [Act.put, L0, L1, L2]
        (try clear q1)
        refine ⟨.inr (Chg.refl _ _), ?_⟩
        refine Evo2.all [8] (by decide +kernel) rfl ?_
        intro wp2 gp2 iq hq
        simp only [List.mem_cons, List.mem_nil_iff, or_false] at hq
        have AP2 := Chg.trans AP1 (Chg.grow gp2)
        (try replace z0 := cell_later gp2 z0); (try replace z1 := cell_later gp2 z1); (try replace z2 := cell_later gp2 z2); (try replace z3 := cell_later gp2 z3); (try replace SBK := Blk.grow SBK gp2); (try replace MBC := MadeB.grow MBC gp2)
        subst hq
        refine Evo2.runs (by rfl) (by rfl) (fun K' hK' => ?_)
        (try obtain ⟨q1⟩ := KC.out wp2 AP2)
        go_simp
        (try (simp only [Evo.after_value, Evo.after_skip]))
        refine hK'.out _ _ ?_
        clear hK'
        simp only [Act.put, L0, L1, L2]
        (try clear q1)
        refine ⟨.inr (Chg.refl _ _), ?_⟩
        refine Evo2.va ok 14 _ _ ?_
        refine Evo2.all [15] (by decide +kernel) rfl ?_
        intro wp3 gp3 iq hq
        simp only [List.mem_cons, List.mem_nil_iff, or_false] at hq
        have AP3 := Chg.trans AP2 (Chg.grow gp3)
        (try replace z0 := cell_later gp3 z0); (try replace z1 := cell_later gp3 z1); (try replace z2 := cell_later gp3 z2); (try replace z3 := cell_later gp3 z3); (try replace SBK := Blk.grow SBK gp3); (try replace MBC := MadeB.grow MBC gp3)
        subst hq
        refine Evo2.runs (by rfl) (by rfl) (fun K' hK' => ?_)
        (try obtain ⟨q1⟩ := KC.out wp3 AP3)
        have f0 := Blk.free SBK (k * 2); have f1 := Blk.free SBK (k * 2 + 1); have gl := Blk.lt SBK
        go_simp
        (try (simp only [Evo.after_value, Evo.after_skip]))
        refine hK'.out _ _ ?_
        clear hK'
        simp only [Act.put, L0, L1, L2]
        (try clear f0 f1 gl z0 z1 z2 z3)
        have FA := Lib.hid (FinT.cell (j := 1) (FinT.cell (j := 0) MBC.fin HT.out hne hsb hs (by omega) (s' := ⟨s0.rev, s.w⟩) (v := .string s0.rev) rfl ⟨hso.1, hso0.2⟩ (Grow.G.refl _)) HT.out hne hsb (s := ⟨s0.rev, s.w⟩) (s' := s0) (v := .int .i64 s0.w) (List.getElem?_set_self (by omega)) (by omega) rfl hso0 (Grow.G.refl _)); have SBK := ((Blk.set SBK (k * 2) (.string s0.rev)).set (k * 2 + 1) (.int .i64 s0.w)); clear MBC
        (try clear q1)
        refine ⟨.inr (by (repeat refine Chg.setCell ?_ (fun _ => by first | rfl | (simp; done) | (simp; omega)) _ _); exact Chg.refl _ _), ?_⟩
        refine Evo2.va ok 16 _ _ ?_
        refine Evo2.all [17] (by decide +kernel) rfl ?_
        intro wp4 gp4 iq hq
        simp only [List.mem_cons, List.mem_nil_iff, or_false] at hq
        have AP4 := Chg.trans (Chg.trans AP3 (by (repeat refine Chg.setCell ?_ (fun _ => by first | rfl | (simp; done) | (simp; omega)) _ _); exact Chg.refl _ _)) (Chg.grow gp4)
        (try replace z0 := cell_later gp4 z0); (try replace z1 := cell_later gp4 z1); (try replace z2 := cell_later gp4 z2); (try replace z3 := cell_later gp4 z3); (try replace SBK := Blk.grow SBK gp4); (try replace MBC := MadeB.grow MBC gp4)
        subst hq
        refine Evo2.runs (by rfl) (by rfl) (fun K' hK' => ?_)
        (try obtain ⟨q1⟩ := KC.out wp4 AP4)
        have FB := Lib.hid (FinT.grow FA.out gp4); have SC := FinT.cells FB.out (swap_at hs0 hkl); have y0 := SC.1; have y1 := SC.2; have f0 := Blk.free SBK 0; have f1 := Blk.free SBK 1; have gl := Blk.lt SBK; clear SC
        go_simp
        (try (simp only [Evo.after_value, Evo.after_skip]))
        refine hK'.out _ _ ?_
        clear hK'
        simp only [Act.put, L0, L1, L2]
        (try clear y0 y1 f0 f1 gl)
        (try clear q1)
        refine ⟨.inl (by first | rfl | trivial), ?_⟩
        refine Evo2.done (by decide +kernel) (fun wz gz => ?_)
        dsimp only [PostN] 
        (repeat apply Exists.intro) 
        exact ⟨rfl, Lib.hid (FinT.cell (k := 0) (j := 1) (FinT.cell (k := 0) (j := 0) FB.out HT.out hne hsb (swap_at hs0 hkl) (by omega) (s' := ⟨s.rev, s0.w⟩) (v := .string s.rev) rfl ⟨hso0.1, hso.2⟩ (Grow.G.refl _)) HT.out hne hsb (s := ⟨s.rev, s0.w⟩) (s' := s) (v := .int .i64 s.w) (List.getElem?_set_self (by simp; omega)) (by omega) rfl hso gz)⟩
    ·
      rintro A wz2 ⟨x74, x75, x76, x77, x78, x79, x80, x81, x82, x83, x84, x85, x86, x87, x88, x89, rfl, FT⟩
      replace FT := FT.out
      clear MB KC TX z0 z1 z2 z3 SBK MBC HT
      have Q1 := Lib.hid FT.q1
      have Q2 := Lib.hid FT.q2
      have KZ := Lib.hid FT.kc
      have GZ := Lib.hid FT.g
      have eL : (swapL l k s s0).length = l.length := by simp [swapL]
      rw [eL] at Q1 Q2 KZ
      clear FT
      generalize rightB (swapL l k s s0) m = fq at *
      go_wp2_with fail
      refine Evo2.start' (ℓ := none) (S := Chg (fun _ => False)) (E := Grow.G) (by kernel_rfl) ⟨Chg.pre _, by decide +kernel, (by intro c a d v w h; cases d <;> exact h), by decide +kernel⟩ (fun ok => ?_)
      first | (refine Evo2.vl ok 0 KZ.out (Chg.refl (fun _ => False) _) _ _ ?_) | (refine Evo2.va ok 0 _ _ ?_)
      (refine Evo2.cal ok 1 ?_ 12 ?_ ?_ ?_ ?_; rotate_left 2; (focus (intro w'; go_simp <;> with_reducible rfl)); (focus (intro w' g'; with_reducible exact Q1.out w' (Chg.trans (Chg.refl (fun _ => False) _) g'))); simp only [Act.put, L0, L1, L2])
      first | (refine Evo2.vl ok 2 KZ.out (Chg.refl (fun _ => False) _) _ _ ?_) | (refine Evo2.va ok 2 _ _ ?_)
      (refine Evo2.cal ok 3 ?_ 13 ?_ ?_ ?_ ?_; rotate_left 2; (focus (intro w'; go_simp <;> with_reducible rfl)); (focus (intro w' g'; with_reducible exact Q2.out w' (Chg.trans (Chg.refl (fun _ => False) _) g'))); simp only [Act.put, L0, L1, L2])
      refine Evo2.va ok 4 _ _ ?_
      refine Evo2.va ok 5 _ _ ?_
      refine Evo2.done (by decide +kernel) (fun wz gz => ?_)
      have AZ := Chg.trans (Chg.refl (fun _ => False) _) (Chg.grow gz)
      go_wp2_with fail
      go_ret
      exact ⟨by simp, GZ.out.trans (g0 AZ)⟩
  · obtain ⟨i0, hi, ha0, ha1, ha2⟩ := info_parts infoShr
    have HI := Lib.hid (And.intro hi (And.intro ha0 (And.intro ha1 ha2)))
    clear hi ha0 ha1 ha2 hs RA TX
    have gsz := MB.out.g.size
    have b0 := Blk.at (cs := [.slice ta l.length tc, .slice ta' m.length tc']) (k := 0) MB.out.bx rfl
    go_wp2_with (at_builtin; refine Fr.wpList_append_fr _ rfl _ _ 22 rfl w.heap.size 32 i0 (.agg #[.string ⟨#[]⟩, .int .i64 0]) 2 24 Tryd.underlying22 HI.out.1 HI.out.2.1 HI.out.2.2.1 HI.out.2.2.2 rfl (by decide) _ _ _ rfl (own_later MB.out.sh (Grow.G.alloc (Grow.G.refl _) _)) ⟨wz.heap.size, 0, none⟩ 1 1 [.string ⟨#[119, 101, 98, 45, 57]⟩, .int .i64 0] rfl rfl (news_new _ _ _ _ rfl) (by intro u hu; simp at hu; rcases hu with rfl | rfl <;> rfl) (by unfold maxLen; omega) (by omega) (by simp; omega) ?_; intro v' w' hown hfr; obtain ⟨g9, c9, rfl, hg9⟩ := own_some hown (by omega); have AP := Chg.trans (G := fun k => (Value.slice ta l.length tc).ownBlock = some k) (Chg.grow (Grow.G.alloc (Grow.G.refl wz) (.cells #[.string ⟨#[119, 101, 98, 45, 57]⟩, .int .i64 0] 32))) (Chg.ofFr hfr); have B9 := MB.out.bx.chg AP (own_blk_types MB.out.sh MB.out.bx (by decide)); have e9 := Blk.at (cs := [.slice ta l.length tc, .slice ta' m.length tc']) (k := 0) B9 rfl; have f9 := B9.free 0; have l9 := B9.lt; have HF := Lib.hid (And.intro hown AP); clear hown hfr B9 AP)
    have FT := MB.out.more (s := ⟨⟨#[119, 101, 98, 45, 57]⟩, 0⟩) HF.out.2 HF.out.1 ⟨⟨by decide, by decide⟩, by decide⟩ (Grow.G.refl _)
    clear MB HF HI e9 f9 l9 b0
    obtain ⟨wq, hwq⟩ : ∃ wq, wq = w'.setCell ⟨gb, 0, none⟩ (.slice (some ⟨g9, 0, none⟩) (l.length + 1) c9) := ⟨_, rfl⟩
    rw [← hwq] at FT ⊢
    clear hwq
    have Q1 := Lib.hid FT.q1
    have Q2 := Lib.hid FT.q2
    have KZ := Lib.hid FT.kc
    have GZ := Lib.hid FT.g
    simp only [List.length_append, List.length_singleton] at Q1 Q2 KZ
    clear FT
    generalize rightB (l ++ [⟨⟨#[119, 101, 98, 45, 57]⟩, 0⟩]) m = fq at *
    refine Evo2.start' (ℓ := none) (S := Chg (fun _ => False)) (E := Grow.G) (by kernel_rfl) ⟨Chg.pre _, by decide +kernel, (by intro c a d v w h; cases d <;> exact h), by decide +kernel⟩ (fun ok => ?_)
    first | (refine Evo2.vl ok 0 KZ.out (Chg.refl (fun _ => False) _) _ _ ?_) | (refine Evo2.va ok 0 _ _ ?_)
    (refine Evo2.cal ok 1 ?_ 12 ?_ ?_ ?_ ?_; rotate_left 2; (focus (intro w'; go_simp <;> with_reducible rfl)); (focus (intro w' g'; with_reducible exact Q1.out w' (Chg.trans (Chg.refl (fun _ => False) _) g'))); simp only [Act.put, L0, L1, L2])
    first | (refine Evo2.vl ok 2 KZ.out (Chg.refl (fun _ => False) _) _ _ ?_) | (refine Evo2.va ok 2 _ _ ?_)
    (refine Evo2.cal ok 3 ?_ 13 ?_ ?_ ?_ ?_; rotate_left 2; (focus (intro w'; go_simp <;> with_reducible rfl)); (focus (intro w' g'; with_reducible exact Q2.out w' (Chg.trans (Chg.refl (fun _ => False) _) g'))); simp only [Act.put, L0, L1, L2])
    refine Evo2.va ok 4 _ _ ?_
    refine Evo2.va ok 5 _ _ ?_
    refine Evo2.done (by decide +kernel) (fun wz gz => ?_)
    have AZ := Chg.trans (Chg.refl (fun _ => False) _) (Chg.grow gz)
    go_wp2_with fail
    go_ret
    exact ⟨by simp, GZ.out.trans (g0 AZ)⟩
  · obtain ⟨i0, hi, ha0, ha1, ha2⟩ := info_parts infoTgo
    have HI := Lib.hid (And.intro hi (And.intro ha0 (And.intro ha1 ha2)))
    clear hi ha0 ha1 ha2 hs RA
    have gsz := MB.out.g.size
    have NG : ¬ (Value.slice ta' m.length tc').ownBlock = some gb := own_blk_types MB.out.tg MB.out.bx (by decide)
    have KC := Lib.hid (fun w' (h : Chg (fun k => (Value.slice ta' m.length tc').ownBlock = some k) wz w') => (⟨h.cell (Blk.at (cs := [.slice ta l.length tc, .slice ta' m.length tc']) (k := 1) MB.out.bx rfl) NG, trivial⟩ : w'.cell? ⟨gb, 1, none⟩ = some (.slice ta' m.length tc') ∧ True))
    have TX2 := Lib.hid (fun w' (h : Chg (fun k => (Value.slice ta' m.length tc').ownBlock = some k) wz w') => TX.out w' (g0 ((Chg.grow (G := fun _ => False) MB.out.g).join h (fun i hi q => by have := (MB.out.tg.lt i q).1; omega))))
    have hxz : (tx ++ (⟨#[45, 49]⟩ : ByteArray)).size ≤ 140737488351232 := by rw [ByteArray.size_append]; have : (⟨#[45, 49]⟩ : ByteArray).size = 2 := rfl; omega
    go_wp2_with fail
    refine Evo2.start' (ℓ := some 8) (S := Chg (fun k => (Value.slice ta' m.length tc').ownBlock = some k)) (E := Grow.G) (by kernel_rfl) ⟨Chg.pre _, by decide +kernel, (by intro c a d v w h; cases d <;> exact h), by decide +kernel⟩ (fun ok => ?_)
    refine Evo2.va ok 0 _ _ ?_
    first | (refine Evo2.vl ok 1 KC.out (Chg.refl (fun k => (Value.slice ta' m.length tc').ownBlock = some k) _) _ _ ?_) | (refine Evo2.va ok 1 _ _ ?_)
    refine Evo2.va ok 2 _ _ ?_
    (refine Evo2.cal ok 3 ?_ 15 ?_ ?_ ?_ ?_; rotate_left 2; (focus (intro w'; go_simp <;> with_reducible rfl)); (focus (intro w' g'; with_reducible exact TX2.out w' (Chg.trans (Chg.refl (fun k => (Value.slice ta' m.length tc').ownBlock = some k) _) g'))); simp only [Act.put, L0, L1, L2])
    refine Evo2.va ok 4 _ _ ?_
    refine Evo2.all [5] (by decide +kernel) rfl ?_
    intro wp1 gp1 iq hq
    simp only [List.mem_cons, List.mem_nil_iff, or_false] at hq
    have AP1 := Chg.trans (Chg.refl (fun k => (Value.slice ta' m.length tc').ownBlock = some k) _) (Chg.grow gp1)
    subst hq
    refine Evo2.runs (by rfl) (by rfl) (fun K' hK' => ?_)
    (try obtain ⟨q1⟩ := KC.out wp1 AP1)
    go_simp
    (try (simp only [Evo.after_value, Evo.after_skip]))
    refine hK'.out _ _ ?_
    clear hK'
    simp only [Act.put, L0, L1, L2]
    (try clear q1)
    refine ⟨.inr (Chg.alloc (Chg.refl _ _) _), ?_⟩
    generalize hG1 : World.alloc wp1 _ = wg1
    have GG1 : Grow.G wp1 wg1 := hG1 ▸ Grow.G.alloc (Grow.G.refl _) _
    have NC1 := (congrArg (fun W : World => W.heap[wp1.heap.size]?) hG1).symm.trans (MapKept.heap_alloc wp1 _).1
    have NL1 : wp1.heap.size < wg1.heap.size := by rw [← hG1]; simp
    clear hG1
    refine Evo2.all [6] (by decide +kernel) rfl ?_
    intro wp2 gp2 iq hq
    simp only [List.mem_cons, List.mem_nil_iff, or_false] at hq
    have AP2 := Chg.trans (Chg.trans AP1 (Chg.grow GG1)) (Chg.grow gp2)
    have NC1 := (gp2.block _ NL1).trans NC1
    have NL1 := Nat.lt_of_lt_of_le NL1 gp2.size
    subst hq
    refine Fr.own_fr (by rfl) (by rfl) (Operand.tmp 101) (Operand.tmp 105) 23 (by rfl) w.heap.size 35 i0 (.agg #[.string ⟨#[]⟩, .string ⟨#[]⟩]) 2 32 Tryd.underlying23 HI.out.1 HI.out.2.1 HI.out.2.2.1 HI.out.2.2.2 rfl (by decide) _ _ _ (by rfl) (own_later MB.out.tg ?_) _ 1 1 [.string tx, .string ⟨#[119, 101, 98, 45, 49]⟩] (by rfl) rfl (news_at NC1) ?_ ?_ ?_ ?_ ?_ 
    · exact (gp1.trans GG1).trans gp2 
    · intro u hu; simp at hu; rcases hu with rfl | rfl <;> rfl 
    · unfold maxLen; omega 
    · omega 
    · have := AP2.size; omega
    intro vw2 wc2 OW2 fr2
    obtain ⟨g9, c9, rfl, hg9⟩ := own_some OW2 (by omega); have CH2 : Chg (fun k => (Value.slice ta' m.length tc').ownBlock = some k) _ _ := Chg.ofFr fr2
    refine ⟨.inr CH2, ?_⟩
    have AC2 := Chg.trans AP2 CH2
    simp only [Act.put, L0, L1, L2]
    refine Evo2.va ok 7 _ _ ?_
    refine Evo2.all [8] (by decide +kernel) rfl ?_
    intro wp3 gp3 iq hq
    simp only [List.mem_cons, List.mem_nil_iff, or_false] at hq
    have AP3 := Chg.trans AC2 (Chg.grow gp3)
    subst hq
    refine Evo2.runs (by rfl) (by rfl) (fun K' hK' => ?_)
    (try obtain ⟨q1⟩ := KC.out wp3 AP3)
    have BQ := MB.out.bx.chg AP3 NG; have gl := BQ.lt; have e0 := Blk.at (cs := [.slice ta l.length tc, .slice ta' m.length tc']) (k := 1) BQ rfl; have f0 := BQ.free 1; clear BQ
    go_simp
    (try (simp only [Evo.after_value, Evo.after_skip]))
    refine hK'.out _ _ ?_
    clear hK'
    simp only [Act.put, L0, L1, L2]
    (try clear gl e0 f0)
    (try clear q1)
    refine ⟨.inl (by first | rfl | trivial), ?_⟩
    refine Evo2.done (by decide +kernel) (fun wz gz => ?_)
    have FT : FinT w wz gb ta l tc (some ⟨g9, 0, none⟩) (m ++ [⟨tx, ⟨#[119, 101, 98, 45, 49]⟩⟩]) c9 := MB.out.moreT (s := ⟨tx, ⟨#[119, 101, 98, 45, 49]⟩⟩) AP3 (own_later OW2 gp3) ⟨(show tx.size ≤ 140737488351232 by omega), (show (5 : Nat) ≤ 140737488351232 by decide)⟩ gz
    clear MB HI KC TX TX2 gz gp1 gp2 gp3 GG1 AP1 AP2 AP3 AC2 CH2 OW2 fr2 ok
    have Q1 := Lib.hid FT.q1
    have Q2 := Lib.hid FT.q2
    have KZ := Lib.hid FT.kc
    have GZ := Lib.hid FT.g
    simp only [List.length_append, List.length_singleton] at Q1 Q2 KZ
    clear FT
    generalize rightB l (m ++ [⟨tx, ⟨#[119, 101, 98, 45, 49]⟩⟩]) = fq at *
    go_wp2_with fail
    refine Evo2.start' (ℓ := none) (S := Chg (fun _ => False)) (E := Grow.G) (by kernel_rfl) ⟨Chg.pre _, by decide +kernel, (by intro c a d v w h; cases d <;> exact h), by decide +kernel⟩ (fun ok => ?_)
    first | (refine Evo2.vl ok 0 KZ.out (Chg.refl (fun _ => False) _) _ _ ?_) | (refine Evo2.va ok 0 _ _ ?_)
    (refine Evo2.cal ok 1 ?_ 12 ?_ ?_ ?_ ?_; rotate_left 2; (focus (intro w'; go_simp <;> with_reducible rfl)); (focus (intro w' g'; with_reducible exact Q1.out w' (Chg.trans (Chg.refl (fun _ => False) _) g'))); simp only [Act.put, L0, L1, L2])
    first | (refine Evo2.vl ok 2 KZ.out (Chg.refl (fun _ => False) _) _ _ ?_) | (refine Evo2.va ok 2 _ _ ?_)
    (refine Evo2.cal ok 3 ?_ 13 ?_ ?_ ?_ ?_; rotate_left 2; (focus (intro w'; go_simp <;> with_reducible rfl)); (focus (intro w' g'; with_reducible exact Q2.out w' (Chg.trans (Chg.refl (fun _ => False) _) g'))); simp only [Act.put, L0, L1, L2])
    refine Evo2.va ok 4 _ _ ?_
    refine Evo2.va ok 5 _ _ ?_
    refine Evo2.done (by decide +kernel) (fun wz gz => ?_)
    have AZ := Chg.trans (Chg.refl (fun _ => False) _) (Chg.grow gz)
    go_wp2_with fail
    go_ret
    exact ⟨by simp, GZ.out.trans (g0 AZ)⟩
  · obtain ⟨i0, hi, ha0, ha1, ha2⟩ := info_parts infoTgo
    have HI := Lib.hid (And.intro hi (And.intro ha0 (And.intro ha1 ha2)))
    clear hi ha0 ha1 ha2 hs RA
    have gsz := MB.out.g.size
    have NG : ¬ (Value.slice ta' m.length tc').ownBlock = some gb := own_blk_types MB.out.tg MB.out.bx (by decide)
    have KC := Lib.hid (fun w' (h : Chg (fun k => (Value.slice ta' m.length tc').ownBlock = some k) wz w') => (⟨h.cell (Blk.at (cs := [.slice ta l.length tc, .slice ta' m.length tc']) (k := 1) MB.out.bx rfl) NG, trivial⟩ : w'.cell? ⟨gb, 1, none⟩ = some (.slice ta' m.length tc') ∧ True))
    have TX2 := Lib.hid (fun w' (h : Chg (fun k => (Value.slice ta' m.length tc').ownBlock = some k) wz w') => TX.out w' (g0 ((Chg.grow (G := fun _ => False) MB.out.g).join h (fun i hi q => by have := (MB.out.tg.lt i q).1; omega))))
    have hxz : (tx ++ (⟨#[45, 49]⟩ : ByteArray)).size ≤ 140737488351232 := by rw [ByteArray.size_append]; have : (⟨#[45, 49]⟩ : ByteArray).size = 2 := rfl; omega
    go_wp2_with fail
    refine Evo2.start' (ℓ := some 9) (S := Chg (fun k => (Value.slice ta' m.length tc').ownBlock = some k)) (E := Grow.G) (by kernel_rfl) ⟨Chg.pre _, by decide +kernel, (by intro c a d v w h; cases d <;> exact h), by decide +kernel⟩ (fun ok => ?_)
    refine Evo2.va ok 0 _ _ ?_
    first | (refine Evo2.vl ok 1 KC.out (Chg.refl (fun k => (Value.slice ta' m.length tc').ownBlock = some k) _) _ _ ?_) | (refine Evo2.va ok 1 _ _ ?_)
    refine Evo2.va ok 2 _ _ ?_
    (refine Evo2.cal ok 3 ?_ 15 ?_ ?_ ?_ ?_; rotate_left 2; (focus (intro w'; go_simp <;> with_reducible rfl)); (focus (intro w' g'; with_reducible exact TX2.out w' (Chg.trans (Chg.refl (fun k => (Value.slice ta' m.length tc').ownBlock = some k) _) g'))); simp only [Act.put, L0, L1, L2])
    refine Evo2.va ok 4 _ _ ?_
    refine Evo2.va ok 5 _ _ ?_
    refine Evo2.all [6] (by decide +kernel) rfl ?_
    intro wp1 gp1 iq hq
    simp only [List.mem_cons, List.mem_nil_iff, or_false] at hq
    have AP1 := Chg.trans (Chg.refl (fun k => (Value.slice ta' m.length tc').ownBlock = some k) _) (Chg.grow gp1)
    subst hq
    refine Evo2.runs (by rfl) (by rfl) (fun K' hK' => ?_)
    (try obtain ⟨q1⟩ := KC.out wp1 AP1)
    go_simp
    (try (simp only [Evo.after_value, Evo.after_skip]))
    refine hK'.out _ _ ?_
    clear hK'
    simp only [Act.put, L0, L1, L2]
    (try clear q1)
    refine ⟨.inr (Chg.alloc (Chg.refl _ _) _), ?_⟩
    generalize hG1 : World.alloc wp1 _ = wg1
    have GG1 : Grow.G wp1 wg1 := hG1 ▸ Grow.G.alloc (Grow.G.refl _) _
    have NC1 := (congrArg (fun W : World => W.heap[wp1.heap.size]?) hG1).symm.trans (MapKept.heap_alloc wp1 _).1
    have NL1 : wp1.heap.size < wg1.heap.size := by rw [← hG1]; simp
    clear hG1
    refine Evo2.all [7] (by decide +kernel) rfl ?_
    intro wp2 gp2 iq hq
    simp only [List.mem_cons, List.mem_nil_iff, or_false] at hq
    have AP2 := Chg.trans (Chg.trans AP1 (Chg.grow GG1)) (Chg.grow gp2)
    have NC1 := (gp2.block _ NL1).trans NC1
    have NL1 := Nat.lt_of_lt_of_le NL1 gp2.size
    subst hq
    refine Fr.own_fr (by rfl) (by rfl) (Operand.tmp 111) (Operand.tmp 116) 23 (by rfl) w.heap.size 35 i0 (.agg #[.string ⟨#[]⟩, .string ⟨#[]⟩]) 2 32 Tryd.underlying23 HI.out.1 HI.out.2.1 HI.out.2.2.1 HI.out.2.2.2 rfl (by decide) _ _ _ (by rfl) (own_later MB.out.tg ?_) _ 1 1 [.string ⟨#[116, 57]⟩, .string (tx ++ ⟨#[45, 49]⟩)] (by rfl) rfl (news_at NC1) ?_ ?_ ?_ ?_ ?_ 
    · exact (gp1.trans GG1).trans gp2 
    · intro u hu; simp at hu; rcases hu with rfl | rfl <;> rfl 
    · unfold maxLen; omega 
    · omega 
    · have := AP2.size; omega
    intro vw2 wc2 OW2 fr2
    obtain ⟨g9, c9, rfl, hg9⟩ := own_some OW2 (by omega); have CH2 : Chg (fun k => (Value.slice ta' m.length tc').ownBlock = some k) _ _ := Chg.ofFr fr2
    refine ⟨.inr CH2, ?_⟩
    have AC2 := Chg.trans AP2 CH2
    simp only [Act.put, L0, L1, L2]
    refine Evo2.va ok 8 _ _ ?_
    refine Evo2.all [9] (by decide +kernel) rfl ?_
    intro wp3 gp3 iq hq
    simp only [List.mem_cons, List.mem_nil_iff, or_false] at hq
    have AP3 := Chg.trans AC2 (Chg.grow gp3)
    subst hq
    refine Evo2.runs (by rfl) (by rfl) (fun K' hK' => ?_)
    (try obtain ⟨q1⟩ := KC.out wp3 AP3)
    have BQ := MB.out.bx.chg AP3 NG; have gl := BQ.lt; have e0 := Blk.at (cs := [.slice ta l.length tc, .slice ta' m.length tc']) (k := 1) BQ rfl; have f0 := BQ.free 1; clear BQ
    go_simp
    (try (simp only [Evo.after_value, Evo.after_skip]))
    refine hK'.out _ _ ?_
    clear hK'
    simp only [Act.put, L0, L1, L2]
    (try clear gl e0 f0)
    (try clear q1)
    refine ⟨.inl (by first | rfl | trivial), ?_⟩
    refine Evo2.done (by decide +kernel) (fun wz gz => ?_)
    have FT : FinT w wz gb ta l tc (some ⟨g9, 0, none⟩) (m ++ [⟨⟨#[116, 57]⟩, tx ++ ⟨#[45, 49]⟩⟩]) c9 := MB.out.moreT (s := ⟨⟨#[116, 57]⟩, tx ++ ⟨#[45, 49]⟩⟩) AP3 (own_later OW2 gp3) ⟨(show (2 : Nat) ≤ 140737488351232 by decide), hxz⟩ gz
    clear MB HI KC TX TX2 gz gp1 gp2 gp3 GG1 AP1 AP2 AP3 AC2 CH2 OW2 fr2 ok
    have Q1 := Lib.hid FT.q1
    have Q2 := Lib.hid FT.q2
    have KZ := Lib.hid FT.kc
    have GZ := Lib.hid FT.g
    simp only [List.length_append, List.length_singleton] at Q1 Q2 KZ
    clear FT
    generalize rightB l (m ++ [⟨⟨#[116, 57]⟩, tx ++ ⟨#[45, 49]⟩⟩]) = fq at *
    go_wp2_with fail
    refine Evo2.start' (ℓ := none) (S := Chg (fun _ => False)) (E := Grow.G) (by kernel_rfl) ⟨Chg.pre _, by decide +kernel, (by intro c a d v w h; cases d <;> exact h), by decide +kernel⟩ (fun ok => ?_)
    first | (refine Evo2.vl ok 0 KZ.out (Chg.refl (fun _ => False) _) _ _ ?_) | (refine Evo2.va ok 0 _ _ ?_)
    (refine Evo2.cal ok 1 ?_ 12 ?_ ?_ ?_ ?_; rotate_left 2; (focus (intro w'; go_simp <;> with_reducible rfl)); (focus (intro w' g'; with_reducible exact Q1.out w' (Chg.trans (Chg.refl (fun _ => False) _) g'))); simp only [Act.put, L0, L1, L2])
    first | (refine Evo2.vl ok 2 KZ.out (Chg.refl (fun _ => False) _) _ _ ?_) | (refine Evo2.va ok 2 _ _ ?_)
    (refine Evo2.cal ok 3 ?_ 13 ?_ ?_ ?_ ?_; rotate_left 2; (focus (intro w'; go_simp <;> with_reducible rfl)); (focus (intro w' g'; with_reducible exact Q2.out w' (Chg.trans (Chg.refl (fun _ => False) _) g'))); simp only [Act.put, L0, L1, L2])
    refine Evo2.va ok 4 _ _ ?_
    refine Evo2.va ok 5 _ _ ?_
    refine Evo2.done (by decide +kernel) (fun wz gz => ?_)
    have AZ := Chg.trans (Chg.refl (fun _ => False) _) (Chg.grow gz)
    go_wp2_with fail
    go_ret
    exact ⟨by simp, GZ.out.trans (g0 AZ)⟩
  · obtain ⟨j, hj⟩ : ∃ j : Nat, withinI n (l.length : Int) = (j : Int) := ⟨(withinI n (l.length : Int)).toNat, by have := withinI_range n (l.length : Int) (by omega); omega⟩
    have hjl : j < l.length := by have := withinI_range n (l.length : Int) (by omega); omega
    have WN := Lib.hid (fun w => (within5w_any n (l.length : Int) w (by omega) (by omega) hn.1 hn.2).mono (fun e w' (h : _ ∧ _) => (⟨by rw [h.1, hj], h.2 ▸ Grow.G.refl _⟩ : e = .returned (.int .i64 (j : Int)) ∧ Grow.G w w')))
    have hcap : l.length ≤ tc := by
      rcases MB.out.sh.2 with ⟨_, h1⟩ | ⟨g, cap, cur, h1, hb, hh, hnc, _⟩
      · omega
      · cases h1; exact hnc
    have KC := Lib.hid (fun w' (h : Chg (fun _ => False) wz w') => (⟨(MB.out.fin.kc w' h).1, trivial⟩ : w'.cell? ⟨gb, 0, none⟩ = some (.slice ta l.length tc) ∧ True))
    have j1 : (0 : Int) ≤ (j : Int) := by omega
    have j2 : (j : Int) ≤ (tc : Int) := by omega
    have j3 : j ≤ tc := by omega
    clear hs RA hj TX
    go_wp2_with fail
    refine Evo2.start' (ℓ := some 9) (S := Chg (fun _ => False)) (E := Grow.G) (by kernel_rfl) ⟨Chg.pre _, by decide +kernel, (by intro c a d v w h; cases d <;> exact h), by decide +kernel⟩ (fun ok => ?_)
    refine Evo2.va ok 0 _ _ ?_
    first | (refine Evo2.vl ok 1 KC.out (Chg.refl (fun _ => False) _) _ _ ?_) | (refine Evo2.va ok 1 _ _ ?_)
    refine Evo2.va ok 2 _ _ ?_
    refine Evo2.va ok 3 _ _ ?_
    first | (refine Evo2.vl ok 4 KC.out (Chg.refl (fun _ => False) _) _ _ ?_) | (refine Evo2.va ok 4 _ _ ?_)
    refine Evo2.va ok 5 _ _ ?_
    (refine Evo2.cal ok 6 ?_ 14 ?_ ?_ ?_ ?_; rotate_left 2; (focus (intro w'; go_simp <;> with_reducible rfl)); (focus (intro w' g'; with_reducible exact WN.out w')); simp only [Act.put, L0, L1, L2])
    refine Evo2.va ok 7 _ _ ?_
    refine Evo2.va ok 8 _ _ ?_
    refine Evo2.all [9] (by decide +kernel) rfl ?_
    intro wp1 gp1 iq hq
    simp only [List.mem_cons, List.mem_nil_iff, or_false] at hq
    have AP1 := Chg.trans (Chg.refl (fun _ => False) _) (Chg.grow gp1)
    subst hq
    refine Evo2.runs (by rfl) (by rfl) (fun K' hK' => ?_)
    (try obtain ⟨q1⟩ := KC.out wp1 AP1)
    have BQ := MB.out.bx.grow (g0 AP1); have gl := BQ.lt; have e0 := Blk.at (cs := [.slice ta l.length tc, .slice ta' m.length tc']) (k := 0) BQ rfl; have f0 := BQ.free 0; clear BQ
    go_simp
    (try (simp only [Evo.after_value, Evo.after_skip]))
    refine hK'.out _ _ ?_
    clear hK'
    simp only [Act.put, L0, L1, L2]
    (try clear gl e0 f0)
    (try clear q1)
    refine ⟨.inl (by first | rfl | trivial), ?_⟩
    refine Evo2.done (by decide +kernel) (fun wz gz => ?_)
    have FT : FinT w wz gb ta (l.take j) tc ta' m tc' := MB.out.less (by omega) (g0 AP1) gz
    clear MB KC WN gz gp1 AP1 ok
    have Q1 := Lib.hid FT.q1
    have Q2 := Lib.hid FT.q2
    have KZ := Lib.hid FT.kc
    have GZ := Lib.hid FT.g
    have eL : (l.take j).length = j := by rw [List.length_take]; omega
    rw [eL] at Q1 Q2 KZ
    clear FT
    generalize rightB (l.take j) m = fq at *
    go_wp2_with fail
    refine Evo2.start' (ℓ := none) (S := Chg (fun _ => False)) (E := Grow.G) (by kernel_rfl) ⟨Chg.pre _, by decide +kernel, (by intro c a d v w h; cases d <;> exact h), by decide +kernel⟩ (fun ok => ?_)
    first | (refine Evo2.vl ok 0 KZ.out (Chg.refl (fun _ => False) _) _ _ ?_) | (refine Evo2.va ok 0 _ _ ?_)
    (refine Evo2.cal ok 1 ?_ 12 ?_ ?_ ?_ ?_; rotate_left 2; (focus (intro w'; go_simp <;> with_reducible rfl)); (focus (intro w' g'; with_reducible exact Q1.out w' (Chg.trans (Chg.refl (fun _ => False) _) g'))); simp only [Act.put, L0, L1, L2])
    first | (refine Evo2.vl ok 2 KZ.out (Chg.refl (fun _ => False) _) _ _ ?_) | (refine Evo2.va ok 2 _ _ ?_)
    (refine Evo2.cal ok 3 ?_ 13 ?_ ?_ ?_ ?_; rotate_left 2; (focus (intro w'; go_simp <;> with_reducible rfl)); (focus (intro w' g'; with_reducible exact Q2.out w' (Chg.trans (Chg.refl (fun _ => False) _) g'))); simp only [Act.put, L0, L1, L2])
    refine Evo2.va ok 4 _ _ ?_
    refine Evo2.va ok 5 _ _ ?_
    refine Evo2.done (by decide +kernel) (fun wz gz => ?_)
    have AZ := Chg.trans (Chg.refl (fun _ => False) _) (Chg.grow gz)
    go_wp2_with fail
    go_ret
    exact ⟨by simp, GZ.out.trans (g0 AZ)⟩
end Go.Proofs.YtbagjeefoifpeaaDoor
