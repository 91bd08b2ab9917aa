/- My own texts Make4, Make5, Make6, Make7, MakeAll, laid in one file. -/
import Derived.Test.YtnkekdmikopdgaaGreatZ6
import Derived.Test.YtnkekdmikopdgaaGreatZ2
import Derived.Test.YtnkekdmikopdgaaGreatZ8
import Derived.Test.YtnkekdmikopdgaaGreatZ4

/- The event that damperlaw3.Make makes: kinds 12, 13. -/
namespace Go.Proofs.YtnkekdmikopdgaaGreat
set_option maxRecDepth 100000
set_option linter.unusedVariables false
set_option linter.unusedSimpArgs false
set_option linter.unnecessarySimpa false
open Go.RowKit

set_option maxHeartbeats 8000000 in
theorem make_12 (kd n dr nm : Int) (c : Cfg) (v : Value) (zs : List Int) (w : World) (hkd : wf64 kd) (hn : wf64 n) (hdr : wf64 dr) (hnm : wf64 nm) (hc : c.wf) (hz : IntSlice w v zs) (hq : withinI kd 13 = 11) :
  Calls Tryz.prog 13 #[.int .i64 kd, .int .i64 n, .int .i64 dr, .int .i64 nm, c.v, v] w fun x w' => MkR w (mkOf 12 n dr nm c zs) x w' := by
 have WK := Lib.hid (fun w => within3_big kd 13 w (by decide) (by decide) hkd)
 rw [hq] at WK
 have CE : (Tryz.prog.info? 28).map (·.size) = some 15 := by kernel_rfl
 have CI : (Tryz.prog.info? 3).map (·.size) = some 1 := by kernel_rfl
 have CS : (Tryz.prog.info? 9).map (·.size) = some 1 := by kernel_rfl
 have E : Hid (mkOf 12 n dr nm c zs = { ev0 with k := 12, nm := revS (name3 nm) (1 + withinI n 4) }) := Lib.hid (by unfold mkOf; rw [if_neg (by decide : ¬ ((12 : Int) = 1)), if_neg (by decide : ¬ ((12 : Int) = 2)), if_neg (by decide : ¬ ((12 : Int) = 3)), if_neg (by decide : ¬ ((12 : Int) = 4)), if_neg (by decide : ¬ ((12 : Int) = 5)), if_neg (by decide : ¬ (6 ≤ (12 : Int) ∧ (12 : Int) ≤ 8)), if_neg (by decide : ¬ ((12 : Int) = 10)), if_neg (by decide : ¬ ((12 : Int) = 11)), if_pos (by decide : 12 ≤ (12 : Int) ∧ (12 : Int) ≤ 13)])
 have WM := Lib.hid (fun w => within3_w nm 3 w (by decide) (by decide) hnm)
 have WN := Lib.hid (fun w => within3_w n 4 w (by decide) (by decide) hn)
 have rM := withinI_range nm 3 (by decide)
 have rN := withinI_range n 4 (by decide)
 have RV := Lib.hid (fun w => rrev_any (name3 nm) (1 + withinI n 4) w (by have := (name3_ok nm).2; unfold maxLen; omega))
 have NM : name3 nm = names3.getD (withinI nm 3).toNat ⟨#[]⟩ := rfl
 generalize name3 nm = n3 at *
 generalize withinI nm 3 = q3 at *
 generalize withinI n 4 = q at *
 generalize revS n3 (1 + q) = rv at *
 have WQ : IntKind.i64.wrap (1 + q) = 1 + q := by rw [IntKind.wrap_i64]; omega
 obtain ⟨j, rfl⟩ := Int.eq_ofNat_of_zero_le rM.1
 have hj : j < 3 := by omega
 have T3 := Lib.hid (fun (w' : World) (b : Nat) (hb : Blk w' b #[.string ⟨#[119, 101, 98]⟩, .string ⟨#[97, 112, 105]⟩, .string ⟨#[97, 45, 98]⟩] 9) => (show w'.cell? ⟨b, j, none⟩ = some (.string n3) from by rw [hb.cell, NM]; rcases (show j = 0 ∨ j = 1 ∨ j = 2 by omega) with rfl | rfl | rfl <;> rfl))
 clear NM
 obtain ⟨cn, im, co, mn, mx, gr⟩ := c
 unfold Cfg.v
 generalize mkOf _ _ _ _ _ _ = z at *
 clear hkd hn hdr hnm hc hz hq
 go_enter Tryz.func13, Tryz.ntmps13
 go_wp2_with fail
 refine (WK.out _).mono ?_
 rintro e wx ⟨rfl, rfl⟩
 go_wp2_with (refine Mem.storeAll 2 (t := 28) rfl rfl rfl rfl CE (Mem.alloc' (Mem.alloc' (Mem.alloc' (Mem.nil w) _ _ (g := w.heap.size) rfl) _ _ (g := w.heap.size + 1) (by simp)) _ _ (g := w.heap.size + 1 + 1) (by simp)) rfl rfl rfl rfl ?_; intro wn0 HM0 C0)
 simp only [K0, K1, L1, L2, K2, K3, K4, K5, K6, K7, Nat.reduceAdd, Nat.reduceSub] at HM0
 have HM := Lib.hid HM0
 clear HM0
 refine Stay.go ?_
 go_wp2_with (first | (refine Mem.load1 2 (t := 3) rfl rfl rfl Tryz.underlying3 rfl HM.out rfl rfl ?_) | (refine Mem.load1 2 (t := 3) rfl rfl rfl Tryz.underlying3 rfl (Mem.alloc' HM.out _ _ rfl) rfl rfl ?_))
 have HW := Lib.hid (Mem.alloc' HM.out [.string ⟨#[102, 114, 111, 110, 116]⟩, .string ⟨#[98, 97, 99, 107]⟩, .string ⟨#[114, 45, 49]⟩] 9 (g := wn0.heap.size) rfl)
 have sG := HM.out.lt (i := 2) rfl
 obtain ⟨W, hW⟩ : ∃ W, W = wn0.alloc (.cells #[.string ⟨#[102, 114, 111, 110, 116]⟩, .string ⟨#[98, 97, 99, 107]⟩, .string ⟨#[114, 45, 49]⟩] 9) := ⟨_, rfl⟩
 rw [← hW] at HW
 rw [← hW]
 have sW : W.heap.size = wn0.heap.size + 1 := by rw [hW]; simp
 have HW1 := HW.out
 simp only [K0, K1, L1, L2, K2, K3, K4, K5, K6, K7, Nat.reduceAdd, Nat.reduceSub] at HW1
 replace HW := Lib.hid HW1
 have B0 := Lib.hid (HW1.blk (i := 2) rfl)
 clear HW1 HM
 refine Evo2.start' (ℓ := none) (S := Chg (fun k => k = w.heap.size + 1 + 1)) (E := Grow.G) (by kernel_rfl) ⟨Chg.pre _, by decide +kernel, (by intro c a d v w h; cases d <;> exact h), by decide +kernel⟩ (fun ok => ?_)
 refine Evo2.va ok 1 _ _ ?_
 (refine Evo2.cal ok 2 ?_ 16 ?_ ?_ ?_ ?_; rotate_left 2; (focus (intro w'; go_simp <;> with_reducible rfl)); (focus (intro w' g'; with_reducible exact WM.out w')); simp only [Act.put, L0, L1, L2])
 refine Evo2.va ok 5 _ _ ?_
 (refine Evo2.cal ok 6 ?_ 16 ?_ ?_ ?_ ?_; rotate_left 2; (focus (intro w'; go_simp <;> with_reducible rfl)); (focus (intro w' g'; with_reducible exact WN.out w')); simp only [Act.put, L0, L1, L2])
 refine Evo2.va ok 7 _ _ ?_
 refine Evo2.all [0] (by decide +kernel) rfl ?_
 intro wp1 gp1 iq hq
 simp only [List.mem_cons, List.mem_nil_iff, or_false] at hq
 have AP1 := Chg.trans (Chg.refl (fun k => k = w.heap.size + 1 + 1) _) (Chg.grow gp1)
 subst hq
 refine Evo2.runs (by rfl) (by rfl) (fun K' hK' => ?_)
 go_simp
 (try (simp only [Evo.after_value, Evo.after_skip]))
 refine hK'.out _ _ ?_
 clear hK'
 simp only [Act.put, L0, L1, L2]
 refine ⟨.inr (Chg.alloc (Chg.refl _ _) _), ?_⟩
 generalize hG1 : World.alloc wp1 _ = wg1
 have GG1 : Grow.G wp1 wg1 := hG1 ▸ Grow.G.alloc (Grow.G.refl _) _
 have NC1 := (congrArg (fun W : World => W.heap[wp1.heap.size]?) hG1).symm.trans (MapKept.heap_alloc wp1 _).1
 have NL1 : wp1.heap.size < wg1.heap.size := by rw [← hG1]; simp
 clear hG1
 refine Evo2.va ok 3 _ _ ?_
 first | (refine Evo2.val ok 4 ?_ ?_ ?_; rotate_left; (intro w' hg; have nq := T3.out _ _ (hg.blk NC1 (by intro q; first | exact q | (have h1 := AP1.size; have h2 := NL1; (try dsimp only at q); omega))); go_simp <;> with_reducible rfl); simp only [Act.put, L0, L1, L2]) | (refine Evo2.va ok 4 _ _ ?_) | (refine Evo2.val ok 4 ?_ ?_ ?_; rotate_left; (intro w' hg; have nq := fun j => Blk.cell (w := w') (hg.blk NC1 (by intro q; first | exact q | (have h1 := AP1.size; have h2 := NL1; (try dsimp only at q); omega))) j; go_simp <;> with_reducible rfl); simp only [Act.put, L0, L1, L2])
 (refine Evo2.cal ok 8 ?_ 28 ?_ ?_ ?_ ?_; rotate_left 2; (focus (intro w'; go_simp <;> with_reducible rfl)); (focus (intro w' g'; with_reducible exact RV.out w')); simp only [Act.put, L0, L1, L2])
 refine Evo2.va ok 9 _ _ ?_
 refine Evo2.all [10] (by decide +kernel) rfl ?_
 intro wp2 gp2 iq hq
 simp only [List.mem_cons, List.mem_nil_iff, or_false] at hq
 have AP2 := Chg.trans (Chg.trans AP1 (Chg.grow GG1)) (Chg.grow gp2)
 have NC1 := (gp2.block _ NL1).trans NC1
 have NL1 := Nat.lt_of_lt_of_le NL1 gp2.size
 subst hq
 refine Evo2.runs (by rfl) (by rfl) (fun K' hK' => ?_)
 have BQ1 := Lib.hid (show Blk wp2 (w.heap.size + 1 + 1) _ 28 from by first | exact ((B0.out.grow gp1).grow GG1).grow gp2); (try simp only [List.setIfInBounds_toArray, List.set_cons_zero, List.set_cons_succ] at BQ1); have gl1 := BQ1.out.lt; have e1 := evd BQ1.out (i := 1) rfl; have f1 := BQ1.out.free 1
 go_simp
 (try (simp only [Evo.after_value, Evo.after_skip]))
 refine hK'.out _ _ ?_
 clear hK'
 simp only [Act.put, L0, L1, L2]
 (try clear gl1 e1 f1)
 refine ⟨.inr (by (repeat refine Chg.setCell ?_ (fun _ => by first | rfl | (simp; done) | (simp; omega)) _ _); exact Chg.refl _ _), ?_⟩
 refine Evo2.done (by decide +kernel) (fun wz gz => ?_)
 have AZ := Chg.trans (Chg.trans AP2 (by (repeat refine Chg.setCell ?_ (fun _ => by first | rfl | (simp; done) | (simp; omega)) _ _); exact Chg.refl _ _)) (Chg.grow gz)
 have BZ := (BQ1.out.set 1 (.string rv)).grow gz
 simp only [List.setIfInBounds_toArray, List.set_cons_zero, List.set_cons_succ] at BZ
 have HZ9 := HW.out.put (i := 2) (G := fun k => k = w.heap.size + 1 + 1) rfl BZ AZ (fun k hk q => by have q : k = w.heap.size + 1 + 1 := q; omega) (fun b hb hne q => by have q : b.1 = w.heap.size + 1 + 1 := q; simp at hb; rcases hb with rfl | rfl | rfl | rfl <;> simp at hne q <;> omega)
 simp only [K0, K1, L1, L2, K2, K3, K4, K5, K6, K7, Nat.reduceAdd, Nat.reduceSub] at HZ9
 have HM := Lib.hid HZ9
 clear HZ9 BZ AZ HW
 go_wp2_with (first | (refine Mem.loadAll 2 (t := 28) rfl rfl rfl Tryz.underlying28 CE HM.out rfl rfl ?_) | (refine Mem.storeAll 1 (t := 28) rfl rfl rfl rfl CE HM.out rfl rfl rfl rfl ?_; intro wn9 HM9 C9))
 simp only [K0, K1, L1, L2, K2, K3, K4, K5, K6, K7, Nat.reduceAdd, Nat.reduceSub] at HM9
 replace HM := Lib.hid HM9
 clear HM9
 refine Stay.go ?_
 have BF := HM.out.blk (i := 1) rfl
 go_wp2_with fail
 refine bodyPost_ret (v := .agg #[.int .i64 12, .string rv, .string ⟨#[]⟩, .int .i64 0, .int .i64 0, .string ⟨#[]⟩, .int .i64 0, .int .i64 0, .int .i64 0, .int .i64 0, .int .i64 0, .string ⟨#[]⟩, .string ⟨#[]⟩, .slice none 0 0, .int .i64 0]) (by simp [results, Tryz.results13, go_sem, BF.cell]) rfl ⟨none, 0, ?_, by rw [E.out]; exact .inl rfl, (fun b off h => by cases h), HM.out.below⟩
 rw [E.out]; rfl

set_option maxHeartbeats 8000000 in
theorem make_13 (kd n dr nm : Int) (c : Cfg) (v : Value) (zs : List Int) (w : World) (hkd : wf64 kd) (hn : wf64 n) (hdr : wf64 dr) (hnm : wf64 nm) (hc : c.wf) (hz : IntSlice w v zs) (hq : withinI kd 13 = 12) :
  Calls Tryz.prog 13 #[.int .i64 kd, .int .i64 n, .int .i64 dr, .int .i64 nm, c.v, v] w fun x w' => MkR w (mkOf 13 n dr nm c zs) x w' := by
 have WK := Lib.hid (fun w => within3_big kd 13 w (by decide) (by decide) hkd)
 rw [hq] at WK
 have CE : (Tryz.prog.info? 28).map (·.size) = some 15 := by kernel_rfl
 have CI : (Tryz.prog.info? 3).map (·.size) = some 1 := by kernel_rfl
 have CS : (Tryz.prog.info? 9).map (·.size) = some 1 := by kernel_rfl
 have E : Hid (mkOf 13 n dr nm c zs = { ev0 with k := 13, nm := revS (name3 nm) (1 + withinI n 4) }) := Lib.hid (by unfold mkOf; rw [if_neg (by decide : ¬ ((13 : Int) = 1)), if_neg (by decide : ¬ ((13 : Int) = 2)), if_neg (by decide : ¬ ((13 : Int) = 3)), if_neg (by decide : ¬ ((13 : Int) = 4)), if_neg (by decide : ¬ ((13 : Int) = 5)), if_neg (by decide : ¬ (6 ≤ (13 : Int) ∧ (13 : Int) ≤ 8)), if_neg (by decide : ¬ ((13 : Int) = 10)), if_neg (by decide : ¬ ((13 : Int) = 11)), if_pos (by decide : 12 ≤ (13 : Int) ∧ (13 : Int) ≤ 13)])
 have WM := Lib.hid (fun w => within3_w nm 3 w (by decide) (by decide) hnm)
 have WN := Lib.hid (fun w => within3_w n 4 w (by decide) (by decide) hn)
 have rM := withinI_range nm 3 (by decide)
 have rN := withinI_range n 4 (by decide)
 have RV := Lib.hid (fun w => rrev_any (name3 nm) (1 + withinI n 4) w (by have := (name3_ok nm).2; unfold maxLen; omega))
 have NM : name3 nm = names3.getD (withinI nm 3).toNat ⟨#[]⟩ := rfl
 generalize name3 nm = n3 at *
 generalize withinI nm 3 = q3 at *
 generalize withinI n 4 = q at *
 generalize revS n3 (1 + q) = rv at *
 have WQ : IntKind.i64.wrap (1 + q) = 1 + q := by rw [IntKind.wrap_i64]; omega
 obtain ⟨j, rfl⟩ := Int.eq_ofNat_of_zero_le rM.1
 have hj : j < 3 := by omega
 have T3 := Lib.hid (fun (w' : World) (b : Nat) (hb : Blk w' b #[.string ⟨#[119, 101, 98]⟩, .string ⟨#[97, 112, 105]⟩, .string ⟨#[97, 45, 98]⟩] 9) => (show w'.cell? ⟨b, j, none⟩ = some (.string n3) from by rw [hb.cell, NM]; rcases (show j = 0 ∨ j = 1 ∨ j = 2 by omega) with rfl | rfl | rfl <;> rfl))
 clear NM
 obtain ⟨cn, im, co, mn, mx, gr⟩ := c
 unfold Cfg.v
 generalize mkOf _ _ _ _ _ _ = z at *
 clear hkd hn hdr hnm hc hz hq
 go_enter Tryz.func13, Tryz.ntmps13
 go_wp2_with fail
 refine (WK.out _).mono ?_
 rintro e wx ⟨rfl, rfl⟩
 go_wp2_with (refine Mem.storeAll 2 (t := 28) rfl rfl rfl rfl CE (Mem.alloc' (Mem.alloc' (Mem.alloc' (Mem.nil w) _ _ (g := w.heap.size) rfl) _ _ (g := w.heap.size + 1) (by simp)) _ _ (g := w.heap.size + 1 + 1) (by simp)) rfl rfl rfl rfl ?_; intro wn0 HM0 C0)
 simp only [K0, K1, L1, L2, K2, K3, K4, K5, K6, K7, Nat.reduceAdd, Nat.reduceSub] at HM0
 have HM := Lib.hid HM0
 clear HM0
 refine Stay.go ?_
 go_wp2_with (first | (refine Mem.load1 2 (t := 3) rfl rfl rfl Tryz.underlying3 rfl HM.out rfl rfl ?_) | (refine Mem.load1 2 (t := 3) rfl rfl rfl Tryz.underlying3 rfl (Mem.alloc' HM.out _ _ rfl) rfl rfl ?_))
 have HW := Lib.hid (Mem.alloc' HM.out [.string ⟨#[102, 114, 111, 110, 116]⟩, .string ⟨#[98, 97, 99, 107]⟩, .string ⟨#[114, 45, 49]⟩] 9 (g := wn0.heap.size) rfl)
 have sG := HM.out.lt (i := 2) rfl
 obtain ⟨W, hW⟩ : ∃ W, W = wn0.alloc (.cells #[.string ⟨#[102, 114, 111, 110, 116]⟩, .string ⟨#[98, 97, 99, 107]⟩, .string ⟨#[114, 45, 49]⟩] 9) := ⟨_, rfl⟩
 rw [← hW] at HW
 rw [← hW]
 have sW : W.heap.size = wn0.heap.size + 1 := by rw [hW]; simp
 have HW1 := HW.out
 simp only [K0, K1, L1, L2, K2, K3, K4, K5, K6, K7, Nat.reduceAdd, Nat.reduceSub] at HW1
 replace HW := Lib.hid HW1
 have B0 := Lib.hid (HW1.blk (i := 2) rfl)
 clear HW1 HM
 refine Evo2.start' (ℓ := none) (S := Chg (fun k => k = w.heap.size + 1 + 1)) (E := Grow.G) (by kernel_rfl) ⟨Chg.pre _, by decide +kernel, (by intro c a d v w h; cases d <;> exact h), by decide +kernel⟩ (fun ok => ?_)
 refine Evo2.va ok 1 _ _ ?_
 (refine Evo2.cal ok 2 ?_ 16 ?_ ?_ ?_ ?_; rotate_left 2; (focus (intro w'; go_simp <;> with_reducible rfl)); (focus (intro w' g'; with_reducible exact WM.out w')); simp only [Act.put, L0, L1, L2])
 refine Evo2.va ok 5 _ _ ?_
 (refine Evo2.cal ok 6 ?_ 16 ?_ ?_ ?_ ?_; rotate_left 2; (focus (intro w'; go_simp <;> with_reducible rfl)); (focus (intro w' g'; with_reducible exact WN.out w')); simp only [Act.put, L0, L1, L2])
 refine Evo2.va ok 7 _ _ ?_
 refine Evo2.all [0] (by decide +kernel) rfl ?_
 intro wp1 gp1 iq hq
 simp only [List.mem_cons, List.mem_nil_iff, or_false] at hq
 have AP1 := Chg.trans (Chg.refl (fun k => k = w.heap.size + 1 + 1) _) (Chg.grow gp1)
 subst hq
 refine Evo2.runs (by rfl) (by rfl) (fun K' hK' => ?_)
 go_simp
 (try (simp only [Evo.after_value, Evo.after_skip]))
 refine hK'.out _ _ ?_
 clear hK'
 simp only [Act.put, L0, L1, L2]
 refine ⟨.inr (Chg.alloc (Chg.refl _ _) _), ?_⟩
 generalize hG1 : World.alloc wp1 _ = wg1
 have GG1 : Grow.G wp1 wg1 := hG1 ▸ Grow.G.alloc (Grow.G.refl _) _
 have NC1 := (congrArg (fun W : World => W.heap[wp1.heap.size]?) hG1).symm.trans (MapKept.heap_alloc wp1 _).1
 have NL1 : wp1.heap.size < wg1.heap.size := by rw [← hG1]; simp
 clear hG1
 refine Evo2.va ok 3 _ _ ?_
 first | (refine Evo2.val ok 4 ?_ ?_ ?_; rotate_left; (intro w' hg; have nq := T3.out _ _ (hg.blk NC1 (by intro q; first | exact q | (have h1 := AP1.size; have h2 := NL1; (try dsimp only at q); omega))); go_simp <;> with_reducible rfl); simp only [Act.put, L0, L1, L2]) | (refine Evo2.va ok 4 _ _ ?_) | (refine Evo2.val ok 4 ?_ ?_ ?_; rotate_left; (intro w' hg; have nq := fun j => Blk.cell (w := w') (hg.blk NC1 (by intro q; first | exact q | (have h1 := AP1.size; have h2 := NL1; (try dsimp only at q); omega))) j; go_simp <;> with_reducible rfl); simp only [Act.put, L0, L1, L2])
 (refine Evo2.cal ok 8 ?_ 28 ?_ ?_ ?_ ?_; rotate_left 2; (focus (intro w'; go_simp <;> with_reducible rfl)); (focus (intro w' g'; with_reducible exact RV.out w')); simp only [Act.put, L0, L1, L2])
 refine Evo2.va ok 9 _ _ ?_
 refine Evo2.all [10] (by decide +kernel) rfl ?_
 intro wp2 gp2 iq hq
 simp only [List.mem_cons, List.mem_nil_iff, or_false] at hq
 have AP2 := Chg.trans (Chg.trans AP1 (Chg.grow GG1)) (Chg.grow gp2)
 have NC1 := (gp2.block _ NL1).trans NC1
 have NL1 := Nat.lt_of_lt_of_le NL1 gp2.size
 subst hq
 refine Evo2.runs (by rfl) (by rfl) (fun K' hK' => ?_)
 have BQ1 := Lib.hid (show Blk wp2 (w.heap.size + 1 + 1) _ 28 from by first | exact ((B0.out.grow gp1).grow GG1).grow gp2); (try simp only [List.setIfInBounds_toArray, List.set_cons_zero, List.set_cons_succ] at BQ1); have gl1 := BQ1.out.lt; have e1 := evd BQ1.out (i := 1) rfl; have f1 := BQ1.out.free 1
 go_simp
 (try (simp only [Evo.after_value, Evo.after_skip]))
 refine hK'.out _ _ ?_
 clear hK'
 simp only [Act.put, L0, L1, L2]
 (try clear gl1 e1 f1)
 refine ⟨.inr (by (repeat refine Chg.setCell ?_ (fun _ => by first | rfl | (simp; done) | (simp; omega)) _ _); exact Chg.refl _ _), ?_⟩
 refine Evo2.done (by decide +kernel) (fun wz gz => ?_)
 have AZ := Chg.trans (Chg.trans AP2 (by (repeat refine Chg.setCell ?_ (fun _ => by first | rfl | (simp; done) | (simp; omega)) _ _); exact Chg.refl _ _)) (Chg.grow gz)
 have BZ := (BQ1.out.set 1 (.string rv)).grow gz
 simp only [List.setIfInBounds_toArray, List.set_cons_zero, List.set_cons_succ] at BZ
 have HZ9 := HW.out.put (i := 2) (G := fun k => k = w.heap.size + 1 + 1) rfl BZ AZ (fun k hk q => by have q : k = w.heap.size + 1 + 1 := q; omega) (fun b hb hne q => by have q : b.1 = w.heap.size + 1 + 1 := q; simp at hb; rcases hb with rfl | rfl | rfl | rfl <;> simp at hne q <;> omega)
 simp only [K0, K1, L1, L2, K2, K3, K4, K5, K6, K7, Nat.reduceAdd, Nat.reduceSub] at HZ9
 have HM := Lib.hid HZ9
 clear HZ9 BZ AZ HW
 go_wp2_with (first | (refine Mem.loadAll 2 (t := 28) rfl rfl rfl Tryz.underlying28 CE HM.out rfl rfl ?_) | (refine Mem.storeAll 1 (t := 28) rfl rfl rfl rfl CE HM.out rfl rfl rfl rfl ?_; intro wn9 HM9 C9))
 simp only [K0, K1, L1, L2, K2, K3, K4, K5, K6, K7, Nat.reduceAdd, Nat.reduceSub] at HM9
 replace HM := Lib.hid HM9
 clear HM9
 refine Stay.go ?_
 have BF := HM.out.blk (i := 1) rfl
 go_wp2_with fail
 refine bodyPost_ret (v := .agg #[.int .i64 13, .string rv, .string ⟨#[]⟩, .int .i64 0, .int .i64 0, .string ⟨#[]⟩, .int .i64 0, .int .i64 0, .int .i64 0, .int .i64 0, .int .i64 0, .string ⟨#[]⟩, .string ⟨#[]⟩, .slice none 0 0, .int .i64 0]) (by simp [results, Tryz.results13, go_sem, BF.cell]) rfl ⟨none, 0, ?_, by rw [E.out]; exact .inl rfl, (fun b off h => by cases h), HM.out.below⟩
 rw [E.out]; rfl

set_option maxHeartbeats 8000000 in
theorem make_1 (kd n dr nm : Int) (c : Cfg) (v : Value) (zs : List Int) (w : World) (hkd : wf64 kd) (hn : wf64 n) (hdr : wf64 dr) (hnm : wf64 nm) (hc : c.wf) (hz : IntSlice w v zs) (hq : withinI kd 13 = 0) :
  Calls Tryz.prog 13 #[.int .i64 kd, .int .i64 n, .int .i64 dr, .int .i64 nm, c.v, v] w fun x w' => MkR w (mkOf 1 n dr nm c zs) x w' := by
 have WK := Lib.hid (fun w => within3_big kd 13 w (by decide) (by decide) hkd)
 rw [hq] at WK
 have CE : (Tryz.prog.info? 28).map (·.size) = some 15 := by kernel_rfl
 have CI : (Tryz.prog.info? 3).map (·.size) = some 1 := by kernel_rfl
 have CS : (Tryz.prog.info? 9).map (·.size) = some 1 := by kernel_rfl
 have E : Hid (mkOf 1 n dr nm c zs = { ev0 with k := 1, n := withinI n 30, c := gCfg c nm }) := Lib.hid (by unfold mkOf; rw [if_pos (by decide : (1 : Int) = 1)])
 have WN := Lib.hid (fun w => within3_w n 30 w (by decide) (by decide) hn)
 have rN := withinI_range n 30 (by decide)
 have CF := Lib.hid (fun w => gcfg_any c nm w hc hnm)
 generalize withinI n 30 = q at *
 generalize gCfg c nm = gc at *
 obtain ⟨gn, gi, gk, gm, gx, gr'⟩ := gc
 obtain ⟨cn, im, co, mn, mx, gr⟩ := c
 unfold Cfg.v at *
 dsimp only at *
 generalize mkOf _ _ _ _ _ _ = z at *
 clear hkd hn hdr hnm hc hz hq
 go_enter Tryz.func13, Tryz.ntmps13
 go_wp2_with fail
 refine (WK.out _).mono ?_
 rintro e wx ⟨rfl, rfl⟩
 go_wp2_with (refine Mem.storeAll 2 (t := 28) rfl rfl rfl rfl CE (Mem.alloc' (Mem.alloc' (Mem.alloc' (Mem.nil w) _ _ (g := w.heap.size) rfl) _ _ (g := w.heap.size + 1) (by simp)) _ _ (g := w.heap.size + 1 + 1) (by simp)) rfl rfl rfl rfl ?_; intro wn0 HM0 C0)
 simp only [K0, K1, L1, L2, K2, K3, K4, K5, K6, K7, Nat.reduceAdd, Nat.reduceSub] at HM0
 have HM := Lib.hid HM0
 clear HM0
 refine Stay.go ?_
 go_wp2_with (first | (refine Mem.load1 2 (t := 3) rfl rfl rfl Tryz.underlying3 rfl HM.out rfl rfl ?_) | (refine Mem.load1 2 (t := 3) rfl rfl rfl Tryz.underlying3 rfl (Mem.alloc' HM.out _ _ rfl) rfl rfl ?_))
 have HW := Lib.hid (Mem.alloc' HM.out [.string ⟨#[102, 114, 111, 110, 116]⟩, .string ⟨#[98, 97, 99, 107]⟩, .string ⟨#[114, 45, 49]⟩] 9 (g := wn0.heap.size) rfl)
 have sG := HM.out.lt (i := 2) rfl
 obtain ⟨W, hW⟩ : ∃ W, W = wn0.alloc (.cells #[.string ⟨#[102, 114, 111, 110, 116]⟩, .string ⟨#[98, 97, 99, 107]⟩, .string ⟨#[114, 45, 49]⟩] 9) := ⟨_, rfl⟩
 rw [← hW] at HW
 rw [← hW]
 have sW : W.heap.size = wn0.heap.size + 1 := by rw [hW]; simp
 have HW1 := HW.out
 simp only [K0, K1, L1, L2, K2, K3, K4, K5, K6, K7, Nat.reduceAdd, Nat.reduceSub] at HW1
 replace HW := Lib.hid HW1
 have B0 := Lib.hid (HW1.blk (i := 2) rfl)
 clear HW1 HM
 have KC := Lib.hid (fun (w' : World) (h : Chg (fun k => k = w.heap.size + 1 + 1) W w') => (⟨(Blk.at (HW.out.blk (i := 0) rfl) (k := 0) rfl |> fun x => h.cell x (by omega)), (Blk.at (HW.out.blk (i := 0) rfl) (k := 1) rfl |> fun x => h.cell x (by omega)), (Blk.at (HW.out.blk (i := 0) rfl) (k := 2) rfl |> fun x => h.cell x (by omega)), (Blk.at (HW.out.blk (i := 0) rfl) (k := 3) rfl |> fun x => h.cell x (by omega)), (Blk.at (HW.out.blk (i := 0) rfl) (k := 4) rfl |> fun x => h.cell x (by omega)), (Blk.at (HW.out.blk (i := 0) rfl) (k := 5) rfl |> fun x => h.cell x (by omega))⟩ : w'.cell? ⟨w.heap.size, 0, none⟩ = some (.string cn) ∧ w'.cell? ⟨w.heap.size, 1, none⟩ = some (.int .i64 im) ∧ w'.cell? ⟨w.heap.size, 2, none⟩ = some (.int .i64 co) ∧ w'.cell? ⟨w.heap.size, 3, none⟩ = some (.int .i64 mn) ∧ w'.cell? ⟨w.heap.size, 4, none⟩ = some (.int .i64 mx) ∧ w'.cell? ⟨w.heap.size, 5, none⟩ = some (.int .i64 gr)))
 refine Evo2.start' (ℓ := none) (S := Chg (fun k => k = w.heap.size + 1 + 1)) (E := Grow.G) (by kernel_rfl) ⟨Chg.pre _, by decide +kernel, (by intro c a d v w h; cases d <;> exact h), by decide +kernel⟩ (fun ok => ?_)
 refine Evo2.va ok 0 _ _ ?_
 (refine Evo2.cal ok 1 ?_ 16 ?_ ?_ ?_ ?_; rotate_left 2; (focus (intro w'; go_simp <;> with_reducible rfl)); (focus (intro w' g'; with_reducible exact WN.out w')); simp only [Act.put, L0, L1, L2])
 first | (refine Evo2.vl ok 2 KC.out (Chg.refl (fun k => k = w.heap.size + 1 + 1) _) _ _ ?_) | (refine Evo2.va ok 2 _ _ ?_)
 refine Evo2.va ok 3 _ _ ?_
 (refine Evo2.cal ok 4 ?_ 26 ?_ ?_ ?_ ?_; rotate_left 2; (focus (intro w'; go_simp <;> with_reducible rfl)); (focus (intro w' g'; with_reducible exact CF.out w')); simp only [Act.put, L0, L1, L2])
 refine Evo2.va ok 5 _ _ ?_
 refine Evo2.all [6] (by decide +kernel) rfl ?_
 intro wp1 gp1 iq hq
 simp only [List.mem_cons, List.mem_nil_iff, or_false] at hq
 have AP1 := Chg.trans (Chg.refl (fun k => k = w.heap.size + 1 + 1) _) (Chg.grow gp1)
 subst hq
 refine Evo2.runs (by rfl) (by rfl) (fun K' hK' => ?_)
 (try obtain ⟨q1, q2, q3, q4, q5, q6⟩ := KC.out wp1 AP1)
 have BQ1 := Lib.hid (show Blk wp1 (w.heap.size + 1 + 1) _ 28 from by first | exact B0.out.grow gp1); (try simp only [List.setIfInBounds_toArray, List.set_cons_zero, List.set_cons_succ] at BQ1); have gl1 := BQ1.out.lt; have e3 := evd BQ1.out (i := 3) rfl; have f3 := BQ1.out.free 3
 go_simp
 (try (simp only [Evo.after_value, Evo.after_skip]))
 refine hK'.out _ _ ?_
 clear hK'
 simp only [Act.put, L0, L1, L2]
 (try clear gl1 e3 f3)
 (try clear q1 q2 q3 q4 q5 q6)
 refine ⟨.inr (by (repeat refine Chg.setCell ?_ (fun _ => by first | rfl | (simp; done) | (simp; omega)) _ _); exact Chg.refl _ _), ?_⟩
 refine Evo2.va ok 7 _ _ ?_
 refine Evo2.all [8] (by decide +kernel) rfl ?_
 intro wp2 gp2 iq hq
 simp only [List.mem_cons, List.mem_nil_iff, or_false] at hq
 have AP2 := Chg.trans (Chg.trans AP1 (by (repeat refine Chg.setCell ?_ (fun _ => by first | rfl | (simp; done) | (simp; omega)) _ _); exact Chg.refl _ _)) (Chg.grow gp2)
 subst hq
 refine Evo2.runs (by rfl) (by rfl) (fun K' hK' => ?_)
 (try obtain ⟨q1, q2, q3, q4, q5, q6⟩ := KC.out wp2 AP2)
 have BQ2 := Lib.hid (show Blk wp2 (w.heap.size + 1 + 1) _ 28 from by first | exact (BQ1.out.set 3 (.int .i64 q)).grow gp2); (try simp only [List.setIfInBounds_toArray, List.set_cons_zero, List.set_cons_succ] at BQ2); have gl2 := BQ2.out.lt; have e5 := evd BQ2.out (i := 5) rfl; have f5 := BQ2.out.free 5; have e6 := evd BQ2.out (i := 6) rfl; have f6 := BQ2.out.free 6; have e7 := evd BQ2.out (i := 7) rfl; have f7 := BQ2.out.free 7; have e8 := evd BQ2.out (i := 8) rfl; have f8 := BQ2.out.free 8; have e9 := evd BQ2.out (i := 9) rfl; have f9 := BQ2.out.free 9; have e10 := evd BQ2.out (i := 10) rfl; have f10 := BQ2.out.free 10
 go_simp
 (try (simp only [Evo.after_value, Evo.after_skip]))
 refine hK'.out _ _ ?_
 clear hK'
 simp only [Act.put, L0, L1, L2]
 (try clear gl2 e5 f5 e6 f6 e7 f7 e8 f8 e9 f9 e10 f10)
 (try clear q1 q2 q3 q4 q5 q6)
 refine ⟨.inr (by (repeat refine Chg.setCell ?_ (fun _ => by first | rfl | (simp; done) | (simp; omega)) _ _); exact Chg.refl _ _), ?_⟩
 refine Evo2.done (by decide +kernel) (fun wz gz => ?_)
 have AZ := Chg.trans (Chg.trans AP2 (by (repeat refine Chg.setCell ?_ (fun _ => by first | rfl | (simp; done) | (simp; omega)) _ _); exact Chg.refl _ _)) (Chg.grow gz)
 have BZ := (((((((BQ2.out.set 5 (.string gn)).set 6 (.int .i64 gi)).set 7 (.int .i64 gk)).set 8 (.int .i64 gm)).set 9 (.int .i64 gx)).set 10 (.int .i64 gr'))).grow gz
 simp only [List.setIfInBounds_toArray, List.set_cons_zero, List.set_cons_succ] at BZ
 have HZ9 := HW.out.put (i := 2) (G := fun k => k = w.heap.size + 1 + 1) rfl BZ AZ (fun k hk q => by have q : k = w.heap.size + 1 + 1 := q; omega) (fun b hb hne q => by have q : b.1 = w.heap.size + 1 + 1 := q; simp at hb; rcases hb with rfl | rfl | rfl | rfl <;> simp at hne q <;> omega)
 simp only [K0, K1, L1, L2, K2, K3, K4, K5, K6, K7, Nat.reduceAdd, Nat.reduceSub] at HZ9
 have HM := Lib.hid HZ9
 clear HZ9 BZ AZ HW
 go_wp2_with (first | (refine Mem.loadAll 2 (t := 28) rfl rfl rfl Tryz.underlying28 CE HM.out rfl rfl ?_) | (refine Mem.storeAll 1 (t := 28) rfl rfl rfl rfl CE HM.out rfl rfl rfl rfl ?_; intro wn9 HM9 C9))
 simp only [K0, K1, L1, L2, K2, K3, K4, K5, K6, K7, Nat.reduceAdd, Nat.reduceSub] at HM9
 replace HM := Lib.hid HM9
 clear HM9
 refine Stay.go ?_
 have BF := HM.out.blk (i := 1) rfl
 go_wp2_with fail
 refine bodyPost_ret (v := .agg #[.int .i64 1, .string ⟨#[]⟩, .string ⟨#[]⟩, .int .i64 q, .int .i64 0, .string gn, .int .i64 gi, .int .i64 gk, .int .i64 gm, .int .i64 gx, .int .i64 gr', .string ⟨#[]⟩, .string ⟨#[]⟩, .slice none 0 0, .int .i64 0]) (by simp [results, Tryz.results13, go_sem, BF.cell]) rfl ⟨none, 0, ?_, by rw [E.out]; exact .inl rfl, (fun b off h => by cases h), HM.out.below⟩
 rw [E.out]; rfl

set_option maxHeartbeats 8000000 in
theorem make_3 (kd n dr nm : Int) (c : Cfg) (v : Value) (zs : List Int) (w : World) (hkd : wf64 kd) (hn : wf64 n) (hdr : wf64 dr) (hnm : wf64 nm) (hc : c.wf) (hz : IntSlice w v zs) (hq : withinI kd 13 = 2) :
  Calls Tryz.prog 13 #[.int .i64 kd, .int .i64 n, .int .i64 dr, .int .i64 nm, c.v, v] w fun x w' => MkR w (mkOf 3 n dr nm c zs) x w' := by
 have WK := Lib.hid (fun w => within3_big kd 13 w (by decide) (by decide) hkd)
 rw [hq] at WK
 have CE : (Tryz.prog.info? 28).map (·.size) = some 15 := by kernel_rfl
 have CI : (Tryz.prog.info? 3).map (·.size) = some 1 := by kernel_rfl
 have CS : (Tryz.prog.info? 9).map (·.size) = some 1 := by kernel_rfl
 have E : Hid (mkOf 3 n dr nm c zs = { ev0 with k := 3, n := 1 + withinI n 2, nm := names6.getD (withinI nm 6).toNat ε, dr := withinI dr 30 }) := Lib.hid (by unfold mkOf; rw [if_neg (by decide : ¬ ((3 : Int) = 1)), if_neg (by decide : ¬ ((3 : Int) = 2)), if_pos (by decide : (3 : Int) = 3)])
 have WN := Lib.hid (fun w => within3_w n 2 w (by decide) (by decide) hn)
 have WM := Lib.hid (fun w => within3_w nm 6 w (by decide) (by decide) hnm)
 have WD := Lib.hid (fun w => within3_w dr 30 w (by decide) (by decide) hdr)
 have rN := withinI_range n 2 (by decide)
 have rM := withinI_range nm 6 (by decide)
 generalize withinI n 2 = q at *
 generalize withinI nm 6 = q6 at *
 generalize withinI dr 30 = qd at *
 obtain ⟨j, rfl⟩ := Int.eq_ofNat_of_zero_le rM.1
 have hj : j < 6 := by omega
 have WQ : IntKind.i64.wrap (1 + q) = 1 + q := by rw [IntKind.wrap_i64]; omega
 have N6 : ∃ s, names6.getD (Int.toNat (j : Int)) ε = s ∧ ([.string ⟨#[102, 114, 111, 110, 116]⟩, .string ⟨#[98, 97, 99, 107]⟩, .string ⟨#[114, 45, 49]⟩, .string ⟨#[119, 101, 98]⟩, .string ⟨#[97, 112, 105]⟩, .string ⟨#[97, 45, 98]⟩] : List Value)[j]? = some (.string s) := ⟨_, rfl, by rcases (show j = 0 ∨ j = 1 ∨ j = 2 ∨ j = 3 ∨ j = 4 ∨ j = 5 by omega) with rfl | rfl | rfl | rfl | rfl | rfl <;> rfl⟩
 obtain ⟨s6, hs6, hc6⟩ := N6
 rw [hs6] at E
 have HC6 := Lib.hid hc6
 clear hs6 hc6
 obtain ⟨i0, hi, hz0, hz1, hz2⟩ := info_parts infoS
 have HI := Lib.hid hi; have HZ0 := Lib.hid hz0; have HZ1 := Lib.hid hz1; have HZ2 := Lib.hid hz2
 clear hi hz0 hz1 hz2
 obtain ⟨cn, im, co, mn, mx, gr⟩ := c
 unfold Cfg.v
 generalize mkOf _ _ _ _ _ _ = z at *
 clear hkd hn hdr hnm hc hz hq
 go_enter Tryz.func13, Tryz.ntmps13
 go_wp2_with fail
 refine (WK.out _).mono ?_
 rintro e wx ⟨rfl, rfl⟩
 go_wp2_with (refine Mem.storeAll 2 (t := 28) rfl rfl rfl rfl CE (Mem.alloc' (Mem.alloc' (Mem.alloc' (Mem.nil w) _ _ (g := w.heap.size) rfl) _ _ (g := w.heap.size + 1) (by simp)) _ _ (g := w.heap.size + 1 + 1) (by simp)) rfl rfl rfl rfl ?_; intro wn0 HM0 C0)
 simp only [K0, K1, L1, L2, K2, K3, K4, K5, K6, K7, Nat.reduceAdd, Nat.reduceSub] at HM0
 have HM := Lib.hid HM0
 clear HM0
 refine Stay.go ?_
 go_wp2_with (first | (refine Mem.load1 2 (t := 3) rfl rfl rfl Tryz.underlying3 rfl HM.out rfl rfl ?_) | (refine Mem.load1 2 (t := 3) rfl rfl rfl Tryz.underlying3 rfl (Mem.alloc' HM.out _ _ rfl) rfl rfl ?_))
 have HW := Lib.hid (Mem.alloc' HM.out [.string ⟨#[102, 114, 111, 110, 116]⟩, .string ⟨#[98, 97, 99, 107]⟩, .string ⟨#[114, 45, 49]⟩] 9 (g := wn0.heap.size) rfl)
 have sG := HM.out.lt (i := 2) rfl
 obtain ⟨W, hW⟩ : ∃ W, W = wn0.alloc (.cells #[.string ⟨#[102, 114, 111, 110, 116]⟩, .string ⟨#[98, 97, 99, 107]⟩, .string ⟨#[114, 45, 49]⟩] 9) := ⟨_, rfl⟩
 rw [← hW] at HW
 rw [← hW]
 have sW : W.heap.size = wn0.heap.size + 1 := by rw [hW]; simp
 have HW1 := HW.out
 simp only [K0, K1, L1, L2, K2, K3, K4, K5, K6, K7, Nat.reduceAdd, Nat.reduceSub] at HW1
 replace HW := Lib.hid HW1
 have B0 := Lib.hid (HW1.blk (i := 2) rfl)
 have HO := Lib.hid (show W.ownsRow w.heap.size 9 1 (.slice (some ⟨wn0.heap.size, 0, none⟩) 3 3) 3 _ from by rw [hW]; exact own_fresh wn0 [.string ⟨#[102, 114, 111, 110, 116]⟩, .string ⟨#[98, 97, 99, 107]⟩, .string ⟨#[114, 45, 49]⟩] 9 rfl rfl (by omega) (by decide))
 clear HW1 HM hW
 refine Evo2.start' (ℓ := none) (S := Chg (fun k => k = w.heap.size + 1 + 1)) (E := Grow.G) (by kernel_rfl) ⟨Chg.pre _, by decide +kernel, (by intro c a d v w h; cases d <;> exact h), by decide +kernel⟩ (fun ok => ?_)
 refine Evo2.va ok 0 _ _ ?_
 (refine Evo2.cal ok 1 ?_ 16 ?_ ?_ ?_ ?_; rotate_left 2; (focus (intro w'; go_simp <;> with_reducible rfl)); (focus (intro w' g'; with_reducible exact WN.out w')); simp only [Act.put, L0, L1, L2])
 refine Evo2.va ok 2 _ _ ?_
 refine Evo2.va ok 3 _ _ ?_
 refine Evo2.va ok 6 _ _ ?_
 refine Evo2.va ok 10 _ _ ?_
 refine Evo2.va ok 12 _ _ ?_
 refine Evo2.all [4] (by decide +kernel) rfl ?_
 intro wp1 gp1 iq hq
 simp only [List.mem_cons, List.mem_nil_iff, or_false] at hq
 have AP1 := Chg.trans (Chg.refl (fun k => k = w.heap.size + 1 + 1) _) (Chg.grow gp1)
 subst hq
 refine Evo2.runs (by rfl) (by rfl) (fun K' hK' => ?_)
 go_simp
 (try (simp only [Evo.after_value, Evo.after_skip]))
 refine hK'.out _ _ ?_
 clear hK'
 simp only [Act.put, L0, L1, L2]
 refine ⟨.inr (Chg.alloc (Chg.refl _ _) _), ?_⟩
 generalize hG1 : World.alloc wp1 _ = wg1
 have GG1 : Grow.G wp1 wg1 := hG1 ▸ Grow.G.alloc (Grow.G.refl _) _
 have NC1 := (congrArg (fun W : World => W.heap[wp1.heap.size]?) hG1).symm.trans (MapKept.heap_alloc wp1 _).1
 have NL1 : wp1.heap.size < wg1.heap.size := by rw [← hG1]; simp
 clear hG1
 refine Evo2.all [5] (by decide +kernel) rfl ?_
 intro wp2 gp2 iq hq
 simp only [List.mem_cons, List.mem_nil_iff, or_false] at hq
 have AP2 := Chg.trans (Chg.trans AP1 (Chg.grow GG1)) (Chg.grow gp2)
 have NC1 := (gp2.block _ NL1).trans NC1
 have NL1 := Nat.lt_of_lt_of_le NL1 gp2.size
 subst hq
 refine Fr.own_over (by rfl) (by rfl) (Operand.tmp 46) (Operand.tmp 47) 60 (by rfl) w.heap.size 9 i0 (.string ⟨#[]⟩) 1 16 Tryz.underlying60 HI.out HZ0.out HZ1.out HZ2.out rfl (by decide) wn0.heap.size 3 3 _ (by rfl) (own_later HO.out ?_) _ 3 3 [.string ⟨#[119, 101, 98]⟩, .string ⟨#[97, 112, 105]⟩, .string ⟨#[97, 45, 98]⟩] (by rfl) rfl (news_blk NC1) ?_ (by decide) ?_ ?_ ?_ ?_ 
 ·
  exact (gp1.trans GG1).trans gp2 
 ·
  intro u hu; simp at hu; rcases hu with rfl | rfl | rfl <;> rfl 
 ·
  decide 
 ·
  decide 
 ·
  have := gp1.size; have := GG1.size; have := gp2.size; omega
 intro cw2 wc2 OW2 gw2
 have CH2 := Chg.grow (G := fun k => k = w.heap.size + 1 + 1) gw2
 have BA := Lib.hid ((((B0.out.grow gp1).grow GG1).grow gp2).grow gw2); have sb : w.heap.size + 1 + 1 < wp2.heap.size := (by have := gp1.size; have := GG1.size; have := gp2.size; omega); have QK2 := (fun (w' : World) (h : Chg (fun k => k = w.heap.size + 1 + 1) wc2 w') => (show w'.cell? ⟨wp2.heap.size, j, none⟩ = some (.string s6) from by have := (h.own OW2 (fun k hk q => by cases hk; have q : wp2.heap.size = w.heap.size + 1 + 1 := q; omega)).cells (g := wp2.heap.size) rfl j (.string s6) HC6.out; rwa [Args.addr_add0, Nat.zero_add] at this))
 refine ⟨.inr CH2, ?_⟩
 have AC2 := Chg.trans AP2 CH2
 simp only [Act.put, L0, L1, L2]
 (refine Evo2.cal ok 7 ?_ 16 ?_ ?_ ?_ ?_; rotate_left 2; (focus (intro w'; go_simp <;> with_reducible rfl)); (focus (intro w' g'; with_reducible exact WM.out w')); simp only [Act.put, L0, L1, L2])
 refine Evo2.va ok 8 _ _ ?_
 first | (refine Evo2.val ok 9 ?_ ?_ ?_; rotate_left; (intro w' hg; have nq := QK2 w' hg; go_simp <;> with_reducible rfl); simp only [Act.put, L0, L1, L2]) | (refine Evo2.va ok 9 _ _ ?_)
 (refine Evo2.cal ok 11 ?_ 16 ?_ ?_ ?_ ?_; rotate_left 2; (focus (intro w'; go_simp <;> with_reducible rfl)); (focus (intro w' g'; with_reducible exact WD.out w')); simp only [Act.put, L0, L1, L2])
 refine Evo2.all [13] (by decide +kernel) rfl ?_
 intro wp3 gp3 iq hq
 simp only [List.mem_cons, List.mem_nil_iff, or_false] at hq
 have AP3 := Chg.trans AC2 (Chg.grow gp3)
 subst hq
 refine Evo2.runs (by rfl) (by rfl) (fun K' hK' => ?_)
 have BQ1 := Lib.hid (show Blk wp3 (w.heap.size + 1 + 1) _ 28 from by first | exact BA.out.grow gp3); (try simp only [List.setIfInBounds_toArray, List.set_cons_zero, List.set_cons_succ] at BQ1); have gl1 := BQ1.out.lt; have e3 := evd BQ1.out (i := 3) rfl; have f3 := BQ1.out.free 3
 go_simp
 (try (simp only [Evo.after_value, Evo.after_skip]))
 refine hK'.out _ _ ?_
 clear hK'
 simp only [Act.put, L0, L1, L2]
 (try clear gl1 e3 f3)
 refine ⟨.inr (by (repeat refine Chg.setCell ?_ (fun _ => by first | rfl | (simp; done) | (simp; omega)) _ _); exact Chg.refl _ _), ?_⟩
 refine Evo2.va ok 14 _ _ ?_
 refine Evo2.all [15] (by decide +kernel) rfl ?_
 intro wp4 gp4 iq hq
 simp only [List.mem_cons, List.mem_nil_iff, or_false] at hq
 have AP4 := Chg.trans (Chg.trans AP3 (by (repeat refine Chg.setCell ?_ (fun _ => by first | rfl | (simp; done) | (simp; omega)) _ _); exact Chg.refl _ _)) (Chg.grow gp4)
 subst hq
 refine Evo2.runs (by rfl) (by rfl) (fun K' hK' => ?_)
 have BQ2 := Lib.hid (show Blk wp4 (w.heap.size + 1 + 1) _ 28 from by first | exact (BQ1.out.set 3 (.int .i64 (1 + q))).grow gp4); (try simp only [List.setIfInBounds_toArray, List.set_cons_zero, List.set_cons_succ] at BQ2); have gl2 := BQ2.out.lt; have e1 := evd BQ2.out (i := 1) rfl; have f1 := BQ2.out.free 1
 go_simp
 (try (simp only [Evo.after_value, Evo.after_skip]))
 refine hK'.out _ _ ?_
 clear hK'
 simp only [Act.put, L0, L1, L2]
 (try clear gl2 e1 f1)
 refine ⟨.inr (by (repeat refine Chg.setCell ?_ (fun _ => by first | rfl | (simp; done) | (simp; omega)) _ _); exact Chg.refl _ _), ?_⟩
 refine Evo2.va ok 16 _ _ ?_
 refine Evo2.all [17] (by decide +kernel) rfl ?_
 intro wp5 gp5 iq hq
 simp only [List.mem_cons, List.mem_nil_iff, or_false] at hq
 have AP5 := Chg.trans (Chg.trans AP4 (by (repeat refine Chg.setCell ?_ (fun _ => by first | rfl | (simp; done) | (simp; omega)) _ _); exact Chg.refl _ _)) (Chg.grow gp5)
 subst hq
 refine Evo2.runs (by rfl) (by rfl) (fun K' hK' => ?_)
 have BQ3 := Lib.hid (show Blk wp5 (w.heap.size + 1 + 1) _ 28 from by first | exact (BQ2.out.set 1 (.string s6)).grow gp5); (try simp only [List.setIfInBounds_toArray, List.set_cons_zero, List.set_cons_succ] at BQ3); have gl3 := BQ3.out.lt; have e4 := evd BQ3.out (i := 4) rfl; have f4 := BQ3.out.free 4
 go_simp
 (try (simp only [Evo.after_value, Evo.after_skip]))
 refine hK'.out _ _ ?_
 clear hK'
 simp only [Act.put, L0, L1, L2]
 (try clear gl3 e4 f4)
 refine ⟨.inr (by (repeat refine Chg.setCell ?_ (fun _ => by first | rfl | (simp; done) | (simp; omega)) _ _); exact Chg.refl _ _), ?_⟩
 refine Evo2.done (by decide +kernel) (fun wz gz => ?_)
 have AZ := Chg.trans (Chg.trans AP5 (by (repeat refine Chg.setCell ?_ (fun _ => by first | rfl | (simp; done) | (simp; omega)) _ _); exact Chg.refl _ _)) (Chg.grow gz)
 have BZ := (BQ3.out.set 4 (.int .i64 qd)).grow gz
 simp only [List.setIfInBounds_toArray, List.set_cons_zero, List.set_cons_succ] at BZ
 have HZ9 := HW.out.put (i := 2) (G := fun k => k = w.heap.size + 1 + 1) rfl BZ AZ (fun k hk q => by have q : k = w.heap.size + 1 + 1 := q; omega) (fun b hb hne q => by have q : b.1 = w.heap.size + 1 + 1 := q; simp at hb; rcases hb with rfl | rfl | rfl | rfl <;> simp at hne q <;> omega)
 simp only [K0, K1, L1, L2, K2, K3, K4, K5, K6, K7, Nat.reduceAdd, Nat.reduceSub] at HZ9
 have HM := Lib.hid HZ9
 clear HZ9 BZ AZ HW
 go_wp2_with (first | (refine Mem.loadAll 2 (t := 28) rfl rfl rfl Tryz.underlying28 CE HM.out rfl rfl ?_) | (refine Mem.storeAll 1 (t := 28) rfl rfl rfl rfl CE HM.out rfl rfl rfl rfl ?_; intro wn9 HM9 C9))
 simp only [K0, K1, L1, L2, K2, K3, K4, K5, K6, K7, Nat.reduceAdd, Nat.reduceSub] at HM9
 replace HM := Lib.hid HM9
 clear HM9
 refine Stay.go ?_
 have BF := HM.out.blk (i := 1) rfl
 go_wp2_with fail
 refine bodyPost_ret (v := .agg #[.int .i64 3, .string s6, .string ⟨#[]⟩, .int .i64 (1 + q), .int .i64 qd, .string ⟨#[]⟩, .int .i64 0, .int .i64 0, .int .i64 0, .int .i64 0, .int .i64 0, .string ⟨#[]⟩, .string ⟨#[]⟩, .slice none 0 0, .int .i64 0]) (by simp [results, Tryz.results13, go_sem, BF.cell]) rfl ⟨none, 0, ?_, by rw [E.out]; exact .inl rfl, (fun b off h => by cases h), HM.out.below⟩
 rw [E.out]; rfl

set_option maxHeartbeats 8000000 in
theorem make_4 (kd n dr nm : Int) (c : Cfg) (v : Value) (zs : List Int) (w : World) (hkd : wf64 kd) (hn : wf64 n) (hdr : wf64 dr) (hnm : wf64 nm) (hc : c.wf) (hz : IntSlice w v zs) (hq : withinI kd 13 = 3) :
  Calls Tryz.prog 13 #[.int .i64 kd, .int .i64 n, .int .i64 dr, .int .i64 nm, c.v, v] w fun x w' => MkR w (mkOf 4 n dr nm c zs) x w' := by
 have WK := Lib.hid (fun w => within3_big kd 13 w (by decide) (by decide) hkd)
 rw [hq] at WK
 have CE : (Tryz.prog.info? 28).map (·.size) = some 15 := by kernel_rfl
 have CI : (Tryz.prog.info? 3).map (·.size) = some 1 := by kernel_rfl
 have CS : (Tryz.prog.info? 9).map (·.size) = some 1 := by kernel_rfl
 have E : Hid (mkOf 4 n dr nm c zs = { ev0 with k := 4, n := 1 + withinI n 60, nm := rtName nm, tg := tags4.getD (withinI (nm.tdiv 3) 4).toNat ε, dr := withinI dr 2147483648 }) := Lib.hid (by unfold mkOf; rw [if_neg (by decide : ¬ ((4 : Int) = 1)), if_neg (by decide : ¬ ((4 : Int) = 2)), if_neg (by decide : ¬ ((4 : Int) = 3)), if_pos (by decide : (4 : Int) = 4)])
 have wq : wf64 (nm.tdiv 3) := tdiv_wf hnm 3 (by omega)
 have WN := Lib.hid (fun w => within3_w n 60 w (by decide) (by decide) hn)
 have WM := Lib.hid (fun w => within3_w nm 3 w (by decide) (by decide) hnm)
 have WT := Lib.hid (fun w => within3_w (nm.tdiv 3) 4 w (by decide) (by decide) wq)
 have WD := Lib.hid (fun w => within3_w dr 2147483648 w (by decide) (by decide) hdr)
 have rN := withinI_range n 60 (by decide)
 have rM := withinI_range nm 3 (by decide)
 have rT := withinI_range (nm.tdiv 3) 4 (by decide)
 have NM : rtName nm = frontN.getD (withinI nm 3).toNat ⟨#[]⟩ := rfl
 generalize rtName nm = s3 at *
 generalize withinI n 60 = q at *
 generalize withinI nm 3 = q3 at *
 generalize withinI (nm.tdiv 3) 4 = q4 at *
 generalize withinI dr 2147483648 = qd at *
 obtain ⟨j, rfl⟩ := Int.eq_ofNat_of_zero_le rM.1
 obtain ⟨i, rfl⟩ := Int.eq_ofNat_of_zero_le rT.1
 have hj : j < 3 := by omega
 have hi4 : i < 4 := by omega
 have WQ : IntKind.i64.wrap (1 + q) = 1 + q := by rw [IntKind.wrap_i64]; omega
 have WT3 : IntKind.i64.wrap (nm.tdiv 3) = nm.tdiv 3 := by obtain ⟨h1, h2⟩ := wq; rw [IntKind.wrap_i64]; omega
 have T3 := Lib.hid (show ([.string ⟨#[102, 114, 111, 110, 116]⟩, .string ⟨#[98, 97, 99, 107]⟩, .string ⟨#[114, 45, 49]⟩] : List Value)[j]? = some (.string s3) from by rw [NM]; rcases (show j = 0 ∨ j = 1 ∨ j = 2 by omega) with rfl | rfl | rfl <;> rfl)
 have NT : ∃ s, tags4.getD (Int.toNat (i : Int)) ε = s ∧ ([.string ⟨#[]⟩, .string ⟨#[]⟩, .string ⟨#[116, 48]⟩, .string ⟨#[116, 49]⟩] : List Value)[i]? = some (.string s) := ⟨_, rfl, by rcases (show i = 0 ∨ i = 1 ∨ i = 2 ∨ i = 3 by omega) with rfl | rfl | rfl | rfl <;> rfl⟩
 obtain ⟨s4, hs4, hc4⟩ := NT
 rw [hs4] at E
 have T4 := Lib.hid (fun (w' : World) (b : Nat) (hb : Blk w' b #[.string ⟨#[]⟩, .string ⟨#[]⟩, .string ⟨#[116, 48]⟩, .string ⟨#[116, 49]⟩] 9) => (hb.at hc4 : w'.cell? ⟨b, i, none⟩ = some (.string s4)))
 clear NM hs4 hc4 wq
 obtain ⟨cn, im, co, mn, mx, gr⟩ := c
 unfold Cfg.v
 generalize mkOf _ _ _ _ _ _ = z at *
 clear hkd hn hdr hnm hc hz hq
 go_enter Tryz.func13, Tryz.ntmps13
 go_wp2_with fail
 refine (WK.out _).mono ?_
 rintro e wx ⟨rfl, rfl⟩
 go_wp2_with (refine Mem.storeAll 2 (t := 28) rfl rfl rfl rfl CE (Mem.alloc' (Mem.alloc' (Mem.alloc' (Mem.nil w) _ _ (g := w.heap.size) rfl) _ _ (g := w.heap.size + 1) (by simp)) _ _ (g := w.heap.size + 1 + 1) (by simp)) rfl rfl rfl rfl ?_; intro wn0 HM0 C0)
 simp only [K0, K1, L1, L2, K2, K3, K4, K5, K6, K7, Nat.reduceAdd, Nat.reduceSub] at HM0
 have HM := Lib.hid HM0
 clear HM0
 refine Stay.go ?_
 go_wp2_with (first | (refine Mem.load1 2 (t := 3) rfl rfl rfl Tryz.underlying3 rfl HM.out rfl rfl ?_) | (refine Mem.load1 2 (t := 3) rfl rfl rfl Tryz.underlying3 rfl (Mem.alloc' HM.out _ _ rfl) rfl rfl ?_))
 have HW := Lib.hid (Mem.alloc' HM.out [.string ⟨#[102, 114, 111, 110, 116]⟩, .string ⟨#[98, 97, 99, 107]⟩, .string ⟨#[114, 45, 49]⟩] 9 (g := wn0.heap.size) rfl)
 have sG := HM.out.lt (i := 2) rfl
 obtain ⟨W, hW⟩ : ∃ W, W = wn0.alloc (.cells #[.string ⟨#[102, 114, 111, 110, 116]⟩, .string ⟨#[98, 97, 99, 107]⟩, .string ⟨#[114, 45, 49]⟩] 9) := ⟨_, rfl⟩
 rw [← hW] at HW
 rw [← hW]
 have sW : W.heap.size = wn0.heap.size + 1 := by rw [hW]; simp
 have HW1 := HW.out
 simp only [K0, K1, L1, L2, K2, K3, K4, K5, K6, K7, Nat.reduceAdd, Nat.reduceSub] at HW1
 replace HW := Lib.hid HW1
 have B0 := Lib.hid (HW1.blk (i := 2) rfl)
 clear HW1 HM
 have KC := Lib.hid (fun (w' : World) (h : Chg (fun k => k = w.heap.size + 1 + 1) W w') => (⟨h.cell ((HW.out.blk (i := 3) rfl).at T3.out) (by omega), trivial⟩ : w'.cell? ⟨wn0.heap.size, j, none⟩ = some (.string s3) ∧ True))
 refine Evo2.start' (ℓ := none) (S := Chg (fun k => k = w.heap.size + 1 + 1)) (E := Grow.G) (by kernel_rfl) ⟨Chg.pre _, by decide +kernel, (by intro c a d v w h; cases d <;> exact h), by decide +kernel⟩ (fun ok => ?_)
 refine Evo2.va ok 0 _ _ ?_
 (refine Evo2.cal ok 1 ?_ 16 ?_ ?_ ?_ ?_; rotate_left 2; (focus (intro w'; go_simp <;> with_reducible rfl)); (focus (intro w' g'; with_reducible exact WN.out w')); simp only [Act.put, L0, L1, L2])
 refine Evo2.va ok 2 _ _ ?_
 refine Evo2.va ok 3 _ _ ?_
 refine Evo2.va ok 4 _ _ ?_
 (refine Evo2.cal ok 5 ?_ 16 ?_ ?_ ?_ ?_; rotate_left 2; (focus (intro w'; go_simp <;> with_reducible rfl)); (focus (intro w' g'; with_reducible exact WM.out w')); simp only [Act.put, L0, L1, L2])
 refine Evo2.va ok 6 _ _ ?_
 first | (refine Evo2.vl ok 7 KC.out (Chg.refl (fun k => k = w.heap.size + 1 + 1) _) _ _ ?_) | (refine Evo2.va ok 7 _ _ ?_)
 refine Evo2.va ok 9 _ _ ?_
 refine Evo2.va ok 10 _ _ ?_
 (refine Evo2.cal ok 11 ?_ 16 ?_ ?_ ?_ ?_; rotate_left 2; (focus (intro w'; go_simp <;> with_reducible rfl)); (focus (intro w' g'; with_reducible exact WT.out w')); simp only [Act.put, L0, L1, L2])
 refine Evo2.va ok 14 _ _ ?_
 (refine Evo2.cal ok 15 ?_ 16 ?_ ?_ ?_ ?_; rotate_left 2; (focus (intro w'; go_simp <;> with_reducible rfl)); (focus (intro w' g'; with_reducible exact WD.out w')); simp only [Act.put, L0, L1, L2])
 refine Evo2.va ok 16 _ _ ?_
 refine Evo2.all [8, 17] (by decide +kernel) rfl ?_
 intro wp1 gp1 iq hq
 simp only [List.mem_cons, List.mem_nil_iff, or_false] at hq
 have AP1 := Chg.trans (Chg.refl (fun k => k = w.heap.size + 1 + 1) _) (Chg.grow gp1)
 rcases hq with rfl | rfl
 ·
  refine Evo2.runs (by rfl) (by rfl) (fun K' hK' => ?_)
  (try obtain ⟨q1, q2⟩ := KC.out wp1 AP1)
  go_simp
  (try (simp only [Evo.after_value, Evo.after_skip]))
  refine hK'.out _ _ ?_
  clear hK'
  simp only [Act.put, L0, L1, L2]
  (try clear q1 q2)
  refine ⟨.inr (Chg.alloc (Chg.refl _ _) _), ?_⟩
  generalize hG1 : World.alloc wp1 _ = wg1
  have GG1 : Grow.G wp1 wg1 := hG1 ▸ Grow.G.alloc (Grow.G.refl _) _
  have NC1 := (congrArg (fun W : World => W.heap[wp1.heap.size]?) hG1).symm.trans (MapKept.heap_alloc wp1 _).1
  have NL1 : wp1.heap.size < wg1.heap.size := by rw [← hG1]; simp
  clear hG1
  refine Evo2.va ok 12 _ _ ?_
  first | (refine Evo2.val ok 13 ?_ ?_ ?_; rotate_left; (intro w' hg; have nq := T4.out _ _ (hg.blk NC1 (by intro q; first | exact q | (have h1 := AP1.size; have h2 := NL1; (try dsimp only at q); omega))); go_simp <;> with_reducible rfl); simp only [Act.put, L0, L1, L2]) | (refine Evo2.vl ok 13 KC.out (Chg.trans AP1 (Chg.grow GG1)) _ _ ?_) | (refine Evo2.va ok 13 _ _ ?_) | (refine Evo2.val ok 13 ?_ ?_ ?_; rotate_left; (intro w' hg; have nq := fun j => Blk.cell (w := w') (hg.blk NC1 (by intro q; first | exact q | (have h1 := AP1.size; have h2 := NL1; (try dsimp only at q); omega))) j; go_simp <;> with_reducible rfl); simp only [Act.put, L0, L1, L2])
  refine Evo2.all [17] (by decide +kernel) rfl ?_
  intro wp2 gp2 iq hq
  simp only [List.mem_cons, List.mem_nil_iff, or_false] at hq
  have AP2 := Chg.trans (Chg.trans AP1 (Chg.grow GG1)) (Chg.grow gp2)
  have NC1 := (gp2.block _ NL1).trans NC1
  have NL1 := Nat.lt_of_lt_of_le NL1 gp2.size
  subst hq
  refine Evo2.runs (by rfl) (by rfl) (fun K' hK' => ?_)
  (try obtain ⟨q1, q2⟩ := KC.out wp2 AP2)
  have BQ1 := Lib.hid (show Blk wp2 (w.heap.size + 1 + 1) _ 28 from by first | exact B0.out.grow gp2 | exact ((B0.out.grow gp1).grow GG1).grow gp2); (try simp only [List.setIfInBounds_toArray, List.set_cons_zero, List.set_cons_succ] at BQ1); have gl1 := BQ1.out.lt; have e3 := evd BQ1.out (i := 3) rfl; have f3 := BQ1.out.free 3
  go_simp
  (try (simp only [Evo.after_value, Evo.after_skip]))
  refine hK'.out _ _ ?_
  clear hK'
  simp only [Act.put, L0, L1, L2]
  (try clear gl1 e3 f3)
  (try clear q1 q2)
  refine ⟨.inr (by (repeat refine Chg.setCell ?_ (fun _ => by first | rfl | (simp; done) | (simp; omega)) _ _); exact Chg.refl _ _), ?_⟩
  refine Evo2.va ok 18 _ _ ?_
  refine Evo2.all [19] (by decide +kernel) rfl ?_
  intro wp3 gp3 iq hq
  simp only [List.mem_cons, List.mem_nil_iff, or_false] at hq
  have AP3 := Chg.trans (Chg.trans AP2 (by (repeat refine Chg.setCell ?_ (fun _ => by first | rfl | (simp; done) | (simp; omega)) _ _); exact Chg.refl _ _)) (Chg.grow gp3)
  subst hq
  refine Evo2.runs (by rfl) (by rfl) (fun K' hK' => ?_)
  (try obtain ⟨q1, q2⟩ := KC.out wp3 AP3)
  have BQ2 := Lib.hid (show Blk wp3 (w.heap.size + 1 + 1) _ 28 from by first | exact (BQ1.out.set 3 (.int .i64 (1 + q))).grow gp3 | exact (((BQ1.out.set 3 (.int .i64 (1 + q))).grow gp2).grow GG2).grow gp3); (try simp only [List.setIfInBounds_toArray, List.set_cons_zero, List.set_cons_succ] at BQ2); have gl2 := BQ2.out.lt; have e1 := evd BQ2.out (i := 1) rfl; have f1 := BQ2.out.free 1
  go_simp
  (try (simp only [Evo.after_value, Evo.after_skip]))
  refine hK'.out _ _ ?_
  clear hK'
  simp only [Act.put, L0, L1, L2]
  (try clear gl2 e1 f1)
  (try clear q1 q2)
  refine ⟨.inr (by (repeat refine Chg.setCell ?_ (fun _ => by first | rfl | (simp; done) | (simp; omega)) _ _); exact Chg.refl _ _), ?_⟩
  refine Evo2.va ok 20 _ _ ?_
  refine Evo2.all [21] (by decide +kernel) rfl ?_
  intro wp4 gp4 iq hq
  simp only [List.mem_cons, List.mem_nil_iff, or_false] at hq
  have AP4 := Chg.trans (Chg.trans AP3 (by (repeat refine Chg.setCell ?_ (fun _ => by first | rfl | (simp; done) | (simp; omega)) _ _); exact Chg.refl _ _)) (Chg.grow gp4)
  subst hq
  refine Evo2.runs (by rfl) (by rfl) (fun K' hK' => ?_)
  (try obtain ⟨q1, q2⟩ := KC.out wp4 AP4)
  have BQ3 := Lib.hid (show Blk wp4 (w.heap.size + 1 + 1) _ 28 from by first | exact (BQ2.out.set 1 (.string s3)).grow gp4 | exact (((BQ2.out.set 1 (.string s3)).grow gp3).grow GG3).grow gp4); (try simp only [List.setIfInBounds_toArray, List.set_cons_zero, List.set_cons_succ] at BQ3); have gl3 := BQ3.out.lt; have e2 := evd BQ3.out (i := 2) rfl; have f2 := BQ3.out.free 2
  go_simp
  (try (simp only [Evo.after_value, Evo.after_skip]))
  refine hK'.out _ _ ?_
  clear hK'
  simp only [Act.put, L0, L1, L2]
  (try clear gl3 e2 f2)
  (try clear q1 q2)
  refine ⟨.inr (by (repeat refine Chg.setCell ?_ (fun _ => by first | rfl | (simp; done) | (simp; omega)) _ _); exact Chg.refl _ _), ?_⟩
  refine Evo2.va ok 22 _ _ ?_
  refine Evo2.all [23] (by decide +kernel) rfl ?_
  intro wp5 gp5 iq hq
  simp only [List.mem_cons, List.mem_nil_iff, or_false] at hq
  have AP5 := Chg.trans (Chg.trans AP4 (by (repeat refine Chg.setCell ?_ (fun _ => by first | rfl | (simp; done) | (simp; omega)) _ _); exact Chg.refl _ _)) (Chg.grow gp5)
  subst hq
  refine Evo2.runs (by rfl) (by rfl) (fun K' hK' => ?_)
  (try obtain ⟨q1, q2⟩ := KC.out wp5 AP5)
  have BQ4 := Lib.hid (show Blk wp5 (w.heap.size + 1 + 1) _ 28 from by first | exact (BQ3.out.set 2 (.string s4)).grow gp5); (try simp only [List.setIfInBounds_toArray, List.set_cons_zero, List.set_cons_succ] at BQ4); have gl4 := BQ4.out.lt; have e4 := evd BQ4.out (i := 4) rfl; have f4 := BQ4.out.free 4
  go_simp
  (try (simp only [Evo.after_value, Evo.after_skip]))
  refine hK'.out _ _ ?_
  clear hK'
  simp only [Act.put, L0, L1, L2]
  (try clear gl4 e4 f4)
  (try clear q1 q2)
  refine ⟨.inr (by (repeat refine Chg.setCell ?_ (fun _ => by first | rfl | (simp; done) | (simp; omega)) _ _); exact Chg.refl _ _), ?_⟩
  refine Evo2.done (by decide +kernel) (fun wz gz => ?_)
  have AZ := Chg.trans (Chg.trans AP5 (by (repeat refine Chg.setCell ?_ (fun _ => by first | rfl | (simp; done) | (simp; omega)) _ _); exact Chg.refl _ _)) (Chg.grow gz)
  have BZ := (BQ4.out.set 4 (.int .i64 qd)).grow gz 
  simp only [List.setIfInBounds_toArray, List.set_cons_zero, List.set_cons_succ] at BZ 
  have HZ9 := HW.out.put (i := 2) (G := fun k => k = w.heap.size + 1 + 1) rfl BZ AZ (fun k hk q => by have q : k = w.heap.size + 1 + 1 := q; omega) (fun b hb hne q => by have q : b.1 = w.heap.size + 1 + 1 := q; simp at hb; rcases hb with rfl | rfl | rfl | rfl <;> simp at hne q <;> omega) 
  simp only [K0, K1, L1, L2, K2, K3, K4, K5, K6, K7, Nat.reduceAdd, Nat.reduceSub] at HZ9 
  have HM := Lib.hid HZ9 
  clear HZ9 BZ AZ HW 
  go_wp2_with (first | (refine Mem.loadAll 2 (t := 28) rfl rfl rfl Tryz.underlying28 CE HM.out rfl rfl ?_) | (refine Mem.storeAll 1 (t := 28) rfl rfl rfl rfl CE HM.out rfl rfl rfl rfl ?_; intro wn9 HM9 C9)) 
  simp only [K0, K1, L1, L2, K2, K3, K4, K5, K6, K7, Nat.reduceAdd, Nat.reduceSub] at HM9 
  replace HM := Lib.hid HM9 
  clear HM9 
  refine Stay.go ?_ 
  have BF := HM.out.blk (i := 1) rfl 
  go_wp2_with fail 
  refine bodyPost_ret (v := .agg #[.int .i64 4, .string s3, .string s4, .int .i64 (1 + q), .int .i64 qd, .string ⟨#[]⟩, .int .i64 0, .int .i64 0, .int .i64 0, .int .i64 0, .int .i64 0, .string ⟨#[]⟩, .string ⟨#[]⟩, .slice none 0 0, .int .i64 0]) (by simp [results, Tryz.results13, go_sem, BF.cell]) rfl ⟨none, 0, ?_, by rw [E.out]; exact .inl rfl, (fun b off h => by cases h), HM.out.below⟩ 
  rw [E.out]; rfl
 ·
  refine Evo2.runs (by rfl) (by rfl) (fun K' hK' => ?_)
  (try obtain ⟨q1, q2⟩ := KC.out wp1 AP1)
  have BQ1 := Lib.hid (show Blk wp1 (w.heap.size + 1 + 1) _ 28 from by first | exact B0.out.grow gp1 | exact ((B0.out.grow gp0).grow GG0).grow gp1); (try simp only [List.setIfInBounds_toArray, List.set_cons_zero, List.set_cons_succ] at BQ1); have gl1 := BQ1.out.lt; have e3 := evd BQ1.out (i := 3) rfl; have f3 := BQ1.out.free 3
  go_simp
  (try (simp only [Evo.after_value, Evo.after_skip]))
  refine hK'.out _ _ ?_
  clear hK'
  simp only [Act.put, L0, L1, L2]
  (try clear gl1 e3 f3)
  (try clear q1 q2)
  refine ⟨.inr (by (repeat refine Chg.setCell ?_ (fun _ => by first | rfl | (simp; done) | (simp; omega)) _ _); exact Chg.refl _ _), ?_⟩
  refine Evo2.va ok 18 _ _ ?_
  refine Evo2.all [8, 19] (by decide +kernel) rfl ?_
  intro wp2 gp2 iq hq
  simp only [List.mem_cons, List.mem_nil_iff, or_false] at hq
  have AP2 := Chg.trans (Chg.trans AP1 (by (repeat refine Chg.setCell ?_ (fun _ => by first | rfl | (simp; done) | (simp; omega)) _ _); exact Chg.refl _ _)) (Chg.grow gp2)
  rcases hq with rfl | rfl
  ·
   refine Evo2.runs (by rfl) (by rfl) (fun K' hK' => ?_)
   (try obtain ⟨q1, q2⟩ := KC.out wp2 AP2)
   go_simp
   (try (simp only [Evo.after_value, Evo.after_skip]))
   refine hK'.out _ _ ?_
   clear hK'
   simp only [Act.put, L0, L1, L2]
   (try clear q1 q2)
   refine ⟨.inr (Chg.alloc (Chg.refl _ _) _), ?_⟩
   generalize hG2 : World.alloc wp2 _ = wg2
   have GG2 : Grow.G wp2 wg2 := hG2 ▸ Grow.G.alloc (Grow.G.refl _) _
   have NC2 := (congrArg (fun W : World => W.heap[wp2.heap.size]?) hG2).symm.trans (MapKept.heap_alloc wp2 _).1
   have NL2 : wp2.heap.size < wg2.heap.size := by rw [← hG2]; simp
   clear hG2
   refine Evo2.va ok 12 _ _ ?_
   first | (refine Evo2.val ok 13 ?_ ?_ ?_; rotate_left; (intro w' hg; have nq := T4.out _ _ (hg.blk NC2 (by intro q; first | exact q | (have h1 := AP2.size; have h2 := NL2; (try dsimp only at q); omega))); go_simp <;> with_reducible rfl); simp only [Act.put, L0, L1, L2]) | (refine Evo2.vl ok 13 KC.out (Chg.trans AP2 (Chg.grow GG2)) _ _ ?_) | (refine Evo2.va ok 13 _ _ ?_) | (refine Evo2.val ok 13 ?_ ?_ ?_; rotate_left; (intro w' hg; have nq := fun j => Blk.cell (w := w') (hg.blk NC2 (by intro q; first | exact q | (have h1 := AP2.size; have h2 := NL2; (try dsimp only at q); omega))) j; go_simp <;> with_reducible rfl); simp only [Act.put, L0, L1, L2])
   refine Evo2.all [19] (by decide +kernel) rfl ?_
   intro wp3 gp3 iq hq
   simp only [List.mem_cons, List.mem_nil_iff, or_false] at hq
   have AP3 := Chg.trans (Chg.trans AP2 (Chg.grow GG2)) (Chg.grow gp3)
   have NC2 := (gp3.block _ NL2).trans NC2
   have NL2 := Nat.lt_of_lt_of_le NL2 gp3.size
   subst hq
   refine Evo2.runs (by rfl) (by rfl) (fun K' hK' => ?_)
   (try obtain ⟨q1, q2⟩ := KC.out wp3 AP3)
   have BQ2 := Lib.hid (show Blk wp3 (w.heap.size + 1 + 1) _ 28 from by first | exact (BQ1.out.set 3 (.int .i64 (1 + q))).grow gp3 | exact (((BQ1.out.set 3 (.int .i64 (1 + q))).grow gp2).grow GG2).grow gp3); (try simp only [List.setIfInBounds_toArray, List.set_cons_zero, List.set_cons_succ] at BQ2); have gl2 := BQ2.out.lt; have e1 := evd BQ2.out (i := 1) rfl; have f1 := BQ2.out.free 1
   go_simp
   (try (simp only [Evo.after_value, Evo.after_skip]))
   refine hK'.out _ _ ?_
   clear hK'
   simp only [Act.put, L0, L1, L2]
   (try clear gl2 e1 f1)
   (try clear q1 q2)
   refine ⟨.inr (by (repeat refine Chg.setCell ?_ (fun _ => by first | rfl | (simp; done) | (simp; omega)) _ _); exact Chg.refl _ _), ?_⟩
   refine Evo2.va ok 20 _ _ ?_
   refine Evo2.all [21] (by decide +kernel) rfl ?_
   intro wp4 gp4 iq hq
   simp only [List.mem_cons, List.mem_nil_iff, or_false] at hq
   have AP4 := Chg.trans (Chg.trans AP3 (by (repeat refine Chg.setCell ?_ (fun _ => by first | rfl | (simp; done) | (simp; omega)) _ _); exact Chg.refl _ _)) (Chg.grow gp4)
   subst hq
   refine Evo2.runs (by rfl) (by rfl) (fun K' hK' => ?_)
   (try obtain ⟨q1, q2⟩ := KC.out wp4 AP4)
   have BQ3 := Lib.hid (show Blk wp4 (w.heap.size + 1 + 1) _ 28 from by first | exact (BQ2.out.set 1 (.string s3)).grow gp4 | exact (((BQ2.out.set 1 (.string s3)).grow gp3).grow GG3).grow gp4); (try simp only [List.setIfInBounds_toArray, List.set_cons_zero, List.set_cons_succ] at BQ3); have gl3 := BQ3.out.lt; have e2 := evd BQ3.out (i := 2) rfl; have f2 := BQ3.out.free 2
   go_simp
   (try (simp only [Evo.after_value, Evo.after_skip]))
   refine hK'.out _ _ ?_
   clear hK'
   simp only [Act.put, L0, L1, L2]
   (try clear gl3 e2 f2)
   (try clear q1 q2)
   refine ⟨.inr (by (repeat refine Chg.setCell ?_ (fun _ => by first | rfl | (simp; done) | (simp; omega)) _ _); exact Chg.refl _ _), ?_⟩
   refine Evo2.va ok 22 _ _ ?_
   refine Evo2.all [23] (by decide +kernel) rfl ?_
   intro wp5 gp5 iq hq
   simp only [List.mem_cons, List.mem_nil_iff, or_false] at hq
   have AP5 := Chg.trans (Chg.trans AP4 (by (repeat refine Chg.setCell ?_ (fun _ => by first | rfl | (simp; done) | (simp; omega)) _ _); exact Chg.refl _ _)) (Chg.grow gp5)
   subst hq
   refine Evo2.runs (by rfl) (by rfl) (fun K' hK' => ?_)
   (try obtain ⟨q1, q2⟩ := KC.out wp5 AP5)
   have BQ4 := Lib.hid (show Blk wp5 (w.heap.size + 1 + 1) _ 28 from by first | exact (BQ3.out.set 2 (.string s4)).grow gp5); (try simp only [List.setIfInBounds_toArray, List.set_cons_zero, List.set_cons_succ] at BQ4); have gl4 := BQ4.out.lt; have e4 := evd BQ4.out (i := 4) rfl; have f4 := BQ4.out.free 4
   go_simp
   (try (simp only [Evo.after_value, Evo.after_skip]))
   refine hK'.out _ _ ?_
   clear hK'
   simp only [Act.put, L0, L1, L2]
   (try clear gl4 e4 f4)
   (try clear q1 q2)
   refine ⟨.inr (by (repeat refine Chg.setCell ?_ (fun _ => by first | rfl | (simp; done) | (simp; omega)) _ _); exact Chg.refl _ _), ?_⟩
   refine Evo2.done (by decide +kernel) (fun wz gz => ?_)
   have AZ := Chg.trans (Chg.trans AP5 (by (repeat refine Chg.setCell ?_ (fun _ => by first | rfl | (simp; done) | (simp; omega)) _ _); exact Chg.refl _ _)) (Chg.grow gz)
   have BZ := (BQ4.out.set 4 (.int .i64 qd)).grow gz 
   simp only [List.setIfInBounds_toArray, List.set_cons_zero, List.set_cons_succ] at BZ 
   have HZ9 := HW.out.put (i := 2) (G := fun k => k = w.heap.size + 1 + 1) rfl BZ AZ (fun k hk q => by have q : k = w.heap.size + 1 + 1 := q; omega) (fun b hb hne q => by have q : b.1 = w.heap.size + 1 + 1 := q; simp at hb; rcases hb with rfl | rfl | rfl | rfl <;> simp at hne q <;> omega) 
   simp only [K0, K1, L1, L2, K2, K3, K4, K5, K6, K7, Nat.reduceAdd, Nat.reduceSub] at HZ9 
   have HM := Lib.hid HZ9 
   clear HZ9 BZ AZ HW 
   go_wp2_with (first | (refine Mem.loadAll 2 (t := 28) rfl rfl rfl Tryz.underlying28 CE HM.out rfl rfl ?_) | (refine Mem.storeAll 1 (t := 28) rfl rfl rfl rfl CE HM.out rfl rfl rfl rfl ?_; intro wn9 HM9 C9)) 
   simp only [K0, K1, L1, L2, K2, K3, K4, K5, K6, K7, Nat.reduceAdd, Nat.reduceSub] at HM9 
   replace HM := Lib.hid HM9 
   clear HM9 
   refine Stay.go ?_ 
   have BF := HM.out.blk (i := 1) rfl 
   go_wp2_with fail 
   refine bodyPost_ret (v := .agg #[.int .i64 4, .string s3, .string s4, .int .i64 (1 + q), .int .i64 qd, .string ⟨#[]⟩, .int .i64 0, .int .i64 0, .int .i64 0, .int .i64 0, .int .i64 0, .string ⟨#[]⟩, .string ⟨#[]⟩, .slice none 0 0, .int .i64 0]) (by simp [results, Tryz.results13, go_sem, BF.cell]) rfl ⟨none, 0, ?_, by rw [E.out]; exact .inl rfl, (fun b off h => by cases h), HM.out.below⟩ 
   rw [E.out]; rfl
  ·
   refine Evo2.runs (by rfl) (by rfl) (fun K' hK' => ?_)
   (try obtain ⟨q1, q2⟩ := KC.out wp2 AP2)
   have BQ2 := Lib.hid (show Blk wp2 (w.heap.size + 1 + 1) _ 28 from by first | exact (BQ1.out.set 3 (.int .i64 (1 + q))).grow gp2 | exact (((BQ1.out.set 3 (.int .i64 (1 + q))).grow gp1).grow GG1).grow gp2); (try simp only [List.setIfInBounds_toArray, List.set_cons_zero, List.set_cons_succ] at BQ2); have gl2 := BQ2.out.lt; have e1 := evd BQ2.out (i := 1) rfl; have f1 := BQ2.out.free 1
   go_simp
   (try (simp only [Evo.after_value, Evo.after_skip]))
   refine hK'.out _ _ ?_
   clear hK'
   simp only [Act.put, L0, L1, L2]
   (try clear gl2 e1 f1)
   (try clear q1 q2)
   refine ⟨.inr (by (repeat refine Chg.setCell ?_ (fun _ => by first | rfl | (simp; done) | (simp; omega)) _ _); exact Chg.refl _ _), ?_⟩
   refine Evo2.all [8] (by decide +kernel) rfl ?_
   intro wp3 gp3 iq hq
   simp only [List.mem_cons, List.mem_nil_iff, or_false] at hq
   have AP3 := Chg.trans (Chg.trans AP2 (by (repeat refine Chg.setCell ?_ (fun _ => by first | rfl | (simp; done) | (simp; omega)) _ _); exact Chg.refl _ _)) (Chg.grow gp3)
   subst hq
   refine Evo2.runs (by rfl) (by rfl) (fun K' hK' => ?_)
   (try obtain ⟨q1, q2⟩ := KC.out wp3 AP3)
   go_simp
   (try (simp only [Evo.after_value, Evo.after_skip]))
   refine hK'.out _ _ ?_
   clear hK'
   simp only [Act.put, L0, L1, L2]
   (try clear q1 q2)
   refine ⟨.inr (Chg.alloc (Chg.refl _ _) _), ?_⟩
   generalize hG3 : World.alloc wp3 _ = wg3
   have GG3 : Grow.G wp3 wg3 := hG3 ▸ Grow.G.alloc (Grow.G.refl _) _
   have NC3 := (congrArg (fun W : World => W.heap[wp3.heap.size]?) hG3).symm.trans (MapKept.heap_alloc wp3 _).1
   have NL3 : wp3.heap.size < wg3.heap.size := by rw [← hG3]; simp
   clear hG3
   refine Evo2.va ok 12 _ _ ?_
   first | (refine Evo2.val ok 13 ?_ ?_ ?_; rotate_left; (intro w' hg; have nq := T4.out _ _ (hg.blk NC3 (by intro q; first | exact q | (have h1 := AP3.size; have h2 := NL3; (try dsimp only at q); omega))); go_simp <;> with_reducible rfl); simp only [Act.put, L0, L1, L2]) | (refine Evo2.vl ok 13 KC.out (Chg.trans AP3 (Chg.grow GG3)) _ _ ?_) | (refine Evo2.va ok 13 _ _ ?_) | (refine Evo2.val ok 13 ?_ ?_ ?_; rotate_left; (intro w' hg; have nq := fun j => Blk.cell (w := w') (hg.blk NC3 (by intro q; first | exact q | (have h1 := AP3.size; have h2 := NL3; (try dsimp only at q); omega))) j; go_simp <;> with_reducible rfl); simp only [Act.put, L0, L1, L2])
   refine Evo2.va ok 20 _ _ ?_
   refine Evo2.all [21] (by decide +kernel) rfl ?_
   intro wp4 gp4 iq hq
   simp only [List.mem_cons, List.mem_nil_iff, or_false] at hq
   have AP4 := Chg.trans (Chg.trans AP3 (Chg.grow GG3)) (Chg.grow gp4)
   have NC3 := (gp4.block _ NL3).trans NC3
   have NL3 := Nat.lt_of_lt_of_le NL3 gp4.size
   subst hq
   refine Evo2.runs (by rfl) (by rfl) (fun K' hK' => ?_)
   (try obtain ⟨q1, q2⟩ := KC.out wp4 AP4)
   have BQ3 := Lib.hid (show Blk wp4 (w.heap.size + 1 + 1) _ 28 from by first | exact (BQ2.out.set 1 (.string s3)).grow gp4 | exact (((BQ2.out.set 1 (.string s3)).grow gp3).grow GG3).grow gp4); (try simp only [List.setIfInBounds_toArray, List.set_cons_zero, List.set_cons_succ] at BQ3); have gl3 := BQ3.out.lt; have e2 := evd BQ3.out (i := 2) rfl; have f2 := BQ3.out.free 2
   go_simp
   (try (simp only [Evo.after_value, Evo.after_skip]))
   refine hK'.out _ _ ?_
   clear hK'
   simp only [Act.put, L0, L1, L2]
   (try clear gl3 e2 f2)
   (try clear q1 q2)
   refine ⟨.inr (by (repeat refine Chg.setCell ?_ (fun _ => by first | rfl | (simp; done) | (simp; omega)) _ _); exact Chg.refl _ _), ?_⟩
   refine Evo2.va ok 22 _ _ ?_
   refine Evo2.all [23] (by decide +kernel) rfl ?_
   intro wp5 gp5 iq hq
   simp only [List.mem_cons, List.mem_nil_iff, or_false] at hq
   have AP5 := Chg.trans (Chg.trans AP4 (by (repeat refine Chg.setCell ?_ (fun _ => by first | rfl | (simp; done) | (simp; omega)) _ _); exact Chg.refl _ _)) (Chg.grow gp5)
   subst hq
   refine Evo2.runs (by rfl) (by rfl) (fun K' hK' => ?_)
   (try obtain ⟨q1, q2⟩ := KC.out wp5 AP5)
   have BQ4 := Lib.hid (show Blk wp5 (w.heap.size + 1 + 1) _ 28 from by first | exact (BQ3.out.set 2 (.string s4)).grow gp5); (try simp only [List.setIfInBounds_toArray, List.set_cons_zero, List.set_cons_succ] at BQ4); have gl4 := BQ4.out.lt; have e4 := evd BQ4.out (i := 4) rfl; have f4 := BQ4.out.free 4
   go_simp
   (try (simp only [Evo.after_value, Evo.after_skip]))
   refine hK'.out _ _ ?_
   clear hK'
   simp only [Act.put, L0, L1, L2]
   (try clear gl4 e4 f4)
   (try clear q1 q2)
   refine ⟨.inr (by (repeat refine Chg.setCell ?_ (fun _ => by first | rfl | (simp; done) | (simp; omega)) _ _); exact Chg.refl _ _), ?_⟩
   refine Evo2.done (by decide +kernel) (fun wz gz => ?_)
   have AZ := Chg.trans (Chg.trans AP5 (by (repeat refine Chg.setCell ?_ (fun _ => by first | rfl | (simp; done) | (simp; omega)) _ _); exact Chg.refl _ _)) (Chg.grow gz)
   have BZ := (BQ4.out.set 4 (.int .i64 qd)).grow gz 
   simp only [List.setIfInBounds_toArray, List.set_cons_zero, List.set_cons_succ] at BZ 
   have HZ9 := HW.out.put (i := 2) (G := fun k => k = w.heap.size + 1 + 1) rfl BZ AZ (fun k hk q => by have q : k = w.heap.size + 1 + 1 := q; omega) (fun b hb hne q => by have q : b.1 = w.heap.size + 1 + 1 := q; simp at hb; rcases hb with rfl | rfl | rfl | rfl <;> simp at hne q <;> omega) 
   simp only [K0, K1, L1, L2, K2, K3, K4, K5, K6, K7, Nat.reduceAdd, Nat.reduceSub] at HZ9 
   have HM := Lib.hid HZ9 
   clear HZ9 BZ AZ HW 
   go_wp2_with (first | (refine Mem.loadAll 2 (t := 28) rfl rfl rfl Tryz.underlying28 CE HM.out rfl rfl ?_) | (refine Mem.storeAll 1 (t := 28) rfl rfl rfl rfl CE HM.out rfl rfl rfl rfl ?_; intro wn9 HM9 C9)) 
   simp only [K0, K1, L1, L2, K2, K3, K4, K5, K6, K7, Nat.reduceAdd, Nat.reduceSub] at HM9 
   replace HM := Lib.hid HM9 
   clear HM9 
   refine Stay.go ?_ 
   have BF := HM.out.blk (i := 1) rfl 
   go_wp2_with fail 
   refine bodyPost_ret (v := .agg #[.int .i64 4, .string s3, .string s4, .int .i64 (1 + q), .int .i64 qd, .string ⟨#[]⟩, .int .i64 0, .int .i64 0, .int .i64 0, .int .i64 0, .int .i64 0, .string ⟨#[]⟩, .string ⟨#[]⟩, .slice none 0 0, .int .i64 0]) (by simp [results, Tryz.results13, go_sem, BF.cell]) rfl ⟨none, 0, ?_, by rw [E.out]; exact .inl rfl, (fun b off h => by cases h), HM.out.below⟩ 
   rw [E.out]; rfl
end Go.Proofs.YtnkekdmikopdgaaGreat

/- The event that damperlaw3.Make makes: whatever it is handed. -/
namespace Go.Proofs.YtnkekdmikopdgaaGreat
set_option maxRecDepth 100000
set_option linter.unusedVariables false
open Go.RowKit

theorem make_any (kd n dr nm : Int) (c : Cfg) (v : Value) (zs : List Int) (w : World) (hkd : wf64 kd) (hn : wf64 n) (hdr : wf64 dr) (hnm : wf64 nm) (hc : c.wf) (hz : IntSlice w v zs) :
    Calls Tryz.prog 13 #[.int .i64 kd, .int .i64 n, .int .i64 dr, .int .i64 nm, c.v, v] w fun x w' => MkR w (mkE kd n dr nm c zs) x w' := by
  have h := withinI_range kd 13 (by omega)
  unfold mkE
  have hk : withinI kd 13 = 0 ∨ withinI kd 13 = 1 ∨ withinI kd 13 = 2 ∨ withinI kd 13 = 3 ∨ withinI kd 13 = 4 ∨ withinI kd 13 = 5 ∨ withinI kd 13 = 6 ∨ withinI kd 13 = 7 ∨ withinI kd 13 = 8 ∨ withinI kd 13 = 9 ∨ withinI kd 13 = 10 ∨ withinI kd 13 = 11 ∨ withinI kd 13 = 12 := by omega
  rcases hk with h | h | h | h | h | h | h | h | h | h | h | h | h
  · rw [h]; exact make_1 kd n dr nm c v zs w hkd hn hdr hnm hc hz h
  · rw [h]; exact make_2 kd n dr nm c v zs w hkd hn hdr hnm hc hz h
  · rw [h]; exact make_3 kd n dr nm c v zs w hkd hn hdr hnm hc hz h
  · rw [h]; exact make_4 kd n dr nm c v zs w hkd hn hdr hnm hc hz h
  · rw [h]; exact make_5 kd n dr nm c v zs w hkd hn hdr hnm hc hz h
  · rw [h]; exact make_6 kd n dr nm c v zs w hkd hn hdr hnm hc hz h
  · rw [h]; exact make_7 kd n dr nm c v zs w hkd hn hdr hnm hc hz h
  · rw [h]; exact make_8 kd n dr nm c v zs w hkd hn hdr hnm hc hz h
  · rw [h]; exact make_9 kd n dr nm c v zs w hkd hn hdr hnm hc hz h
  · rw [h]; exact make_10 kd n dr nm c v zs w hkd hn hdr hnm hc hz h
  · rw [h]; exact make_11 kd n dr nm c v zs w hkd hn hdr hnm hc hz h
  · rw [h]; exact make_12 kd n dr nm c v zs w hkd hn hdr hnm hc hz h
  · rw [h]; exact make_13 kd n dr nm c v zs w hkd hn hdr hnm hc hz h
end Go.Proofs.YtnkekdmikopdgaaGreat
