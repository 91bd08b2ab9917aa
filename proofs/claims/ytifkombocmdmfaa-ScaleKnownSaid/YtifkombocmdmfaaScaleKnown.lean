
/- The walk of ScaleKnown. -/
import Derived.Test.YtifkombocmdmfaaZ71
namespace Go.Proofs.Ytifkombocmdmfaa
set_option maxRecDepth 100000
set_option linter.unusedVariables false
set_option linter.unusedSimpArgs false
set_option linter.unnecessarySimpa false
open Go.RowKit

def knS (mn : Int) : Cfg := ⟨⟨#[97]⟩, 0, 2, mn, 10, 5⟩
theorem knS_ok {mn : Int} (h : 0 ≤ mn ∧ mn ≤ 10) : (scC (knS mn)).ok := ⟨⟨by show (1 : Int) ≤ 2; decide, by show (2 : Int) ≤ 8; decide⟩, ⟨by show (1 : Int) ≤ 10; decide, by show (10 : Int) ≤ 10; decide⟩, h, ⟨by show (0 : Int) ≤ 5; decide, by show (5 : Int) ≤ 30; decide⟩⟩
set_option maxHeartbeats 64000000 in
theorem walkScaleKnown (w : World) (n : Int) (hn : wf64 n) :
    Calls Try.prog 8 #[.int .i64 n] w fun e w' => e = .returned (.bool true) ∧ Below w.heap.size w w' := by
  have KN := Lib.hid (fun w => known10_any w)
  have FE := Lib.hid Emp.foot
  have WN := Lib.hid (fun w => within10_any n 12 w (by omega) (by omega) hn.1 hn.2)
  have rk := withinI_range n 12 (by omega)
  generalize withinI n 12 = k at *
  have D0 := Lib.hid (fun w => decide_any ⟨0, 0, 0, 0, 0, 0, 0, 0, 9⟩ (knS 0) w ⟨by decide, by decide, by decide, by decide, by decide, by decide, by decide, by decide, by decide⟩ (knS_ok (by decide)))
  rw [show Sc.want ⟨0, 0, 0, 0, 0, 0, 0, 0, 9⟩ (scC (knS 0)) = 0 by decide +kernel, show Sc.left ⟨0, 0, 0, 0, 0, 0, 0, 0, 9⟩ (scC (knS 0)) = 0 by decide +kernel] at D0
  unfold Sc.G.args knS Cfg.v at D0
  dsimp only at D0
  have D1 := Lib.hid (fun w => decide_any ⟨1, 0, 1, 0, 0, 6, 0, 2, 4⟩ (knS 0) w ⟨by decide, by decide, by decide, by decide, by decide, by decide, by decide, by decide, by decide⟩ (knS_ok (by decide)))
  rw [show Sc.want ⟨1, 0, 1, 0, 0, 6, 0, 2, 4⟩ (scC (knS 0)) = 1 by decide +kernel, show Sc.left ⟨1, 0, 1, 0, 0, 6, 0, 2, 4⟩ (scC (knS 0)) = 0 by decide +kernel] at D1
  unfold Sc.G.args knS Cfg.v at D1
  dsimp only at D1
  have D2 := Lib.hid (fun w => decide_any ⟨1, 0, 1, 0, 0, 6, 0, 2, 5⟩ (knS 0) w ⟨by decide, by decide, by decide, by decide, by decide, by decide, by decide, by decide, by decide⟩ (knS_ok (by decide)))
  rw [show Sc.want ⟨1, 0, 1, 0, 0, 6, 0, 2, 5⟩ (scC (knS 0)) = 0 by decide +kernel, show Sc.left ⟨1, 0, 1, 0, 0, 6, 0, 2, 5⟩ (scC (knS 0)) = 0 by decide +kernel] at D2
  unfold Sc.G.args knS Cfg.v at D2
  dsimp only at D2
  have D3 := Lib.hid (fun w => decide_any ⟨1, 0, 1, 1, 0, 6, 0, 2, 9⟩ (knS 0) w ⟨by decide, by decide, by decide, by decide, by decide, by decide, by decide, by decide, by decide⟩ (knS_ok (by decide)))
  rw [show Sc.want ⟨1, 0, 1, 1, 0, 6, 0, 2, 9⟩ (scC (knS 0)) = 1 by decide +kernel, show Sc.left ⟨1, 0, 1, 1, 0, 6, 0, 2, 9⟩ (scC (knS 0)) = 0 by decide +kernel] at D3
  unfold Sc.G.args knS Cfg.v at D3
  dsimp only at D3
  have D4 := Lib.hid (fun w => decide_any ⟨2, 0, 2, 3, 30, 6, 8, 2, 0⟩ (knS 0) w ⟨by decide, by decide, by decide, by decide, by decide, by decide, by decide, by decide, by decide⟩ (knS_ok (by decide)))
  rw [show Sc.want ⟨2, 0, 2, 3, 30, 6, 8, 2, 0⟩ (scC (knS 0)) = 3 by decide +kernel, show Sc.left ⟨2, 0, 2, 3, 30, 6, 8, 2, 0⟩ (scC (knS 0)) = 0 by decide +kernel] at D4
  unfold Sc.G.args knS Cfg.v at D4
  dsimp only at D4
  have D5 := Lib.hid (fun w => decide_any ⟨2, 0, 2, 9, 30, 6, 16, 2, 0⟩ (knS 0) w ⟨by decide, by decide, by decide, by decide, by decide, by decide, by decide, by decide, by decide⟩ (knS_ok (by decide)))
  rw [show Sc.want ⟨2, 0, 2, 9, 30, 6, 16, 2, 0⟩ (scC (knS 0)) = 4 by decide +kernel, show Sc.left ⟨2, 0, 2, 9, 30, 6, 16, 2, 0⟩ (scC (knS 0)) = 6 by decide +kernel] at D5
  unfold Sc.G.args knS Cfg.v at D5
  dsimp only at D5
  have D6 := Lib.hid (fun w => decide_any ⟨9, 3, 2, 9, 6, 6, 2, 2, 0⟩ (knS 0) w ⟨by decide, by decide, by decide, by decide, by decide, by decide, by decide, by decide, by decide⟩ (knS_ok (by decide)))
  rw [show Sc.want ⟨9, 3, 2, 9, 6, 6, 2, 2, 0⟩ (scC (knS 0)) = 8 by decide +kernel, show Sc.left ⟨9, 3, 2, 9, 6, 6, 2, 2, 0⟩ (scC (knS 0)) = 2 by decide +kernel] at D6
  unfold Sc.G.args knS Cfg.v at D6
  dsimp only at D6
  have D7 := Lib.hid (fun w => decide_any ⟨9, 1, 8, 9, 6, 6, 2, 2, 0⟩ (knS 0) w ⟨by decide, by decide, by decide, by decide, by decide, by decide, by decide, by decide, by decide⟩ (knS_ok (by decide)))
  rw [show Sc.want ⟨9, 1, 8, 9, 6, 6, 2, 2, 0⟩ (scC (knS 0)) = 4 by decide +kernel, show Sc.left ⟨9, 1, 8, 9, 6, 6, 2, 2, 0⟩ (scC (knS 0)) = 0 by decide +kernel] at D7
  unfold Sc.G.args knS Cfg.v at D7
  dsimp only at D7
  have D8 := Lib.hid (fun w => decide_any ⟨4, 0, 2, 0, 0, 6, 0, 2, 99⟩ (knS 3) w ⟨by decide, by decide, by decide, by decide, by decide, by decide, by decide, by decide, by decide⟩ (knS_ok (by decide)))
  rw [show Sc.want ⟨4, 0, 2, 0, 0, 6, 0, 2, 99⟩ (scC (knS 3)) = 3 by decide +kernel, show Sc.left ⟨4, 0, 2, 0, 0, 6, 0, 2, 99⟩ (scC (knS 3)) = 0 by decide +kernel] at D8
  unfold Sc.G.args knS Cfg.v at D8
  dsimp only at D8
  have D9 := Lib.hid (fun w => decide_any ⟨1, 0, 0, 5, 600, 6, 0, 0, 0⟩ (knS 0) w ⟨by decide, by decide, by decide, by decide, by decide, by decide, by decide, by decide, by decide⟩ (knS_ok (by decide)))
  rw [show Sc.want ⟨1, 0, 0, 5, 600, 6, 0, 0, 0⟩ (scC (knS 0)) = 4 by decide +kernel, show Sc.left ⟨1, 0, 0, 5, 600, 6, 0, 0, 0⟩ (scC (knS 0)) = 0 by decide +kernel] at D9
  unfold Sc.G.args knS Cfg.v at D9
  dsimp only at D9
  have D10 := Lib.hid (fun w => decide_any ⟨10, 0, 9, 0, 0, 6, 0, 2, 99⟩ (knS 0) w ⟨by decide, by decide, by decide, by decide, by decide, by decide, by decide, by decide, by decide⟩ (knS_ok (by decide)))
  rw [show Sc.want ⟨10, 0, 9, 0, 0, 6, 0, 2, 99⟩ (scC (knS 0)) = 4 by decide +kernel, show Sc.left ⟨10, 0, 9, 0, 0, 6, 0, 2, 99⟩ (scC (knS 0)) = 0 by decide +kernel] at D10
  unfold Sc.G.args knS Cfg.v at D10
  dsimp only at D10
  have D11 := Lib.hid (fun w => decide_any ⟨5, 0, 30, 0, 0, 6, 0, 2, 99⟩ (knS 0) w ⟨by decide, by decide, by decide, by decide, by decide, by decide, by decide, by decide, by decide⟩ (knS_ok (by decide)))
  rw [show Sc.want ⟨5, 0, 30, 0, 0, 6, 0, 2, 99⟩ (scC (knS 0)) = 10 by decide +kernel, show Sc.left ⟨5, 0, 30, 0, 0, 6, 0, 2, 99⟩ (scC (knS 0)) = 0 by decide +kernel] at D11
  unfold Sc.G.args knS Cfg.v at D11
  dsimp only at D11
  clear hn
  go_enter Try.func8, Try.ntmps8
  go_wp2_with fail
  refine (KN.out _).mono ?_
  rintro e w1 ⟨rfl, hg⟩
  have H := Lib.hid ((Hold.nil w).grow Emp.foot hg)
  clear hg
  go_wp2_with ((refine Hold.storeAll 0 (t := 25) FE.out rfl rfl rfl rfl (n := 6) (by kernel_rfl) (Hold.alloc' H.out FE.out _ _ rfl) rfl rfl rfl rfl ?_; intro W2 HMm CW2))
  simp only [K0, K1, L1, L2, K2, K3, K4, K5, K6, K7, Nat.reduceAdd, Nat.reduceSub] at HMm
  replace H := Lib.hid HMm
  clear HMm
  refine Stay.go ?_
  go_wp2_with (first | (refine Mem.loadAll 0 (t := 25) rfl rfl rfl Try.underlying25 (n := 6) (by kernel_rfl) H.out.mem rfl rfl ?_) | (refine Hold.storeAll 1 (t := 25) FE.out rfl rfl rfl rfl (n := 6) (by kernel_rfl) (Hold.alloc' H.out FE.out _ _ rfl) rfl rfl rfl rfl ?_; intro W3 HMm CW3))
  simp only [K0, K1, L1, L2, K2, K3, K4, K5, K6, K7, Nat.reduceAdd, Nat.reduceSub] at HMm
  replace H := Lib.hid HMm
  clear HMm
  refine Stay.go ?_
  go_wp2_with ((refine Hold.store 1 (t := 3) FE.out rfl rfl rfl rfl (vs := [.int .i64 3]) rfl (n := 1) (by kernel_rfl) H.out rfl rfl (by simp) rfl ?_; intro W4 HMm CW4))
  simp only [K0, K1, L1, L2, K2, K3, K4, K5, K6, K7, Nat.reduceAdd, Nat.reduceSub] at HMm
  replace H := Lib.hid HMm
  clear HMm
  refine Stay.go ?_
  go_wp2_with fail
  have B0 := Lib.hid (H.out.mem.blk (i := 0) rfl)
  have B1 := Lib.hid (H.out.mem.blk (i := 1) rfl)
  have l0 := B0.out.lt
  have l1 := B1.out.lt
  have HK := H
  have CE : (Try.prog.info? 25).map (·.size) = some 6 := by kernel_rfl
  refine wp_spec (fun a0 A W => ∃ x13 x14 x15 x16 x17 x18 x19 x20 x21 x22 x23 x24 x25 x26 x27 x28 x29 x30 x31 x32 x33 x34 x35 x36 x37 x38 x39 x40 x41 x42 x43 x44 x45 x46 x47 x48 x49 : Value, ∃ (bl : Nat), A = ((((((((((((((((((((((((((((((((((((((a0.put (some 5) (.slice (some ⟨bl, 0, none⟩) 12 12)).put (some 13) x13).put (some 14) x14).put (some 15) x15).put (some 16) x16).put (some 17) x17).put (some 18) x18).put (some 19) x19).put (some 20) x20).put (some 21) x21).put (some 22) x22).put (some 23) x23).put (some 24) x24).put (some 25) x25).put (some 26) x26).put (some 27) x27).put (some 28) x28).put (some 29) x29).put (some 30) x30).put (some 31) x31).put (some 32) x32).put (some 33) x33).put (some 34) x34).put (some 35) x35).put (some 36) x36).put (some 37) x37).put (some 38) x38).put (some 39) x39).put (some 40) x40).put (some 41) x41).put (some 42) x42).put (some 43) x43).put (some 44) x44).put (some 45) x45).put (some 46) x46).put (some 47) x47).put (some 48) x48).put (some 49) x49) ∧ Hid (Hold w W [(w1.heap.size, [.string ⟨#[97]⟩, .int .i64 0, .int .i64 2, .int .i64 0, .int .i64 10, .int .i64 5], 25), (W2.heap.size, [.string ⟨#[97]⟩, .int .i64 0, .int .i64 2, .int .i64 3, .int .i64 10, .int .i64 5], 25), (bl, [.int .i64 0, .int .i64 0, .int .i64 1, .int .i64 0, .int .i64 0, .int .i64 0, .int .i64 1, .int .i64 0, .int .i64 3, .int .i64 0, .int .i64 4, .int .i64 6, .int .i64 8, .int .i64 2, .int .i64 4, .int .i64 0, .int .i64 3, .int .i64 0, .int .i64 4, .int .i64 0, .int .i64 4, .int .i64 0, .int .i64 10, .int .i64 0], 30)] Emp)) ?_ ?_
  all_goals simp only [Act.put, L0, L1, L2]
  ·
    refine Evo2.start' (ℓ := none) (S := Chg (fun j => W4.heap.size ≤ j)) (E := Grow.G) (by kernel_rfl) ⟨Chg.pre _, by decide +kernel, (by intro c a d v w h; cases d <;> exact h), by decide +kernel⟩ (fun ok => ?_)
    refine Evo2.va ok 0 _ _ ?_
    first | (refine Evo2.val ok 1 ?_ ?_ ?_; rotate_left; (focus (intro w' hg; refine Box.exec_loadAll ?_ Try.underlying25 CE (B0.out.chg (Chg.trans (Chg.refl (fun j => W4.heap.size ≤ j) _) hg) (by omega)) ?_; (all_goals (first | exact ⟨rfl, rfl⟩ | rfl)))); simp only [Act.put, L0, L1, L2]) | (refine Evo2.val ok 1 ?_ ?_ ?_; rotate_left; (focus (intro w' hg; refine Box.exec_loadAll ?_ Try.underlying25 CE (B1.out.chg (Chg.trans (Chg.refl (fun j => W4.heap.size ≤ j) _) hg) (by omega)) ?_; (all_goals (first | exact ⟨rfl, rfl⟩ | rfl)))); simp only [Act.put, L0, L1, L2]) | (refine Evo2.va ok 1 _ _ ?_)
    (refine Evo2.cal ok 2 ?_ 21 ?_ ?_ ?_ ?_; rotate_left 2; (focus (intro w'; go_simp <;> with_reducible rfl)); (focus (intro w' g'; with_reducible exact D0.out w')); simp only [Act.put, L0, L1, L2])
    refine Evo2.va ok 3 _ _ ?_
    first | (refine Evo2.val ok 4 ?_ ?_ ?_; rotate_left; (focus (intro w' hg; refine Box.exec_loadAll ?_ Try.underlying25 CE (B0.out.chg (Chg.trans (Chg.refl (fun j => W4.heap.size ≤ j) _) hg) (by omega)) ?_; (all_goals (first | exact ⟨rfl, rfl⟩ | rfl)))); simp only [Act.put, L0, L1, L2]) | (refine Evo2.val ok 4 ?_ ?_ ?_; rotate_left; (focus (intro w' hg; refine Box.exec_loadAll ?_ Try.underlying25 CE (B1.out.chg (Chg.trans (Chg.refl (fun j => W4.heap.size ≤ j) _) hg) (by omega)) ?_; (all_goals (first | exact ⟨rfl, rfl⟩ | rfl)))); simp only [Act.put, L0, L1, L2]) | (refine Evo2.va ok 4 _ _ ?_)
    (refine Evo2.cal ok 5 ?_ 21 ?_ ?_ ?_ ?_; rotate_left 2; (focus (intro w'; go_simp <;> with_reducible rfl)); (focus (intro w' g'; with_reducible exact D1.out w')); simp only [Act.put, L0, L1, L2])
    refine Evo2.va ok 6 _ _ ?_
    first | (refine Evo2.val ok 7 ?_ ?_ ?_; rotate_left; (focus (intro w' hg; refine Box.exec_loadAll ?_ Try.underlying25 CE (B0.out.chg (Chg.trans (Chg.refl (fun j => W4.heap.size ≤ j) _) hg) (by omega)) ?_; (all_goals (first | exact ⟨rfl, rfl⟩ | rfl)))); simp only [Act.put, L0, L1, L2]) | (refine Evo2.val ok 7 ?_ ?_ ?_; rotate_left; (focus (intro w' hg; refine Box.exec_loadAll ?_ Try.underlying25 CE (B1.out.chg (Chg.trans (Chg.refl (fun j => W4.heap.size ≤ j) _) hg) (by omega)) ?_; (all_goals (first | exact ⟨rfl, rfl⟩ | rfl)))); simp only [Act.put, L0, L1, L2]) | (refine Evo2.va ok 7 _ _ ?_)
    (refine Evo2.cal ok 8 ?_ 21 ?_ ?_ ?_ ?_; rotate_left 2; (focus (intro w'; go_simp <;> with_reducible rfl)); (focus (intro w' g'; with_reducible exact D2.out w')); simp only [Act.put, L0, L1, L2])
    refine Evo2.va ok 9 _ _ ?_
    first | (refine Evo2.val ok 10 ?_ ?_ ?_; rotate_left; (focus (intro w' hg; refine Box.exec_loadAll ?_ Try.underlying25 CE (B0.out.chg (Chg.trans (Chg.refl (fun j => W4.heap.size ≤ j) _) hg) (by omega)) ?_; (all_goals (first | exact ⟨rfl, rfl⟩ | rfl)))); simp only [Act.put, L0, L1, L2]) | (refine Evo2.val ok 10 ?_ ?_ ?_; rotate_left; (focus (intro w' hg; refine Box.exec_loadAll ?_ Try.underlying25 CE (B1.out.chg (Chg.trans (Chg.refl (fun j => W4.heap.size ≤ j) _) hg) (by omega)) ?_; (all_goals (first | exact ⟨rfl, rfl⟩ | rfl)))); simp only [Act.put, L0, L1, L2]) | (refine Evo2.va ok 10 _ _ ?_)
    (refine Evo2.cal ok 11 ?_ 21 ?_ ?_ ?_ ?_; rotate_left 2; (focus (intro w'; go_simp <;> with_reducible rfl)); (focus (intro w' g'; with_reducible exact D3.out w')); simp only [Act.put, L0, L1, L2])
    refine Evo2.va ok 12 _ _ ?_
    first | (refine Evo2.val ok 13 ?_ ?_ ?_; rotate_left; (focus (intro w' hg; refine Box.exec_loadAll ?_ Try.underlying25 CE (B0.out.chg (Chg.trans (Chg.refl (fun j => W4.heap.size ≤ j) _) hg) (by omega)) ?_; (all_goals (first | exact ⟨rfl, rfl⟩ | rfl)))); simp only [Act.put, L0, L1, L2]) | (refine Evo2.val ok 13 ?_ ?_ ?_; rotate_left; (focus (intro w' hg; refine Box.exec_loadAll ?_ Try.underlying25 CE (B1.out.chg (Chg.trans (Chg.refl (fun j => W4.heap.size ≤ j) _) hg) (by omega)) ?_; (all_goals (first | exact ⟨rfl, rfl⟩ | rfl)))); simp only [Act.put, L0, L1, L2]) | (refine Evo2.va ok 13 _ _ ?_)
    (refine Evo2.cal ok 14 ?_ 21 ?_ ?_ ?_ ?_; rotate_left 2; (focus (intro w'; go_simp <;> with_reducible rfl)); (focus (intro w' g'; with_reducible exact D4.out w')); simp only [Act.put, L0, L1, L2])
    refine Evo2.va ok 15 _ _ ?_
    first | (refine Evo2.val ok 16 ?_ ?_ ?_; rotate_left; (focus (intro w' hg; refine Box.exec_loadAll ?_ Try.underlying25 CE (B0.out.chg (Chg.trans (Chg.refl (fun j => W4.heap.size ≤ j) _) hg) (by omega)) ?_; (all_goals (first | exact ⟨rfl, rfl⟩ | rfl)))); simp only [Act.put, L0, L1, L2]) | (refine Evo2.val ok 16 ?_ ?_ ?_; rotate_left; (focus (intro w' hg; refine Box.exec_loadAll ?_ Try.underlying25 CE (B1.out.chg (Chg.trans (Chg.refl (fun j => W4.heap.size ≤ j) _) hg) (by omega)) ?_; (all_goals (first | exact ⟨rfl, rfl⟩ | rfl)))); simp only [Act.put, L0, L1, L2]) | (refine Evo2.va ok 16 _ _ ?_)
    (refine Evo2.cal ok 17 ?_ 21 ?_ ?_ ?_ ?_; rotate_left 2; (focus (intro w'; go_simp <;> with_reducible rfl)); (focus (intro w' g'; with_reducible exact D5.out w')); simp only [Act.put, L0, L1, L2])
    refine Evo2.va ok 18 _ _ ?_
    first | (refine Evo2.val ok 19 ?_ ?_ ?_; rotate_left; (focus (intro w' hg; refine Box.exec_loadAll ?_ Try.underlying25 CE (B0.out.chg (Chg.trans (Chg.refl (fun j => W4.heap.size ≤ j) _) hg) (by omega)) ?_; (all_goals (first | exact ⟨rfl, rfl⟩ | rfl)))); simp only [Act.put, L0, L1, L2]) | (refine Evo2.val ok 19 ?_ ?_ ?_; rotate_left; (focus (intro w' hg; refine Box.exec_loadAll ?_ Try.underlying25 CE (B1.out.chg (Chg.trans (Chg.refl (fun j => W4.heap.size ≤ j) _) hg) (by omega)) ?_; (all_goals (first | exact ⟨rfl, rfl⟩ | rfl)))); simp only [Act.put, L0, L1, L2]) | (refine Evo2.va ok 19 _ _ ?_)
    (refine Evo2.cal ok 20 ?_ 21 ?_ ?_ ?_ ?_; rotate_left 2; (focus (intro w'; go_simp <;> with_reducible rfl)); (focus (intro w' g'; with_reducible exact D6.out w')); simp only [Act.put, L0, L1, L2])
    refine Evo2.va ok 21 _ _ ?_
    first | (refine Evo2.val ok 22 ?_ ?_ ?_; rotate_left; (focus (intro w' hg; refine Box.exec_loadAll ?_ Try.underlying25 CE (B0.out.chg (Chg.trans (Chg.refl (fun j => W4.heap.size ≤ j) _) hg) (by omega)) ?_; (all_goals (first | exact ⟨rfl, rfl⟩ | rfl)))); simp only [Act.put, L0, L1, L2]) | (refine Evo2.val ok 22 ?_ ?_ ?_; rotate_left; (focus (intro w' hg; refine Box.exec_loadAll ?_ Try.underlying25 CE (B1.out.chg (Chg.trans (Chg.refl (fun j => W4.heap.size ≤ j) _) hg) (by omega)) ?_; (all_goals (first | exact ⟨rfl, rfl⟩ | rfl)))); simp only [Act.put, L0, L1, L2]) | (refine Evo2.va ok 22 _ _ ?_)
    (refine Evo2.cal ok 23 ?_ 21 ?_ ?_ ?_ ?_; rotate_left 2; (focus (intro w'; go_simp <;> with_reducible rfl)); (focus (intro w' g'; with_reducible exact D7.out w')); simp only [Act.put, L0, L1, L2])
    refine Evo2.va ok 24 _ _ ?_
    first | (refine Evo2.val ok 25 ?_ ?_ ?_; rotate_left; (focus (intro w' hg; refine Box.exec_loadAll ?_ Try.underlying25 CE (B0.out.chg (Chg.trans (Chg.refl (fun j => W4.heap.size ≤ j) _) hg) (by omega)) ?_; (all_goals (first | exact ⟨rfl, rfl⟩ | rfl)))); simp only [Act.put, L0, L1, L2]) | (refine Evo2.val ok 25 ?_ ?_ ?_; rotate_left; (focus (intro w' hg; refine Box.exec_loadAll ?_ Try.underlying25 CE (B1.out.chg (Chg.trans (Chg.refl (fun j => W4.heap.size ≤ j) _) hg) (by omega)) ?_; (all_goals (first | exact ⟨rfl, rfl⟩ | rfl)))); simp only [Act.put, L0, L1, L2]) | (refine Evo2.va ok 25 _ _ ?_)
    (refine Evo2.cal ok 26 ?_ 21 ?_ ?_ ?_ ?_; rotate_left 2; (focus (intro w'; go_simp <;> with_reducible rfl)); (focus (intro w' g'; with_reducible exact D8.out w')); simp only [Act.put, L0, L1, L2])
    refine Evo2.va ok 27 _ _ ?_
    first | (refine Evo2.val ok 28 ?_ ?_ ?_; rotate_left; (focus (intro w' hg; refine Box.exec_loadAll ?_ Try.underlying25 CE (B0.out.chg (Chg.trans (Chg.refl (fun j => W4.heap.size ≤ j) _) hg) (by omega)) ?_; (all_goals (first | exact ⟨rfl, rfl⟩ | rfl)))); simp only [Act.put, L0, L1, L2]) | (refine Evo2.val ok 28 ?_ ?_ ?_; rotate_left; (focus (intro w' hg; refine Box.exec_loadAll ?_ Try.underlying25 CE (B1.out.chg (Chg.trans (Chg.refl (fun j => W4.heap.size ≤ j) _) hg) (by omega)) ?_; (all_goals (first | exact ⟨rfl, rfl⟩ | rfl)))); simp only [Act.put, L0, L1, L2]) | (refine Evo2.va ok 28 _ _ ?_)
    (refine Evo2.cal ok 29 ?_ 21 ?_ ?_ ?_ ?_; rotate_left 2; (focus (intro w'; go_simp <;> with_reducible rfl)); (focus (intro w' g'; with_reducible exact D9.out w')); simp only [Act.put, L0, L1, L2])
    refine Evo2.va ok 30 _ _ ?_
    first | (refine Evo2.val ok 31 ?_ ?_ ?_; rotate_left; (focus (intro w' hg; refine Box.exec_loadAll ?_ Try.underlying25 CE (B0.out.chg (Chg.trans (Chg.refl (fun j => W4.heap.size ≤ j) _) hg) (by omega)) ?_; (all_goals (first | exact ⟨rfl, rfl⟩ | rfl)))); simp only [Act.put, L0, L1, L2]) | (refine Evo2.val ok 31 ?_ ?_ ?_; rotate_left; (focus (intro w' hg; refine Box.exec_loadAll ?_ Try.underlying25 CE (B1.out.chg (Chg.trans (Chg.refl (fun j => W4.heap.size ≤ j) _) hg) (by omega)) ?_; (all_goals (first | exact ⟨rfl, rfl⟩ | rfl)))); simp only [Act.put, L0, L1, L2]) | (refine Evo2.va ok 31 _ _ ?_)
    (refine Evo2.cal ok 32 ?_ 21 ?_ ?_ ?_ ?_; rotate_left 2; (focus (intro w'; go_simp <;> with_reducible rfl)); (focus (intro w' g'; with_reducible exact D10.out w')); simp only [Act.put, L0, L1, L2])
    refine Evo2.va ok 33 _ _ ?_
    first | (refine Evo2.val ok 34 ?_ ?_ ?_; rotate_left; (focus (intro w' hg; refine Box.exec_loadAll ?_ Try.underlying25 CE (B0.out.chg (Chg.trans (Chg.refl (fun j => W4.heap.size ≤ j) _) hg) (by omega)) ?_; (all_goals (first | exact ⟨rfl, rfl⟩ | rfl)))); simp only [Act.put, L0, L1, L2]) | (refine Evo2.val ok 34 ?_ ?_ ?_; rotate_left; (focus (intro w' hg; refine Box.exec_loadAll ?_ Try.underlying25 CE (B1.out.chg (Chg.trans (Chg.refl (fun j => W4.heap.size ≤ j) _) hg) (by omega)) ?_; (all_goals (first | exact ⟨rfl, rfl⟩ | rfl)))); simp only [Act.put, L0, L1, L2]) | (refine Evo2.va ok 34 _ _ ?_)
    (refine Evo2.cal ok 35 ?_ 21 ?_ ?_ ?_ ?_; rotate_left 2; (focus (intro w'; go_simp <;> with_reducible rfl)); (focus (intro w' g'; with_reducible exact D11.out w')); simp only [Act.put, L0, L1, L2])
    refine Evo2.all [36] (by decide +kernel) rfl ?_
    intro wp1 gp1 iq hq
    simp only [List.mem_cons, List.mem_nil_iff, or_false] at hq
    have AP1 := Chg.trans (Chg.refl (fun j => W4.heap.size ≤ j) _) (Chg.grow gp1)
    replace HK := Lib.hid (HK.out.grow FE.out gp1)
    subst hq
    refine Evo2.runs (by rfl) (by rfl) (fun K' hK' => ?_)
    go_simp
    (try (simp only [Evo.after_value, Evo.after_skip]))
    refine hK'.out _ _ ?_
    clear hK'
    simp only [Act.put, L0, L1, L2]
    refine ⟨.inr (Chg.alloc (Chg.refl _ _) _), ?_⟩
    generalize hG1 : World.alloc wp1 _ = wg1
    have GG1 : Grow.G wp1 wg1 := hG1 ▸ Grow.G.alloc (Grow.G.refl _) _
    have NC1 := (congrArg (fun W : World => W.heap[wp1.heap.size]?) hG1).symm.trans (MapKept.heap_alloc wp1 _).1
    have NL1 : wp1.heap.size < wg1.heap.size := by rw [← hG1]; simp
    clear hG1
    replace HK := Lib.hid (HK.out.add FE.out GG1 (b := wp1.heap.size) (cs := [.int .i64 0, .int .i64 0, .int .i64 1, .int .i64 0, .int .i64 0, .int .i64 0, .int .i64 1, .int .i64 0, .int .i64 3, .int .i64 0, .int .i64 4, .int .i64 6, .int .i64 8, .int .i64 2, .int .i64 4, .int .i64 0, .int .i64 3, .int .i64 0, .int .i64 4, .int .i64 0, .int .i64 4, .int .i64 0, .int .i64 10, .int .i64 0]) NC1 (Nat.le_refl _))
    refine Evo2.va ok 37 _ _ ?_
    refine Evo2.done (by decide +kernel) (fun wz gz => ?_)
    have AZ := Chg.trans (Chg.trans AP1 (Chg.grow GG1)) (Chg.grow gz)
    have NC1 := (gz.block _ NL1).trans NC1
    replace HK := Lib.hid (HK.out.grow FE.out gz)
    dsimp only [PostN] 
    (repeat apply Exists.intro) 
    refine ⟨rfl, Lib.hid ?_⟩ 
    have HL := HK.out 
    simp only [List.nil_append, List.cons_append, List.set_cons_zero, List.set_cons_succ] at HL 
    exact HL
  ·
    rintro A W5 ⟨x13, x14, x15, x16, x17, x18, x19, x20, x21, x22, x23, x24, x25, x26, x27, x28, x29, x30, x31, x32, x33, x34, x35, x36, x37, x38, x39, x40, x41, x42, x43, x44, x45, x46, x47, x48, x49, bl, rfl, H6⟩
    replace H := H6
    clear H6 HK B0 B1 l0 l1 CE D0 D1 D2 D3 D4 D5 D6 D7 D8 D9 D10 D11
    go_wp2_with fail
    refine (WN.out _).mono ?_
    rintro e wx ⟨rfl, rfl⟩
    clear WN
    go_wp2_with fail
    have H2 := H.out.add FE.out (Grow.G.alloc (Grow.G.refl _) (.cells #[.int .i64 0, .int .i64 0, .int .i64 1, .int .i64 0, .int .i64 0, .int .i64 0, .int .i64 1, .int .i64 0, .int .i64 3, .int .i64 0, .int .i64 4, .int .i64 6, .int .i64 8, .int .i64 2, .int .i64 4, .int .i64 0, .int .i64 3, .int .i64 0, .int .i64 4, .int .i64 0, .int .i64 4, .int .i64 0, .int .i64 10, .int .i64 0] 30)) (b := W5.heap.size) (cs := [.int .i64 0, .int .i64 0, .int .i64 1, .int .i64 0, .int .i64 0, .int .i64 0, .int .i64 1, .int .i64 0, .int .i64 3, .int .i64 0, .int .i64 4, .int .i64 6, .int .i64 8, .int .i64 2, .int .i64 4, .int .i64 0, .int .i64 3, .int .i64 0, .int .i64 4, .int .i64 0, .int .i64 4, .int .i64 0, .int .i64 10, .int .i64 0]) (Blk.new _ _ _) (Nat.le_refl _)
    simp only [K0, K1, L1, L2, K2, K3, K4, K5, K6, K7, Nat.reduceAdd, Nat.reduceSub] at H2
    have HB := Lib.hid H2.below
    have BL := Lib.hid (H2.mem.blk (i := 2) rfl)
    have BW := Lib.hid (H2.mem.blk (i := 3) rfl)
    have hk : k = 0 ∨ k = 1 ∨ k = 2 ∨ k = 3 ∨ k = 4 ∨ k = 5 ∨ k = 6 ∨ k = 7 ∨ k = 8 ∨ k = 9 ∨ k = 10 ∨ k = 11 := by omega
    clear H H2 rk
    refine wp_spec (fun a0 A W => ∃ x67 x68 x69 x70 x71 x72 x73 x74 x75 : Value, A = ((((((((((a0.put (some 2) (.bool true)).put (some 67) x67).put (some 68) x68).put (some 69) x69).put (some 70) x70).put (some 71) x71).put (some 72) x72).put (some 73) x73).put (some 74) x74).put (some 75) x75) ∧ Grow.G (W5.alloc (.cells #[.int .i64 0, .int .i64 0, .int .i64 1, .int .i64 0, .int .i64 0, .int .i64 0, .int .i64 1, .int .i64 0, .int .i64 3, .int .i64 0, .int .i64 4, .int .i64 6, .int .i64 8, .int .i64 2, .int .i64 4, .int .i64 0, .int .i64 3, .int .i64 0, .int .i64 4, .int .i64 0, .int .i64 4, .int .i64 0, .int .i64 10, .int .i64 0] 30)) W) ?_ ?_
    all_goals simp only [Act.put, L0, L1, L2]
    ·
      rcases hk with rfl | rfl | rfl | rfl | rfl | rfl | rfl | rfl | rfl | rfl | rfl | rfl
      ·
        have KC := Lib.hid (fun (w' : World) (h : Chg (fun _ => False) (W5.alloc (.cells #[.int .i64 0, .int .i64 0, .int .i64 1, .int .i64 0, .int .i64 0, .int .i64 0, .int .i64 1, .int .i64 0, .int .i64 3, .int .i64 0, .int .i64 4, .int .i64 6, .int .i64 8, .int .i64 2, .int .i64 4, .int .i64 0, .int .i64 3, .int .i64 0, .int .i64 4, .int .i64 0, .int .i64 4, .int .i64 0, .int .i64 10, .int .i64 0] 30)) w') => (⟨h.cell ((BL.out.cell 0).trans rfl) (fun h => h), h.cell ((BL.out.cell 1).trans rfl) (fun h => h), h.cell ((BW.out.cell 0).trans rfl) (fun h => h), h.cell ((BW.out.cell 1).trans rfl) (fun h => h), trivial⟩ : w'.cell? ⟨bl, 0, none⟩ = some (.int .i64 0) ∧ w'.cell? ⟨bl, 1, none⟩ = some (.int .i64 0) ∧ w'.cell? ⟨W5.heap.size, 0, none⟩ = some (.int .i64 0) ∧ w'.cell? ⟨W5.heap.size, 1, none⟩ = some (.int .i64 0) ∧ True))
        refine Evo2.start' (ℓ := none) (S := Chg (fun _ => False)) (E := Grow.G) (by kernel_rfl) ⟨Chg.pre _, by decide +kernel, (by intro c a d v w h; cases d <;> exact h), by decide +kernel⟩ (fun ok => ?_)
        refine Evo2.va ok 0 _ _ ?_
        refine Evo2.va ok 1 _ _ ?_
        refine Evo2.va ok 2 _ _ ?_
        first | (refine Evo2.vl ok 3 KC.out (Chg.refl (fun _ => False) _) _ _ ?_) | (refine Evo2.va ok 3 _ _ ?_)
        refine Evo2.va ok 4 _ _ ?_
        refine Evo2.va ok 5 _ _ ?_
        refine Evo2.va ok 6 _ _ ?_
        first | (refine Evo2.vl ok 7 KC.out (Chg.refl (fun _ => False) _) _ _ ?_) | (refine Evo2.va ok 7 _ _ ?_)
        refine Evo2.va ok 8 _ _ ?_
        refine Evo2.va ok 9 _ _ ?_
        refine Evo2.done (by decide +kernel) (fun wz gz => ?_)
        have AZ := Chg.trans (Chg.refl (fun _ => False) _) (Chg.grow gz)
        dsimp only [PostN] 
        (repeat apply Exists.intro) 
        exact ⟨rfl, AZ.toGrow (fun _ _ h => h)⟩
      ·
        have KC := Lib.hid (fun (w' : World) (h : Chg (fun _ => False) (W5.alloc (.cells #[.int .i64 0, .int .i64 0, .int .i64 1, .int .i64 0, .int .i64 0, .int .i64 0, .int .i64 1, .int .i64 0, .int .i64 3, .int .i64 0, .int .i64 4, .int .i64 6, .int .i64 8, .int .i64 2, .int .i64 4, .int .i64 0, .int .i64 3, .int .i64 0, .int .i64 4, .int .i64 0, .int .i64 4, .int .i64 0, .int .i64 10, .int .i64 0] 30)) w') => (⟨h.cell ((BL.out.cell 2).trans rfl) (fun h => h), h.cell ((BL.out.cell 3).trans rfl) (fun h => h), h.cell ((BW.out.cell 2).trans rfl) (fun h => h), h.cell ((BW.out.cell 3).trans rfl) (fun h => h), trivial⟩ : w'.cell? ⟨bl, 2, none⟩ = some (.int .i64 1) ∧ w'.cell? ⟨bl, 3, none⟩ = some (.int .i64 0) ∧ w'.cell? ⟨W5.heap.size, 2, none⟩ = some (.int .i64 1) ∧ w'.cell? ⟨W5.heap.size, 3, none⟩ = some (.int .i64 0) ∧ True))
        refine Evo2.start' (ℓ := none) (S := Chg (fun _ => False)) (E := Grow.G) (by kernel_rfl) ⟨Chg.pre _, by decide +kernel, (by intro c a d v w h; cases d <;> exact h), by decide +kernel⟩ (fun ok => ?_)
        refine Evo2.va ok 0 _ _ ?_
        refine Evo2.va ok 1 _ _ ?_
        refine Evo2.va ok 2 _ _ ?_
        first | (refine Evo2.vl ok 3 KC.out (Chg.refl (fun _ => False) _) _ _ ?_) | (refine Evo2.va ok 3 _ _ ?_)
        refine Evo2.va ok 4 _ _ ?_
        refine Evo2.va ok 5 _ _ ?_
        refine Evo2.va ok 6 _ _ ?_
        first | (refine Evo2.vl ok 7 KC.out (Chg.refl (fun _ => False) _) _ _ ?_) | (refine Evo2.va ok 7 _ _ ?_)
        refine Evo2.va ok 8 _ _ ?_
        refine Evo2.va ok 9 _ _ ?_
        refine Evo2.done (by decide +kernel) (fun wz gz => ?_)
        have AZ := Chg.trans (Chg.refl (fun _ => False) _) (Chg.grow gz)
        dsimp only [PostN] 
        (repeat apply Exists.intro) 
        exact ⟨rfl, AZ.toGrow (fun _ _ h => h)⟩
      ·
        have KC := Lib.hid (fun (w' : World) (h : Chg (fun _ => False) (W5.alloc (.cells #[.int .i64 0, .int .i64 0, .int .i64 1, .int .i64 0, .int .i64 0, .int .i64 0, .int .i64 1, .int .i64 0, .int .i64 3, .int .i64 0, .int .i64 4, .int .i64 6, .int .i64 8, .int .i64 2, .int .i64 4, .int .i64 0, .int .i64 3, .int .i64 0, .int .i64 4, .int .i64 0, .int .i64 4, .int .i64 0, .int .i64 10, .int .i64 0] 30)) w') => (⟨h.cell ((BL.out.cell 4).trans rfl) (fun h => h), h.cell ((BL.out.cell 5).trans rfl) (fun h => h), h.cell ((BW.out.cell 4).trans rfl) (fun h => h), h.cell ((BW.out.cell 5).trans rfl) (fun h => h), trivial⟩ : w'.cell? ⟨bl, 4, none⟩ = some (.int .i64 0) ∧ w'.cell? ⟨bl, 5, none⟩ = some (.int .i64 0) ∧ w'.cell? ⟨W5.heap.size, 4, none⟩ = some (.int .i64 0) ∧ w'.cell? ⟨W5.heap.size, 5, none⟩ = some (.int .i64 0) ∧ True))
        refine Evo2.start' (ℓ := none) (S := Chg (fun _ => False)) (E := Grow.G) (by kernel_rfl) ⟨Chg.pre _, by decide +kernel, (by intro c a d v w h; cases d <;> exact h), by decide +kernel⟩ (fun ok => ?_)
        refine Evo2.va ok 0 _ _ ?_
        refine Evo2.va ok 1 _ _ ?_
        refine Evo2.va ok 2 _ _ ?_
        first | (refine Evo2.vl ok 3 KC.out (Chg.refl (fun _ => False) _) _ _ ?_) | (refine Evo2.va ok 3 _ _ ?_)
        refine Evo2.va ok 4 _ _ ?_
        refine Evo2.va ok 5 _ _ ?_
        refine Evo2.va ok 6 _ _ ?_
        first | (refine Evo2.vl ok 7 KC.out (Chg.refl (fun _ => False) _) _ _ ?_) | (refine Evo2.va ok 7 _ _ ?_)
        refine Evo2.va ok 8 _ _ ?_
        refine Evo2.va ok 9 _ _ ?_
        refine Evo2.done (by decide +kernel) (fun wz gz => ?_)
        have AZ := Chg.trans (Chg.refl (fun _ => False) _) (Chg.grow gz)
        dsimp only [PostN] 
        (repeat apply Exists.intro) 
        exact ⟨rfl, AZ.toGrow (fun _ _ h => h)⟩
      ·
        have KC := Lib.hid (fun (w' : World) (h : Chg (fun _ => False) (W5.alloc (.cells #[.int .i64 0, .int .i64 0, .int .i64 1, .int .i64 0, .int .i64 0, .int .i64 0, .int .i64 1, .int .i64 0, .int .i64 3, .int .i64 0, .int .i64 4, .int .i64 6, .int .i64 8, .int .i64 2, .int .i64 4, .int .i64 0, .int .i64 3, .int .i64 0, .int .i64 4, .int .i64 0, .int .i64 4, .int .i64 0, .int .i64 10, .int .i64 0] 30)) w') => (⟨h.cell ((BL.out.cell 6).trans rfl) (fun h => h), h.cell ((BL.out.cell 7).trans rfl) (fun h => h), h.cell ((BW.out.cell 6).trans rfl) (fun h => h), h.cell ((BW.out.cell 7).trans rfl) (fun h => h), trivial⟩ : w'.cell? ⟨bl, 6, none⟩ = some (.int .i64 1) ∧ w'.cell? ⟨bl, 7, none⟩ = some (.int .i64 0) ∧ w'.cell? ⟨W5.heap.size, 6, none⟩ = some (.int .i64 1) ∧ w'.cell? ⟨W5.heap.size, 7, none⟩ = some (.int .i64 0) ∧ True))
        refine Evo2.start' (ℓ := none) (S := Chg (fun _ => False)) (E := Grow.G) (by kernel_rfl) ⟨Chg.pre _, by decide +kernel, (by intro c a d v w h; cases d <;> exact h), by decide +kernel⟩ (fun ok => ?_)
        refine Evo2.va ok 0 _ _ ?_
        refine Evo2.va ok 1 _ _ ?_
        refine Evo2.va ok 2 _ _ ?_
        first | (refine Evo2.vl ok 3 KC.out (Chg.refl (fun _ => False) _) _ _ ?_) | (refine Evo2.va ok 3 _ _ ?_)
        refine Evo2.va ok 4 _ _ ?_
        refine Evo2.va ok 5 _ _ ?_
        refine Evo2.va ok 6 _ _ ?_
        first | (refine Evo2.vl ok 7 KC.out (Chg.refl (fun _ => False) _) _ _ ?_) | (refine Evo2.va ok 7 _ _ ?_)
        refine Evo2.va ok 8 _ _ ?_
        refine Evo2.va ok 9 _ _ ?_
        refine Evo2.done (by decide +kernel) (fun wz gz => ?_)
        have AZ := Chg.trans (Chg.refl (fun _ => False) _) (Chg.grow gz)
        dsimp only [PostN] 
        (repeat apply Exists.intro) 
        exact ⟨rfl, AZ.toGrow (fun _ _ h => h)⟩
      ·
        have KC := Lib.hid (fun (w' : World) (h : Chg (fun _ => False) (W5.alloc (.cells #[.int .i64 0, .int .i64 0, .int .i64 1, .int .i64 0, .int .i64 0, .int .i64 0, .int .i64 1, .int .i64 0, .int .i64 3, .int .i64 0, .int .i64 4, .int .i64 6, .int .i64 8, .int .i64 2, .int .i64 4, .int .i64 0, .int .i64 3, .int .i64 0, .int .i64 4, .int .i64 0, .int .i64 4, .int .i64 0, .int .i64 10, .int .i64 0] 30)) w') => (⟨h.cell ((BL.out.cell 8).trans rfl) (fun h => h), h.cell ((BL.out.cell 9).trans rfl) (fun h => h), h.cell ((BW.out.cell 8).trans rfl) (fun h => h), h.cell ((BW.out.cell 9).trans rfl) (fun h => h), trivial⟩ : w'.cell? ⟨bl, 8, none⟩ = some (.int .i64 3) ∧ w'.cell? ⟨bl, 9, none⟩ = some (.int .i64 0) ∧ w'.cell? ⟨W5.heap.size, 8, none⟩ = some (.int .i64 3) ∧ w'.cell? ⟨W5.heap.size, 9, none⟩ = some (.int .i64 0) ∧ True))
        refine Evo2.start' (ℓ := none) (S := Chg (fun _ => False)) (E := Grow.G) (by kernel_rfl) ⟨Chg.pre _, by decide +kernel, (by intro c a d v w h; cases d <;> exact h), by decide +kernel⟩ (fun ok => ?_)
        refine Evo2.va ok 0 _ _ ?_
        refine Evo2.va ok 1 _ _ ?_
        refine Evo2.va ok 2 _ _ ?_
        first | (refine Evo2.vl ok 3 KC.out (Chg.refl (fun _ => False) _) _ _ ?_) | (refine Evo2.va ok 3 _ _ ?_)
        refine Evo2.va ok 4 _ _ ?_
        refine Evo2.va ok 5 _ _ ?_
        refine Evo2.va ok 6 _ _ ?_
        first | (refine Evo2.vl ok 7 KC.out (Chg.refl (fun _ => False) _) _ _ ?_) | (refine Evo2.va ok 7 _ _ ?_)
        refine Evo2.va ok 8 _ _ ?_
        refine Evo2.va ok 9 _ _ ?_
        refine Evo2.done (by decide +kernel) (fun wz gz => ?_)
        have AZ := Chg.trans (Chg.refl (fun _ => False) _) (Chg.grow gz)
        dsimp only [PostN] 
        (repeat apply Exists.intro) 
        exact ⟨rfl, AZ.toGrow (fun _ _ h => h)⟩
      ·
        have KC := Lib.hid (fun (w' : World) (h : Chg (fun _ => False) (W5.alloc (.cells #[.int .i64 0, .int .i64 0, .int .i64 1, .int .i64 0, .int .i64 0, .int .i64 0, .int .i64 1, .int .i64 0, .int .i64 3, .int .i64 0, .int .i64 4, .int .i64 6, .int .i64 8, .int .i64 2, .int .i64 4, .int .i64 0, .int .i64 3, .int .i64 0, .int .i64 4, .int .i64 0, .int .i64 4, .int .i64 0, .int .i64 10, .int .i64 0] 30)) w') => (⟨h.cell ((BL.out.cell 10).trans rfl) (fun h => h), h.cell ((BL.out.cell 11).trans rfl) (fun h => h), h.cell ((BW.out.cell 10).trans rfl) (fun h => h), h.cell ((BW.out.cell 11).trans rfl) (fun h => h), trivial⟩ : w'.cell? ⟨bl, 10, none⟩ = some (.int .i64 4) ∧ w'.cell? ⟨bl, 11, none⟩ = some (.int .i64 6) ∧ w'.cell? ⟨W5.heap.size, 10, none⟩ = some (.int .i64 4) ∧ w'.cell? ⟨W5.heap.size, 11, none⟩ = some (.int .i64 6) ∧ True))
        refine Evo2.start' (ℓ := none) (S := Chg (fun _ => False)) (E := Grow.G) (by kernel_rfl) ⟨Chg.pre _, by decide +kernel, (by intro c a d v w h; cases d <;> exact h), by decide +kernel⟩ (fun ok => ?_)
        refine Evo2.va ok 0 _ _ ?_
        refine Evo2.va ok 1 _ _ ?_
        refine Evo2.va ok 2 _ _ ?_
        first | (refine Evo2.vl ok 3 KC.out (Chg.refl (fun _ => False) _) _ _ ?_) | (refine Evo2.va ok 3 _ _ ?_)
        refine Evo2.va ok 4 _ _ ?_
        refine Evo2.va ok 5 _ _ ?_
        refine Evo2.va ok 6 _ _ ?_
        first | (refine Evo2.vl ok 7 KC.out (Chg.refl (fun _ => False) _) _ _ ?_) | (refine Evo2.va ok 7 _ _ ?_)
        refine Evo2.va ok 8 _ _ ?_
        refine Evo2.va ok 9 _ _ ?_
        refine Evo2.done (by decide +kernel) (fun wz gz => ?_)
        have AZ := Chg.trans (Chg.refl (fun _ => False) _) (Chg.grow gz)
        dsimp only [PostN] 
        (repeat apply Exists.intro) 
        exact ⟨rfl, AZ.toGrow (fun _ _ h => h)⟩
      ·
        have KC := Lib.hid (fun (w' : World) (h : Chg (fun _ => False) (W5.alloc (.cells #[.int .i64 0, .int .i64 0, .int .i64 1, .int .i64 0, .int .i64 0, .int .i64 0, .int .i64 1, .int .i64 0, .int .i64 3, .int .i64 0, .int .i64 4, .int .i64 6, .int .i64 8, .int .i64 2, .int .i64 4, .int .i64 0, .int .i64 3, .int .i64 0, .int .i64 4, .int .i64 0, .int .i64 4, .int .i64 0, .int .i64 10, .int .i64 0] 30)) w') => (⟨h.cell ((BL.out.cell 12).trans rfl) (fun h => h), h.cell ((BL.out.cell 13).trans rfl) (fun h => h), h.cell ((BW.out.cell 12).trans rfl) (fun h => h), h.cell ((BW.out.cell 13).trans rfl) (fun h => h), trivial⟩ : w'.cell? ⟨bl, 12, none⟩ = some (.int .i64 8) ∧ w'.cell? ⟨bl, 13, none⟩ = some (.int .i64 2) ∧ w'.cell? ⟨W5.heap.size, 12, none⟩ = some (.int .i64 8) ∧ w'.cell? ⟨W5.heap.size, 13, none⟩ = some (.int .i64 2) ∧ True))
        refine Evo2.start' (ℓ := none) (S := Chg (fun _ => False)) (E := Grow.G) (by kernel_rfl) ⟨Chg.pre _, by decide +kernel, (by intro c a d v w h; cases d <;> exact h), by decide +kernel⟩ (fun ok => ?_)
        refine Evo2.va ok 0 _ _ ?_
        refine Evo2.va ok 1 _ _ ?_
        refine Evo2.va ok 2 _ _ ?_
        first | (refine Evo2.vl ok 3 KC.out (Chg.refl (fun _ => False) _) _ _ ?_) | (refine Evo2.va ok 3 _ _ ?_)
        refine Evo2.va ok 4 _ _ ?_
        refine Evo2.va ok 5 _ _ ?_
        refine Evo2.va ok 6 _ _ ?_
        first | (refine Evo2.vl ok 7 KC.out (Chg.refl (fun _ => False) _) _ _ ?_) | (refine Evo2.va ok 7 _ _ ?_)
        refine Evo2.va ok 8 _ _ ?_
        refine Evo2.va ok 9 _ _ ?_
        refine Evo2.done (by decide +kernel) (fun wz gz => ?_)
        have AZ := Chg.trans (Chg.refl (fun _ => False) _) (Chg.grow gz)
        dsimp only [PostN] 
        (repeat apply Exists.intro) 
        exact ⟨rfl, AZ.toGrow (fun _ _ h => h)⟩
      ·
        have KC := Lib.hid (fun (w' : World) (h : Chg (fun _ => False) (W5.alloc (.cells #[.int .i64 0, .int .i64 0, .int .i64 1, .int .i64 0, .int .i64 0, .int .i64 0, .int .i64 1, .int .i64 0, .int .i64 3, .int .i64 0, .int .i64 4, .int .i64 6, .int .i64 8, .int .i64 2, .int .i64 4, .int .i64 0, .int .i64 3, .int .i64 0, .int .i64 4, .int .i64 0, .int .i64 4, .int .i64 0, .int .i64 10, .int .i64 0] 30)) w') => (⟨h.cell ((BL.out.cell 14).trans rfl) (fun h => h), h.cell ((BL.out.cell 15).trans rfl) (fun h => h), h.cell ((BW.out.cell 14).trans rfl) (fun h => h), h.cell ((BW.out.cell 15).trans rfl) (fun h => h), trivial⟩ : w'.cell? ⟨bl, 14, none⟩ = some (.int .i64 4) ∧ w'.cell? ⟨bl, 15, none⟩ = some (.int .i64 0) ∧ w'.cell? ⟨W5.heap.size, 14, none⟩ = some (.int .i64 4) ∧ w'.cell? ⟨W5.heap.size, 15, none⟩ = some (.int .i64 0) ∧ True))
        refine Evo2.start' (ℓ := none) (S := Chg (fun _ => False)) (E := Grow.G) (by kernel_rfl) ⟨Chg.pre _, by decide +kernel, (by intro c a d v w h; cases d <;> exact h), by decide +kernel⟩ (fun ok => ?_)
        refine Evo2.va ok 0 _ _ ?_
        refine Evo2.va ok 1 _ _ ?_
        refine Evo2.va ok 2 _ _ ?_
        first | (refine Evo2.vl ok 3 KC.out (Chg.refl (fun _ => False) _) _ _ ?_) | (refine Evo2.va ok 3 _ _ ?_)
        refine Evo2.va ok 4 _ _ ?_
        refine Evo2.va ok 5 _ _ ?_
        refine Evo2.va ok 6 _ _ ?_
        first | (refine Evo2.vl ok 7 KC.out (Chg.refl (fun _ => False) _) _ _ ?_) | (refine Evo2.va ok 7 _ _ ?_)
        refine Evo2.va ok 8 _ _ ?_
        refine Evo2.va ok 9 _ _ ?_
        refine Evo2.done (by decide +kernel) (fun wz gz => ?_)
        have AZ := Chg.trans (Chg.refl (fun _ => False) _) (Chg.grow gz)
        dsimp only [PostN] 
        (repeat apply Exists.intro) 
        exact ⟨rfl, AZ.toGrow (fun _ _ h => h)⟩
      ·
        have KC := Lib.hid (fun (w' : World) (h : Chg (fun _ => False) (W5.alloc (.cells #[.int .i64 0, .int .i64 0, .int .i64 1, .int .i64 0, .int .i64 0, .int .i64 0, .int .i64 1, .int .i64 0, .int .i64 3, .int .i64 0, .int .i64 4, .int .i64 6, .int .i64 8, .int .i64 2, .int .i64 4, .int .i64 0, .int .i64 3, .int .i64 0, .int .i64 4, .int .i64 0, .int .i64 4, .int .i64 0, .int .i64 10, .int .i64 0] 30)) w') => (⟨h.cell ((BL.out.cell 16).trans rfl) (fun h => h), h.cell ((BL.out.cell 17).trans rfl) (fun h => h), h.cell ((BW.out.cell 16).trans rfl) (fun h => h), h.cell ((BW.out.cell 17).trans rfl) (fun h => h), trivial⟩ : w'.cell? ⟨bl, 16, none⟩ = some (.int .i64 3) ∧ w'.cell? ⟨bl, 17, none⟩ = some (.int .i64 0) ∧ w'.cell? ⟨W5.heap.size, 16, none⟩ = some (.int .i64 3) ∧ w'.cell? ⟨W5.heap.size, 17, none⟩ = some (.int .i64 0) ∧ True))
        refine Evo2.start' (ℓ := none) (S := Chg (fun _ => False)) (E := Grow.G) (by kernel_rfl) ⟨Chg.pre _, by decide +kernel, (by intro c a d v w h; cases d <;> exact h), by decide +kernel⟩ (fun ok => ?_)
        refine Evo2.va ok 0 _ _ ?_
        refine Evo2.va ok 1 _ _ ?_
        refine Evo2.va ok 2 _ _ ?_
        first | (refine Evo2.vl ok 3 KC.out (Chg.refl (fun _ => False) _) _ _ ?_) | (refine Evo2.va ok 3 _ _ ?_)
        refine Evo2.va ok 4 _ _ ?_
        refine Evo2.va ok 5 _ _ ?_
        refine Evo2.va ok 6 _ _ ?_
        first | (refine Evo2.vl ok 7 KC.out (Chg.refl (fun _ => False) _) _ _ ?_) | (refine Evo2.va ok 7 _ _ ?_)
        refine Evo2.va ok 8 _ _ ?_
        refine Evo2.va ok 9 _ _ ?_
        refine Evo2.done (by decide +kernel) (fun wz gz => ?_)
        have AZ := Chg.trans (Chg.refl (fun _ => False) _) (Chg.grow gz)
        dsimp only [PostN] 
        (repeat apply Exists.intro) 
        exact ⟨rfl, AZ.toGrow (fun _ _ h => h)⟩
      ·
        have KC := Lib.hid (fun (w' : World) (h : Chg (fun _ => False) (W5.alloc (.cells #[.int .i64 0, .int .i64 0, .int .i64 1, .int .i64 0, .int .i64 0, .int .i64 0, .int .i64 1, .int .i64 0, .int .i64 3, .int .i64 0, .int .i64 4, .int .i64 6, .int .i64 8, .int .i64 2, .int .i64 4, .int .i64 0, .int .i64 3, .int .i64 0, .int .i64 4, .int .i64 0, .int .i64 4, .int .i64 0, .int .i64 10, .int .i64 0] 30)) w') => (⟨h.cell ((BL.out.cell 18).trans rfl) (fun h => h), h.cell ((BL.out.cell 19).trans rfl) (fun h => h), h.cell ((BW.out.cell 18).trans rfl) (fun h => h), h.cell ((BW.out.cell 19).trans rfl) (fun h => h), trivial⟩ : w'.cell? ⟨bl, 18, none⟩ = some (.int .i64 4) ∧ w'.cell? ⟨bl, 19, none⟩ = some (.int .i64 0) ∧ w'.cell? ⟨W5.heap.size, 18, none⟩ = some (.int .i64 4) ∧ w'.cell? ⟨W5.heap.size, 19, none⟩ = some (.int .i64 0) ∧ True))
        refine Evo2.start' (ℓ := none) (S := Chg (fun _ => False)) (E := Grow.G) (by kernel_rfl) ⟨Chg.pre _, by decide +kernel, (by intro c a d v w h; cases d <;> exact h), by decide +kernel⟩ (fun ok => ?_)
        refine Evo2.va ok 0 _ _ ?_
        refine Evo2.va ok 1 _ _ ?_
        refine Evo2.va ok 2 _ _ ?_
        first | (refine Evo2.vl ok 3 KC.out (Chg.refl (fun _ => False) _) _ _ ?_) | (refine Evo2.va ok 3 _ _ ?_)
        refine Evo2.va ok 4 _ _ ?_
        refine Evo2.va ok 5 _ _ ?_
        refine Evo2.va ok 6 _ _ ?_
        first | (refine Evo2.vl ok 7 KC.out (Chg.refl (fun _ => False) _) _ _ ?_) | (refine Evo2.va ok 7 _ _ ?_)
        refine Evo2.va ok 8 _ _ ?_
        refine Evo2.va ok 9 _ _ ?_
        refine Evo2.done (by decide +kernel) (fun wz gz => ?_)
        have AZ := Chg.trans (Chg.refl (fun _ => False) _) (Chg.grow gz)
        dsimp only [PostN] 
        (repeat apply Exists.intro) 
        exact ⟨rfl, AZ.toGrow (fun _ _ h => h)⟩
      ·
        have KC := Lib.hid (fun (w' : World) (h : Chg (fun _ => False) (W5.alloc (.cells #[.int .i64 0, .int .i64 0, .int .i64 1, .int .i64 0, .int .i64 0, .int .i64 0, .int .i64 1, .int .i64 0, .int .i64 3, .int .i64 0, .int .i64 4, .int .i64 6, .int .i64 8, .int .i64 2, .int .i64 4, .int .i64 0, .int .i64 3, .int .i64 0, .int .i64 4, .int .i64 0, .int .i64 4, .int .i64 0, .int .i64 10, .int .i64 0] 30)) w') => (⟨h.cell ((BL.out.cell 20).trans rfl) (fun h => h), h.cell ((BL.out.cell 21).trans rfl) (fun h => h), h.cell ((BW.out.cell 20).trans rfl) (fun h => h), h.cell ((BW.out.cell 21).trans rfl) (fun h => h), trivial⟩ : w'.cell? ⟨bl, 20, none⟩ = some (.int .i64 4) ∧ w'.cell? ⟨bl, 21, none⟩ = some (.int .i64 0) ∧ w'.cell? ⟨W5.heap.size, 20, none⟩ = some (.int .i64 4) ∧ w'.cell? ⟨W5.heap.size, 21, none⟩ = some (.int .i64 0) ∧ True))
        refine Evo2.start' (ℓ := none) (S := Chg (fun _ => False)) (E := Grow.G) (by kernel_rfl) ⟨Chg.pre _, by decide +kernel, (by intro c a d v w h; cases d <;> exact h), by decide +kernel⟩ (fun ok => ?_)
        refine Evo2.va ok 0 _ _ ?_
        refine Evo2.va ok 1 _ _ ?_
        refine Evo2.va ok 2 _ _ ?_
        first | (refine Evo2.vl ok 3 KC.out (Chg.refl (fun _ => False) _) _ _ ?_) | (refine Evo2.va ok 3 _ _ ?_)
        refine Evo2.va ok 4 _ _ ?_
        refine Evo2.va ok 5 _ _ ?_
        refine Evo2.va ok 6 _ _ ?_
        first | (refine Evo2.vl ok 7 KC.out (Chg.refl (fun _ => False) _) _ _ ?_) | (refine Evo2.va ok 7 _ _ ?_)
        refine Evo2.va ok 8 _ _ ?_
        refine Evo2.va ok 9 _ _ ?_
        refine Evo2.done (by decide +kernel) (fun wz gz => ?_)
        have AZ := Chg.trans (Chg.refl (fun _ => False) _) (Chg.grow gz)
        dsimp only [PostN] 
        (repeat apply Exists.intro) 
        exact ⟨rfl, AZ.toGrow (fun _ _ h => h)⟩
      ·
        have KC := Lib.hid (fun (w' : World) (h : Chg (fun _ => False) (W5.alloc (.cells #[.int .i64 0, .int .i64 0, .int .i64 1, .int .i64 0, .int .i64 0, .int .i64 0, .int .i64 1, .int .i64 0, .int .i64 3, .int .i64 0, .int .i64 4, .int .i64 6, .int .i64 8, .int .i64 2, .int .i64 4, .int .i64 0, .int .i64 3, .int .i64 0, .int .i64 4, .int .i64 0, .int .i64 4, .int .i64 0, .int .i64 10, .int .i64 0] 30)) w') => (⟨h.cell ((BL.out.cell 22).trans rfl) (fun h => h), h.cell ((BL.out.cell 23).trans rfl) (fun h => h), h.cell ((BW.out.cell 22).trans rfl) (fun h => h), h.cell ((BW.out.cell 23).trans rfl) (fun h => h), trivial⟩ : w'.cell? ⟨bl, 22, none⟩ = some (.int .i64 10) ∧ w'.cell? ⟨bl, 23, none⟩ = some (.int .i64 0) ∧ w'.cell? ⟨W5.heap.size, 22, none⟩ = some (.int .i64 10) ∧ w'.cell? ⟨W5.heap.size, 23, none⟩ = some (.int .i64 0) ∧ True))
        refine Evo2.start' (ℓ := none) (S := Chg (fun _ => False)) (E := Grow.G) (by kernel_rfl) ⟨Chg.pre _, by decide +kernel, (by intro c a d v w h; cases d <;> exact h), by decide +kernel⟩ (fun ok => ?_)
        refine Evo2.va ok 0 _ _ ?_
        refine Evo2.va ok 1 _ _ ?_
        refine Evo2.va ok 2 _ _ ?_
        first | (refine Evo2.vl ok 3 KC.out (Chg.refl (fun _ => False) _) _ _ ?_) | (refine Evo2.va ok 3 _ _ ?_)
        refine Evo2.va ok 4 _ _ ?_
        refine Evo2.va ok 5 _ _ ?_
        refine Evo2.va ok 6 _ _ ?_
        first | (refine Evo2.vl ok 7 KC.out (Chg.refl (fun _ => False) _) _ _ ?_) | (refine Evo2.va ok 7 _ _ ?_)
        refine Evo2.va ok 8 _ _ ?_
        refine Evo2.va ok 9 _ _ ?_
        refine Evo2.done (by decide +kernel) (fun wz gz => ?_)
        have AZ := Chg.trans (Chg.refl (fun _ => False) _) (Chg.grow gz)
        dsimp only [PostN] 
        (repeat apply Exists.intro) 
        exact ⟨rfl, AZ.toGrow (fun _ _ h => h)⟩
    ·
      rintro A W9 ⟨x67, x68, x69, x70, x71, x72, x73, x74, x75, rfl, hg⟩
      have HZ := Lib.hid (show Below w.heap.size w W9 from Below.trans HB.out (Below.mono hg HB.out.size))
      clear hg hk
      go_wp2_with fail
      go_ret
      exact ⟨rfl, HZ.out⟩
end Go.Proofs.Ytifkombocmdmfaa
