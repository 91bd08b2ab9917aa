
/- The walk of ScaleDown. -/
import Derived.Test.YtifkombocmdmfaaZ71
namespace Go.Proofs.Ytifkombocmdmfaa
set_option maxRecDepth 100000
set_option linter.unusedVariables false
set_option linter.unusedSimpArgs false
set_option linter.unnecessarySimpa false
open Go.RowKit

/-- Where it is at most, behind k turns. -/
def dnB (k : Nat) : Int := if k = 0 then 10 else if k = 1 then 5 else if k = 2 then 2 else if k = 3 then 1 else 0
theorem dnB_half (k : Nat) : dnB k / 2 ≤ dnB (k + 1) := by
  rcases Nat.lt_or_ge k 4 with h | h
  · rcases (show k = 0 ∨ k = 1 ∨ k = 2 ∨ k = 3 by omega) with rfl | rfl | rfl | rfl <;> decide
  · unfold dnB
    rw [if_neg (by omega), if_neg (by omega), if_neg (by omega), if_neg (by omega), if_neg (by omega), if_neg (by omega), if_neg (by omega), if_neg (by omega)]
    decide
theorem dn_step {x mn mx y b b' : Int} (h : mn ≤ mx) (h0 : 0 ≤ mn) (hx : x ≤ max mn b) (hb : b / 2 ≤ b') (hy : y = min mx (max mn (x / 2))) : mn ≤ y ∧ y ≤ mx ∧ y ≤ max mn b' := by omega
set_option maxHeartbeats 16000000 in
theorem walkScaleDown (w : World) (c : Cfg) (hc : c.wf ∧ c.nm.size ≤ 140737488351232) (n : Int) (hn : wf64 n) :
    Calls Try.prog 10 #[c.v, .int .i64 n] w fun e w' => e = .returned (.bool true) ∧ Below w.heap.size w w' := by
  have KN := Lib.hid (fun w => known10_any w)
  have FE := Lib.hid Emp.foot
  have GC := Lib.hid (fun w => gcfg_any c 0 w hc.1 (by unfold wf64; omega))
  have hd := scC_ok c 0
  have WA := Lib.hid (fun w => quietG0 (within10_any n 10 w (by omega) (by omega) hn.1 hn.2))
  have vb := withinI_range n 10 (by omega)
  generalize withinI n 10 = v at *
  have DQ := Lib.hid (fun (x : Int) (hx : 0 ≤ x ∧ x ≤ 10) => (⟨fun w => decide_any (Sc.still x x) (gCfg c 0) w (Sc.still_ok hx hx) hd, Sc.down hx hx hd⟩ : (∀ w, _) ∧ _))
  have HMX := hd.mx; have HMN := hd.mn
  clear hd hc hn
  generalize gCfg c 0 = d at *
  obtain ⟨cn, c1, c2, c3, c4, c5⟩ := c
  obtain ⟨dn, d1, d2, d3, d4, d5⟩ := d
  unfold Sc.G.args Sc.still at DQ
  unfold Cfg.v at *
  dsimp only at *
  go_enter Try.func10, Try.ntmps10
  go_wp2_with fail
  refine (KN.out _).mono ?_
  rintro e w1 ⟨rfl, hg⟩
  have H0 := ((Hold.nil w).alloc' Emp.foot [.string cn, .int .i64 c1, .int .i64 c2, .int .i64 c3, .int .i64 c4, .int .i64 c5] 25 rfl).grow Emp.foot hg
  simp only [K0, K1, L1, L2, K2, K3, K4, K5, K6, K7, Nat.reduceAdd, Nat.reduceSub] at H0
  have H := Lib.hid H0
  clear H0 hg
  go_wp2_with ((refine Mem.loadAll 0 (t := 25) rfl rfl rfl Try.underlying25 (n := 6) (by kernel_rfl) H.out.mem rfl rfl ?_))
  refine (GC.out _).mono ?_
  rintro e w2 ⟨rfl, hg⟩
  replace H := Lib.hid (H.out.grow FE.out hg)
  clear hg GC
  go_wp2_with ((refine Hold.storeAll 1 (t := 25) FE.out rfl rfl rfl rfl (n := 6) (by kernel_rfl) (Hold.alloc' H.out FE.out _ _ rfl) rfl rfl rfl rfl ?_; intro W3 HMm CW3))
  simp only [K0, K1, L1, L2, K2, K3, K4, K5, K6, K7, Nat.reduceAdd, Nat.reduceSub] at HMm
  replace H := Lib.hid HMm
  clear HMm
  refine Stay.go ?_
  go_wp2_with fail
  have B1 := Lib.hid (H.out.mem.blk (i := 1) rfl)
  have l1 := B1.out.lt
  have HK := H
  have KC := Lib.hid (fun (w' : World) (h : Chg (fun j => W3.heap.size ≤ j) W3 w') => (⟨h.cell ((B1.out.cell 4).trans rfl) (show ¬ W3.heap.size ≤ w2.heap.size by omega), trivial⟩ : w'.cell? ⟨w2.heap.size, 4, none⟩ = some (.int .i64 d4) ∧ True))
  have wv : IntKind.i64.wrap (1 + v) = 1 + v := IntWalk.i64_in _ ⟨by omega, by omega⟩
  refine wp_spec (fun a0 A W => ∃ x14 x15 x16 x17 x18 x19 x20 : Value, ∃ (bs : Nat) (x : Int), A = ((((((((a0.put (some 6) (.pointer (some ⟨bs, 0, none⟩))).put (some 14) x14).put (some 15) x15).put (some 16) x16).put (some 17) x17).put (some 18) x18).put (some 19) x19).put (some 20) x20) ∧ (0 ≤ x ∧ x ≤ 10) ∧ Hid (Hold w W [(w.heap.size, [.string cn, .int .i64 c1, .int .i64 c2, .int .i64 c3, .int .i64 c4, .int .i64 c5], 25), (w2.heap.size, [.string dn, .int .i64 d1, .int .i64 d2, .int .i64 d3, .int .i64 d4, .int .i64 d5], 25), (bs, [.int .i64 x, .int .i64 0], 30)] Emp)) ?_ ?_
  all_goals simp only [Act.put, L0, L1, L2]
  ·
    refine Evo2.start' (ℓ := some 8) (S := Chg (fun j => W3.heap.size ≤ j)) (E := Grow.G) (by kernel_rfl) ⟨Chg.pre _, by decide +kernel, (by intro c a d v w h; cases d <;> exact h), by decide +kernel⟩ (fun ok => ?_)
    refine Evo2.va ok 0 _ _ ?_
    first | (refine Evo2.vl ok 1 KC.out (Chg.refl (fun j => W3.heap.size ≤ j) _) _ _ ?_) | (refine Evo2.va ok 1 _ _ ?_)
    refine Evo2.va ok 2 _ _ ?_
    (refine Evo2.cal ok 3 ?_ 18 ?_ ?_ ?_ ?_; rotate_left 2; (focus (intro w'; go_simp <;> with_reducible rfl)); (focus (intro w' g'; with_reducible exact WA.out w')); simp only [Act.put, L0, L1, L2])
    refine Evo2.va ok 4 _ _ ?_
    refine Evo2.va ok 5 _ _ ?_
    refine Evo2.va ok 6 _ _ ?_
    refine Evo2.all [7] (by decide +kernel) rfl ?_
    intro wp1 gp1 iq hq
    simp only [List.mem_cons, List.mem_nil_iff, or_false] at hq
    have AP1 := Chg.trans (Chg.refl (fun j => W3.heap.size ≤ j) _) (Chg.grow gp1)
    replace HK := Lib.hid (HK.out.grow FE.out gp1)
    subst hq
    refine Evo2.runs (by rfl) (by rfl) (fun K' hK' => ?_)
    (try obtain ⟨q1⟩ := KC.out wp1 AP1)
    go_simp
    (try (simp only [Evo.after_value, Evo.after_skip]))
    refine hK'.out _ _ ?_
    clear hK'
    simp only [Act.put, L0, L1, L2]
    (try clear q1)
    refine ⟨.inr (Chg.alloc (Chg.refl _ _) _), ?_⟩
    generalize hG1 : World.alloc wp1 _ = wg1
    have GG1 : Grow.G wp1 wg1 := hG1 ▸ Grow.G.alloc (Grow.G.refl _) _
    have NC1 := (congrArg (fun W : World => W.heap[wp1.heap.size]?) hG1).symm.trans (MapKept.heap_alloc wp1 _).1
    have NL1 : wp1.heap.size < wg1.heap.size := by rw [← hG1]; simp
    clear hG1
    replace HK := Lib.hid (HK.out.add FE.out GG1 (b := wp1.heap.size) (cs := [.int .i64 0, .int .i64 0]) NC1 (Nat.le_refl _)); have LO1 := AP1.size
    refine Evo2.all [8] (by decide +kernel) rfl ?_
    intro wp2 gp2 iq hq
    simp only [List.mem_cons, List.mem_nil_iff, or_false] at hq
    have AP2 := Chg.trans (Chg.trans AP1 (Chg.grow GG1)) (Chg.grow gp2)
    replace HK := Lib.hid (HK.out.grow FE.out gp2)
    have NC1 := (gp2.block _ NL1).trans NC1
    have NL1 := Nat.lt_of_lt_of_le NL1 gp2.size
    subst hq
    refine upStoreAll (by rfl) (by rfl) rfl rfl rfl (n := 2) (by kernel_rfl) (HK.out.mem.blk (i := 2) rfl) rfl rfl rfl ?_
    intro wc2 BZ CW2
    have CH2 : Chg (fun j => W3.heap.size ≤ j) _ _ := CW2.mono (fun j _ e => by have e : j = _ := e; show _ ≤ j; omega)
    replace HK := Lib.hid (HK.out.set FE.out (i := 2) rfl BZ CW2)
    refine ⟨.inl (by first | rfl | trivial), ?_⟩
    simp only [Act.put, L0, L1, L2]
    refine Evo2.done (by decide +kernel) (fun wz gz => ?_)
    have AZ := Chg.trans (Chg.trans AP2 CH2) (Chg.grow gz)
    replace HK := Lib.hid (HK.out.grow FE.out gz)
    dsimp only [PostN] 
    (repeat apply Exists.intro) 
    refine ⟨rfl, ?bd, Lib.hid ?hl⟩ 
    case' hl => have HL := HK.out 
    case' hl => simp only [List.nil_append, List.cons_append, List.set_cons_zero, List.set_cons_succ] at HL 
    case' hl => exact HL 
    split <;> omega
  ·
    rintro A W4 ⟨x14, x15, x16, x17, x18, x19, x20, bs, x, rfl, hx, H6⟩
    replace H := H6
    clear H6 HK B1 l1 KC wv WA
    have c20 := H.out.mem.cell (i := 2) (o := 0) rfl rfl
    have c13 := H.out.mem.cell (i := 1) (o := 3) rfl rfl
    go_wp2_with fail
    clear c20 c13
    go_loopw [7, 8] (fun u i wr => ∃ (k : Nat) (x : Int), k ≤ 12 ∧ i = .int .i64 k ∧ u = .int .i64 x ∧ (0 ≤ x ∧ x ≤ 10) ∧ Hid ((1 ≤ k → d3 ≤ x) ∧ x ≤ max d3 (dnB k)) ∧ Hid (Hold w wr [(w.heap.size, [.string cn, .int .i64 c1, .int .i64 c2, .int .i64 c3, .int .i64 c4, .int .i64 c5], 25), (w2.heap.size, [.string dn, .int .i64 d1, .int .i64 d2, .int .i64 d3, .int .i64 d4, .int .i64 d5], 25), (bs, [.int .i64 x, .int .i64 0], 30)] Emp)) (fun _ i _ => 12 - (intOf i).toNat)
    case atStart => exact ⟨0, x, by omega, rfl, rfl, hx, Lib.hid ⟨fun h => by omega, by show x ≤ max d3 10; omega⟩, H⟩
    case round =>
      clear H hx
      obtain ⟨k, y, hk, rfl, rfl, hy, HI, H⟩ := hrel
      by_cases hlt : k < 12
      · have b0 : decide ((k : Int) < 12) = true := decide_eq_true (by omega)
        have hk1 : IntKind.i64.wrap ((k : Int) + 1) = (k : Int) + 1 := IntWalk.i64_in _ ⟨by omega, by omega⟩
        obtain ⟨QD, QL, QW⟩ := DQ.out y hy
        have Q := Lib.hid QD
        rw [QL, QW] at Q
        obtain ⟨q, hq⟩ : ∃ q, y / 2 = q := ⟨_, rfl⟩
        have HWQ := Lib.hid (show wrap64 (y.tdiv 2) = q by rw [Int.tdiv_eq_ediv_of_nonneg hy.1, hq]; exact IntWalk.wrap64_in _ ⟨by omega, by omega⟩)
        obtain ⟨X, hX⟩ : ∃ X, max d3 q = X := ⟨_, rfl⟩
        obtain ⟨Y, hY⟩ : ∃ Y, min d4 X = Y := ⟨_, rfl⟩
        rw [hq, hX, hY] at Q
        have U := Lib.hid (show (if d3 < q then q else d3) = X ∧ (if X < d4 then X else d4) = Y from ⟨by rw [← hX]; split <;> omega, by rw [← hY]; split <;> omega⟩)
        have ST := dn_step (y := Y) HMN.2 HMN.1 HI.out.2 (dnB_half k) (by rw [← hY, ← hX, ← hq])
        have hYb : 0 ≤ Y ∧ Y ≤ 10 := by omega
        have HST := Lib.hid ST
        clear ST QD QL QW hq hX hY hy HI
        go_wp2_with (first | (refine Mem.loadAll 2 (t := 30) rfl rfl rfl Try.underlying30 (n := 2) (by kernel_rfl) H.out.mem rfl rfl ?_) | (refine Mem.loadAll 1 (t := 25) rfl rfl rfl Try.underlying25 (n := 6) (by kernel_rfl) H.out.mem rfl rfl ?_))
        refine (Q.out _).mono ?_
        rintro e w6 ⟨rfl, hg⟩
        replace H := Lib.hid (H.out.grow FE.out hg)
        clear hg Q
        go_wp2_with ((refine Hold.storeAll 3 (t := 30) FE.out rfl rfl rfl rfl (n := 2) (by kernel_rfl) (Hold.alloc' H.out FE.out _ _ rfl) rfl rfl rfl rfl ?_; intro W7 HMm CW7))
        simp only [K0, K1, L1, L2, K2, K3, K4, K5, K6, K7, Nat.reduceAdd, Nat.reduceSub] at HMm
        replace H := Lib.hid HMm
        clear HMm
        refine Stay.go ?_
        have c30 := H.out.mem.cell (i := 3) (o := 0) rfl rfl
        have c31 := H.out.mem.cell (i := 3) (o := 1) rfl rfl
        have c13 := H.out.mem.cell (i := 1) (o := 3) rfl rfl
        have c14 := H.out.mem.cell (i := 1) (o := 4) rfl rfl
        obtain ⟨u1, u2⟩ := U.out
        have wq := HWQ.out
        have e1 : (Y != Y) = false := by simp
        have e0 : (Y == Y) = true := by simp
        go_wp2_with fail
        clear c30 c31 c13 c14 u1 u2 wq e1 e0
        have B3 := Lib.hid (H.out.mem.blk (i := 3) rfl)
        have l3 := B3.out.lt
        have n23 : w6.heap.size ≠ bs := fun e => H.out.mem.dist (i := 2) (j := 3) rfl rfl (by decide) e.symm
        have CS : (Try.prog.info? 30).map (·.size) = some 2 := by kernel_rfl
        have HK := H
        have KC := Lib.hid (fun (w' : World) (h : Chg (fun j => j = bs) W7 w') => (⟨h.cell ((B3.out.cell 0).trans rfl) n23, trivial⟩ : w'.cell? ⟨w6.heap.size, 0, none⟩ = some (.int .i64 Y) ∧ True))
        refine wp_spec (fun a0 A W => ∃ x47 x48 x49 : Value, A = ((((a0.put (some 7) (.int .i64 Y)).put (some 47) x47).put (some 48) x48).put (some 49) x49) ∧ Hid (Hold w W [(w.heap.size, [.string cn, .int .i64 c1, .int .i64 c2, .int .i64 c3, .int .i64 c4, .int .i64 c5], 25), (w2.heap.size, [.string dn, .int .i64 d1, .int .i64 d2, .int .i64 d3, .int .i64 d4, .int .i64 d5], 25), (bs, [.int .i64 Y, .int .i64 0], 30), (w6.heap.size, [.int .i64 Y, .int .i64 0], 30)] Emp)) ?_ ?_
        all_goals simp only [Act.put, L0, L1, L2]
        ·
          refine Evo2.start' (ℓ := none) (S := Chg (fun j => j = bs)) (E := Grow.G) (by kernel_rfl) ⟨Chg.pre _, by decide +kernel, (by intro c a d v w h; cases d <;> exact h), by decide +kernel⟩ (fun ok => ?_)
          first | (refine Evo2.val ok 0 ?_ ?_ ?_; rotate_left; (focus (intro w' hg; refine Box.exec_loadAll ?_ Try.underlying30 CS (B3.out.chg (Chg.trans (Chg.refl (fun j => j = bs) _) hg) n23) ?_; (all_goals (first | exact ⟨rfl, rfl⟩ | rfl)))); simp only [Act.put, L0, L1, L2]) | (refine Evo2.vl ok 0 KC.out (Chg.refl (fun j => j = bs) _) _ _ ?_) | (refine Evo2.va ok 0 _ _ ?_)
          refine Evo2.va ok 1 _ _ ?_
          first | (refine Evo2.val ok 2 ?_ ?_ ?_; rotate_left; (focus (intro w' hg; refine Box.exec_loadAll ?_ Try.underlying30 CS (B3.out.chg (Chg.trans (Chg.refl (fun j => j = bs) _) hg) n23) ?_; (all_goals (first | exact ⟨rfl, rfl⟩ | rfl)))); simp only [Act.put, L0, L1, L2]) | (refine Evo2.vl ok 2 KC.out (Chg.refl (fun j => j = bs) _) _ _ ?_) | (refine Evo2.va ok 2 _ _ ?_)
          refine Evo2.all [3] (by decide +kernel) rfl ?_
          intro wp1 gp1 iq hq
          simp only [List.mem_cons, List.mem_nil_iff, or_false] at hq
          have AP1 := Chg.trans (Chg.refl (fun j => j = bs) _) (Chg.grow gp1)
          replace HK := Lib.hid (HK.out.grow FE.out gp1)
          subst hq
          refine upStoreAll (by rfl) (by rfl) rfl rfl rfl (n := 2) (by kernel_rfl) (HK.out.mem.blk (i := 2) rfl) rfl rfl rfl ?_
          intro wc1 BZ CW1
          have CH1 : Chg (fun j => j = bs) _ _ := CW1.mono (fun j _ e => e)
          replace HK := Lib.hid (HK.out.set FE.out (i := 2) rfl BZ CW1)
          refine ⟨.inr CH1, ?_⟩
          simp only [Act.put, L0, L1, L2]
          refine Evo2.va ok 4 _ _ ?_
          refine Evo2.done (by decide +kernel) (fun wz gz => ?_)
          have AZ := Chg.trans (Chg.trans AP1 CH1) (Chg.grow gz)
          replace HK := Lib.hid (HK.out.grow FE.out gz)
          dsimp only [PostN] 
          (repeat apply Exists.intro) 
          refine ⟨rfl, Lib.hid ?_⟩ 
          have HL := HK.out 
          simp only [List.nil_append, List.cons_append, List.set_cons_zero, List.set_cons_succ] at HL 
          exact HL
        ·
          rintro A W8 ⟨x47, x48, x49, rfl, H6⟩
          replace H := H6
          clear H6 HK B3 l3 n23 CS KC
          go_wp2_with fail
          go_roundw
          case rel => exact ⟨k + 1, Y, by omega, by go_num, rfl, hYb, Lib.hid ⟨fun _ => HST.out.1, HST.out.2.2⟩, Lib.hid (H.out.take 3)⟩
          case measure => simp [intOf]; omega
      · obtain rfl : k = 12 := by omega
        have b0 : decide (((12 : Nat) : Int) < 12) = false := by decide
        have hy3 : y = d3 := by
          have h1 := HI.out.1 (by omega)
          have h2 := HI.out.2
          have h3 : dnB 12 = 0 := rfl
          omega
        have e3 : (y == d3) = true := by simpa using hy3
        clear hy3
        have c20 := H.out.mem.cell (i := 2) (o := 0) rfl rfl
        have c13 := H.out.mem.cell (i := 1) (o := 3) rfl rfl
        go_wp2_with fail
        go_ret
        exact ⟨rfl, H.out.below⟩
end Go.Proofs.Ytifkombocmdmfaa
