/- My own texts ScM, laid in one file. -/
import Derived.Test.YtifkombocmdmfaaZ69
import Derived.Test.YtifkombocmdmfaaZ2
import Derived.Test.YtifkombocmdmfaaZ4
import Derived.Handy

/- How many: the second form's Need, Decide. -/
namespace Go.Proofs.Ytifkombocmdmfaa
set_option maxRecDepth 100000
set_option linter.unusedVariables false
set_option linter.unusedSimpArgs false
set_option linter.unnecessarySimpa false
open Go.RowKit

theorem rneed_any (s n c : Int) (w : World) (hs : 0 ≤ s ∧ s ≤ 10000000) (hn : 0 ≤ n ∧ n ≤ 10000000) (hc : 1 ≤ c ∧ c ≤ 8) :
    Calls Try.prog 20 #[.int .i64 s, .int .i64 n, .int .i64 c] w fun e w' => e = .returned (.int .i64 (Sc.need s n c)) ∧ w = w' := by
  by_cases h0 : n = 0
  · subst h0
    rw [Sc.need_none]
    go_enter Try.func20, Try.ntmps20
    go_wp2_with fail
    go_ret
    exact ⟨rfl, rfl⟩
  · have hm := Sc.mul_bd hn hc
    have d0 : (n == 0) = false := by simpa using h0
    have w1 : IntKind.i64.wrap (n * c) = n * c := IntWalk.i64_in _ ⟨by omega, by omega⟩
    have w2 : IntKind.i64.wrap (s + n * c) = s + n * c := IntWalk.i64_in _ ⟨by omega, by omega⟩
    have w3 : IntKind.i64.wrap (s + n * c - 1) = s + n * c - 1 := IntWalk.i64_in _ ⟨by omega, by omega⟩
    have hne : ¬ n * c = 0 := by omega
    have RES := Lib.hid (show Sc.need s n c = (s + n * c - 1) / (n * c) by unfold Sc.need; rw [if_neg h0])
    have BD := Lib.hid (Sc.need_bd hs hn hc)
    go_enter Try.func20, Try.ntmps20
    go_wp2_with fail
    go_ret
    rw [RES.out]
    exact ⟨rfl, rfl⟩
theorem quietG0 {P : Program} {f : FuncId} {args : Array Value} {w : World} {v : Value} (h : Calls P f args w fun e w' => e = .returned v ∧ w = w') : Calls P f args w fun e w' => e = .returned v ∧ Grow.G w w' :=
  h.mono fun e w' ⟨q1, q2⟩ => ⟨q1, q2 ▸ Grow.G.refl _⟩
abbrev stV (wt lf : Int) : Value := .agg #[.int .i64 wt, .int .i64 lf]
abbrev scC (c : Cfg) : Sc.C := ⟨c.co, c.mn, c.mx, c.gr⟩
def Sc.G.args (g : Sc.G) (c : Cfg) : Array Value := #[stV g.wt g.lf, c.v, .int .i64 g.rd, .int .i64 g.bs, .int .i64 g.st, .int .i64 g.sts, .int .i64 g.sh, .int .i64 g.shs, .int .i64 g.id]
theorem clamp_steps (X m rd mn mx : Int) {q : Int} (hq : rd / 2 = q) : ∃ y1 y2 y3 y4, (if 4 * m < X then 4 * m else X) = y1 ∧ (if y1 < q then q else y1) = y2 ∧ (if y2 < mn then mn else y2) = y3 ∧ (if mx < y3 then mx else y3) = y4 ∧ y4 = Sc.clamp X m rd mn mx := by
  subst hq
  refine ⟨_, _, _, _, rfl, rfl, rfl, rfl, ?_⟩
  unfold Sc.clamp
  split <;> split <;> split <;> split <;> omega
set_option maxHeartbeats 64000000 in
theorem rdecide_any (g : Sc.G) (c : Cfg) (w : World) (hg : g.ok) (hc : (scC c).ok) :
    Calls Try.prog 17 (g.args c) w fun e w' => e = .returned (stV (Sc.want g (scC c)) (Sc.left g (scC c))) ∧ Grow.G w w' := by
  have A0 := Lib.hid (fun w => quietG0 (rneed_any g.st g.sts c.co w hg.st hg.sts hc.co))
  have B0 := Lib.hid (fun w => quietG0 (rneed_any g.sh g.shs c.co w hg.sh hg.shs hc.co))
  have hwant : Sc.want g (scC c) = Sc.clamp (Sc.w1 (Sc.w0 (Sc.need g.st g.sts c.co) (Sc.need g.sh g.shs c.co) g.wt (Sc.lft g.lf (Sc.need g.sh g.shs c.co) (max 1 g.rd))) g.bs g.wt g.id c.gr) (max 1 g.rd) g.rd c.mn c.mx := rfl
  have hleft : Sc.left g (scC c) = Sc.lft g.lf (Sc.need g.sh g.shs c.co) (max 1 g.rd) := rfl
  have ha := Sc.a_bd hg hc
  have hb := Sc.b_bd hg hc
  unfold Sc.a at ha
  unfold Sc.b at hb
  dsimp only at ha hb
  obtain ⟨h1, h2, h3, h4, -, -, -, -, h9⟩ := hg
  obtain ⟨k1, k2, k3, k4⟩ := hc
  rw [hwant, hleft]
  clear hwant hleft
  obtain ⟨wt, lf, rd, bs, st, sts, sh, shs, id⟩ := g
  obtain ⟨nm, im, co, mn, mx, gr⟩ := c
  unfold Sc.G.args Cfg.v
  dsimp only at *
  generalize Sc.need st sts co = a at *
  generalize Sc.need sh shs co = b at *
  obtain ⟨m, hm⟩ : ∃ m, max 1 rd = m := ⟨_, rfl⟩
  rw [hm]
  obtain ⟨RL, hRL⟩ : ∃ RL, Sc.lft lf b m = RL := ⟨_, rfl⟩
  obtain ⟨RW, hRW⟩ : ∃ RW, Sc.clamp (Sc.w1 (Sc.w0 a b wt RL) bs wt id gr) m rd mn mx = RW := ⟨_, rfl⟩
  rw [hRL, hRW]
  have HRL := Lib.hid hRL
  have HRW := Lib.hid hRW
  clear hRL hRW
  have hm2 : (if 1 < rd then rd else 1) = m := by rw [← hm]; split <;> omega
  have hm1 : 1 ≤ m ∧ m ≤ 30 := by omega
  have KC := Lib.hid (fun (w' : World) (h : Chg (fun _ => False) (((w.alloc (.cells #[.int .i64 wt, .int .i64 lf] 32)).alloc (.cells #[.string nm, .int .i64 im, .int .i64 co, .int .i64 mn, .int .i64 mx, .int .i64 gr] 25)).alloc (.cells #[.int .i64 0, .int .i64 0] 32)) w') => (⟨h.cell (Blk.at (cs := [.string nm, .int .i64 im, .int .i64 co, .int .i64 mn, .int .i64 mx, .int .i64 gr]) (k := 2) ((Blk.new (w.alloc (.cells #[.int .i64 wt, .int .i64 lf] 32)) _ _).alloc _) rfl) (fun h => h), trivial⟩ : w'.cell? ⟨(w.alloc (.cells #[.int .i64 wt, .int .i64 lf] 32)).heap.size, 2, none⟩ = some (.int .i64 co) ∧ True))
  simp only [World.size_alloc] at KC
  go_enter Try.func17, Try.ntmps17
  go_wp2_with fail
  refine Evo2.start' (ℓ := none) (S := Chg (fun _ => False)) (E := Grow.G) (by kernel_rfl) ⟨Chg.pre _, by decide +kernel, (by intro c a d v w h; cases d <;> exact h), by decide +kernel⟩ (fun ok => ?_)
  refine Evo2.va ok 0 _ _ ?_
  refine Evo2.va ok 1 _ _ ?_
  refine Evo2.va ok 2 _ _ ?_
  first | (refine Evo2.vl ok 3 KC.out (Chg.refl (fun _ => False) _) _ _ ?_) | (refine Evo2.va ok 3 _ _ ?_)
  (refine Evo2.cal ok 4 ?_ 20 ?_ ?_ ?_ ?_; rotate_left 2; (focus (intro w'; go_simp <;> with_reducible rfl)); (focus (intro w' g'; with_reducible exact A0.out w')); simp only [Act.put, L0, L1, L2])
  refine Evo2.va ok 5 _ _ ?_
  refine Evo2.va ok 6 _ _ ?_
  refine Evo2.va ok 7 _ _ ?_
  first | (refine Evo2.vl ok 8 KC.out (Chg.refl (fun _ => False) _) _ _ ?_) | (refine Evo2.va ok 8 _ _ ?_)
  (refine Evo2.cal ok 9 ?_ 20 ?_ ?_ ?_ ?_; rotate_left 2; (focus (intro w'; go_simp <;> with_reducible rfl)); (focus (intro w' g'; with_reducible exact B0.out w')); simp only [Act.put, L0, L1, L2])
  refine Evo2.va ok 10 _ _ ?_
  refine Evo2.va ok 11 _ _ ?_
  refine Evo2.done (by decide +kernel) (fun wz gz => ?_)
  have AZ := Chg.trans (Chg.refl (fun _ => False) _) (Chg.grow gz)
  have S0 : Blk wz w.heap.size #[.int .i64 wt, .int .i64 lf] 32 := (((Blk.new w _ _).alloc _).alloc _).chg AZ (fun h => h)
  have S1 : Blk wz (w.heap.size + 1) #[.string nm, .int .i64 im, .int .i64 co, .int .i64 mn, .int .i64 mx, .int .i64 gr] 25 := by
    have := ((Blk.new (w.alloc (.cells #[.int .i64 wt, .int .i64 lf] 32)) #[.string nm, .int .i64 im, .int .i64 co, .int .i64 mn, .int .i64 mx, .int .i64 gr] 25).alloc (.cells #[.int .i64 0, .int .i64 0] 32)).chg AZ (fun h => h)
    rwa [World.size_alloc] at this
  have S2 : Blk wz (w.heap.size + 2) #[.int .i64 0, .int .i64 0] 32 := by
    have := (Blk.new ((w.alloc (.cells #[.int .i64 wt, .int .i64 lf] 32)).alloc (.cells #[.string nm, .int .i64 im, .int .i64 co, .int .i64 mn, .int .i64 mx, .int .i64 gr] 25)) #[.int .i64 0, .int .i64 0] 32).chg AZ (fun h => h)
    simpa only [World.size_alloc] using this
  have GZ := Lib.hid (show Grow.G w wz from (by have := AZ.toGrow (fun _ _ h => h); exact (show Grow.G w (((w.alloc _).alloc _).alloc _) by (repeat (first | with_reducible exact Grow.G.refl _ | with_reducible exact Below.refl _ _ | with_reducible refine Grow.G.alloc ?_ _ | with_reducible refine Grow.G.trans ?_ hb1 | ((with_reducible refine Below.setCell ?_ ?_ _); rotate_left; (focus (first | omega | (simp; done) | (simp; omega)))) | with_reducible assumption | with_reducible refine Grow.G.trans ?_ (by with_reducible assumption)))).trans this))
  have HM : Hid (Mem w wz [(w.heap.size, [.int .i64 wt, .int .i64 lf], 32), (w.heap.size + 1, [.string nm, .int .i64 im, .int .i64 co, .int .i64 mn, .int .i64 mx, .int .i64 gr], 25), (w.heap.size + 2, [.int .i64 0, .int .i64 0], 32)]) := Lib.hid ⟨GZ.out, by
    intro b hb
    simp only [List.mem_cons, List.mem_nil_iff, or_false] at hb
    rcases hb with rfl | rfl | rfl
    · exact ⟨S0, Nat.le_refl _⟩
    · exact ⟨S1, Nat.le_succ _⟩
    · exact ⟨S2, Nat.le_add_right _ _⟩, by simp⟩
  clear S0 S1 S2 AZ KC A0 B0 gz GZ
  have wl : IntKind.i64.wrap (lf - 1) = lf - 1 := IntWalk.i64_in _ ⟨by omega, by omega⟩
  have wm : IntKind.i64.wrap (2 * m) = 2 * m := IntWalk.i64_in _ ⟨by omega, by omega⟩
  have wm4 : IntKind.i64.wrap (4 * m) = 4 * m := IntWalk.i64_in _ ⟨by omega, by omega⟩
  obtain ⟨l0, hl0⟩ : ∃ l0, max 0 (lf - 1) = l0 := ⟨_, rfl⟩
  have HL2 := Lib.hid (show (if 1 < lf then lf - 1 else 0) = l0 by rw [← hl0]; split <;> omega)
  obtain ⟨x, hx⟩ : ∃ x, max a (max b wt) = x := ⟨_, rfl⟩
  have HX2 := Lib.hid (show (if (if a < b then b else a) < wt then wt else (if a < b then b else a)) = x by rw [← hx]; split <;> split <;> omega)
  have HX := Lib.hid hx
  have hl0b : 0 ≤ l0 ∧ l0 ≤ 5 := by omega
  have hax : a ≤ x ∧ b ≤ x := by omega
  have HM2 := Lib.hid hm2
  obtain ⟨q, hq⟩ : ∃ q, rd / 2 = q := ⟨_, rfl⟩
  have HQ := Lib.hid hq
  have wq : wrap64 (rd.tdiv 2) = q := by rw [Int.tdiv_eq_ediv_of_nonneg h3.1, hq]; exact IntWalk.wrap64_in _ ⟨by omega, by omega⟩
  have HWQ := Lib.hid wq
  have HL0 := Lib.hid hl0
  clear hm hl0 h2 hm2 hx hq wq
  rcases Int.lt_or_le b (2 * m) with hb2 | hb2
  · have d1 : decide (2 * m ≤ b) = false := decide_eq_false (by omega)
    have eL : RL = l0 := by rw [← HRL.out, ← HL0.out]; unfold Sc.lft; rw [if_neg (by omega)]
    clear hb2
    rcases Int.lt_or_le 0 l0 with hp | hp
    · have d0 : decide (0 < l0) = true := decide_eq_true hp
      have eW : Sc.w0 a b wt l0 = x := by rw [← HX.out]; unfold Sc.w0; rw [if_pos hp]
      clear hp
      by_cases hx0 : x = 0
      · rw [hx0] at HX HX2 eW
        clear hax ha
        have hax := True.intro; have ha := True.intro
        clear hx0
        clear HX
        rcases Int.lt_or_le 0 bs with q1 | q1
        · have d3 : decide (0 < bs) = true := decide_eq_true q1
          have eX : Sc.w1 0 bs wt id gr = 1 := by unfold Sc.w1; rw [if_pos ⟨rfl, .inl q1⟩]
          obtain ⟨y1, y2, y3, y4, e1, e2, e3, e4, eC⟩ := clamp_steps 1 m rd mn mx HQ.out
          obtain rfl : y1 = 1 := by rw [← e1, if_neg (by omega)]
          have HE := Lib.hid (show RW = y4 ∧ RL = l0 from ⟨by rw [← HRW.out, eL, eW, eX, eC], eL⟩)
          have E2 := Lib.hid e2; have E3 := Lib.hid e3; have E4 := Lib.hid e4
          clear eC eL eW eX h1 h3 h4 h9 k1 k2 k3 k4 ha hb hax e1 e2 e3 e4
          clear q1
          have u1 := HL2.out
          have u2 := HM2.out
          go_wp2_with (first | (refine Mem.load1 0 (t := 3) rfl rfl rfl Try.underlying3 rfl HM.out rfl rfl ?_) | (refine Mem.storeAll 3 (t := 32) rfl rfl rfl rfl (n := 2) (by kernel_rfl) (Mem.alloc' HM.out _ _ rfl) rfl rfl rfl rfl ?_; intro V1 HMm CV1))
          simp only [K0, K1, L1, L2, K2, K3, K4, K5, K6, K7, Nat.reduceAdd, Nat.reduceSub] at HMm
          replace HM := Lib.hid HMm
          clear HMm
          refine Stay.go ?_
          clear u1 u2
          have u1 := HX2.out
          go_wp2_with (first | (refine Mem.load1 3 (t := 3) rfl rfl rfl Try.underlying3 rfl HM.out rfl rfl ?_) | (refine Mem.load1 0 (t := 3) rfl rfl rfl Try.underlying3 rfl HM.out rfl rfl ?_) | (refine Mem.store 3 (t := 3) rfl rfl rfl rfl (vs := [.int .i64 0]) rfl (n := 1) (by kernel_rfl) HM.out rfl rfl (by simp) rfl ?_; intro V3 HMm CV3))
          simp only [K0, K1, L1, L2, K2, K3, K4, K5, K6, K7, Nat.reduceAdd, Nat.reduceSub] at HMm
          replace HM := Lib.hid HMm
          clear HMm
          refine Stay.go ?_
          clear u1
          have c00 := HM.out.cell (i := 0) (o := 0) rfl rfl
          have c15 := HM.out.cell (i := 1) (o := 5) rfl rfl
          go_wp2_with (first | (with_reducible refine Mem.isList ?_; refine Mem.load1 3 (t := 3) rfl rfl rfl Try.underlying3 rfl HM.out rfl rfl ?_) | (with_reducible refine Mem.isList ?_; refine Mem.store 3 (t := 3) rfl rfl rfl rfl (vs := [.int .i64 1]) rfl (n := 1) (by kernel_rfl) HM.out rfl rfl (by simp) rfl ?_; intro V9 HMm CV9))
          simp only [K0, K1, L1, L2, K2, K3, K4, K5, K6, K7, Nat.reduceAdd, Nat.reduceSub] at HMm
          replace HM := Lib.hid HMm
          clear HMm
          refine Stay.go ?_
          clear c00 c15
          go_wp2_with (first | (with_reducible refine Mem.isList ?_; refine Mem.load1 3 (t := 3) rfl rfl rfl Try.underlying3 rfl HM.out rfl rfl ?_) | (with_reducible refine Mem.isList ?_; refine Mem.store 3 (t := 3) rfl rfl rfl rfl (vs := [.int .i64 1]) rfl (n := 1) (by kernel_rfl) HM.out rfl rfl (by simp) rfl ?_; intro V4 HMm CV4))
          simp only [K0, K1, L1, L2, K2, K3, K4, K5, K6, K7, Nat.reduceAdd, Nat.reduceSub] at HMm
          replace HM := Lib.hid HMm
          clear HMm
          refine Stay.go ?_
          have u1 := E2.out
          have u2 := HWQ.out
          go_wp2_with (first | (refine Mem.load1 3 (t := 3) rfl rfl rfl Try.underlying3 rfl HM.out rfl rfl ?_) | (refine Mem.store 3 (t := 3) rfl rfl rfl rfl (vs := [.int .i64 y2]) rfl (n := 1) (by kernel_rfl) HM.out rfl rfl (by simp) rfl ?_; intro V5 HMm CV5))
          simp only [K0, K1, L1, L2, K2, K3, K4, K5, K6, K7, Nat.reduceAdd, Nat.reduceSub] at HMm
          replace HM := Lib.hid HMm
          clear HMm
          refine Stay.go ?_
          clear u1 u2
          have u1 := E3.out
          go_wp2_with (first | (refine Mem.load1 3 (t := 3) rfl rfl rfl Try.underlying3 rfl HM.out rfl rfl ?_) | (refine Mem.load1 1 (t := 3) rfl rfl rfl Try.underlying3 rfl HM.out rfl rfl ?_) | (refine Mem.store 3 (t := 3) rfl rfl rfl rfl (vs := [.int .i64 y3]) rfl (n := 1) (by kernel_rfl) HM.out rfl rfl (by simp) rfl ?_; intro V6 HMm CV6))
          simp only [K0, K1, L1, L2, K2, K3, K4, K5, K6, K7, Nat.reduceAdd, Nat.reduceSub] at HMm
          replace HM := Lib.hid HMm
          clear HMm
          refine Stay.go ?_
          clear u1
          have u1 := E4.out
          go_wp2_with (first | (refine Mem.load1 3 (t := 3) rfl rfl rfl Try.underlying3 rfl HM.out rfl rfl ?_) | (refine Mem.load1 1 (t := 3) rfl rfl rfl Try.underlying3 rfl HM.out rfl rfl ?_) | (refine Mem.store 3 (t := 3) rfl rfl rfl rfl (vs := [.int .i64 y4]) rfl (n := 1) (by kernel_rfl) HM.out rfl rfl (by simp) rfl ?_; intro V7 HMm CV7))
          simp only [K0, K1, L1, L2, K2, K3, K4, K5, K6, K7, Nat.reduceAdd, Nat.reduceSub] at HMm
          replace HM := Lib.hid HMm
          clear HMm
          refine Stay.go ?_
          clear u1
          go_wp2_with (first | (refine Mem.loadAll 3 (t := 32) rfl rfl rfl Try.underlying32 (n := 2) (by kernel_rfl) HM.out rfl rfl ?_) | (refine Mem.storeAll 2 (t := 32) rfl rfl rfl rfl (n := 2) (by kernel_rfl) HM.out rfl rfl rfl rfl ?_; intro V8 HMm CV8))
          simp only [K0, K1, L1, L2, K2, K3, K4, K5, K6, K7, Nat.reduceAdd, Nat.reduceSub] at HMm
          replace HM := Lib.hid HMm
          clear HMm
          refine Stay.go ?_
          go_wp2_with fail
          have B2 := HM.out.blk (i := 2) rfl
          refine bodyPost_ret (v := stV y4 l0) (by simp [results, Try.results17, go_sem, B2.cell]) rfl ?_
          exact ⟨by rw [HE.out.1, HE.out.2], HM.out.below⟩
        · have d3 : decide (0 < bs) = false := decide_eq_false (by omega)
          rcases Int.lt_or_le 0 wt with q2 | q2
          · have d4 : decide (0 < wt) = true := decide_eq_true q2
            rcases Int.lt_or_le id gr with q3 | q3
            · have d5 : decide (id < gr) = true := decide_eq_true q3
              have eX : Sc.w1 0 bs wt id gr = 1 := by unfold Sc.w1; rw [if_pos ⟨rfl, .inr ⟨q2, q3⟩⟩]
              obtain ⟨y1, y2, y3, y4, e1, e2, e3, e4, eC⟩ := clamp_steps 1 m rd mn mx HQ.out
              obtain rfl : y1 = 1 := by rw [← e1, if_neg (by omega)]
              have HE := Lib.hid (show RW = y4 ∧ RL = l0 from ⟨by rw [← HRW.out, eL, eW, eX, eC], eL⟩)
              have E2 := Lib.hid e2; have E3 := Lib.hid e3; have E4 := Lib.hid e4
              clear eC eL eW eX h1 h3 h4 h9 k1 k2 k3 k4 ha hb hax e1 e2 e3 e4
              clear q1 q2 q3
              have u1 := HL2.out
              have u2 := HM2.out
              go_wp2_with (first | (refine Mem.load1 0 (t := 3) rfl rfl rfl Try.underlying3 rfl HM.out rfl rfl ?_) | (refine Mem.storeAll 3 (t := 32) rfl rfl rfl rfl (n := 2) (by kernel_rfl) (Mem.alloc' HM.out _ _ rfl) rfl rfl rfl rfl ?_; intro V1 HMm CV1))
              simp only [K0, K1, L1, L2, K2, K3, K4, K5, K6, K7, Nat.reduceAdd, Nat.reduceSub] at HMm
              replace HM := Lib.hid HMm
              clear HMm
              refine Stay.go ?_
              clear u1 u2
              have u1 := HX2.out
              go_wp2_with (first | (refine Mem.load1 3 (t := 3) rfl rfl rfl Try.underlying3 rfl HM.out rfl rfl ?_) | (refine Mem.load1 0 (t := 3) rfl rfl rfl Try.underlying3 rfl HM.out rfl rfl ?_) | (refine Mem.store 3 (t := 3) rfl rfl rfl rfl (vs := [.int .i64 0]) rfl (n := 1) (by kernel_rfl) HM.out rfl rfl (by simp) rfl ?_; intro V3 HMm CV3))
              simp only [K0, K1, L1, L2, K2, K3, K4, K5, K6, K7, Nat.reduceAdd, Nat.reduceSub] at HMm
              replace HM := Lib.hid HMm
              clear HMm
              refine Stay.go ?_
              clear u1
              have c00 := HM.out.cell (i := 0) (o := 0) rfl rfl
              have c15 := HM.out.cell (i := 1) (o := 5) rfl rfl
              go_wp2_with (first | (with_reducible refine Mem.isList ?_; refine Mem.load1 3 (t := 3) rfl rfl rfl Try.underlying3 rfl HM.out rfl rfl ?_) | (with_reducible refine Mem.isList ?_; refine Mem.store 3 (t := 3) rfl rfl rfl rfl (vs := [.int .i64 1]) rfl (n := 1) (by kernel_rfl) HM.out rfl rfl (by simp) rfl ?_; intro V9 HMm CV9))
              simp only [K0, K1, L1, L2, K2, K3, K4, K5, K6, K7, Nat.reduceAdd, Nat.reduceSub] at HMm
              replace HM := Lib.hid HMm
              clear HMm
              refine Stay.go ?_
              clear c00 c15
              go_wp2_with (first | (with_reducible refine Mem.isList ?_; refine Mem.load1 3 (t := 3) rfl rfl rfl Try.underlying3 rfl HM.out rfl rfl ?_) | (with_reducible refine Mem.isList ?_; refine Mem.store 3 (t := 3) rfl rfl rfl rfl (vs := [.int .i64 1]) rfl (n := 1) (by kernel_rfl) HM.out rfl rfl (by simp) rfl ?_; intro V4 HMm CV4))
              simp only [K0, K1, L1, L2, K2, K3, K4, K5, K6, K7, Nat.reduceAdd, Nat.reduceSub] at HMm
              replace HM := Lib.hid HMm
              clear HMm
              refine Stay.go ?_
              have u1 := E2.out
              have u2 := HWQ.out
              go_wp2_with (first | (refine Mem.load1 3 (t := 3) rfl rfl rfl Try.underlying3 rfl HM.out rfl rfl ?_) | (refine Mem.store 3 (t := 3) rfl rfl rfl rfl (vs := [.int .i64 y2]) rfl (n := 1) (by kernel_rfl) HM.out rfl rfl (by simp) rfl ?_; intro V5 HMm CV5))
              simp only [K0, K1, L1, L2, K2, K3, K4, K5, K6, K7, Nat.reduceAdd, Nat.reduceSub] at HMm
              replace HM := Lib.hid HMm
              clear HMm
              refine Stay.go ?_
              clear u1 u2
              have u1 := E3.out
              go_wp2_with (first | (refine Mem.load1 3 (t := 3) rfl rfl rfl Try.underlying3 rfl HM.out rfl rfl ?_) | (refine Mem.load1 1 (t := 3) rfl rfl rfl Try.underlying3 rfl HM.out rfl rfl ?_) | (refine Mem.store 3 (t := 3) rfl rfl rfl rfl (vs := [.int .i64 y3]) rfl (n := 1) (by kernel_rfl) HM.out rfl rfl (by simp) rfl ?_; intro V6 HMm CV6))
              simp only [K0, K1, L1, L2, K2, K3, K4, K5, K6, K7, Nat.reduceAdd, Nat.reduceSub] at HMm
              replace HM := Lib.hid HMm
              clear HMm
              refine Stay.go ?_
              clear u1
              have u1 := E4.out
              go_wp2_with (first | (refine Mem.load1 3 (t := 3) rfl rfl rfl Try.underlying3 rfl HM.out rfl rfl ?_) | (refine Mem.load1 1 (t := 3) rfl rfl rfl Try.underlying3 rfl HM.out rfl rfl ?_) | (refine Mem.store 3 (t := 3) rfl rfl rfl rfl (vs := [.int .i64 y4]) rfl (n := 1) (by kernel_rfl) HM.out rfl rfl (by simp) rfl ?_; intro V7 HMm CV7))
              simp only [K0, K1, L1, L2, K2, K3, K4, K5, K6, K7, Nat.reduceAdd, Nat.reduceSub] at HMm
              replace HM := Lib.hid HMm
              clear HMm
              refine Stay.go ?_
              clear u1
              go_wp2_with (first | (refine Mem.loadAll 3 (t := 32) rfl rfl rfl Try.underlying32 (n := 2) (by kernel_rfl) HM.out rfl rfl ?_) | (refine Mem.storeAll 2 (t := 32) rfl rfl rfl rfl (n := 2) (by kernel_rfl) HM.out rfl rfl rfl rfl ?_; intro V8 HMm CV8))
              simp only [K0, K1, L1, L2, K2, K3, K4, K5, K6, K7, Nat.reduceAdd, Nat.reduceSub] at HMm
              replace HM := Lib.hid HMm
              clear HMm
              refine Stay.go ?_
              go_wp2_with fail
              have B2 := HM.out.blk (i := 2) rfl
              refine bodyPost_ret (v := stV y4 l0) (by simp [results, Try.results17, go_sem, B2.cell]) rfl ?_
              exact ⟨by rw [HE.out.1, HE.out.2], HM.out.below⟩
            · have d5 : decide (id < gr) = false := decide_eq_false (by omega)
              have eX : Sc.w1 0 bs wt id gr = 0 := by unfold Sc.w1; rw [if_neg (by rintro ⟨_, r | ⟨_, r⟩⟩ <;> omega)]
              obtain ⟨y1, y2, y3, y4, e1, e2, e3, e4, eC⟩ := clamp_steps 0 m rd mn mx HQ.out
              obtain rfl : y1 = 0 := by rw [← e1, if_neg (by omega)]
              have HE := Lib.hid (show RW = y4 ∧ RL = l0 from ⟨by rw [← HRW.out, eL, eW, eX, eC], eL⟩)
              have E2 := Lib.hid e2; have E3 := Lib.hid e3; have E4 := Lib.hid e4
              clear eC eL eW eX h1 h3 h4 h9 k1 k2 k3 k4 ha hb hax e1 e2 e3 e4
              clear q1 q2 q3
              have u1 := HL2.out
              have u2 := HM2.out
              go_wp2_with (first | (refine Mem.load1 0 (t := 3) rfl rfl rfl Try.underlying3 rfl HM.out rfl rfl ?_) | (refine Mem.storeAll 3 (t := 32) rfl rfl rfl rfl (n := 2) (by kernel_rfl) (Mem.alloc' HM.out _ _ rfl) rfl rfl rfl rfl ?_; intro V1 HMm CV1))
              simp only [K0, K1, L1, L2, K2, K3, K4, K5, K6, K7, Nat.reduceAdd, Nat.reduceSub] at HMm
              replace HM := Lib.hid HMm
              clear HMm
              refine Stay.go ?_
              clear u1 u2
              have u1 := HX2.out
              go_wp2_with (first | (refine Mem.load1 3 (t := 3) rfl rfl rfl Try.underlying3 rfl HM.out rfl rfl ?_) | (refine Mem.load1 0 (t := 3) rfl rfl rfl Try.underlying3 rfl HM.out rfl rfl ?_) | (refine Mem.store 3 (t := 3) rfl rfl rfl rfl (vs := [.int .i64 0]) rfl (n := 1) (by kernel_rfl) HM.out rfl rfl (by simp) rfl ?_; intro V3 HMm CV3))
              simp only [K0, K1, L1, L2, K2, K3, K4, K5, K6, K7, Nat.reduceAdd, Nat.reduceSub] at HMm
              replace HM := Lib.hid HMm
              clear HMm
              refine Stay.go ?_
              clear u1
              have c00 := HM.out.cell (i := 0) (o := 0) rfl rfl
              have c15 := HM.out.cell (i := 1) (o := 5) rfl rfl
              go_wp2_with (first | (with_reducible refine Mem.isList ?_; refine Mem.load1 3 (t := 3) rfl rfl rfl Try.underlying3 rfl HM.out rfl rfl ?_) | (with_reducible refine Mem.isList ?_; refine Mem.store 3 (t := 3) rfl rfl rfl rfl (vs := [.int .i64 0]) rfl (n := 1) (by kernel_rfl) HM.out rfl rfl (by simp) rfl ?_; intro V4 HMm CV4))
              simp only [K0, K1, L1, L2, K2, K3, K4, K5, K6, K7, Nat.reduceAdd, Nat.reduceSub] at HMm
              replace HM := Lib.hid HMm
              clear HMm
              refine Stay.go ?_
              have u1 := E2.out
              have u2 := HWQ.out
              go_wp2_with (first | (refine Mem.load1 3 (t := 3) rfl rfl rfl Try.underlying3 rfl HM.out rfl rfl ?_) | (refine Mem.store 3 (t := 3) rfl rfl rfl rfl (vs := [.int .i64 y2]) rfl (n := 1) (by kernel_rfl) HM.out rfl rfl (by simp) rfl ?_; intro V5 HMm CV5))
              simp only [K0, K1, L1, L2, K2, K3, K4, K5, K6, K7, Nat.reduceAdd, Nat.reduceSub] at HMm
              replace HM := Lib.hid HMm
              clear HMm
              refine Stay.go ?_
              clear u1 u2
              have u1 := E3.out
              go_wp2_with (first | (refine Mem.load1 3 (t := 3) rfl rfl rfl Try.underlying3 rfl HM.out rfl rfl ?_) | (refine Mem.load1 1 (t := 3) rfl rfl rfl Try.underlying3 rfl HM.out rfl rfl ?_) | (refine Mem.store 3 (t := 3) rfl rfl rfl rfl (vs := [.int .i64 y3]) rfl (n := 1) (by kernel_rfl) HM.out rfl rfl (by simp) rfl ?_; intro V6 HMm CV6))
              simp only [K0, K1, L1, L2, K2, K3, K4, K5, K6, K7, Nat.reduceAdd, Nat.reduceSub] at HMm
              replace HM := Lib.hid HMm
              clear HMm
              refine Stay.go ?_
              clear u1
              have u1 := E4.out
              go_wp2_with (first | (refine Mem.load1 3 (t := 3) rfl rfl rfl Try.underlying3 rfl HM.out rfl rfl ?_) | (refine Mem.load1 1 (t := 3) rfl rfl rfl Try.underlying3 rfl HM.out rfl rfl ?_) | (refine Mem.store 3 (t := 3) rfl rfl rfl rfl (vs := [.int .i64 y4]) rfl (n := 1) (by kernel_rfl) HM.out rfl rfl (by simp) rfl ?_; intro V7 HMm CV7))
              simp only [K0, K1, L1, L2, K2, K3, K4, K5, K6, K7, Nat.reduceAdd, Nat.reduceSub] at HMm
              replace HM := Lib.hid HMm
              clear HMm
              refine Stay.go ?_
              clear u1
              go_wp2_with (first | (refine Mem.loadAll 3 (t := 32) rfl rfl rfl Try.underlying32 (n := 2) (by kernel_rfl) HM.out rfl rfl ?_) | (refine Mem.storeAll 2 (t := 32) rfl rfl rfl rfl (n := 2) (by kernel_rfl) HM.out rfl rfl rfl rfl ?_; intro V8 HMm CV8))
              simp only [K0, K1, L1, L2, K2, K3, K4, K5, K6, K7, Nat.reduceAdd, Nat.reduceSub] at HMm
              replace HM := Lib.hid HMm
              clear HMm
              refine Stay.go ?_
              go_wp2_with fail
              have B2 := HM.out.blk (i := 2) rfl
              refine bodyPost_ret (v := stV y4 l0) (by simp [results, Try.results17, go_sem, B2.cell]) rfl ?_
              exact ⟨by rw [HE.out.1, HE.out.2], HM.out.below⟩
          · have d4 : decide (0 < wt) = false := decide_eq_false (by omega)
            have eX : Sc.w1 0 bs wt id gr = 0 := by unfold Sc.w1; rw [if_neg (by rintro ⟨_, r | ⟨r, _⟩⟩ <;> omega)]
            obtain ⟨y1, y2, y3, y4, e1, e2, e3, e4, eC⟩ := clamp_steps 0 m rd mn mx HQ.out
            obtain rfl : y1 = 0 := by rw [← e1, if_neg (by omega)]
            have HE := Lib.hid (show RW = y4 ∧ RL = l0 from ⟨by rw [← HRW.out, eL, eW, eX, eC], eL⟩)
            have E2 := Lib.hid e2; have E3 := Lib.hid e3; have E4 := Lib.hid e4
            clear eC eL eW eX h1 h3 h4 h9 k1 k2 k3 k4 ha hb hax e1 e2 e3 e4
            clear q1 q2
            have u1 := HL2.out
            have u2 := HM2.out
            go_wp2_with (first | (refine Mem.load1 0 (t := 3) rfl rfl rfl Try.underlying3 rfl HM.out rfl rfl ?_) | (refine Mem.storeAll 3 (t := 32) rfl rfl rfl rfl (n := 2) (by kernel_rfl) (Mem.alloc' HM.out _ _ rfl) rfl rfl rfl rfl ?_; intro V1 HMm CV1))
            simp only [K0, K1, L1, L2, K2, K3, K4, K5, K6, K7, Nat.reduceAdd, Nat.reduceSub] at HMm
            replace HM := Lib.hid HMm
            clear HMm
            refine Stay.go ?_
            clear u1 u2
            have u1 := HX2.out
            go_wp2_with (first | (refine Mem.load1 3 (t := 3) rfl rfl rfl Try.underlying3 rfl HM.out rfl rfl ?_) | (refine Mem.load1 0 (t := 3) rfl rfl rfl Try.underlying3 rfl HM.out rfl rfl ?_) | (refine Mem.store 3 (t := 3) rfl rfl rfl rfl (vs := [.int .i64 0]) rfl (n := 1) (by kernel_rfl) HM.out rfl rfl (by simp) rfl ?_; intro V3 HMm CV3))
            simp only [K0, K1, L1, L2, K2, K3, K4, K5, K6, K7, Nat.reduceAdd, Nat.reduceSub] at HMm
            replace HM := Lib.hid HMm
            clear HMm
            refine Stay.go ?_
            clear u1
            have c00 := HM.out.cell (i := 0) (o := 0) rfl rfl
            have c15 := HM.out.cell (i := 1) (o := 5) rfl rfl
            go_wp2_with (first | (with_reducible refine Mem.isList ?_; refine Mem.load1 3 (t := 3) rfl rfl rfl Try.underlying3 rfl HM.out rfl rfl ?_) | (with_reducible refine Mem.isList ?_; refine Mem.store 3 (t := 3) rfl rfl rfl rfl (vs := [.int .i64 0]) rfl (n := 1) (by kernel_rfl) HM.out rfl rfl (by simp) rfl ?_; intro V4 HMm CV4))
            simp only [K0, K1, L1, L2, K2, K3, K4, K5, K6, K7, Nat.reduceAdd, Nat.reduceSub] at HMm
            replace HM := Lib.hid HMm
            clear HMm
            refine Stay.go ?_
            have u1 := E2.out
            have u2 := HWQ.out
            go_wp2_with (first | (refine Mem.load1 3 (t := 3) rfl rfl rfl Try.underlying3 rfl HM.out rfl rfl ?_) | (refine Mem.store 3 (t := 3) rfl rfl rfl rfl (vs := [.int .i64 y2]) rfl (n := 1) (by kernel_rfl) HM.out rfl rfl (by simp) rfl ?_; intro V5 HMm CV5))
            simp only [K0, K1, L1, L2, K2, K3, K4, K5, K6, K7, Nat.reduceAdd, Nat.reduceSub] at HMm
            replace HM := Lib.hid HMm
            clear HMm
            refine Stay.go ?_
            clear u1 u2
            have u1 := E3.out
            go_wp2_with (first | (refine Mem.load1 3 (t := 3) rfl rfl rfl Try.underlying3 rfl HM.out rfl rfl ?_) | (refine Mem.load1 1 (t := 3) rfl rfl rfl Try.underlying3 rfl HM.out rfl rfl ?_) | (refine Mem.store 3 (t := 3) rfl rfl rfl rfl (vs := [.int .i64 y3]) rfl (n := 1) (by kernel_rfl) HM.out rfl rfl (by simp) rfl ?_; intro V6 HMm CV6))
            simp only [K0, K1, L1, L2, K2, K3, K4, K5, K6, K7, Nat.reduceAdd, Nat.reduceSub] at HMm
            replace HM := Lib.hid HMm
            clear HMm
            refine Stay.go ?_
            clear u1
            have u1 := E4.out
            go_wp2_with (first | (refine Mem.load1 3 (t := 3) rfl rfl rfl Try.underlying3 rfl HM.out rfl rfl ?_) | (refine Mem.load1 1 (t := 3) rfl rfl rfl Try.underlying3 rfl HM.out rfl rfl ?_) | (refine Mem.store 3 (t := 3) rfl rfl rfl rfl (vs := [.int .i64 y4]) rfl (n := 1) (by kernel_rfl) HM.out rfl rfl (by simp) rfl ?_; intro V7 HMm CV7))
            simp only [K0, K1, L1, L2, K2, K3, K4, K5, K6, K7, Nat.reduceAdd, Nat.reduceSub] at HMm
            replace HM := Lib.hid HMm
            clear HMm
            refine Stay.go ?_
            clear u1
            go_wp2_with (first | (refine Mem.loadAll 3 (t := 32) rfl rfl rfl Try.underlying32 (n := 2) (by kernel_rfl) HM.out rfl rfl ?_) | (refine Mem.storeAll 2 (t := 32) rfl rfl rfl rfl (n := 2) (by kernel_rfl) HM.out rfl rfl rfl rfl ?_; intro V8 HMm CV8))
            simp only [K0, K1, L1, L2, K2, K3, K4, K5, K6, K7, Nat.reduceAdd, Nat.reduceSub] at HMm
            replace HM := Lib.hid HMm
            clear HMm
            refine Stay.go ?_
            go_wp2_with fail
            have B2 := HM.out.blk (i := 2) rfl
            refine bodyPost_ret (v := stV y4 l0) (by simp [results, Try.results17, go_sem, B2.cell]) rfl ?_
            exact ⟨by rw [HE.out.1, HE.out.2], HM.out.below⟩
      · have d2 : (x == 0) = false := by simpa using hx0
        have eX : Sc.w1 x bs wt id gr = x := by unfold Sc.w1; rw [if_neg (fun r => hx0 r.1)]
        obtain ⟨y1, y2, y3, y4, e1, e2, e3, e4, eC⟩ := clamp_steps x m rd mn mx HQ.out
        have HE := Lib.hid (show RW = y4 ∧ RL = l0 from ⟨by rw [← HRW.out, eL, eW, eX, eC], eL⟩)
        have E1 := Lib.hid e1; have E2 := Lib.hid e2; have E3 := Lib.hid e3; have E4 := Lib.hid e4
        clear eC eL eW eX h1 h3 h4 h9 k1 k2 k3 k4 ha hb hax e1 e2 e3 e4
        clear hx0
        have u1 := HL2.out
        have u2 := HM2.out
        go_wp2_with (first | (refine Mem.load1 0 (t := 3) rfl rfl rfl Try.underlying3 rfl HM.out rfl rfl ?_) | (refine Mem.storeAll 3 (t := 32) rfl rfl rfl rfl (n := 2) (by kernel_rfl) (Mem.alloc' HM.out _ _ rfl) rfl rfl rfl rfl ?_; intro V1 HMm CV1))
        simp only [K0, K1, L1, L2, K2, K3, K4, K5, K6, K7, Nat.reduceAdd, Nat.reduceSub] at HMm
        replace HM := Lib.hid HMm
        clear HMm
        refine Stay.go ?_
        clear u1 u2
        have u1 := HX2.out
        go_wp2_with (first | (refine Mem.load1 3 (t := 3) rfl rfl rfl Try.underlying3 rfl HM.out rfl rfl ?_) | (refine Mem.load1 0 (t := 3) rfl rfl rfl Try.underlying3 rfl HM.out rfl rfl ?_) | (refine Mem.store 3 (t := 3) rfl rfl rfl rfl (vs := [.int .i64 x]) rfl (n := 1) (by kernel_rfl) HM.out rfl rfl (by simp) rfl ?_; intro V3 HMm CV3))
        simp only [K0, K1, L1, L2, K2, K3, K4, K5, K6, K7, Nat.reduceAdd, Nat.reduceSub] at HMm
        replace HM := Lib.hid HMm
        clear HMm
        refine Stay.go ?_
        clear u1
        clear hm1
        have u1 := E1.out
        go_wp2_with (first | (with_reducible refine Mem.isList ?_; refine Mem.load1 3 (t := 3) rfl rfl rfl Try.underlying3 rfl HM.out rfl rfl ?_) | (with_reducible refine Mem.isList ?_; refine Mem.store 3 (t := 3) rfl rfl rfl rfl (vs := [.int .i64 y1]) rfl (n := 1) (by kernel_rfl) HM.out rfl rfl (by simp) rfl ?_; intro V4 HMm CV4))
        simp only [K0, K1, L1, L2, K2, K3, K4, K5, K6, K7, Nat.reduceAdd, Nat.reduceSub] at HMm
        replace HM := Lib.hid HMm
        clear HMm
        refine Stay.go ?_
        clear u1
        have u1 := E2.out
        have u2 := HWQ.out
        go_wp2_with (first | (refine Mem.load1 3 (t := 3) rfl rfl rfl Try.underlying3 rfl HM.out rfl rfl ?_) | (refine Mem.store 3 (t := 3) rfl rfl rfl rfl (vs := [.int .i64 y2]) rfl (n := 1) (by kernel_rfl) HM.out rfl rfl (by simp) rfl ?_; intro V5 HMm CV5))
        simp only [K0, K1, L1, L2, K2, K3, K4, K5, K6, K7, Nat.reduceAdd, Nat.reduceSub] at HMm
        replace HM := Lib.hid HMm
        clear HMm
        refine Stay.go ?_
        clear u1 u2
        have u1 := E3.out
        go_wp2_with (first | (refine Mem.load1 3 (t := 3) rfl rfl rfl Try.underlying3 rfl HM.out rfl rfl ?_) | (refine Mem.load1 1 (t := 3) rfl rfl rfl Try.underlying3 rfl HM.out rfl rfl ?_) | (refine Mem.store 3 (t := 3) rfl rfl rfl rfl (vs := [.int .i64 y3]) rfl (n := 1) (by kernel_rfl) HM.out rfl rfl (by simp) rfl ?_; intro V6 HMm CV6))
        simp only [K0, K1, L1, L2, K2, K3, K4, K5, K6, K7, Nat.reduceAdd, Nat.reduceSub] at HMm
        replace HM := Lib.hid HMm
        clear HMm
        refine Stay.go ?_
        clear u1
        have u1 := E4.out
        go_wp2_with (first | (refine Mem.load1 3 (t := 3) rfl rfl rfl Try.underlying3 rfl HM.out rfl rfl ?_) | (refine Mem.load1 1 (t := 3) rfl rfl rfl Try.underlying3 rfl HM.out rfl rfl ?_) | (refine Mem.store 3 (t := 3) rfl rfl rfl rfl (vs := [.int .i64 y4]) rfl (n := 1) (by kernel_rfl) HM.out rfl rfl (by simp) rfl ?_; intro V7 HMm CV7))
        simp only [K0, K1, L1, L2, K2, K3, K4, K5, K6, K7, Nat.reduceAdd, Nat.reduceSub] at HMm
        replace HM := Lib.hid HMm
        clear HMm
        refine Stay.go ?_
        clear u1
        go_wp2_with (first | (refine Mem.loadAll 3 (t := 32) rfl rfl rfl Try.underlying32 (n := 2) (by kernel_rfl) HM.out rfl rfl ?_) | (refine Mem.storeAll 2 (t := 32) rfl rfl rfl rfl (n := 2) (by kernel_rfl) HM.out rfl rfl rfl rfl ?_; intro V8 HMm CV8))
        simp only [K0, K1, L1, L2, K2, K3, K4, K5, K6, K7, Nat.reduceAdd, Nat.reduceSub] at HMm
        replace HM := Lib.hid HMm
        clear HMm
        refine Stay.go ?_
        go_wp2_with fail
        have B2 := HM.out.blk (i := 2) rfl
        refine bodyPost_ret (v := stV y4 l0) (by simp [results, Try.results17, go_sem, B2.cell]) rfl ?_
        exact ⟨by rw [HE.out.1, HE.out.2], HM.out.below⟩
    · have d0 : decide (0 < l0) = false := decide_eq_false (by omega)
      have eW : Sc.w0 a b wt l0 = a := by unfold Sc.w0; rw [if_neg (by omega)]
      clear hp
      by_cases hx0 : a = 0
      · rw [hx0] at eW
        clear hax ha
        have hax := True.intro; have ha := True.intro
        subst hx0
        rcases Int.lt_or_le 0 bs with q1 | q1
        · have d3 : decide (0 < bs) = true := decide_eq_true q1
          have eX : Sc.w1 0 bs wt id gr = 1 := by unfold Sc.w1; rw [if_pos ⟨rfl, .inl q1⟩]
          obtain ⟨y1, y2, y3, y4, e1, e2, e3, e4, eC⟩ := clamp_steps 1 m rd mn mx HQ.out
          obtain rfl : y1 = 1 := by rw [← e1, if_neg (by omega)]
          have HE := Lib.hid (show RW = y4 ∧ RL = l0 from ⟨by rw [← HRW.out, eL, eW, eX, eC], eL⟩)
          have E2 := Lib.hid e2; have E3 := Lib.hid e3; have E4 := Lib.hid e4
          clear eC eL eW eX h1 h3 h4 h9 k1 k2 k3 k4 ha hb hax e1 e2 e3 e4
          clear q1
          have u1 := HL2.out
          have u2 := HM2.out
          go_wp2_with (first | (refine Mem.load1 0 (t := 3) rfl rfl rfl Try.underlying3 rfl HM.out rfl rfl ?_) | (refine Mem.storeAll 3 (t := 32) rfl rfl rfl rfl (n := 2) (by kernel_rfl) (Mem.alloc' HM.out _ _ rfl) rfl rfl rfl rfl ?_; intro V1 HMm CV1))
          simp only [K0, K1, L1, L2, K2, K3, K4, K5, K6, K7, Nat.reduceAdd, Nat.reduceSub] at HMm
          replace HM := Lib.hid HMm
          clear HMm
          refine Stay.go ?_
          clear u1 u2
          have c00 := HM.out.cell (i := 0) (o := 0) rfl rfl
          have c15 := HM.out.cell (i := 1) (o := 5) rfl rfl
          go_wp2_with (first | (with_reducible refine Mem.isList ?_; refine Mem.load1 3 (t := 3) rfl rfl rfl Try.underlying3 rfl HM.out rfl rfl ?_) | (with_reducible refine Mem.isList ?_; refine Mem.store 3 (t := 3) rfl rfl rfl rfl (vs := [.int .i64 1]) rfl (n := 1) (by kernel_rfl) HM.out rfl rfl (by simp) rfl ?_; intro V9 HMm CV9))
          simp only [K0, K1, L1, L2, K2, K3, K4, K5, K6, K7, Nat.reduceAdd, Nat.reduceSub] at HMm
          replace HM := Lib.hid HMm
          clear HMm
          refine Stay.go ?_
          clear c00 c15
          go_wp2_with (first | (with_reducible refine Mem.isList ?_; refine Mem.load1 3 (t := 3) rfl rfl rfl Try.underlying3 rfl HM.out rfl rfl ?_) | (with_reducible refine Mem.isList ?_; refine Mem.store 3 (t := 3) rfl rfl rfl rfl (vs := [.int .i64 1]) rfl (n := 1) (by kernel_rfl) HM.out rfl rfl (by simp) rfl ?_; intro V4 HMm CV4))
          simp only [K0, K1, L1, L2, K2, K3, K4, K5, K6, K7, Nat.reduceAdd, Nat.reduceSub] at HMm
          replace HM := Lib.hid HMm
          clear HMm
          refine Stay.go ?_
          have u1 := E2.out
          have u2 := HWQ.out
          go_wp2_with (first | (refine Mem.load1 3 (t := 3) rfl rfl rfl Try.underlying3 rfl HM.out rfl rfl ?_) | (refine Mem.store 3 (t := 3) rfl rfl rfl rfl (vs := [.int .i64 y2]) rfl (n := 1) (by kernel_rfl) HM.out rfl rfl (by simp) rfl ?_; intro V5 HMm CV5))
          simp only [K0, K1, L1, L2, K2, K3, K4, K5, K6, K7, Nat.reduceAdd, Nat.reduceSub] at HMm
          replace HM := Lib.hid HMm
          clear HMm
          refine Stay.go ?_
          clear u1 u2
          have u1 := E3.out
          go_wp2_with (first | (refine Mem.load1 3 (t := 3) rfl rfl rfl Try.underlying3 rfl HM.out rfl rfl ?_) | (refine Mem.load1 1 (t := 3) rfl rfl rfl Try.underlying3 rfl HM.out rfl rfl ?_) | (refine Mem.store 3 (t := 3) rfl rfl rfl rfl (vs := [.int .i64 y3]) rfl (n := 1) (by kernel_rfl) HM.out rfl rfl (by simp) rfl ?_; intro V6 HMm CV6))
          simp only [K0, K1, L1, L2, K2, K3, K4, K5, K6, K7, Nat.reduceAdd, Nat.reduceSub] at HMm
          replace HM := Lib.hid HMm
          clear HMm
          refine Stay.go ?_
          clear u1
          have u1 := E4.out
          go_wp2_with (first | (refine Mem.load1 3 (t := 3) rfl rfl rfl Try.underlying3 rfl HM.out rfl rfl ?_) | (refine Mem.load1 1 (t := 3) rfl rfl rfl Try.underlying3 rfl HM.out rfl rfl ?_) | (refine Mem.store 3 (t := 3) rfl rfl rfl rfl (vs := [.int .i64 y4]) rfl (n := 1) (by kernel_rfl) HM.out rfl rfl (by simp) rfl ?_; intro V7 HMm CV7))
          simp only [K0, K1, L1, L2, K2, K3, K4, K5, K6, K7, Nat.reduceAdd, Nat.reduceSub] at HMm
          replace HM := Lib.hid HMm
          clear HMm
          refine Stay.go ?_
          clear u1
          go_wp2_with (first | (refine Mem.loadAll 3 (t := 32) rfl rfl rfl Try.underlying32 (n := 2) (by kernel_rfl) HM.out rfl rfl ?_) | (refine Mem.storeAll 2 (t := 32) rfl rfl rfl rfl (n := 2) (by kernel_rfl) HM.out rfl rfl rfl rfl ?_; intro V8 HMm CV8))
          simp only [K0, K1, L1, L2, K2, K3, K4, K5, K6, K7, Nat.reduceAdd, Nat.reduceSub] at HMm
          replace HM := Lib.hid HMm
          clear HMm
          refine Stay.go ?_
          go_wp2_with fail
          have B2 := HM.out.blk (i := 2) rfl
          refine bodyPost_ret (v := stV y4 l0) (by simp [results, Try.results17, go_sem, B2.cell]) rfl ?_
          exact ⟨by rw [HE.out.1, HE.out.2], HM.out.below⟩
        · have d3 : decide (0 < bs) = false := decide_eq_false (by omega)
          rcases Int.lt_or_le 0 wt with q2 | q2
          · have d4 : decide (0 < wt) = true := decide_eq_true q2
            rcases Int.lt_or_le id gr with q3 | q3
            · have d5 : decide (id < gr) = true := decide_eq_true q3
              have eX : Sc.w1 0 bs wt id gr = 1 := by unfold Sc.w1; rw [if_pos ⟨rfl, .inr ⟨q2, q3⟩⟩]
              obtain ⟨y1, y2, y3, y4, e1, e2, e3, e4, eC⟩ := clamp_steps 1 m rd mn mx HQ.out
              obtain rfl : y1 = 1 := by rw [← e1, if_neg (by omega)]
              have HE := Lib.hid (show RW = y4 ∧ RL = l0 from ⟨by rw [← HRW.out, eL, eW, eX, eC], eL⟩)
              have E2 := Lib.hid e2; have E3 := Lib.hid e3; have E4 := Lib.hid e4
              clear eC eL eW eX h1 h3 h4 h9 k1 k2 k3 k4 ha hb hax e1 e2 e3 e4
              clear q1 q2 q3
              have u1 := HL2.out
              have u2 := HM2.out
              go_wp2_with (first | (refine Mem.load1 0 (t := 3) rfl rfl rfl Try.underlying3 rfl HM.out rfl rfl ?_) | (refine Mem.storeAll 3 (t := 32) rfl rfl rfl rfl (n := 2) (by kernel_rfl) (Mem.alloc' HM.out _ _ rfl) rfl rfl rfl rfl ?_; intro V1 HMm CV1))
              simp only [K0, K1, L1, L2, K2, K3, K4, K5, K6, K7, Nat.reduceAdd, Nat.reduceSub] at HMm
              replace HM := Lib.hid HMm
              clear HMm
              refine Stay.go ?_
              clear u1 u2
              have c00 := HM.out.cell (i := 0) (o := 0) rfl rfl
              have c15 := HM.out.cell (i := 1) (o := 5) rfl rfl
              go_wp2_with (first | (with_reducible refine Mem.isList ?_; refine Mem.load1 3 (t := 3) rfl rfl rfl Try.underlying3 rfl HM.out rfl rfl ?_) | (with_reducible refine Mem.isList ?_; refine Mem.store 3 (t := 3) rfl rfl rfl rfl (vs := [.int .i64 1]) rfl (n := 1) (by kernel_rfl) HM.out rfl rfl (by simp) rfl ?_; intro V9 HMm CV9))
              simp only [K0, K1, L1, L2, K2, K3, K4, K5, K6, K7, Nat.reduceAdd, Nat.reduceSub] at HMm
              replace HM := Lib.hid HMm
              clear HMm
              refine Stay.go ?_
              clear c00 c15
              go_wp2_with (first | (with_reducible refine Mem.isList ?_; refine Mem.load1 3 (t := 3) rfl rfl rfl Try.underlying3 rfl HM.out rfl rfl ?_) | (with_reducible refine Mem.isList ?_; refine Mem.store 3 (t := 3) rfl rfl rfl rfl (vs := [.int .i64 1]) rfl (n := 1) (by kernel_rfl) HM.out rfl rfl (by simp) rfl ?_; intro V4 HMm CV4))
              simp only [K0, K1, L1, L2, K2, K3, K4, K5, K6, K7, Nat.reduceAdd, Nat.reduceSub] at HMm
              replace HM := Lib.hid HMm
              clear HMm
              refine Stay.go ?_
              have u1 := E2.out
              have u2 := HWQ.out
              go_wp2_with (first | (refine Mem.load1 3 (t := 3) rfl rfl rfl Try.underlying3 rfl HM.out rfl rfl ?_) | (refine Mem.store 3 (t := 3) rfl rfl rfl rfl (vs := [.int .i64 y2]) rfl (n := 1) (by kernel_rfl) HM.out rfl rfl (by simp) rfl ?_; intro V5 HMm CV5))
              simp only [K0, K1, L1, L2, K2, K3, K4, K5, K6, K7, Nat.reduceAdd, Nat.reduceSub] at HMm
              replace HM := Lib.hid HMm
              clear HMm
              refine Stay.go ?_
              clear u1 u2
              have u1 := E3.out
              go_wp2_with (first | (refine Mem.load1 3 (t := 3) rfl rfl rfl Try.underlying3 rfl HM.out rfl rfl ?_) | (refine Mem.load1 1 (t := 3) rfl rfl rfl Try.underlying3 rfl HM.out rfl rfl ?_) | (refine Mem.store 3 (t := 3) rfl rfl rfl rfl (vs := [.int .i64 y3]) rfl (n := 1) (by kernel_rfl) HM.out rfl rfl (by simp) rfl ?_; intro V6 HMm CV6))
              simp only [K0, K1, L1, L2, K2, K3, K4, K5, K6, K7, Nat.reduceAdd, Nat.reduceSub] at HMm
              replace HM := Lib.hid HMm
              clear HMm
              refine Stay.go ?_
              clear u1
              have u1 := E4.out
              go_wp2_with (first | (refine Mem.load1 3 (t := 3) rfl rfl rfl Try.underlying3 rfl HM.out rfl rfl ?_) | (refine Mem.load1 1 (t := 3) rfl rfl rfl Try.underlying3 rfl HM.out rfl rfl ?_) | (refine Mem.store 3 (t := 3) rfl rfl rfl rfl (vs := [.int .i64 y4]) rfl (n := 1) (by kernel_rfl) HM.out rfl rfl (by simp) rfl ?_; intro V7 HMm CV7))
              simp only [K0, K1, L1, L2, K2, K3, K4, K5, K6, K7, Nat.reduceAdd, Nat.reduceSub] at HMm
              replace HM := Lib.hid HMm
              clear HMm
              refine Stay.go ?_
              clear u1
              go_wp2_with (first | (refine Mem.loadAll 3 (t := 32) rfl rfl rfl Try.underlying32 (n := 2) (by kernel_rfl) HM.out rfl rfl ?_) | (refine Mem.storeAll 2 (t := 32) rfl rfl rfl rfl (n := 2) (by kernel_rfl) HM.out rfl rfl rfl rfl ?_; intro V8 HMm CV8))
              simp only [K0, K1, L1, L2, K2, K3, K4, K5, K6, K7, Nat.reduceAdd, Nat.reduceSub] at HMm
              replace HM := Lib.hid HMm
              clear HMm
              refine Stay.go ?_
              go_wp2_with fail
              have B2 := HM.out.blk (i := 2) rfl
              refine bodyPost_ret (v := stV y4 l0) (by simp [results, Try.results17, go_sem, B2.cell]) rfl ?_
              exact ⟨by rw [HE.out.1, HE.out.2], HM.out.below⟩
            · have d5 : decide (id < gr) = false := decide_eq_false (by omega)
              have eX : Sc.w1 0 bs wt id gr = 0 := by unfold Sc.w1; rw [if_neg (by rintro ⟨_, r | ⟨_, r⟩⟩ <;> omega)]
              obtain ⟨y1, y2, y3, y4, e1, e2, e3, e4, eC⟩ := clamp_steps 0 m rd mn mx HQ.out
              obtain rfl : y1 = 0 := by rw [← e1, if_neg (by omega)]
              have HE := Lib.hid (show RW = y4 ∧ RL = l0 from ⟨by rw [← HRW.out, eL, eW, eX, eC], eL⟩)
              have E2 := Lib.hid e2; have E3 := Lib.hid e3; have E4 := Lib.hid e4
              clear eC eL eW eX h1 h3 h4 h9 k1 k2 k3 k4 ha hb hax e1 e2 e3 e4
              clear q1 q2 q3
              have u1 := HL2.out
              have u2 := HM2.out
              go_wp2_with (first | (refine Mem.load1 0 (t := 3) rfl rfl rfl Try.underlying3 rfl HM.out rfl rfl ?_) | (refine Mem.storeAll 3 (t := 32) rfl rfl rfl rfl (n := 2) (by kernel_rfl) (Mem.alloc' HM.out _ _ rfl) rfl rfl rfl rfl ?_; intro V1 HMm CV1))
              simp only [K0, K1, L1, L2, K2, K3, K4, K5, K6, K7, Nat.reduceAdd, Nat.reduceSub] at HMm
              replace HM := Lib.hid HMm
              clear HMm
              refine Stay.go ?_
              clear u1 u2
              have c00 := HM.out.cell (i := 0) (o := 0) rfl rfl
              have c15 := HM.out.cell (i := 1) (o := 5) rfl rfl
              go_wp2_with (first | (with_reducible refine Mem.isList ?_; refine Mem.load1 3 (t := 3) rfl rfl rfl Try.underlying3 rfl HM.out rfl rfl ?_) | (with_reducible refine Mem.isList ?_; refine Mem.store 3 (t := 3) rfl rfl rfl rfl (vs := [.int .i64 0]) rfl (n := 1) (by kernel_rfl) HM.out rfl rfl (by simp) rfl ?_; intro V4 HMm CV4))
              simp only [K0, K1, L1, L2, K2, K3, K4, K5, K6, K7, Nat.reduceAdd, Nat.reduceSub] at HMm
              replace HM := Lib.hid HMm
              clear HMm
              refine Stay.go ?_
              have u1 := E2.out
              have u2 := HWQ.out
              go_wp2_with (first | (refine Mem.load1 3 (t := 3) rfl rfl rfl Try.underlying3 rfl HM.out rfl rfl ?_) | (refine Mem.store 3 (t := 3) rfl rfl rfl rfl (vs := [.int .i64 y2]) rfl (n := 1) (by kernel_rfl) HM.out rfl rfl (by simp) rfl ?_; intro V5 HMm CV5))
              simp only [K0, K1, L1, L2, K2, K3, K4, K5, K6, K7, Nat.reduceAdd, Nat.reduceSub] at HMm
              replace HM := Lib.hid HMm
              clear HMm
              refine Stay.go ?_
              clear u1 u2
              have u1 := E3.out
              go_wp2_with (first | (refine Mem.load1 3 (t := 3) rfl rfl rfl Try.underlying3 rfl HM.out rfl rfl ?_) | (refine Mem.load1 1 (t := 3) rfl rfl rfl Try.underlying3 rfl HM.out rfl rfl ?_) | (refine Mem.store 3 (t := 3) rfl rfl rfl rfl (vs := [.int .i64 y3]) rfl (n := 1) (by kernel_rfl) HM.out rfl rfl (by simp) rfl ?_; intro V6 HMm CV6))
              simp only [K0, K1, L1, L2, K2, K3, K4, K5, K6, K7, Nat.reduceAdd, Nat.reduceSub] at HMm
              replace HM := Lib.hid HMm
              clear HMm
              refine Stay.go ?_
              clear u1
              have u1 := E4.out
              go_wp2_with (first | (refine Mem.load1 3 (t := 3) rfl rfl rfl Try.underlying3 rfl HM.out rfl rfl ?_) | (refine Mem.load1 1 (t := 3) rfl rfl rfl Try.underlying3 rfl HM.out rfl rfl ?_) | (refine Mem.store 3 (t := 3) rfl rfl rfl rfl (vs := [.int .i64 y4]) rfl (n := 1) (by kernel_rfl) HM.out rfl rfl (by simp) rfl ?_; intro V7 HMm CV7))
              simp only [K0, K1, L1, L2, K2, K3, K4, K5, K6, K7, Nat.reduceAdd, Nat.reduceSub] at HMm
              replace HM := Lib.hid HMm
              clear HMm
              refine Stay.go ?_
              clear u1
              go_wp2_with (first | (refine Mem.loadAll 3 (t := 32) rfl rfl rfl Try.underlying32 (n := 2) (by kernel_rfl) HM.out rfl rfl ?_) | (refine Mem.storeAll 2 (t := 32) rfl rfl rfl rfl (n := 2) (by kernel_rfl) HM.out rfl rfl rfl rfl ?_; intro V8 HMm CV8))
              simp only [K0, K1, L1, L2, K2, K3, K4, K5, K6, K7, Nat.reduceAdd, Nat.reduceSub] at HMm
              replace HM := Lib.hid HMm
              clear HMm
              refine Stay.go ?_
              go_wp2_with fail
              have B2 := HM.out.blk (i := 2) rfl
              refine bodyPost_ret (v := stV y4 l0) (by simp [results, Try.results17, go_sem, B2.cell]) rfl ?_
              exact ⟨by rw [HE.out.1, HE.out.2], HM.out.below⟩
          · have d4 : decide (0 < wt) = false := decide_eq_false (by omega)
            have eX : Sc.w1 0 bs wt id gr = 0 := by unfold Sc.w1; rw [if_neg (by rintro ⟨_, r | ⟨r, _⟩⟩ <;> omega)]
            obtain ⟨y1, y2, y3, y4, e1, e2, e3, e4, eC⟩ := clamp_steps 0 m rd mn mx HQ.out
            obtain rfl : y1 = 0 := by rw [← e1, if_neg (by omega)]
            have HE := Lib.hid (show RW = y4 ∧ RL = l0 from ⟨by rw [← HRW.out, eL, eW, eX, eC], eL⟩)
            have E2 := Lib.hid e2; have E3 := Lib.hid e3; have E4 := Lib.hid e4
            clear eC eL eW eX h1 h3 h4 h9 k1 k2 k3 k4 ha hb hax e1 e2 e3 e4
            clear q1 q2
            have u1 := HL2.out
            have u2 := HM2.out
            go_wp2_with (first | (refine Mem.load1 0 (t := 3) rfl rfl rfl Try.underlying3 rfl HM.out rfl rfl ?_) | (refine Mem.storeAll 3 (t := 32) rfl rfl rfl rfl (n := 2) (by kernel_rfl) (Mem.alloc' HM.out _ _ rfl) rfl rfl rfl rfl ?_; intro V1 HMm CV1))
            simp only [K0, K1, L1, L2, K2, K3, K4, K5, K6, K7, Nat.reduceAdd, Nat.reduceSub] at HMm
            replace HM := Lib.hid HMm
            clear HMm
            refine Stay.go ?_
            clear u1 u2
            have c00 := HM.out.cell (i := 0) (o := 0) rfl rfl
            have c15 := HM.out.cell (i := 1) (o := 5) rfl rfl
            go_wp2_with (first | (with_reducible refine Mem.isList ?_; refine Mem.load1 3 (t := 3) rfl rfl rfl Try.underlying3 rfl HM.out rfl rfl ?_) | (with_reducible refine Mem.isList ?_; refine Mem.store 3 (t := 3) rfl rfl rfl rfl (vs := [.int .i64 0]) rfl (n := 1) (by kernel_rfl) HM.out rfl rfl (by simp) rfl ?_; intro V4 HMm CV4))
            simp only [K0, K1, L1, L2, K2, K3, K4, K5, K6, K7, Nat.reduceAdd, Nat.reduceSub] at HMm
            replace HM := Lib.hid HMm
            clear HMm
            refine Stay.go ?_
            have u1 := E2.out
            have u2 := HWQ.out
            go_wp2_with (first | (refine Mem.load1 3 (t := 3) rfl rfl rfl Try.underlying3 rfl HM.out rfl rfl ?_) | (refine Mem.store 3 (t := 3) rfl rfl rfl rfl (vs := [.int .i64 y2]) rfl (n := 1) (by kernel_rfl) HM.out rfl rfl (by simp) rfl ?_; intro V5 HMm CV5))
            simp only [K0, K1, L1, L2, K2, K3, K4, K5, K6, K7, Nat.reduceAdd, Nat.reduceSub] at HMm
            replace HM := Lib.hid HMm
            clear HMm
            refine Stay.go ?_
            clear u1 u2
            have u1 := E3.out
            go_wp2_with (first | (refine Mem.load1 3 (t := 3) rfl rfl rfl Try.underlying3 rfl HM.out rfl rfl ?_) | (refine Mem.load1 1 (t := 3) rfl rfl rfl Try.underlying3 rfl HM.out rfl rfl ?_) | (refine Mem.store 3 (t := 3) rfl rfl rfl rfl (vs := [.int .i64 y3]) rfl (n := 1) (by kernel_rfl) HM.out rfl rfl (by simp) rfl ?_; intro V6 HMm CV6))
            simp only [K0, K1, L1, L2, K2, K3, K4, K5, K6, K7, Nat.reduceAdd, Nat.reduceSub] at HMm
            replace HM := Lib.hid HMm
            clear HMm
            refine Stay.go ?_
            clear u1
            have u1 := E4.out
            go_wp2_with (first | (refine Mem.load1 3 (t := 3) rfl rfl rfl Try.underlying3 rfl HM.out rfl rfl ?_) | (refine Mem.load1 1 (t := 3) rfl rfl rfl Try.underlying3 rfl HM.out rfl rfl ?_) | (refine Mem.store 3 (t := 3) rfl rfl rfl rfl (vs := [.int .i64 y4]) rfl (n := 1) (by kernel_rfl) HM.out rfl rfl (by simp) rfl ?_; intro V7 HMm CV7))
            simp only [K0, K1, L1, L2, K2, K3, K4, K5, K6, K7, Nat.reduceAdd, Nat.reduceSub] at HMm
            replace HM := Lib.hid HMm
            clear HMm
            refine Stay.go ?_
            clear u1
            go_wp2_with (first | (refine Mem.loadAll 3 (t := 32) rfl rfl rfl Try.underlying32 (n := 2) (by kernel_rfl) HM.out rfl rfl ?_) | (refine Mem.storeAll 2 (t := 32) rfl rfl rfl rfl (n := 2) (by kernel_rfl) HM.out rfl rfl rfl rfl ?_; intro V8 HMm CV8))
            simp only [K0, K1, L1, L2, K2, K3, K4, K5, K6, K7, Nat.reduceAdd, Nat.reduceSub] at HMm
            replace HM := Lib.hid HMm
            clear HMm
            refine Stay.go ?_
            go_wp2_with fail
            have B2 := HM.out.blk (i := 2) rfl
            refine bodyPost_ret (v := stV y4 l0) (by simp [results, Try.results17, go_sem, B2.cell]) rfl ?_
            exact ⟨by rw [HE.out.1, HE.out.2], HM.out.below⟩
      · have d2 : (a == 0) = false := by simpa using hx0
        have eX : Sc.w1 a bs wt id gr = a := by unfold Sc.w1; rw [if_neg (fun r => hx0 r.1)]
        obtain ⟨y1, y2, y3, y4, e1, e2, e3, e4, eC⟩ := clamp_steps a m rd mn mx HQ.out
        have HE := Lib.hid (show RW = y4 ∧ RL = l0 from ⟨by rw [← HRW.out, eL, eW, eX, eC], eL⟩)
        have E1 := Lib.hid e1; have E2 := Lib.hid e2; have E3 := Lib.hid e3; have E4 := Lib.hid e4
        clear eC eL eW eX h1 h3 h4 h9 k1 k2 k3 k4 ha hb hax e1 e2 e3 e4
        clear hx0
        have u1 := HL2.out
        have u2 := HM2.out
        go_wp2_with (first | (refine Mem.load1 0 (t := 3) rfl rfl rfl Try.underlying3 rfl HM.out rfl rfl ?_) | (refine Mem.storeAll 3 (t := 32) rfl rfl rfl rfl (n := 2) (by kernel_rfl) (Mem.alloc' HM.out _ _ rfl) rfl rfl rfl rfl ?_; intro V1 HMm CV1))
        simp only [K0, K1, L1, L2, K2, K3, K4, K5, K6, K7, Nat.reduceAdd, Nat.reduceSub] at HMm
        replace HM := Lib.hid HMm
        clear HMm
        refine Stay.go ?_
        clear u1 u2
        clear hm1
        have u1 := E1.out
        go_wp2_with (first | (with_reducible refine Mem.isList ?_; refine Mem.load1 3 (t := 3) rfl rfl rfl Try.underlying3 rfl HM.out rfl rfl ?_) | (with_reducible refine Mem.isList ?_; refine Mem.store 3 (t := 3) rfl rfl rfl rfl (vs := [.int .i64 y1]) rfl (n := 1) (by kernel_rfl) HM.out rfl rfl (by simp) rfl ?_; intro V4 HMm CV4))
        simp only [K0, K1, L1, L2, K2, K3, K4, K5, K6, K7, Nat.reduceAdd, Nat.reduceSub] at HMm
        replace HM := Lib.hid HMm
        clear HMm
        refine Stay.go ?_
        clear u1
        have u1 := E2.out
        have u2 := HWQ.out
        go_wp2_with (first | (refine Mem.load1 3 (t := 3) rfl rfl rfl Try.underlying3 rfl HM.out rfl rfl ?_) | (refine Mem.store 3 (t := 3) rfl rfl rfl rfl (vs := [.int .i64 y2]) rfl (n := 1) (by kernel_rfl) HM.out rfl rfl (by simp) rfl ?_; intro V5 HMm CV5))
        simp only [K0, K1, L1, L2, K2, K3, K4, K5, K6, K7, Nat.reduceAdd, Nat.reduceSub] at HMm
        replace HM := Lib.hid HMm
        clear HMm
        refine Stay.go ?_
        clear u1 u2
        have u1 := E3.out
        go_wp2_with (first | (refine Mem.load1 3 (t := 3) rfl rfl rfl Try.underlying3 rfl HM.out rfl rfl ?_) | (refine Mem.load1 1 (t := 3) rfl rfl rfl Try.underlying3 rfl HM.out rfl rfl ?_) | (refine Mem.store 3 (t := 3) rfl rfl rfl rfl (vs := [.int .i64 y3]) rfl (n := 1) (by kernel_rfl) HM.out rfl rfl (by simp) rfl ?_; intro V6 HMm CV6))
        simp only [K0, K1, L1, L2, K2, K3, K4, K5, K6, K7, Nat.reduceAdd, Nat.reduceSub] at HMm
        replace HM := Lib.hid HMm
        clear HMm
        refine Stay.go ?_
        clear u1
        have u1 := E4.out
        go_wp2_with (first | (refine Mem.load1 3 (t := 3) rfl rfl rfl Try.underlying3 rfl HM.out rfl rfl ?_) | (refine Mem.load1 1 (t := 3) rfl rfl rfl Try.underlying3 rfl HM.out rfl rfl ?_) | (refine Mem.store 3 (t := 3) rfl rfl rfl rfl (vs := [.int .i64 y4]) rfl (n := 1) (by kernel_rfl) HM.out rfl rfl (by simp) rfl ?_; intro V7 HMm CV7))
        simp only [K0, K1, L1, L2, K2, K3, K4, K5, K6, K7, Nat.reduceAdd, Nat.reduceSub] at HMm
        replace HM := Lib.hid HMm
        clear HMm
        refine Stay.go ?_
        clear u1
        go_wp2_with (first | (refine Mem.loadAll 3 (t := 32) rfl rfl rfl Try.underlying32 (n := 2) (by kernel_rfl) HM.out rfl rfl ?_) | (refine Mem.storeAll 2 (t := 32) rfl rfl rfl rfl (n := 2) (by kernel_rfl) HM.out rfl rfl rfl rfl ?_; intro V8 HMm CV8))
        simp only [K0, K1, L1, L2, K2, K3, K4, K5, K6, K7, Nat.reduceAdd, Nat.reduceSub] at HMm
        replace HM := Lib.hid HMm
        clear HMm
        refine Stay.go ?_
        go_wp2_with fail
        have B2 := HM.out.blk (i := 2) rfl
        refine bodyPost_ret (v := stV y4 l0) (by simp [results, Try.results17, go_sem, B2.cell]) rfl ?_
        exact ⟨by rw [HE.out.1, HE.out.2], HM.out.below⟩
  · have d1 : decide (2 * m ≤ b) = true := decide_eq_true hb2
    have d2 : (x == 0) = false := by have : x ≠ 0 := by omega
                                     simpa using this
    have eL : RL = 6 := by rw [← HRL.out]; unfold Sc.lft; rw [if_pos hb2]
    have eW : Sc.w0 a b wt 6 = x := by rw [← HX.out]; unfold Sc.w0; rw [if_pos (by decide)]
    have eX : Sc.w1 x bs wt id gr = x := by unfold Sc.w1; rw [if_neg (by omega)]
    obtain ⟨y1, y2, y3, y4, e1, e2, e3, e4, eC⟩ := clamp_steps x m rd mn mx HQ.out
    have HE := Lib.hid (show RW = y4 ∧ RL = 6 from ⟨by rw [← HRW.out, eL, eW, eX, eC], eL⟩)
    have E1 := Lib.hid e1; have E2 := Lib.hid e2; have E3 := Lib.hid e3; have E4 := Lib.hid e4
    clear eC eL eW eX h1 h3 h4 h9 k1 k2 k3 k4 ha hb hax e1 e2 e3 e4
    clear hb2
    have u1 := HL2.out
    have u2 := HM2.out
    go_wp2_with (first | (refine Mem.load1 0 (t := 3) rfl rfl rfl Try.underlying3 rfl HM.out rfl rfl ?_) | (refine Mem.storeAll 3 (t := 32) rfl rfl rfl rfl (n := 2) (by kernel_rfl) (Mem.alloc' HM.out _ _ rfl) rfl rfl rfl rfl ?_; intro V1 HMm CV1))
    simp only [K0, K1, L1, L2, K2, K3, K4, K5, K6, K7, Nat.reduceAdd, Nat.reduceSub] at HMm
    replace HM := Lib.hid HMm
    clear HMm
    refine Stay.go ?_
    clear u1 u2
    go_wp2_with ((refine Mem.store 3 (t := 3) rfl rfl rfl rfl (vs := [.int .i64 6]) rfl (n := 1) (by kernel_rfl) HM.out rfl rfl (by simp) rfl ?_; intro V2 HMm CV2))
    simp only [K0, K1, L1, L2, K2, K3, K4, K5, K6, K7, Nat.reduceAdd, Nat.reduceSub] at HMm
    replace HM := Lib.hid HMm
    clear HMm
    refine Stay.go ?_
    have u1 := HX2.out
    go_wp2_with (first | (refine Mem.load1 3 (t := 3) rfl rfl rfl Try.underlying3 rfl HM.out rfl rfl ?_) | (refine Mem.load1 0 (t := 3) rfl rfl rfl Try.underlying3 rfl HM.out rfl rfl ?_) | (refine Mem.store 3 (t := 3) rfl rfl rfl rfl (vs := [.int .i64 x]) rfl (n := 1) (by kernel_rfl) HM.out rfl rfl (by simp) rfl ?_; intro V3 HMm CV3))
    simp only [K0, K1, L1, L2, K2, K3, K4, K5, K6, K7, Nat.reduceAdd, Nat.reduceSub] at HMm
    replace HM := Lib.hid HMm
    clear HMm
    refine Stay.go ?_
    clear u1
    clear hm1
    have u1 := E1.out
    go_wp2_with (first | (with_reducible refine Mem.isList ?_; refine Mem.load1 3 (t := 3) rfl rfl rfl Try.underlying3 rfl HM.out rfl rfl ?_) | (with_reducible refine Mem.isList ?_; refine Mem.store 3 (t := 3) rfl rfl rfl rfl (vs := [.int .i64 y1]) rfl (n := 1) (by kernel_rfl) HM.out rfl rfl (by simp) rfl ?_; intro V4 HMm CV4))
    simp only [K0, K1, L1, L2, K2, K3, K4, K5, K6, K7, Nat.reduceAdd, Nat.reduceSub] at HMm
    replace HM := Lib.hid HMm
    clear HMm
    refine Stay.go ?_
    clear u1
    have u1 := E2.out
    have u2 := HWQ.out
    go_wp2_with (first | (refine Mem.load1 3 (t := 3) rfl rfl rfl Try.underlying3 rfl HM.out rfl rfl ?_) | (refine Mem.store 3 (t := 3) rfl rfl rfl rfl (vs := [.int .i64 y2]) rfl (n := 1) (by kernel_rfl) HM.out rfl rfl (by simp) rfl ?_; intro V5 HMm CV5))
    simp only [K0, K1, L1, L2, K2, K3, K4, K5, K6, K7, Nat.reduceAdd, Nat.reduceSub] at HMm
    replace HM := Lib.hid HMm
    clear HMm
    refine Stay.go ?_
    clear u1 u2
    have u1 := E3.out
    go_wp2_with (first | (refine Mem.load1 3 (t := 3) rfl rfl rfl Try.underlying3 rfl HM.out rfl rfl ?_) | (refine Mem.load1 1 (t := 3) rfl rfl rfl Try.underlying3 rfl HM.out rfl rfl ?_) | (refine Mem.store 3 (t := 3) rfl rfl rfl rfl (vs := [.int .i64 y3]) rfl (n := 1) (by kernel_rfl) HM.out rfl rfl (by simp) rfl ?_; intro V6 HMm CV6))
    simp only [K0, K1, L1, L2, K2, K3, K4, K5, K6, K7, Nat.reduceAdd, Nat.reduceSub] at HMm
    replace HM := Lib.hid HMm
    clear HMm
    refine Stay.go ?_
    clear u1
    have u1 := E4.out
    go_wp2_with (first | (refine Mem.load1 3 (t := 3) rfl rfl rfl Try.underlying3 rfl HM.out rfl rfl ?_) | (refine Mem.load1 1 (t := 3) rfl rfl rfl Try.underlying3 rfl HM.out rfl rfl ?_) | (refine Mem.store 3 (t := 3) rfl rfl rfl rfl (vs := [.int .i64 y4]) rfl (n := 1) (by kernel_rfl) HM.out rfl rfl (by simp) rfl ?_; intro V7 HMm CV7))
    simp only [K0, K1, L1, L2, K2, K3, K4, K5, K6, K7, Nat.reduceAdd, Nat.reduceSub] at HMm
    replace HM := Lib.hid HMm
    clear HMm
    refine Stay.go ?_
    clear u1
    go_wp2_with (first | (refine Mem.loadAll 3 (t := 32) rfl rfl rfl Try.underlying32 (n := 2) (by kernel_rfl) HM.out rfl rfl ?_) | (refine Mem.storeAll 2 (t := 32) rfl rfl rfl rfl (n := 2) (by kernel_rfl) HM.out rfl rfl rfl rfl ?_; intro V8 HMm CV8))
    simp only [K0, K1, L1, L2, K2, K3, K4, K5, K6, K7, Nat.reduceAdd, Nat.reduceSub] at HMm
    replace HM := Lib.hid HMm
    clear HMm
    refine Stay.go ?_
    go_wp2_with fail
    have B2 := HM.out.blk (i := 2) rfl
    refine bodyPost_ret (v := stV y4 6) (by simp [results, Try.results17, go_sem, B2.cell]) rfl ?_
    exact ⟨by rw [HE.out.1, HE.out.2], HM.out.below⟩
end Go.Proofs.Ytifkombocmdmfaa
