
/- The walk of ShelfAgain. -/
import Derived.Test.YthnjplbcaheooaaZ35
import Derived.Test.YthnjplbcaheooaaZ4
namespace Go.Proofs.Ythnjplbcaheooaa
set_option maxRecDepth 100000
set_option linter.unusedVariables false
set_option linter.unusedSimpArgs false
set_option linter.unnecessarySimpa false
open Go.RowKit Go.MapV Go.Maps

/-- One configuration put so many times. -/
def agS (x : Cfg) : Nat → Sh
  | 0 => Sh.new
  | k + 1 => (agS x k).setC x
theorem agS_n (x : Cfg) : ∀ k, (agS x k).n = k
  | 0 => rfl
  | k + 1 => by rw [show agS x (k + 1) = (agS x k).setC x from rfl, Sh.n_setC, agS_n x k]
theorem setC_cf (s : Sh) (c : Cfg) : (s.setC c).cf = upd s.cf c.nm (some (c, s.n + 1)) := by
  unfold Sh.setC
  split <;> rfl
theorem setC_rt (s : Sh) (c : Cfg) : (s.setC c).rt = s.rt := by
  unfold Sh.setC
  split <;> rfl
theorem setC_gn (s : Sh) (c : Cfg) : (s.setC c).gn c.nm = if s.wasC c then s.gn c.nm else s.gn c.nm + 1 := by
  unfold Sh.setC
  split
  · rfl
  · exact upd_at _ _ _
theorem agS_at (x : Cfg) (k : Nat) : (agS x (k + 1)).cf x.nm = some (x, k + 1) ∧ (agS x (k + 1)).gn x.nm = 1 := by
  induction k with
  | zero =>
    refine ⟨by rw [show agS x (0 + 1) = (agS x 0).setC x from rfl, setC_cf, upd_at]; rfl, ?_⟩
    rw [show agS x (0 + 1) = (agS x 0).setC x from rfl, setC_gn]
    rfl
  | succ k ih =>
    obtain ⟨h1, h2⟩ := ih
    have e : agS x (k + 1 + 1) = (agS x (k + 1)).setC x := rfl
    refine ⟨by rw [e, setC_cf, upd_at, agS_n], ?_⟩
    rw [e, setC_gn]
    have hw : (agS x (k + 1)).wasC x = true := by unfold Sh.wasC; rw [h1]; simp
    rw [if_pos hw, h2]
theorem agS_put (x : Cfg) (hx : x.err = 0) (k : Nat) : (agS x k).putC x k = 0 := by
  unfold Sh.putC
  rw [if_pos hx]
  cases k with
  | zero => rfl
  | succ k =>
    rw [(agS_at x k).1]
    unfold mayP heldP verO
    rw [if_neg (by omega)]
    simp
theorem agS_aft (x : Cfg) (hx : x.err = 0) (k : Nat) : (agS x k).aftC x k = agS x (k + 1) := by
  unfold Sh.aftC
  rw [agS_put x hx k, if_pos rfl]; rfl
theorem agS_cfg (x : Cfg) (k : Nat) : (agS x (k + 1)).cfgOf x.nm = (x, ((k + 1 : Nat) : Int), 1, true) := by
  unfold Sh.cfgOf
  rw [(agS_at x k).1, (agS_at x k).2]; rfl
theorem agS_num (x : Cfg) (k : Nat) : (agS x k).numOf 0 = ((k + 1 : Nat) : Int) := by
  unfold Sh.numOf
  rw [agS_n]; rfl
set_option maxHeartbeats 4000000 in
theorem walkShelfAgain (w : World) (c : Cfg) (hc : c.wf ∧ c.nm.size ≤ 140737488351232) (n : Int) (hn : wf64 n) :
    Calls Try.prog 9 #[c.v, .int .i64 n] w fun e w' => e = .returned (.bool true) ∧ Below w.heap.size w w' := by
  have KN := Lib.hid (fun w => known4_any w)
  have GC := Lib.hid (fun w => gcfg_any c 0 w hc.1 (by unfold wf64; omega))
  have WI := Lib.hid (fun w => within4_any n 20 w (by omega) (by omega) hn.1 hn.2)
  have r1 := withinI_range n 20 (by omega)
  have hX := gCfg_ok c 0
  obtain ⟨x, hx⟩ : ∃ x, gCfg c 0 = x := ⟨_, rfl⟩
  rw [hx] at GC hX
  have hs := (cfg_small hX).1
  have PC := Lib.hid (fun (k : Nat) (hk : k < 1000) (w w' : World) (L : List MBox) (g : Nat) (h : Hold w w' L (Sep (ShP g (agS x k)) Emp)) => by
    have := hold_putC h Emp.foot x k (by omega) (by rw [agS_n]; omega)
    rwa [agS_put x hX, agS_aft x hX, agS_num] at this)
  have CF := Lib.hid (fun (k : Nat) (w w' : World) (L : List MBox) (g : Nat) (h : Hold w w' L (Sep (ShP g (agS x (k + 1))) Emp)) => by
    have := hold_cfg h Emp.foot x.nm (by unfold maxLen; omega)
    rwa [agS_cfg] at this)
  have FT := Lib.hid (fun g k => ShP.ft g (agS x k))
  obtain ⟨cn, i1, i2, i3, i4, i5⟩ := c
  obtain ⟨xn, j1, j2, j3, j4, j5⟩ := x
  have RQ := run_neq_cfg xn j1 j2 j3 j4 j5 xn j1 j2 j3 j4 j5
  have hqq : cfgB ⟨xn, j1, j2, j3, j4, j5⟩ ⟨xn, j1, j2, j3, j4, j5⟩ = true := cfgB_iff.2 rfl
  rw [hqq] at RQ
  unfold Cfg.v at *
  dsimp only at *
  generalize withinI n 20 = q at *
  clear hn hc hx hX hqq
  go_enter Try.func9, Try.ntmps9
  go_wp2_with fail
  refine (KN.out _).mono ?_
  rintro e w1 ⟨rfl, hg⟩
  have H0 := (((Hold.nil w).alloc' Emp.foot [.string cn, .int .i64 i1, .int .i64 i2, .int .i64 i3, .int .i64 i4, .int .i64 i5] 23 rfl).grow Emp.foot hg)
  simp only [K0, K1, L1, L2, K2, K3, K4, K5, K6, K7, Nat.reduceAdd, Nat.reduceSub] at H0
  have H := Lib.hid H0
  clear H0 hg
  go_wp2_with fail
  refine (hold_new H.out Emp.foot).mono ?_
  rintro e w2 ⟨g, rfl, hh⟩
  replace H := Lib.hid (show Hold w w2 _ (Sep (ShP g (agS ⟨xn, j1, j2, j3, j4, j5⟩ 0)) Emp) from hh)
  clear hh
  go_wp2_with ((refine Mem.loadAll 0 (t := 23) rfl rfl rfl Try.underlying23 (n := 6) (by kernel_rfl) H.out.mem rfl rfl ?_))
  refine (GC.out _).mono ?_
  rintro e w3 ⟨rfl, hg⟩
  replace H := Lib.hid (H.out.grow (FT.out g 0) hg)
  clear hg
  go_wp2_with ((refine Hold.storeAll 1 (t := 23) (FT.out g 0) rfl rfl rfl rfl (n := 6) (by kernel_rfl) (Hold.alloc' H.out (FT.out g 0) _ _ rfl) rfl rfl rfl rfl ?_; intro W4 HMm CW4))
  simp only [K0, K1, L1, L2, K2, K3, K4, K5, K6, K7, Nat.reduceAdd, Nat.reduceSub] at HMm
  replace H := Lib.hid HMm
  clear HMm
  refine Stay.go ?_
  go_wp2_with fail
  go_loopw [7, 8] (fun v i wr => ∃ k : Nat, (k : Int) ≤ 1 + q ∧ v = .int .i64 k ∧ i = .int .i64 ((k : Int) + 1) ∧ Hid (Hold w wr [(w.heap.size, [.string cn, .int .i64 i1, .int .i64 i2, .int .i64 i3, .int .i64 i4, .int .i64 i5], 23), (w3.heap.size, [.string xn, .int .i64 j1, .int .i64 j2, .int .i64 j3, .int .i64 j4, .int .i64 j5], 23)] (Sep (ShP g (agS ⟨xn, j1, j2, j3, j4, j5⟩ k)) Emp))) (fun v _ _ => 30 - (intOf v).toNat)
  case atStart => exact ⟨0, by omega, rfl, rfl, H⟩
  case round =>
    obtain ⟨k, hk, rfl, rfl, HK⟩ := hrel
    by_cases hlt : (k : Int) + 1 ≤ 1 + q
    · have hw1 : IntKind.i64.wrap ((k : Int) + 1 + 1) = (k : Int) + 1 + 1 := IntWalk.i64_in _ ⟨by omega, by omega⟩
      have PK := Lib.hid (PC.out k (by omega))
      have CK := Lib.hid (CF.out k)
      have hq1 : IntKind.i64.wrap (1 + q) = 1 + q := IntWalk.i64_in _ ⟨by omega, by omega⟩
      go_wp2_with fail
      refine (WI.out _).mono ?_
      rintro e wx ⟨rfl, rfl⟩
      go_wp2_with ((refine Mem.loadAll 1 (t := 23) rfl rfl rfl Try.underlying23 (n := 6) (by kernel_rfl) HK.out.mem rfl rfl ?_))
      refine (PK.out _ _ _ _ HK.out).mono ?_
      rintro e ws4 ⟨rfl, hst⟩
      replace HK := Lib.hid hst
      clear hst
      go_wp2_with ((refine Mem.load1 1 (t := 9) rfl rfl rfl Try.underlying9 rfl HK.out.mem rfl rfl ?_))
      refine (CK.out _ _ _ _ HK.out).mono ?_
      rintro e ws6 ⟨rfl, hst⟩
      replace HK := Lib.hid hst
      clear hst
      go_wp2_with ((refine Hold.storeAll 2 (t := 23) (FT.out g (k + 1)) rfl rfl rfl rfl (n := 6) (by kernel_rfl) (Hold.alloc' HK.out (FT.out g (k + 1)) _ _ rfl) rfl rfl rfl rfl ?_; intro W7 HMm CW7))
      simp only [K0, K1, L1, L2, K2, K3, K4, K5, K6, K7, Nat.reduceAdd, Nat.reduceSub] at HMm
      replace HK := Lib.hid HMm
      clear HMm
      refine Stay.go ?_
      go_wp2_with (first | (refine loadAllW 1 (t := 23) rfl rfl rfl Try.underlying23 (n := 6) (by kernel_rfl) HK.out.mem rfl rfl ?_) | (refine loadAllW 2 (t := 23) rfl rfl rfl Try.underlying23 (n := 6) (by kernel_rfl) HK.out.mem rfl rfl ?_))
      go_wp2_with fail
      exact ⟨⟨k + 1, by omega, rfl, rfl, Lib.hid (HK.out.take 2)⟩, by simp [intOf]; omega⟩
    · have hq1 : IntKind.i64.wrap (1 + q) = 1 + q := IntWalk.i64_in _ ⟨by omega, by omega⟩
      go_wp2_with fail
      refine (WI.out _).mono ?_
      rintro e wx ⟨rfl, rfl⟩
      go_wp2_with fail
      go_ret
      exact ⟨rfl, HK.out.below⟩
end Go.Proofs.Ythnjplbcaheooaa
