
/- The walk of ShelfKinds. -/
import Derived.Test.YthnjplbcaheooaaShelfAgain
namespace Go.Proofs.Ythnjplbcaheooaa
set_option maxRecDepth 100000
set_option linter.unusedVariables false
set_option linter.unusedSimpArgs false
set_option linter.unnecessarySimpa false
open Go.RowKit Go.MapV Go.Maps

theorem rt_named {nm cf nm' : ByteArray} {ts : List Tgt} {rl : Int} (h : routeE nm cf ts rl = 0) (hn : nameB 16 nm' = true) : routeE nm' cf ts rl = 0 := by
  obtain ⟨h1, h2, h3, h4, h5, h6, h7⟩ := routeE_parts h
  rw [routeE_each hn h2 h3 h4, if_pos h5, h6, h7]; rfl
theorem cfg_named {c : Cfg} {nm : ByteArray} (h : c.err = 0) (hn : nameB 16 nm = true) : Cfg.err { c with nm := nm } = 0 := by
  unfold Cfg.err at h ⊢
  split at h
  · split at h
    · rename_i h2
      have h2 : Cfg.num { c with nm := nm } = true := h2
      rw [if_pos hn, if_pos h2]
    · cases h
  · cases h
def bothN : ByteArray := ⟨#[98, 111, 116, 104]⟩
theorem both_ok : nameB 16 bothN = true := by decide +kernel
/-- A configuration and a route of one name. -/
def kdS (x : Cfg) (r : Rt) : Sh := (Sh.new.setC x).setR r
theorem kd_facts (x : Cfg) (r : Rt) (hx : x.err = 0) (hr : r.err = 0) (hn : x.nm = bothN) (hm : r.nm = bothN) :
    Sh.new.putC x 0 = 0 ∧ Sh.new.aftC x 0 = Sh.new.setC x ∧ (Sh.new.setC x).putR r 0 = 0 ∧ (Sh.new.setC x).aftR r 0 = kdS x r ∧ (kdS x r).cf bothN = some (x, 1) ∧ (kdS x r).rt bothN = some (r, 2) ∧ (kdS x r).n = 2 := by
  have h1 : Sh.new.putC x 0 = 0 := by unfold Sh.putC; rw [if_pos hx]; rfl
  have h2 : Sh.new.aftC x 0 = Sh.new.setC x := by unfold Sh.aftC; rw [h1]; rfl
  have h3 : (Sh.new.setC x).putR r 0 = 0 := by unfold Sh.putR; rw [if_pos hr, setC_rt]; rfl
  have h4 : (Sh.new.setC x).aftR r 0 = kdS x r := by unfold Sh.aftR; rw [h3]; rfl
  refine ⟨h1, h2, h3, h4, ?_, ?_, ?_⟩
  · show (Sh.new.setC x).cf bothN = _
    rw [setC_cf, ← hn, upd_at]; rfl
  · show upd (Sh.new.setC x).rt r.nm _ bothN = _
    rw [hm, upd_at, Sh.n_setC]; rfl
  · show (Sh.new.setC x).n + 1 = 2
    rw [Sh.n_setC]; rfl
theorem kd_drop (x : Cfg) (r : Rt) (hx : x.err = 0) (hr : r.err = 0) (hn : x.nm = bothN) (hm : r.nm = bothN) (k : Int) (hk : k = 1 ∨ k = 2) :
    (kdS x r).drop (3 - k) bothN k = 7 ∧ (kdS x r).aftD (3 - k) bothN k = kdS x r ∧ (kdS x r).drop k bothN k = 0 ∧ (kdS x r).aftD k bothN k = (kdS x r).cut k bothN := by
  obtain ⟨_, _, _, _, h5, h6, h7⟩ := kd_facts x r hx hr hn hm
  have hd : (kdS x r).drop (3 - k) bothN k = 7 ∧ (kdS x r).drop k bothN k = 0 := by
    unfold Sh.drop Sh.verK
    rw [h5, h6]
    rcases hk with rfl | rfl <;> exact ⟨rfl, rfl⟩
  refine ⟨hd.1, ?_, hd.2, ?_⟩
  · unfold Sh.aftD; rw [hd.1]; rfl
  · unfold Sh.aftD; rw [hd.2]; rfl
theorem drop_no (s : Sh) (k : Int) (nm : ByteArray) (v : Int) (h1 : k ≠ 1) (h2 : k ≠ 2) : s.drop k nm v = 12 ∧ s.aftD k nm v = s := by
  have h : s.drop k nm v = 12 := by unfold Sh.drop; rw [if_neg (fun e => e.elim h1 h2)]
  exact ⟨h, by unfold Sh.aftD; rw [h]; rfl⟩
theorem cut1 (s : Sh) (nm : ByteArray) : (s.cut 1 nm).cf nm = none ∧ (s.cut 1 nm).rt = s.rt ∧ (s.cut 1 nm).n = s.n + 1 := by
  unfold Sh.cut
  rw [if_pos rfl]
  exact ⟨upd_at _ _ _, rfl, rfl⟩
theorem cut2 (s : Sh) (nm : ByteArray) : (s.cut 2 nm).rt nm = none ∧ (s.cut 2 nm).cf = s.cf ∧ (s.cut 2 nm).gn = s.gn ∧ (s.cut 2 nm).n = s.n + 1 := by
  unfold Sh.cut
  rw [if_neg (by decide)]
  exact ⟨upd_at _ _ _, rfl, rfl, rfl⟩
theorem cfgOf_none {s : Sh} {nm : ByteArray} (h : s.cf nm = none) : s.cfgOf nm = (cfgZ, 0, 0, false) := by unfold Sh.cfgOf; rw [h]
theorem cfgOf_some {s : Sh} {nm : ByteArray} {c : Cfg} {v : Nat} (h : s.cf nm = some (c, v)) : s.cfgOf nm = (c, (v : Int), (s.gn nm : Int), true) := by unfold Sh.cfgOf; rw [h]
def TsF (base : Nat) (v : Value) (ts : List Tgt) : Hp := RowF base 46 3 v ts.length (flatT ts)
theorem TsF.foot (base : Nat) (v : Value) (ts : List Tgt) : Foot (TsF base v ts) := RowF.foot _ _ _ _ _ _
theorem hold_ts {w0 w w' : World} {L : List MBox} {A B : Hp} (h : Hold w0 w L (Sep A B)) (hA : Foot A) (hB : Foot B) {v : Value} {ts : List Tgt} (g : Grow.G w w') (ho : OwnTs w' w.heap.size v ts) : Hold w0 w' L (Sep A (Sep (TsF w.heap.size v ts) B)) :=
  h.beside2 hA hB g (F₁ := fun k => v.ownBlock = some k) ⟨ho, fun k => Iff.rfl⟩ (fun k hk => (ho.lt k hk).1)
theorem see_ts {w0 w : World} {L : List MBox} {A B : Hp} {base n c : Nat} {a : Option Addr} {ts : List Tgt} (h : Hold w0 w L (Sep A (Sep (TsF base (.slice a n c) ts) B))) : TgtSl w a ts := by
  obtain ⟨F, ⟨F1, F2, _, ⟨F3, F4, q, _⟩, _⟩, _⟩ := h.st
  have ho : OwnTs w base (.slice a n c) ts := q.1
  obtain ⟨sa, c', hv⟩ := own_shape ho
  cases hv
  exact ho.tgts.1
set_option maxHeartbeats 8000000 in
theorem walkShelfKinds (w : World) (c : Cfg) (hc : c.wf ∧ c.nm.size ≤ 140737488351232) (v : Value) (zs : List Int) (hz : IntSlice w v zs) (drop : Bool) :
    Calls Try.prog 8 #[c.v, v, .bool drop] w fun e w' => e = .returned (.bool true) ∧ Below w.heap.size w w' := by
  have KN := Lib.hid (fun w => known4_any w)
  have GC := Lib.hid (fun w => gcfg_any c 0 w hc.1 (by unfold wf64; omega))
  have GR := Lib.hid (fun w h => groute_own 0 v zs 0 w (by unfold wf64; omega) h (by unfold wf64; omega))
  unfold RtOwn at GR
  obtain ⟨va, vc, rfl, -⟩ := hz.open
  have HZ := Lib.hid hz
  have hX := gCfg_ok c 0
  have hR := gRoute_ok 0 zs 0 (by omega)
  have hR0 : withinI 0 61 = 0 := by decide +kernel
  rw [hR0] at GR
  have hRK := gTs_ok 0 zs
  have hRL := nT_range zs
  rw [← gTs_len (rtCf 0) zs] at hRL
  obtain ⟨x, hx⟩ : ∃ x, gCfg c 0 = x := ⟨_, rfl⟩
  rw [hx] at GC hX
  have hX2 := cfg_named hX both_ok
  have hR2 := rt_named hR both_ok
  generalize rtName 0 = rn at *
  generalize rtCf 0 = rc at *
  generalize gTs rc zs = ts at *
  obtain ⟨k1, k2, k3, k4, k5, k6, k7⟩ := kd_facts { x with nm := bothN } ⟨bothN, rc, ts, 0⟩ hX2 hR2 rfl rfl
  have hrc : rc.size ≤ 16 := (rt_small (r := ⟨bothN, rc, ts, 0⟩) hR2).2.1
  have P1 := Lib.hid (fun (w w' : World) (L : List MBox) (B : Hp) (hB : Foot B) (g : Nat) (h : Hold w w' L (Sep (ShP g Sh.new) B)) => by
    have := hold_putC h hB { x with nm := bothN } 0 (by show bothN.size ≤ _; decide) (by rw [new_n]; omega)
    rwa [k1, k2] at this)
  have P2 := Lib.hid (fun (w w' : World) (L : List MBox) (B : Hp) (hB : Foot B) (g : Nat) (a : Option Addr) (cap : Nat) (h : Hold w w' L (Sep (ShP g (Sh.new.setC { x with nm := bothN })) B)) (ht : TgtSl w' a ts) => by
    have := hold_putR h hB ⟨bothN, rc, ts, 0⟩ a cap 0 (by show bothN.size ≤ _; decide) (by show rc.size ≤ _; omega) (by show ts.length ≤ _; unfold maxLen; omega) ht hRK (by rw [Sh.n_setC, new_n]; omega)
    rwa [k3, k4] at this)
  have hn1 : (Sh.new).numOf 0 = 1 := rfl
  have hn2 : (Sh.new.setC { x with nm := bothN }).numOf 0 = 2 := by unfold Sh.numOf; rw [Sh.n_setC]; rfl
  rw [hn1] at P1
  rw [hn2] at P2
  generalize hk : kdS { x with nm := bothN } ⟨bothN, rc, ts, 0⟩ = S at *
  have D0 := Lib.hid (fun (s : Sh) (hs : s.n < 100) (kk : Int) (v : Int) (h1 : kk ≠ 1) (h2 : kk ≠ 2) (w w' : World) (L : List MBox) (B : Hp) (hB : Foot B) (g : Nat) (h : Hold w w' L (Sep (ShP g s) B)) => by
    have := hold_drop h hB kk bothN v (by decide) (by omega)
    rwa [(drop_no s kk bothN v h1 h2).1, (drop_no s kk bothN v h1 h2).2] at this)
  have KD := Lib.hid (fun kk hkk => by
    have := kd_drop { x with nm := bothN } ⟨bothN, rc, ts, 0⟩ hX2 hR2 rfl rfl kk hkk
    rwa [hk] at this)
  have FE := Lib.hid (fun g s => (ShP.ft g s))
  have FT := Lib.hid (fun g s b v => (ShP.foot g s).sep ((TsF.foot b v ts).sep Emp.foot))
  have FB := Lib.hid (fun b v => (TsF.foot b v ts).sep Emp.foot)
  obtain ⟨cn, i1, i2, i3, i4, i5⟩ := c
  obtain ⟨xn, j1, j2, j3, j4, j5⟩ := x
  unfold Cfg.v rtV bothN at *
  dsimp only at *
  clear hc hz hX hR hX2 hR2 hRK k1 k2 k3 k4 hn1 hn2 hR0 hx
  go_enter Try.func8, Try.ntmps8
  go_wp2_with fail
  refine (KN.out _).mono ?_
  rintro e w1 ⟨rfl, hg⟩
  have H0 := (((Hold.nil w).alloc' Emp.foot [.string cn, .int .i64 i1, .int .i64 i2, .int .i64 i3, .int .i64 i4, .int .i64 i5] 23 rfl).grow Emp.foot hg)
  simp only [K0, K1, L1, L2, K2, K3, K4, K5, K6, K7, Nat.reduceAdd, Nat.reduceSub] at H0
  have H := Lib.hid H0
  clear H0 hg
  go_wp2_with fail
  refine (hold_new H.out Emp.foot).mono ?_
  rintro e w2 ⟨g, rfl, hh⟩
  replace H := Lib.hid hh
  clear hh
  go_wp2_with ((refine Mem.loadAll 0 (t := 23) rfl rfl rfl Try.underlying23 (n := 6) (by kernel_rfl) H.out.mem rfl rfl ?_))
  refine (GC.out _).mono ?_
  rintro e w3 ⟨rfl, hg⟩
  replace H := Lib.hid (H.out.grow (FE.out g _) hg)
  clear hg
  go_wp2_with fail
  refine (GR.out _ (HZ.out.below H.out.below)).mono ?_
  rintro e w4 ⟨b, cc, rfl, ho, hg⟩
  replace H := Lib.hid (hold_ts H.out (ShP.foot _ _) Emp.foot hg ho)
  clear ho hg
  go_wp2_with ((refine Hold.storeAll 1 (t := 23) (FT.out g _ _ _) rfl rfl rfl rfl (n := 6) (by kernel_rfl) (Hold.alloc' (Hold.alloc' H.out (FT.out g _ _ _) _ _ (g := w4.heap.size) rfl) (FT.out g _ _ _) _ _ (g := w4.heap.size + 1) (by simp)) rfl rfl rfl rfl ?_; intro wm2 HMm Cwm2))
  simp only [K0, K1, L1, L2, K2, K3, K4, K5, K6, K7, Nat.reduceAdd, Nat.reduceSub] at HMm
  replace H := Lib.hid HMm
  clear HMm
  refine Stay.go ?_
  go_wp2_with ((refine Hold.storeAll 2 (t := 42) (FT.out g _ _ _) rfl rfl rfl rfl (n := 4) (by kernel_rfl) H.out rfl rfl rfl rfl ?_; intro wm3 HMm Cwm3))
  simp only [K0, K1, L1, L2, K2, K3, K4, K5, K6, K7, Nat.reduceAdd, Nat.reduceSub] at HMm
  replace H := Lib.hid HMm
  clear HMm
  refine Stay.go ?_
  go_wp2_with ((refine Hold.store 1 (t := 9) (FT.out g _ _ _) rfl rfl rfl rfl (vs := [.string ⟨#[98, 111, 116, 104]⟩]) rfl (n := 1) (by kernel_rfl) H.out rfl rfl (by simp) rfl ?_; intro wm4 HMm Cwm4))
  simp only [K0, K1, L1, L2, K2, K3, K4, K5, K6, K7, Nat.reduceAdd, Nat.reduceSub] at HMm
  replace H := Lib.hid HMm
  clear HMm
  refine Stay.go ?_
  go_wp2_with ((refine Hold.store 2 (t := 9) (FT.out g _ _ _) rfl rfl rfl rfl (vs := [.string ⟨#[98, 111, 116, 104]⟩]) rfl (n := 1) (by kernel_rfl) H.out rfl rfl (by simp) rfl ?_; intro wm5 HMm Cwm5))
  simp only [K0, K1, L1, L2, K2, K3, K4, K5, K6, K7, Nat.reduceAdd, Nat.reduceSub] at HMm
  replace H := Lib.hid HMm
  clear HMm
  refine Stay.go ?_
  go_wp2_with ((refine Mem.loadAll 1 (t := 23) rfl rfl rfl Try.underlying23 (n := 6) (by kernel_rfl) H.out.mem rfl rfl ?_))
  refine (P1.out _ _ _ _ (FB.out _ _) _ H.out).mono ?_
  rintro e ws7 ⟨rfl, hst⟩
  replace H := Lib.hid hst
  clear hst
  go_wp2_with ((refine Mem.loadAll 2 (t := 42) rfl rfl rfl Try.underlying42 (n := 4) (by kernel_rfl) H.out.mem rfl rfl ?_))
  refine (P2.out _ _ _ _ (FB.out _ _) _ _ _ H.out (see_ts H.out)).mono ?_
  rintro e ws9 ⟨rfl, hst⟩
  replace H := Lib.hid hst
  clear hst
  cases drop with
  | false =>
    obtain ⟨d1, d2, d3, d4⟩ := KD.out 1 (.inl rfl)
    obtain ⟨q1, q2, q3⟩ := cut1 S ⟨#[98, 111, 116, 104]⟩
    rw [k7] at q3
    have E1 := Lib.hid (fun (w w' : World) (L : List MBox) (B : Hp) (hB : Foot B) (g : Nat) (h : Hold w w' L (Sep (ShP g S) B)) => by
      have := hold_drop h hB 2 ⟨#[98, 111, 116, 104]⟩ 1 (by decide) (by omega)
      rwa [show S.drop 2 _ 1 = 7 from d1, show S.aftD 2 _ 1 = S from d2] at this)
    have E2 := Lib.hid (fun (w w' : World) (L : List MBox) (B : Hp) (hB : Foot B) (g : Nat) (h : Hold w w' L (Sep (ShP g S) B)) => by
      have := hold_drop h hB 1 ⟨#[98, 111, 116, 104]⟩ 1 (by decide) (by omega)
      rwa [d3, d4] at this)
    generalize S.cut 1 ⟨#[98, 111, 116, 104]⟩ = S2 at *
    have E3 := Lib.hid (D0.out S2 (by omega))
    have E4 := Lib.hid (fun (w w' : World) (L : List MBox) (B : Hp) (hB : Foot B) (g : Nat) (h : Hold w w' L (Sep (ShP g S2) B)) => by
      have := hold_cfg h hB ⟨#[98, 111, 116, 104]⟩ (by decide)
      rwa [cfgOf_none q1] at this)
    have E5 := Lib.hid (fun (w w' : World) (L : List MBox) (B : Hp) (hB : Foot B) (g : Nat) (h : Hold w w' L (Sep (ShP g S2) B)) => hold_rt_some h hB ⟨#[98, 111, 116, 104]⟩ _ 2 (by decide) (by rw [q2]; exact k6))
    unfold cfgZ Cfg.v rtV at *
    dsimp only at *
    clear d1 d2 d3 d4 q1 q2 q3 k5 k6 k7
    go_wp2_with fail
    refine (E1.out _ _ _ _ (FB.out _ _) _ H.out).mono ?_
    rintro e ws10 ⟨rfl, hst⟩
    replace H := Lib.hid hst
    clear hst
    go_wp2_with fail
    refine (E2.out _ _ _ _ (FB.out _ _) _ H.out).mono ?_
    rintro e ws11 ⟨rfl, hst⟩
    replace H := Lib.hid hst
    clear hst
    go_wp2_with fail
    refine (E3.out 0 1 (by decide) (by decide) _ _ _ _ (FB.out _ _) _ H.out).mono ?_
    rintro e ws12 ⟨rfl, hst⟩
    replace H := Lib.hid hst
    clear hst
    go_wp2_with fail
    refine (E3.out 3 1 (by decide) (by decide) _ _ _ _ (FB.out _ _) _ H.out).mono ?_
    rintro e ws13 ⟨rfl, hst⟩
    replace H := Lib.hid hst
    clear hst
    go_wp2_with fail
    refine (E4.out _ _ _ _ (FB.out _ _) _ H.out).mono ?_
    rintro e ws14 ⟨rfl, hst⟩
    replace H := Lib.hid hst
    clear hst
    go_wp2_with ((refine Hold.storeAll 3 (t := 23) (FT.out g _ _ _) rfl rfl rfl rfl (n := 6) (by kernel_rfl) (Hold.alloc' H.out (FT.out g _ _ _) _ _ rfl) rfl rfl rfl rfl ?_; intro wm15 HMm Cwm15))
    simp only [K0, K1, L1, L2, K2, K3, K4, K5, K6, K7, Nat.reduceAdd, Nat.reduceSub] at HMm
    replace H := Lib.hid HMm
    clear HMm
    refine Stay.go ?_
    go_wp2_with fail
    refine (E5.out _ _ _ _ (FB.out _ _) _ H.out).mono ?_
    rintro e ws16 ⟨b5, c5, rfl, -, hst⟩
    replace H := Lib.hid hst
    clear hst
    go_wp2_with ((refine Hold.storeAll 4 (t := 42) (FT.out g _ _ _) rfl rfl rfl rfl (n := 4) (by kernel_rfl) (Hold.alloc' H.out (FT.out g _ _ _) _ _ rfl) rfl rfl rfl rfl ?_; intro wm17 HMm Cwm17))
    simp only [K0, K1, L1, L2, K2, K3, K4, K5, K6, K7, Nat.reduceAdd, Nat.reduceSub] at HMm
    replace H := Lib.hid HMm
    clear HMm
    refine Stay.go ?_
    go_wp2_with fail
    go_ret
    exact ⟨rfl, H.out.below⟩
  | true =>
    obtain ⟨d1, d2, d3, d4⟩ := KD.out 2 (.inr rfl)
    obtain ⟨q1, q2, q4, q3⟩ := cut2 S ⟨#[98, 111, 116, 104]⟩
    rw [k7] at q3
    have E1 := Lib.hid (fun (w w' : World) (L : List MBox) (B : Hp) (hB : Foot B) (g : Nat) (h : Hold w w' L (Sep (ShP g S) B)) => by
      have := hold_drop h hB 1 ⟨#[98, 111, 116, 104]⟩ 2 (by decide) (by omega)
      rwa [show S.drop 1 _ 2 = 7 from d1, show S.aftD 1 _ 2 = S from d2] at this)
    have E2 := Lib.hid (fun (w w' : World) (L : List MBox) (B : Hp) (hB : Foot B) (g : Nat) (h : Hold w w' L (Sep (ShP g S) B)) => by
      have := hold_drop h hB 2 ⟨#[98, 111, 116, 104]⟩ 2 (by decide) (by omega)
      rwa [d3, d4] at this)
    generalize S.cut 2 ⟨#[98, 111, 116, 104]⟩ = S2 at *
    have E3 := Lib.hid (D0.out S2 (by omega))
    have E4 := Lib.hid (fun (w w' : World) (L : List MBox) (B : Hp) (hB : Foot B) (g : Nat) (h : Hold w w' L (Sep (ShP g S2) B)) => by
      have := hold_cfg h hB ⟨#[98, 111, 116, 104]⟩ (by decide)
      rwa [cfgOf_some (by rw [q2]; exact k5)] at this)
    have E5 := Lib.hid (fun (w w' : World) (L : List MBox) (B : Hp) (hB : Foot B) (g : Nat) (h : Hold w w' L (Sep (ShP g S2) B)) => hold_rt_none h hB ⟨#[98, 111, 116, 104]⟩ (by decide) q1)
    unfold Cfg.v rtV at *
    dsimp only at *
    clear d1 d2 d3 d4 q1 q2 q3 k5 k6 k7
    go_wp2_with fail
    refine (E1.out _ _ _ _ (FB.out _ _) _ H.out).mono ?_
    rintro e ws18 ⟨rfl, hst⟩
    replace H := Lib.hid hst
    clear hst
    go_wp2_with fail
    refine (E2.out _ _ _ _ (FB.out _ _) _ H.out).mono ?_
    rintro e ws19 ⟨rfl, hst⟩
    replace H := Lib.hid hst
    clear hst
    go_wp2_with fail
    refine (E3.out 0 2 (by decide) (by decide) _ _ _ _ (FB.out _ _) _ H.out).mono ?_
    rintro e ws20 ⟨rfl, hst⟩
    replace H := Lib.hid hst
    clear hst
    go_wp2_with fail
    refine (E3.out 3 2 (by decide) (by decide) _ _ _ _ (FB.out _ _) _ H.out).mono ?_
    rintro e ws21 ⟨rfl, hst⟩
    replace H := Lib.hid hst
    clear hst
    go_wp2_with fail
    refine (E4.out _ _ _ _ (FB.out _ _) _ H.out).mono ?_
    rintro e ws22 ⟨rfl, hst⟩
    replace H := Lib.hid hst
    clear hst
    go_wp2_with ((refine Hold.storeAll 3 (t := 23) (FT.out g _ _ _) rfl rfl rfl rfl (n := 6) (by kernel_rfl) (Hold.alloc' H.out (FT.out g _ _ _) _ _ rfl) rfl rfl rfl rfl ?_; intro wm23 HMm Cwm23))
    simp only [K0, K1, L1, L2, K2, K3, K4, K5, K6, K7, Nat.reduceAdd, Nat.reduceSub] at HMm
    replace H := Lib.hid HMm
    clear HMm
    refine Stay.go ?_
    go_wp2_with fail
    refine (E5.out _ _ _ _ (FB.out _ _) _ H.out).mono ?_
    rintro e ws24 ⟨rfl, hst⟩
    replace H := Lib.hid hst
    clear hst
    go_wp2_with ((refine Hold.storeAll 4 (t := 42) (FT.out g _ _ _) rfl rfl rfl rfl (n := 4) (by kernel_rfl) (Hold.alloc' H.out (FT.out g _ _ _) _ _ rfl) rfl rfl rfl rfl ?_; intro wm25 HMm Cwm25))
    simp only [K0, K1, L1, L2, K2, K3, K4, K5, K6, K7, Nat.reduceAdd, Nat.reduceSub] at HMm
    replace H := Lib.hid HMm
    clear HMm
    refine Stay.go ?_
    go_wp2_with fail
    go_ret
    exact ⟨rfl, H.out.below⟩
end Go.Proofs.Ythnjplbcaheooaa
