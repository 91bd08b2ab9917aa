
/- The walk of ShelfPlays. -/
import Derived.Test.YtlnffdkaleapbaaGreatZ66
import Derived.Test.YtlnffdkaleapbaaGreatZ67
import Derived.Test.YtlnffdkaleapbaaGreatZ36
import Derived.Test.YtlnffdkaleapbaaGreatZ29
namespace Go.Proofs.YtlnffdkaleapbaaGreat
set_option maxRecDepth 100000
set_option linter.unusedVariables false
set_option linter.unusedSimpArgs false
set_option linter.unnecessarySimpa false
open Go.RowKit Go.MapV Go.Maps

theorem aftC_n (s : Sh) (c : Cfg) (v : Int) : (s.aftC c v).n ≤ s.n + 1 := by
  unfold Sh.aftC; split
  · rw [Sh.n_setC]; exact Nat.le_refl _
  · exact Nat.le_succ _
theorem aftR_n (s : Sh) (r : Rt) (v : Int) : (s.aftR r v).n ≤ s.n + 1 := by
  unfold Sh.aftR; split
  · exact Nat.le_refl _
  · exact Nat.le_succ _
theorem aftD_n (s : Sh) (k : Int) (nm : ByteArray) (v : Int) : (s.aftD k nm v).n ≤ s.n + 1 := by
  unfold Sh.aftD Sh.cut; split
  · split <;> exact Nat.le_refl _
  · exact Nat.le_succ _
def sixNs : List ByteArray := [⟨#[119, 101, 98]⟩, ⟨#[97, 112, 105]⟩, ⟨#[97, 45, 98]⟩, ⟨#[102, 114, 111, 110, 116]⟩, ⟨#[98, 97, 99, 107]⟩, ⟨#[114, 45, 49]⟩]
theorem six_at {j : Nat} (h : j < 6) : ∃ nm : ByteArray, nm.size ≤ 5 ∧ (sixNs.map Value.string).toArray[j]? = some (.string nm) := by
  match j, h with
  | 0, _ => exact ⟨_, by decide, rfl⟩
  | 1, _ => exact ⟨_, by decide, rfl⟩
  | 2, _ => exact ⟨_, by decide, rfl⟩
  | 3, _ => exact ⟨_, by decide, rfl⟩
  | 4, _ => exact ⟨_, by decide, rfl⟩
  | 5, _ => exact ⟨_, by decide, rfl⟩
set_option maxHeartbeats 32000000 in
theorem walkShelfPlays (w : World) (la : Option Addr) (xs : List CallD) (lc : Nat) (hl : CallsL w la xs) :
    Calls Tryz.prog 3 #[.slice la xs.length lc] w fun e w' => e = .returned (.bool true) ∧ Below w.heap.size w w' := by
  have KN := Lib.hid (fun w => known4_any w)
  have FE := Lib.hid (fun g s => (ShP.ft g s))
  have FT := Lib.hid (fun g q s => TwoS.foot g q s)
  have HL := Lib.hid hl
  have hle := hl.le
  unfold maxLen at hle
  clear hl
  go_enter Tryz.func3, Tryz.ntmps3
  go_wp2_with fail
  refine (KN.out _).mono ?_
  rintro e w1 ⟨rfl, hg⟩
  have H := Lib.hid ((Hold.nil w).grow Emp.foot hg)
  clear hg
  go_wp2_with fail
  refine (hold_new H.out Emp.foot).mono ?_
  rintro e w2 ⟨g, rfl, hh⟩
  have H0 : Hold w (w2.alloc (.cells #[.slice none 0 0, .int .i64 0] rshT)) [] (TwoS g w2.heap.size Sh.new) := hh.beside2 (ShP.foot _ _) Emp.foot (Grow.G.alloc (Grow.G.refl _) _) (RfP.new w2) (fun k hk => by have hk : k = w2.heap.size := hk; omega)
  replace H := Lib.hid H0
  clear hh H0
  go_wp2_with fail
  generalize w2.heap.size = q at *
  go_loopw [5] (fun i wr => ∃ (k : Nat) (s : Sh), k ≤ 50 ∧ s.n ≤ k ∧ i = .int .i64 k ∧ Hid (Hold w wr [] (TwoS g q s))) (fun i _ => 50 - (intOf i).toNat)
  case atStart => exact ⟨0, Sh.new, by omega, Nat.le_refl _, rfl, H⟩
  case round =>
    clear H
    obtain ⟨k, s, hk, hsn, rfl, H⟩ := hrel
    by_cases hlt : k < xs.length ∧ k < 50
    rotate_left
    · have d12 : ¬ k < xs.length ∨ (k < xs.length ∧ ¬ k < 50) := by omega
      clear hlt
      rcases d12 with c1 | ⟨c1, c2⟩
      case' inl => have d1 : decide ((k : Int) < (xs.length : Int)) = false := decide_eq_false (by omega)
      case' inr =>
        have d1 : decide ((k : Int) < (xs.length : Int)) = true := decide_eq_true (by omega)
        have d2 : decide ((k : Int) < 50) = false := decide_eq_false (by omega)
      all_goals
        go_wp2_with fail
        go_ret
        exact ⟨rfl, H.out.below⟩
    obtain ⟨h1, h2⟩ := hlt
    obtain ⟨x, hx⟩ : ∃ x, xs[k]? = some x := ⟨_, List.getElem?_eq_getElem h1⟩
    obtain ⟨b, off, rfl, hc⟩ := HL.out.at hx
    have ok := HL.out.ok x (List.mem_of_getElem? hx)
    have HC0 := Lib.hid (hc _ H.out.below)
    have d1 : decide ((k : Int) < (xs.length : Int)) = true := decide_eq_true (by omega)
    have d2 : decide ((k : Int) < 50) = true := decide_eq_true (by omega)
    have k1 : (0 : Int) ≤ (k : Int) := by omega
    have k2 : (k : Int) < (xs.length : Int) := by omega
    have hk1 : IntKind.i64.wrap ((k : Int) + 1) = (k : Int) + 1 := IntWalk.i64_in _ ⟨by omega, by omega⟩
    obtain ⟨kd, nm, vr, ⟨cn, i1, i2, i3, i4, i5⟩, ns, na, nc⟩ := x
    obtain ⟨okk, okn, okv, okc, okz, oks⟩ := ok
    unfold CallD.cells at HC0
    dsimp only at HC0 okk okn okv okc okz oks
    have WK := Lib.hid (fun w => within4_any kd 8 w (by omega) (by omega) okk.1 okk.2)
    have r4 := withinI_range kd 8 (by omega)
    obtain ⟨r, hr⟩ : ∃ r : Nat, withinI kd 8 = r := ⟨(withinI kd 8).toNat, by omega⟩
    rw [hr] at WK r4
    have hr8 : r < 8 := by omega
    have OKS := Lib.hid (And.intro okk (And.intro okn (And.intro okv (And.intro okc (And.intro okz oks)))))
    have CE : (Tryz.prog.info? 34).map (·.size) = some 10 := by kernel_rfl
    clear hx hr r4 okk okn okv okc okz oks hc
    go_wp2_with (first
      | (refine SlOf.load (t := 34) rfl (by rfl) rfl Tryz.underlying34 CE HC0.out rfl ?_)
      | (refine Hold.storeAll 0 (t := 34) (FT.out _ _ _) rfl rfl rfl rfl (n := 10) (by kernel_rfl) (Hold.alloc' H.out (FT.out _ _ _) _ _ rfl) rfl rfl rfl rfl ?_; intro W1 HMm CW1))
    simp only [K0, K1, L1, L2, K2, K3, K4, K5, K6, K7, Nat.reduceAdd, Nat.reduceSub] at HMm
    replace H := Lib.hid HMm
    clear HMm CW1 HC0
    refine Stay.go ?_
    generalize wr.heap.size = cb at *
    have e0 := ((H.out.mem.blk (i := 0) rfl).cell 0).trans (show _ = some (.int .i64 kd) from rfl)
    go_wp2_with fail
    refine (WK.out _).mono ?_
    rintro e wx ⟨rfl, rfl⟩
    clear WK e0
    have hcase : (r = 0 ∨ r = 1 ∨ r = 2) ∨ (r = 3 ∨ r = 4 ∨ r = 5) ∨ 6 ≤ r := by omega
    rcases hcase with hA | hA | hA
    · have GC := Lib.hid (fun w => gcfg_any ⟨cn, i1, i2, i3, i4, i5⟩ nm w OKS.out.2.2.2.1 OKS.out.2.1)
      have hX := cfg_small (gCfg_ok ⟨cn, i1, i2, i3, i4, i5⟩ nm)
      obtain ⟨G, hG⟩ : ∃ G, gCfg ⟨cn, i1, i2, i3, i4, i5⟩ nm = G := ⟨_, rfl⟩
      rw [hG] at GC hX
      have hgn : G.nm.size ≤ 16 := hX.1
      obtain ⟨gn, j1, j2, j3, j4, j5⟩ := G
      unfold Cfg.v at GC
      dsimp only at GC hgn
      have WV := Lib.hid (fun w => within4_any vr 17 w (by omega) (by omega) OKS.out.2.2.1.1 OKS.out.2.2.1.2)
      obtain ⟨y, hy⟩ : ∃ y, withinI vr 17 = y := ⟨_, rfl⟩
      rw [hy] at WV
      clear hG hX hy hr8
      rcases hA with rfl | rfl | rfl
      all_goals
        have e1 := ((H.out.mem.blk (i := 0) rfl).cell 1).trans (show _ = some (.int .i64 nm) from rfl)
        go_wp2_with ((refine Mem.load 0 (t := 31) rfl rfl rfl Tryz.underlying31 (n := 6) (by kernel_rfl) H.out.mem rfl rfl rfl ?_))
        refine (GC.out _).mono ?_
        rintro e w3 ⟨rfl, hg⟩
        replace H := Lib.hid (H.out.grow (FT.out _ _ _) hg)
        clear hg GC e1
        go_wp2_with ((refine Hold.storeAll 1 (t := 31) (FT.out _ _ _) rfl rfl rfl rfl (n := 6) (by kernel_rfl) (Hold.alloc' H.out (FT.out _ _ _) _ _ rfl) rfl rfl rfl rfl ?_; intro W2 HMm CW2))
        simp only [K0, K1, L1, L2, K2, K3, K4, K5, K6, K7, Nat.reduceAdd, Nat.reduceSub] at HMm
        replace H := Lib.hid HMm
        clear HMm
        refine Stay.go ?_
        have e2 := ((H.out.mem.blk (i := 0) rfl).cell 2).trans (show _ = some (.int .i64 vr) from rfl)
        clear CW2
        go_wp2_with fail
        refine (WV.out _).mono ?_
        rintro e wx ⟨rfl, rfl⟩
        clear WV
        by_cases hy0 : y = 0
        case' pos =>
          have dy : (y == 0) = true := by simpa using hy0
          clear hy0
          go_wp2_with (first | (refine Mem.load 0 (t := 31) rfl rfl rfl Tryz.underlying31 (n := 6) (by kernel_rfl) H.out.mem rfl rfl rfl ?_) | (refine Hold.storeAll 1 (t := 31) (FT.out _ _ _) rfl rfl rfl rfl (n := 6) (by kernel_rfl) H.out rfl rfl rfl rfl ?_; intro W3 HMm CW3))
          simp only [K0, K1, L1, L2, K2, K3, K4, K5, K6, K7, Nat.reduceAdd, Nat.reduceSub] at HMm
          replace H := Lib.hid HMm
          clear HMm
          refine Stay.go ?_
          have HX : Hid (∃ (G : Cfg), G.nm.size ≤ 140737488351232 ∧ Hold w W3 [(cb, [.int .i64 kd, .int .i64 nm, .int .i64 vr, .string cn, .int .i64 i1, .int .i64 i2, .int .i64 i3, .int .i64 i4, .int .i64 i5, .slice na ns.length nc], 34), (w3.heap.size, [.string G.nm, .int .i64 G.im, .int .i64 G.co, .int .i64 G.mn, .int .i64 G.mx, .int .i64 G.gr], 31)] (TwoS g q s)) := Lib.hid ⟨⟨cn, i1, i2, i3, i4, i5⟩, OKS.out.2.2.2.2.1, H.out⟩
          clear CW3 H hgn
        case' neg =>
          have dy : (y == 0) = false := by simpa using hy0
          clear hy0
          have HX : Hid (∃ (G : Cfg), G.nm.size ≤ 140737488351232 ∧ Hold w W2 [(cb, [.int .i64 kd, .int .i64 nm, .int .i64 vr, .string cn, .int .i64 i1, .int .i64 i2, .int .i64 i3, .int .i64 i4, .int .i64 i5, .slice na ns.length nc], 34), (w3.heap.size, [.string G.nm, .int .i64 G.im, .int .i64 G.co, .int .i64 G.mn, .int .i64 G.mx, .int .i64 G.gr], 31)] (TwoS g q s)) := Lib.hid ⟨⟨gn, j1, j2, j3, j4, j5⟩, by show gn.size ≤ _; omega, H.out⟩
          clear H hgn
        all_goals
          clear e2
          obtain ⟨G, hsz, hh⟩ := HX.out
          have H := Lib.hid hh
          clear hh HX
          have e2 := ((H.out.mem.blk (i := 0) rfl).cell 2).trans (show _ = some (.int .i64 vr) from rfl)
          have f0 := ((H.out.mem.blk (i := 1) rfl).cell 0).trans (show _ = some (.string G.nm) from rfl)
          go_wp2_with fail
          refine (hold_version H.out (ShP.foot g s) Emp.foot 1 G.nm vr OKS.out.2.2.1).mono ?_
          rintro e w5 ⟨vv, rfl, hst⟩
          replace H := Lib.hid hst
          clear hst e2 f0
          go_wp2_with ((refine Mem.loadAll 1 (t := 31) rfl rfl rfl Tryz.underlying31 (n := 6) (by kernel_rfl) H.out.mem rfl rfl ?_))
          have PC := hold_putC H.out ((RfP.foot q s).sep Emp.foot) G vv hsz (by omega)
          have hSn := aftC_n s G vv
          have PR := Lib.hid (fun w' (h : Hold w w' [(cb, [.int .i64 kd, .int .i64 nm, .int .i64 vr, .string cn, .int .i64 i1, .int .i64 i2, .int .i64 i3, .int .i64 i4, .int .i64 i5, .slice na ns.length nc], 34), (w3.heap.size, [.string G.nm, .int .i64 G.im, .int .i64 G.co, .int .i64 G.mn, .int .i64 G.mx, .int .i64 G.gr], 31)] (Sep (ShP g (s.aftC G vv)) (Sep (RfP q s) Emp))) => hold_rfputC h (ShP.foot _ _) Emp.foot G vv hsz (by omega))
          generalize s.numOf (s.putC G vv) = z1 at *
          generalize s.putC G vv = z2 at *
          generalize s.aftC G vv = S at *
          unfold Cfg.v at PC PR
          refine PC.mono ?_
          rintro e w6 ⟨rfl, hst⟩
          replace H := Lib.hid hst
          clear hst PC
          go_wp2_with ((refine Mem.loadAll 1 (t := 31) rfl rfl rfl Tryz.underlying31 (n := 6) (by kernel_rfl) H.out.mem rfl rfl ?_))
          refine (PR.out _ H.out).mono ?_
          rintro e w7 ⟨rfl, hst⟩
          replace H := Lib.hid (hst.take 0)
          clear hst PR
          go_wp2_with fail
          refine (hold_same H.out (by omega)).mono ?_
          rintro e w8 ⟨rfl, hst⟩
          replace H := Lib.hid hst
          clear hst
          go_wp2_with fail
          go_roundw
          case rel => exact ⟨k + 1, S, by omega, by omega, by go_num, H⟩
          case measure => simp [intOf]; omega
    · have GR := Lib.hid (fun w h => groute_own nm (.slice na ns.length nc) ns vr w OKS.out.2.1 h OKS.out.2.2.1)
      unfold RtOwn at GR
      have hR := gRoute_ok nm ns (withinI vr 61) (by have := withinI_range vr 61 (by omega); omega)
      have hRK := gTs_ok nm ns
      have hRL := nT_range ns
      rw [← gTs_len (rtCf nm) ns] at hRL
      obtain ⟨z1, z2, z3, z4⟩ := rt_small (r := ⟨rtName nm, rtCf nm, gTs (rtCf nm) ns, withinI vr 61⟩) hR
      dsimp only at z1 z2
      generalize rtName nm = rn at *
      generalize rtCf nm = rc at *
      generalize gTs rc ns = ts at *
      generalize withinI vr 61 = rl0 at *
      have HRK := Lib.hid hRK
      have WV := Lib.hid (fun w => within4_any vr 17 w (by omega) (by omega) OKS.out.2.2.1.1 OKS.out.2.2.1.2)
      obtain ⟨y, hy⟩ : ∃ y, withinI vr 17 = y := ⟨_, rfl⟩
      rw [hy] at WV
      clear hR hRK hy hr8 z3 z4
      rcases hA with rfl | rfl | rfl
      all_goals
        have e1 := ((H.out.mem.blk (i := 0) rfl).cell 1).trans (show _ = some (.int .i64 nm) from rfl)
        have e2 := ((H.out.mem.blk (i := 0) rfl).cell 2).trans (show _ = some (.int .i64 vr) from rfl)
        have e9 := ((H.out.mem.blk (i := 0) rfl).cell 9).trans (show _ = some (.slice na ns.length nc) from rfl)
        go_wp2_with fail
        refine (GR.out _ (IntSlice.below OKS.out.2.2.2.2.2 H.out.below)).mono ?_
        rintro e w3 ⟨tb, tc, rfl, hts, hg⟩
        have H3 := hold_ts H.out (ShP.foot g s) ((RfP.foot q s).sep Emp.foot) hg hts
        replace H := Lib.hid (H3.map fun F q => q.under fun F q => q.rot)
        have F3 := Lib.hid (fun s => (ShP.foot g s).sep ((RfP.foot q s).sep ((TsF.foot W1.heap.size (.slice (some ⟨tb, 0, none⟩) ts.length tc) ts).sep Emp.foot)))
        have F4 := Lib.hid ((TsF.foot W1.heap.size (.slice (some ⟨tb, 0, none⟩) ts.length tc) ts).sep Emp.foot)
        clear H3 hts hg GR e1 e2 e9
        generalize W1.heap.size = tbase at *
        have W0 := w3
        obtain ⟨W0, hW0⟩ : ∃ W0, W0 = w3 := ⟨_, rfl⟩
        have HW0 := Lib.hid hW0
        clear hW0
        go_wp2_with ((refine Hold.storeAll 1 (t := 45) (F3.out _) rfl rfl rfl rfl (n := 4) (by kernel_rfl) (Hold.alloc' H.out (F3.out _) _ _ rfl) rfl rfl rfl rfl ?_; intro W2 HMm CW2))
        simp only [K0, K1, L1, L2, K2, K3, K4, K5, K6, K7, Nat.reduceAdd, Nat.reduceSub] at HMm
        replace H := Lib.hid HMm
        clear HMm
        refine Stay.go ?_
        rw [← HW0.out] at H
        have e2 := ((H.out.mem.blk (i := 0) rfl).cell 2).trans (show _ = some (.int .i64 vr) from rfl)
        clear CW2
        go_wp2_with fail
        refine (WV.out _).mono ?_
        rintro e wx ⟨rfl, rfl⟩
        clear WV
        by_cases hy0 : y = 0
        case' pos =>
          have dy : (y == 0) = true := by simpa using hy0
          clear hy0
          rw [HW0.out] at H
          go_wp2_with (first | (refine Mem.load1 0 (t := 3) rfl rfl rfl Tryz.underlying3 rfl H.out.mem rfl rfl ?_) | (refine Hold.store 1 (t := 3) (F3.out _) rfl rfl rfl rfl (vs := [.int .i64 vr]) rfl (n := 1) (by kernel_rfl) H.out rfl rfl (by simp) rfl ?_; intro W3 HMm CW3))
          simp only [K0, K1, L1, L2, K2, K3, K4, K5, K6, K7, Nat.reduceAdd, Nat.reduceSub] at HMm
          replace H := Lib.hid HMm
          clear HMm
          refine Stay.go ?_
          rw [← HW0.out] at H
          have HX : Hid (∃ rl : Int, Hold w W3 [(cb, [.int .i64 kd, .int .i64 nm, .int .i64 vr, .string cn, .int .i64 i1, .int .i64 i2, .int .i64 i3, .int .i64 i4, .int .i64 i5, .slice na ns.length nc], 34), (W0.heap.size, [.string rn, .string rc, .slice (some ⟨tb, 0, none⟩) ts.length tc, .int .i64 rl], 45)] (Sep (ShP g s) (Sep (RfP q s) (Sep (TsF tbase (.slice (some ⟨tb, 0, none⟩) ts.length tc) ts) Emp)))) := Lib.hid ⟨vr, H.out⟩
          clear CW3 H
        case' neg =>
          have dy : (y == 0) = false := by simpa using hy0
          clear hy0
          have HX : Hid (∃ rl : Int, Hold w W2 [(cb, [.int .i64 kd, .int .i64 nm, .int .i64 vr, .string cn, .int .i64 i1, .int .i64 i2, .int .i64 i3, .int .i64 i4, .int .i64 i5, .slice na ns.length nc], 34), (W0.heap.size, [.string rn, .string rc, .slice (some ⟨tb, 0, none⟩) ts.length tc, .int .i64 rl], 45)] (Sep (ShP g s) (Sep (RfP q s) (Sep (TsF tbase (.slice (some ⟨tb, 0, none⟩) ts.length tc) ts) Emp)))) := Lib.hid ⟨rl0, H.out⟩
          clear H
        all_goals
          clear e2
          obtain ⟨rl, hh⟩ := HX.out
          have H := Lib.hid hh
          clear hh HX
          have e2 := ((H.out.mem.blk (i := 0) rfl).cell 2).trans (show _ = some (.int .i64 vr) from rfl)
          have f0 := ((H.out.mem.blk (i := 1) rfl).cell 0).trans (show _ = some (.string rn) from rfl)
          rw [HW0.out] at f0 H
          go_wp2_with fail
          refine (hold_version H.out (ShP.foot g s) F4.out 2 rn vr OKS.out.2.2.1).mono ?_
          rintro e w5 ⟨vv, rfl, hst⟩
          replace H := Lib.hid hst
          clear hst e2 f0
          go_wp2_with ((refine Mem.loadAll 1 (t := 45) rfl rfl rfl Tryz.underlying45 (n := 4) (by kernel_rfl) H.out.mem rfl rfl ?_))
          have PC := hold_putR H.out ((RfP.foot q s).sep F4.out) ⟨rn, rc, ts, rl⟩ (some ⟨tb, 0, none⟩) tc vv (by show rn.size ≤ _; omega) (by show rc.size ≤ _; omega) (by show ts.length ≤ _; unfold maxLen; omega) (see_ts (H.out.map fun F q => q.under fun F q => q.rot)) HRK.out (by omega)
          have hSn := aftR_n s ⟨rn, rc, ts, rl⟩ vv
          have PR := Lib.hid (fun w' L (h : Hold w w' L (Sep (ShP g (s.aftR ⟨rn, rc, ts, rl⟩ vv)) (Sep (RfP q s) (Sep (TsF tbase (.slice (some ⟨tb, 0, none⟩) ts.length tc) ts) Emp)))) => hold_rfputR (r := ⟨rn, rc, ts, rl⟩) h (ShP.foot _ _) Emp.foot vv (by show rn.size ≤ _; omega) (by show rc.size ≤ _; omega) (by show ts.length ≤ _; omega) HRK.out (by omega))
          generalize s.numOf (s.putR ⟨rn, rc, ts, rl⟩ vv) = z1 at *
          generalize s.putR ⟨rn, rc, ts, rl⟩ vv = z2 at *
          generalize s.aftR ⟨rn, rc, ts, rl⟩ vv = S at *
          unfold rtV at PC PR
          dsimp only at PC PR
          refine PC.mono ?_
          rintro e w6 ⟨rfl, hst⟩
          replace H := Lib.hid hst
          clear hst PC
          go_wp2_with ((refine Mem.loadAll 1 (t := 45) rfl rfl rfl Tryz.underlying45 (n := 4) (by kernel_rfl) H.out.mem rfl rfl ?_))
          refine (PR.out _ _ H.out).mono ?_
          rintro e w7 ⟨rfl, hst⟩
          have hst2 : Hold w w7 [] (TwoS g q S) := (hst.take 0).weak fun F q => q.weakR fun F q => q.weakR fun F q => q.dropL
          replace H := Lib.hid hst2
          clear hst hst2 PR
          go_wp2_with fail
          refine (hold_same H.out (by omega)).mono ?_
          rintro e w8 ⟨rfl, hst⟩
          replace H := Lib.hid hst
          clear hst
          go_wp2_with fail
          go_roundw
          case rel => exact ⟨k + 1, S, by omega, by omega, by go_num, H⟩
          case measure => simp [intOf]; omega
    · have e0 : ((r : Int) == 0) = false := by simp; omega
      have e1 : ((r : Int) == 1) = false := by simp; omega
      have e2 : ((r : Int) == 2) = false := by simp; omega
      have e3 : ((r : Int) == 3) = false := by simp; omega
      have e4 : ((r : Int) == 4) = false := by simp; omega
      have e5 : ((r : Int) == 5) = false := by simp; omega
      have ck := ((H.out.mem.blk (i := 0) rfl).cell 0).trans (show _ = some (.int .i64 kd) from rfl)
      have hkd := tdiv_wf OKS.out.1 8 (by omega)
      have hk8 := wrap_wf hkd
      have WK2 := Lib.hid (fun w => within4_any (kd.tdiv 8) 3 w (by omega) (by omega) hkd.1 hkd.2)
      have WN := Lib.hid (fun w => within4_any nm 6 w (by omega) (by omega) OKS.out.2.1.1 OKS.out.2.1.2)
      have r6 := withinI_range nm 6 (by omega)
      obtain ⟨j, hj⟩ : ∃ j : Nat, withinI nm 6 = j := ⟨(withinI nm 6).toNat, by omega⟩
      rw [hj] at WN r6
      have hj6 : j < 6 := by omega
      have j1 : (0 : Int) ≤ (j : Int) := by omega
      have j2 : (j : Int) < 6 := by omega
      generalize withinI (kd.tdiv 8) 3 = kk at *
      clear hA hr8 hkd hj r6
      go_wp2_with fail
      refine (WK2.out _).mono ?_
      rintro e wx ⟨rfl, rfl⟩
      clear WK2 ck
      obtain ⟨nj, hnj, hat⟩ := six_at hj6
      have H2 := H.out.alloc' (FT.out g q s) (sixNs.map Value.string) 9 rfl
      have x0 := ((H2.mem.blk (i := 1) rfl).cell j).trans hat
      unfold sixNs at H2 x0
      simp only [List.map_cons, List.map_nil] at H2 x0
      simp only [K0, K1, L1, L2, K2, K3, K4, K5, K6, K7, Nat.reduceAdd, Nat.reduceSub] at H2
      have x1 := ((H2.mem.blk (i := 0) rfl).cell 1).trans (show _ = some (.int .i64 nm) from rfl)
      have x2 := ((H2.mem.blk (i := 0) rfl).cell 2).trans (show _ = some (.int .i64 vr) from rfl)
      replace H := Lib.hid H2
      clear H2 hat hj6
      go_wp2_with fail
      refine (WN.out _).mono ?_
      rintro e wx ⟨rfl, rfl⟩
      clear WN
      go_wp2_with fail
      refine (hold_version H.out (ShP.foot g s) Emp.foot kk nj vr OKS.out.2.2.1).mono ?_
      rintro e w5 ⟨vv, rfl, hst⟩
      replace H := Lib.hid hst
      clear hst x0 x1 x2
      have PC := Lib.hid (fun w' L (h : Hold w w' L (TwoS g q s)) => hold_drop h ((RfP.foot q s).sep Emp.foot) kk nj vv (by unfold maxLen; omega) (by omega))
      have hSn := aftD_n s kk nj vv
      have PR := Lib.hid (fun w' L (h : Hold w w' L (Sep (ShP g (s.aftD kk nj vv)) (Sep (RfP q s) Emp))) => hold_rfdrop h (ShP.foot _ _) Emp.foot kk nj vv (by omega))
      generalize s.drop kk nj vv = z1 at *
      generalize s.aftD kk nj vv = S at *
      go_wp2_with fail
      refine (PC.out _ _ H.out).mono ?_
      rintro e w6 ⟨rfl, hst⟩
      replace H := Lib.hid hst
      clear hst PC
      go_wp2_with fail
      refine (PR.out _ _ H.out).mono ?_
      rintro e w7 ⟨rfl, hst⟩
      replace H := Lib.hid (hst.take 0)
      clear hst PR
      go_wp2_with fail
      refine (hold_same H.out (by omega)).mono ?_
      rintro e w8 ⟨rfl, hst⟩
      replace H := Lib.hid hst
      clear hst
      go_wp2_with fail
      go_roundw
      case rel => exact ⟨k + 1, S, by omega, by omega, by go_num, H⟩
      case measure => simp [intOf]; omega
end Go.Proofs.YtlnffdkaleapbaaGreat
