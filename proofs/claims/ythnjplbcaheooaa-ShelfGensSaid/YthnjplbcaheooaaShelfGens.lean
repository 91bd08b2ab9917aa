
/- The walk of ShelfGens. -/
import Derived.Test.YthnjplbcaheooaaShelfAgain
import Derived.Test.YthnjplbcaheooaaZ36
namespace Go.Proofs.Ythnjplbcaheooaa
set_option maxRecDepth 100000
set_option linter.unusedVariables false
set_option linter.unusedSimpArgs false
set_option linter.unnecessarySimpa false
open Go.RowKit Go.MapV Go.Maps

def webN : ByteArray := ⟨#[119, 101, 98]⟩
def modC (c : Cfg) : Cfg := ⟨c.nm, c.im.tmod 3, c.co, 0, c.mx, 0⟩
theorem modC_ok (c : Cfg) : (modC (gCfg c 0)).err = 0 ∧ (gCfg c 0).nm = webN := by
  refine ⟨?_, by unfold gCfg; show name3 0 = webN; decide +kernel⟩
  unfold modC gCfg Cfg.err Cfg.num
  have r1 := withinI_range c.im 256 (by omega)
  have r2 := withinI_range c.co 8 (by omega)
  have r4 := withinI_range c.mx 10 (by omega)
  simp only [(name3_ok 0).1, if_true]
  generalize withinI c.im 256 = q at *
  have h0 : 0 ≤ q.tmod 3 ∧ q.tmod 3 < 3 := by
    rw [Int.tmod_eq_emod_of_nonneg r1.1]; omega
  have h1 : inB (q.tmod 3) 0 255 = true := decide_eq_true (by omega)
  have h2 : inB (1 + withinI c.co 8) 1 8 = true := decide_eq_true (by omega)
  have h3 : inB (1 + withinI c.mx 10) 1 10 = true := decide_eq_true (by omega)
  have h4 : inB 0 0 (1 + withinI c.mx 10) = true := decide_eq_true (by omega)
  have h5 : inB 0 0 30 = true := by decide
  rw [h1, h2, h3, h4, h5]; rfl
/-- What the statement's own numbers say of the shelf. -/
structure GI (i : Nat) (s : Sh) (v want : Nat) (last : Cfg) : Prop where
  n : s.n ≤ 2 * i
  vn : v ≤ s.n
  g : s.gn webN = want
  le : want ≤ i
  c : (v = 0 ∧ s.cf webN = none) ∨ (1 ≤ v ∧ s.cf webN = some (last, v))
def wantN (v want : Nat) (c last : Cfg) : Nat := if v = 0 ∨ c ≠ last then want + 1 else want
theorem GI.put {i : Nat} {s : Sh} {v want : Nat} {last c : Cfg} (h : GI i s v want last) (hc : c.err = 0) (hn : c.nm = webN) : s.putC c v = 0 ∧ s.aftC c v = s.setC c := by
  have e : s.putC c v = 0 := by
    unfold Sh.putC
    rw [if_pos hc, hn]
    unfold mayP heldP verO
    rcases h.c with ⟨h1, h2⟩ | ⟨h1, h2⟩
    · subst h1; simp [h2]
    · rw [h2, if_neg (by omega)]; simp
  exact ⟨e, by unfold Sh.aftC; rw [if_pos e]⟩
theorem GI.set {i : Nat} {s : Sh} {v want : Nat} {last c : Cfg} (h : GI i s v want last) (hn : c.nm = webN) : GI (i + 1) (s.setC c) (s.n + 1) (wantN v want c last) c ∧ (s.setC c).n ≤ 2 * i + 1 := by
  have e1 := Sh.n_setC s c
  have e2 : (s.setC c).cf webN = some (c, s.n + 1) := by rw [setC_cf, hn, upd_at]
  have e3 : (s.setC c).gn webN = wantN v want c last := by
    have := setC_gn s c
    rw [hn] at this
    rw [this, h.g]
    unfold Sh.wasC
    rw [hn]
    rcases h.c with ⟨h1, h2⟩ | ⟨h1, h2⟩
    · have hw : wantN v want c last = want + 1 := if_pos (.inl h1)
      rw [h2, hw]; rfl
    · rw [h2]
      by_cases hq : c = last
      · have hw : wantN v want c last = want := if_neg (fun q => q.elim (fun q => (by omega)) (fun q => q hq))
        rw [hw, hq]
        simp
      · have hw : wantN v want c last = want + 1 := if_pos (.inr hq)
        have : ¬ last = c := fun q => hq q.symm
        rw [hw]
        simp [this]
  have hn1 := h.n
  have hl := h.le
  refine ⟨⟨by omega, by omega, e3, ?_, .inr ⟨by omega, e2⟩⟩, by omega⟩
  unfold wantN
  split <;> omega
theorem GI.told {i : Nat} {s : Sh} {v want : Nat} {c : Cfg} (h : GI i s v want c) (hv : 1 ≤ v) : s.cfgOf webN = (c, (v : Int), (want : Int), true) := by
  rcases h.c with ⟨h1, h2⟩ | ⟨h1, h2⟩
  · omega
  · unfold Sh.cfgOf
    rw [h2, h.g]
theorem GI.drop {i : Nat} {s : Sh} {v want : Nat} {c : Cfg} (h : GI i s v want c) (hv : 1 ≤ v) (hs : s.n ≤ 2 * i - 1) (hi : 1 ≤ i) : s.drop 1 webN v = 0 ∧ s.aftD 1 webN v = s.cut 1 webN ∧ ∀ c', GI i (s.cut 1 webN) 0 want c' := by
  rcases h.c with ⟨h1, h2⟩ | ⟨h1, h2⟩
  · omega
  · have e : s.drop 1 webN v = 0 := by
      unfold Sh.drop Sh.verK verO heldP
      rw [if_pos (.inl rfl), if_pos rfl, h2]
      simp
    refine ⟨e, by unfold Sh.aftD; rw [if_pos e], fun c' => ?_⟩
    unfold Sh.cut
    rw [if_pos rfl]
    exact ⟨by show s.n + 1 ≤ _; omega, by omega, h.g, h.le, .inl ⟨rfl, (by show upd s.cf webN none webN = none; exact upd_at _ _ _)⟩⟩
set_option maxHeartbeats 8000000 in
theorem walkShelfGens (w : World) (al : Option Addr) (xs : List Cfg) (cl : Nat) (hl : CfgsIn w al xs) (ad : Option Addr) (ds : List Bool) (cd : Nat) (hd : BoolsIn w ad ds) :
    Calls Try.prog 4 #[.slice al xs.length cl, .slice ad ds.length cd] w fun e w' => e = .returned (.bool true) ∧ Below w.heap.size w w' := by
  have KN := Lib.hid (fun w => known4_any w)
  have HL := Lib.hid hl
  have HD := Lib.hid hd
  have hxl := hl.le
  have hdl := hd.le
  have FE := Lib.hid (fun g s => (ShP.ft g s))
  clear hl hd
  go_enter Try.func4, Try.ntmps4
  go_wp2_with fail
  refine (KN.out _).mono ?_
  rintro e w1 ⟨rfl, hg⟩
  have H := Lib.hid ((Hold.nil w).grow Emp.foot hg)
  clear hg
  go_wp2_with fail
  refine (hold_new H.out Emp.foot).mono ?_
  rintro e w2 ⟨g, rfl, hh⟩
  replace H := Lib.hid (hh.alloc' (FE.out g _) [.string ⟨#[]⟩, .int .i64 0, .int .i64 0, .int .i64 0, .int .i64 0, .int .i64 0] 23 rfl)
  clear hh
  go_wp2_with fail
  go_loopw [6, 7, 9] (fun v n i wr => ∃ (k vn wn : Nat) (s : Sh) (d : Cfg), k ≤ 30 ∧ GI k s vn wn d ∧ v = .int .i64 vn ∧ n = .int .i64 wn ∧ i = .int .i64 k ∧ Hid (Hold w wr [(w2.heap.size, [.string d.nm, .int .i64 d.im, .int .i64 d.co, .int .i64 d.mn, .int .i64 d.mx, .int .i64 d.gr], 23)] (Sep (ShP g s) Emp))) (fun _ _ i _ => 30 - (intOf i).toNat)
  case atStart => exact ⟨0, 0, 0, Sh.new, ⟨⟨#[]⟩, 0, 0, 0, 0, 0⟩, by omega, ⟨(by rw [new_n]; omega), by omega, rfl, by omega, .inl ⟨rfl, rfl⟩⟩, rfl, rfl, rfl, by simpa using H⟩
  case round =>
    obtain ⟨k, vn, wn, s, d, hk, hI, rfl, rfl, rfl, HK⟩ := hrel
    by_cases hlt : k < xs.length ∧ k < 30
    · obtain ⟨h1, h2⟩ := hlt
      obtain ⟨x, hx⟩ : ∃ x, xs[k]? = some x := ⟨_, List.getElem?_eq_getElem h1⟩
      obtain ⟨b, off, rfl, hc⟩ := HL.out.at hx
      have hxo := HL.out.ok x (List.mem_of_getElem? hx)
      have GC := Lib.hid (fun w => gcfg_any x 0 w hxo.1 (by unfold wf64; omega))
      obtain ⟨hy1, hy2⟩ := modC_ok x
      have hy3 := (cfg_small (gCfg_ok x 0)).2
      obtain ⟨y, hy⟩ : ∃ y, gCfg x 0 = y := ⟨_, rfl⟩
      rw [hy] at GC hy1 hy2 hy3
      obtain ⟨p1, p2⟩ := hI.put hy1 hy2
      obtain ⟨hI2, hn2⟩ := hI.set (c := modC y) hy2
      have hC := hI2.told (by omega)
      have hn1 := hI.n
      have hxk : Hid (k < (xs.length : Nat)) := Lib.hid h1
      have d1 : decide ((k : Int) < (xs.length : Int)) = true := decide_eq_true (by omega)
      have HC := Lib.hid hc
      have d2 : decide ((k : Int) < 30) = true := decide_eq_true (by omega)
      have hnum : s.numOf 0 = (s.n : Int) + 1 := rfl
      have PC := Lib.hid (fun (w w' : World) (L : List MBox) (g : Nat) (h : Hold w w' L (Sep (ShP g s) Emp)) => by
        have := hold_putC h Emp.foot (modC y) vn (by show y.nm.size ≤ _; rw [hy2]; decide) (by omega)
        rwa [p1, p2, hnum] at this)
      have hsn := hI2.vn
      have hD := hI2.drop (by omega) (by omega) (by omega)
      have hm : ∃ m, wantN vn wn (modC y) d = m ∧ m = (if vn = 0 ∨ modC y ≠ d then wn + 1 else wn) := ⟨_, rfl, rfl⟩
      obtain ⟨m, hm1, hm2⟩ := hm
      rw [hm1] at hI2 hC hD
      have hwn := hI.le
      clear hI p1 p2 hnum hx hxo hy hm1
      generalize s.setC (modC y) = S2 at *
      obtain ⟨N, hN⟩ : ∃ N : Nat, s.n = N := ⟨_, rfl⟩
      rw [hN] at hI2 hC hD hn1 hsn PC
      have eN : ((N + 1 : Nat) : Int) = (N : Int) + 1 := by simp
      rw [eN] at hC hD
      have CF := Lib.hid (fun (w w' : World) (L : List MBox) (g : Nat) (h : Hold w w' L (Sep (ShP g S2) Emp)) => by
        have := hold_cfg h Emp.foot webN (by decide)
        rwa [hC] at this)
      obtain ⟨D1, D2, D3⟩ := hD
      have DR := Lib.hid (fun (w w' : World) (L : List MBox) (g : Nat) (h : Hold w w' L (Sep (ShP g S2) Emp)) => by
        have := hold_drop h Emp.foot 1 webN ((N : Int) + 1) (by decide) (by omega)
        rwa [D1, D2] at this)
      have D3 := Lib.hid D3
      have hI2 := Lib.hid hI2
      generalize S2.cut 1 webN = S3 at *
      have hw1 : IntKind.i64.wrap ((wn : Int) + 1) = (wn : Int) + 1 := IntWalk.i64_in _ ⟨by omega, by omega⟩
      have hk1 : IntKind.i64.wrap ((k : Int) + 1) = (k : Int) + 1 := IntWalk.i64_in _ ⟨by omega, by omega⟩
      obtain ⟨xn, i1, i2, i3, i4, i5⟩ := x
      obtain ⟨yn, j1, j2, j3, j4, j5⟩ := y
      obtain ⟨dn, l1, l2, l3, l4, l5⟩ := d
      have RQ := run_neq_cfg yn (j1.tmod 3) j2 0 j4 0 dn l1 l2 l3 l4 l5
      have hB : ∃ q, cfgB ⟨yn, j1.tmod 3, j2, 0, j4, 0⟩ ⟨dn, l1, l2, l3, l4, l5⟩ = q ∧ (q = true ↔ (⟨yn, j1.tmod 3, j2, 0, j4, 0⟩ : Cfg) = ⟨dn, l1, l2, l3, l4, l5⟩) := ⟨_, rfl, cfgB_iff⟩
      obtain ⟨q, hq1, hq2⟩ := hB
      rw [hq1] at RQ
      unfold modC Cfg.v Cfg.cells at *
      unfold webN at CF DR
      dsimp only at *
      replace hm2 := Lib.hid hm2
      replace hq2 := Lib.hid hq2
      clear D1 D2 hC hq1 hy1 hy2
      go_wp2_with (refine SlOf.load (t := 23) rfl rfl rfl Try.underlying23 (m := 6) (by kernel_rfl) (HC.out _ HK.out.below) rfl ?_)
      refine (GC.out _).mono ?_
      rintro e w3 ⟨rfl, hg⟩
      replace HK := Lib.hid (HK.out.grow (FE.out g s) hg)
      have lt0 := (HK.out.mem.blk (i := 0) rfl).lt
      clear hg
      go_wp2_with ((refine Hold.storeAll 1 (t := 23) (FE.out g s) rfl rfl rfl rfl (n := 6) (by kernel_rfl) (Hold.alloc' HK.out (FE.out g s) _ _ rfl) rfl rfl rfl rfl ?_; intro W4 HMm CW4))
      simp only [K0, K1, L1, L2, K2, K3, K4, K5, K6, K7, Nat.reduceAdd, Nat.reduceSub] at HMm
      replace HK := Lib.hid HMm
      clear HMm
      refine Stay.go ?_
      go_wp2_with (first | (refine Mem.load1 1 (t := 3) rfl rfl rfl Try.underlying3 rfl HK.out.mem rfl rfl ?_) | (refine Hold.store 1 (t := 3) (FE.out g s) rfl rfl rfl rfl (vs := [.int .i64 (j1.tmod 3)]) rfl (n := 1) (by kernel_rfl) HK.out rfl rfl (by simp) rfl ?_; intro W5 HMm CW5))
      simp only [K0, K1, L1, L2, K2, K3, K4, K5, K6, K7, Nat.reduceAdd, Nat.reduceSub] at HMm
      replace HK := Lib.hid HMm
      clear HMm
      refine Stay.go ?_
      go_wp2_with ((refine Hold.store 1 (t := 3) (FE.out g s) rfl rfl rfl rfl (vs := [.int .i64 0]) rfl (n := 1) (by kernel_rfl) HK.out rfl rfl (by simp) rfl ?_; intro W6 HMm CW6))
      simp only [K0, K1, L1, L2, K2, K3, K4, K5, K6, K7, Nat.reduceAdd, Nat.reduceSub] at HMm
      replace HK := Lib.hid HMm
      clear HMm
      refine Stay.go ?_
      go_wp2_with ((refine Hold.store 1 (t := 3) (FE.out g s) rfl rfl rfl rfl (vs := [.int .i64 0]) rfl (n := 1) (by kernel_rfl) HK.out rfl rfl (by simp) rfl ?_; intro W7 HMm CW7))
      simp only [K0, K1, L1, L2, K2, K3, K4, K5, K6, K7, Nat.reduceAdd, Nat.reduceSub] at HMm
      replace HK := Lib.hid HMm
      clear HMm
      refine Stay.go ?_
      have hcase : (vn = 0 ∧ (m : Int) = (wn : Int) + 1) ∨ (vn ≠ 0 ∧ q = true ∧ (m : Int) = (wn : Int)) ∨ (vn ≠ 0 ∧ q = false ∧ (m : Int) = (wn : Int) + 1) := by
        have a1 := hm2.out
        have a2 := hq2.out
        by_cases hv : vn = 0
        · left
          rw [if_pos (.inl hv)] at a1
          exact ⟨hv, by omega⟩
        · cases q with
          | true =>
            rw [if_neg (fun e => e.elim hv (fun e => e (a2.1 rfl)))] at a1
            exact .inr (.inl ⟨hv, rfl, by omega⟩)
          | false =>
            rw [if_pos (.inr (fun e => by have := a2.2 e; cases this))] at a1
            exact .inr (.inr ⟨hv, rfl, by omega⟩)
      clear hm2 hq2
      rcases hcase with ⟨rfl, hm⟩ | ⟨hv, rfl, hm⟩ | ⟨hv, rfl, hm⟩
      all_goals
        (try have t0 : ((vn : Int) == 0) = false := by simpa using hv)
        replace hm := Lib.hid hm
        (try clear hv)
        go_wp2_with (first | (refine loadAllW 1 (t := 23) rfl rfl rfl Try.underlying23 (n := 6) (by kernel_rfl) HK.out.mem rfl rfl ?_) | (refine loadAllW 0 (t := 23) rfl rfl rfl Try.underlying23 (n := 6) (by kernel_rfl) HK.out.mem rfl rfl ?_))
        have CF2 := CF.out
        rw [hm.out] at CF2
        replace CF2 := Lib.hid CF2
        refine (PC.out _ _ _ _ HK.out).mono ?_
        rintro e ws6 ⟨rfl, hst⟩
        replace HK := Lib.hid hst
        clear hst
        go_wp2_with fail
        refine (CF2.out _ _ _ _ HK.out).mono ?_
        rintro e ws7 ⟨rfl, hst⟩
        replace HK := Lib.hid hst
        clear hst
        go_wp2_with ((refine Hold.storeAll 2 (t := 23) (FE.out g S2) rfl rfl rfl rfl (n := 6) (by kernel_rfl) (Hold.alloc' HK.out (FE.out g S2) _ _ rfl) rfl rfl rfl rfl ?_; intro W8 HMm CW8))
        simp only [K0, K1, L1, L2, K2, K3, K4, K5, K6, K7, Nat.reduceAdd, Nat.reduceSub] at HMm
        replace HK := Lib.hid HMm
        clear HMm
        refine Stay.go ?_
        go_wp2_with fail
        have B0 := Lib.hid (HK.out.mem.blk (i := 0) rfl)
        have B1 := Lib.hid (HK.out.mem.blk (i := 1) rfl)
        have CE : (Try.prog.info? 23).map (·.size) = some 6 := by kernel_rfl
        refine Evo2.start' (ℓ := none) (S := Chg (fun j => j = w2.heap.size)) (E := Grow.G) (by kernel_rfl) ⟨Chg.pre _, by decide +kernel, (by intro c a d v w h; cases d <;> exact h), by decide +kernel⟩ (fun ok => ?_)
        refine Evo2.va ok 0 _ _ ?_
        first | (refine Evo2.val ok 1 ?_ ?_ ?_; rotate_left; (focus (intro w' hg; refine Box.exec_loadAll ?_ Try.underlying23 CE (B1.out.chg (Chg.trans (Chg.refl (fun j => j = w2.heap.size) _) hg) (Nat.ne_of_gt lt0)) ?_; (all_goals (first | exact ⟨rfl, rfl⟩ | rfl)))); simp only [Act.put, L0, L1, L2]) | (refine Evo2.va ok 1 _ _ ?_)
        refine Evo2.va ok 2 _ _ ?_
        refine Evo2.all [3] (by decide +kernel) rfl ?_
        intro wp1 gp1 iq hq
        simp only [List.mem_cons, List.mem_nil_iff, or_false] at hq
        have AP1 := Chg.trans (Chg.refl (fun j => j = w2.heap.size) _) (Chg.grow gp1)
        subst hq
        refine upStoreAll (by rfl) (by rfl) rfl rfl rfl (n := 6) (by kernel_rfl) ((B0.out.grow gp1)) rfl rfl rfl ?_
        intro wc1 BW CW1
        have CH1 : Chg (fun j => j = w2.heap.size) _ _ := CW1.mono (fun j _ e => e)
        refine ⟨.inr CH1, ?_⟩
        simp only [Act.put, L0, L1, L2]
        refine Evo2.done (by decide +kernel) (fun wz gz => ?_)
        have AZ := Chg.trans (Chg.trans AP1 CH1) (Chg.grow gz)
        rename World => W9
        replace HK := Lib.hid (((HK.out.grow (FE.out g S2) gp1).set (FE.out g S2) (i := 0) rfl BW CW1).grow (FE.out g S2) gz)
        clear B0 B1 CE BW CW1 gz gp1 AZ AP1 CH1
        have HKn := HK.out
        simp only [K0, K1, L1, L2, K2, K3, K4, K5, K6, K7, Nat.reduceAdd, Nat.reduceSub] at HKn
        replace HK := Lib.hid HKn
        clear HKn
        by_cases hdk : k < ds.length
        · obtain ⟨z, hz⟩ : ∃ z, ds[k]? = some z := ⟨_, List.getElem?_eq_getElem hdk⟩
          obtain ⟨bb, oo, rfl, hcd⟩ := HD.out.at hz
          have hcz := cell_later HK.out.below hcd
          have d3 : decide ((k : Int) < (ds.length : Int)) = true := decide_eq_true (by omega)
          clear hcd hz
          cases z with
          | true =>
            go_wp2_with fail
            refine (DR.out _ _ _ _ HK.out).mono ?_
            rintro e ws9 ⟨rfl, hst⟩
            replace HK := Lib.hid hst
            clear hst
            go_wp2_with fail
            exact ⟨⟨k + 1, 0, m, S3, ⟨yn, j1.tmod 3, j2, 0, j4, 0⟩, by omega, D3.out _, rfl, by rw [hm.out], rfl, Lib.hid (HK.out.take 1)⟩, by simp [intOf]; omega⟩
          | false =>
            go_wp2_with fail
            exact ⟨⟨k + 1, N + 1, m, S2, ⟨yn, j1.tmod 3, j2, 0, j4, 0⟩, by omega, hI2.out, rfl, by rw [hm.out], rfl, Lib.hid (HK.out.take 1)⟩, by simp [intOf]; omega⟩
        · have d3 : decide ((k : Int) < (ds.length : Int)) = false := decide_eq_false (by omega)
          go_wp2_with fail
          exact ⟨⟨k + 1, N + 1, m, S2, ⟨yn, j1.tmod 3, j2, 0, j4, 0⟩, by omega, hI2.out, rfl, by rw [hm.out], rfl, Lib.hid (HK.out.take 1)⟩, by simp [intOf]; omega⟩
    · by_cases h1 : k < xs.length
      · have d1 : decide ((k : Int) < (xs.length : Int)) = true := decide_eq_true (by omega)
        have d2 : decide ((k : Int) < 30) = false := decide_eq_false (by omega)
        go_wp2_with fail
        go_ret
        exact ⟨rfl, HK.out.below⟩
      · have d1 : decide ((k : Int) < (xs.length : Int)) = false := decide_eq_false (by omega)
        go_wp2_with fail
        go_ret
        exact ⟨rfl, HK.out.below⟩
end Go.Proofs.Ythnjplbcaheooaa
