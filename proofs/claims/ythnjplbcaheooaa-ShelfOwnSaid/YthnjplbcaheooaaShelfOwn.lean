
/- The walk of ShelfOwn. -/
import Derived.Test.YthnjplbcaheooaaShelfKinds
namespace Go.Proofs.Ythnjplbcaheooaa
set_option maxRecDepth 100000
set_option linter.unusedVariables false
set_option linter.unusedSimpArgs false
set_option linter.unnecessarySimpa false
open Go.RowKit Go.MapV Go.Maps

theorem new_putR (r : Rt) (hr : r.err = 0) : Sh.new.putR r 0 = 0 ∧ Sh.new.aftR r 0 = Sh.new.setR r ∧ (Sh.new.setR r).rt r.nm = some (r, 1) ∧ (Sh.new.setR r).n = 1 := by
  have h : Sh.new.putR r 0 = 0 := by unfold Sh.putR; rw [if_pos hr]; rfl
  refine ⟨h, by unfold Sh.aftR; rw [h]; rfl, ?_, rfl⟩
  show upd Sh.new.rt r.nm _ r.nm = _
  rw [upd_at]; rfl
/-- Targets that may be written over. -/
theorem any_ts {w : World} {F : Nat → Prop} {base b c : Nat} {ts : List Tgt} (h : TsF base (.slice (some ⟨b, 0, none⟩) ts.length c) ts w F) (h0 : 0 < ts.length) : AnyF b (ts.length * 3) 46 w F := by
  obtain ⟨ho, e⟩ := h
  obtain ⟨b', cap, cur, hv, _, hb, hc⟩ := own_blk ho h0
  cases hv
  refine ⟨⟨cur, hb, ?_⟩, fun k => (e k).trans ⟨fun q => by cases q; rfl, fun q => by rw [q]; rfl⟩⟩
  have hl := flatT_len ts
  have := hc (ts.length * 3 - 1) ((flatT ts)[ts.length * 3 - 1]'(by omega)) (by simp)
  have := (Array.getElem?_eq_some_iff.1 this).1
  omega
theorem ts_sl {w : World} {F : Nat → Prop} {base n c : Nat} {a : Option Addr} {ts : List Tgt} (h : TsF base (.slice a n c) ts w F) : TgtSl w a ts := by
  have ho : OwnTs w base (.slice a n c) ts := h.1
  obtain ⟨sa, c', hv⟩ := own_shape ho
  cases hv
  exact ho.tgts.1
theorem hold_rt_row {w0 w : World} {L : List MBox} {B : Hp} {g : Nat} {s : Sh} (h : Hold w0 w L (Sep (ShP g s) B)) (hB : Foot B) (nm : ByteArray) (r : Rt) (v : Nat) (hs : nm.size ≤ maxLen) (hf : s.rt nm = some (r, v)) :
    Calls Try.prog 19 #[pt g, .string nm] w fun e w' => ∃ b cap, e = .returned (.tuple #[rtV r.nm r.cf (.slice (some ⟨b, 0, none⟩) r.ts.length cap) r.rl, .int .i64 v, .bool true]) ∧ Hold w0 w' L (Sep (ShP g s) (Sep (TsF w.heap.size (.slice (some ⟨b, 0, none⟩) r.ts.length cap) r.ts) B)) := by
  obtain ⟨F, ⟨F1, F2, a, _⟩, _⟩ := id h.st
  refine (srt_some g F1 s nm r v w a hs hf).mono ?_
  rintro e w' ⟨b, cap, rfl, ho, hg⟩
  exact ⟨b, cap, rfl, hold_ts h (ShP.foot _ _) hB hg ho⟩
set_option maxHeartbeats 8000000 in
theorem walkShelfOwn (w : World) (name : Int) (hn : wf64 name) (v : Value) (zs : List Int) (hz : IntSlice w v zs) (roll : Int) (hr : wf64 roll) :
    Calls Try.prog 5 #[.int .i64 name, v, .int .i64 roll] w fun e w' => e = .returned (.bool true) ∧ Below w.heap.size w w' := by
  have KN := Lib.hid (fun w => known4_any w)
  have GR := Lib.hid (fun w h => groute_own name v zs roll w hn h hr)
  unfold RtOwn at GR
  obtain ⟨va, vc, rfl, -⟩ := hz.open
  have HZ := Lib.hid hz
  have r6 := withinI_range roll 61 (by omega)
  have hR := gRoute_ok name zs (withinI roll 61) (by omega)
  have hRK := gTs_ok name zs
  have hRL := nT_range zs
  rw [← gTs_len (rtCf name) zs] at hRL
  generalize withinI roll 61 = rl at *
  generalize rtName name = rn at *
  generalize rtCf name = rc at *
  generalize gTs rc zs = ts at *
  obtain ⟨k1, k2, k3, k4⟩ := new_putR ⟨rn, rc, ts, rl⟩ hR
  obtain ⟨s1, s2, -⟩ := rt_small (r := ⟨rn, rc, ts, rl⟩) hR
  dsimp only at s1 s2 k3
  have P1 := Lib.hid (fun (w w' : World) (L : List MBox) (B : Hp) (hB : Foot B) (g : Nat) (a : Option Addr) (cap : Nat) (h : Hold w w' L (Sep (ShP g Sh.new) B)) (ht : TgtSl w' a ts) => by
    have := hold_putR h hB ⟨rn, rc, ts, rl⟩ a cap 0 (by show rn.size ≤ _; omega) (by show rc.size ≤ _; omega) (by show ts.length ≤ _; unfold maxLen; omega) ht hRK (by rw [new_n]; omega)
    rwa [k1, k2] at this)
  have hn1 : (Sh.new).numOf 0 = 1 := rfl
  rw [hn1] at P1
  generalize Sh.new.setR ⟨rn, rc, ts, rl⟩ = S at *
  have E1 := Lib.hid (fun (w w' : World) (L : List MBox) (B : Hp) (hB : Foot B) (g : Nat) (h : Hold w w' L (Sep (ShP g S) B)) => hold_rt_row h hB rn ⟨rn, rc, ts, rl⟩ 1 (by unfold maxLen; omega) k3)
  have E2 := Lib.hid (fun (w w' : World) (L : List MBox) (B : Hp) (hB : Foot B) (g : Nat) (h : Hold w w' L (Sep (ShP g Sh.new) B)) => hold_rt_none h hB rn (by unfold maxLen; omega) rfl)
  have E3 := Lib.hid (fun (w w' : World) (L : List MBox) (B : Hp) (hB : Foot B) (g : Nat) (h : Hold w w' L (Sep (ShP g Sh.new) B)) => hold_names_at h hB 2 [] (by rw [new_n]; omega) (new_names 2))
  have SR := Lib.hid (fun w a c a' c' h h' => rsame_at rn rc a ts ts.length c rl rn rc a' ts ts.length c' rl w true rfl rfl (by omega) h h' (sameR_refl _ _ _ _))
  unfold rtV at *
  dsimp only at *
  simp only [List.length_nil] at E3
  clear hn hr hz hR hRK k1 k2 k3 hn1 r6
  have f1 := fun g s => ShP.foot g s
  have f2 := fun b v => TsF.foot b v ts
  have f3 := fun b => AnyF.foot b (ts.length * 3) 46
  have FZ := Lib.hid (fun g1 s1 g2 s2 => (f1 g1 s1).sep ((f1 g2 s2).sep Emp.foot))
  have FY := Lib.hid (fun g1 s1 b1 v1 g2 s2 => (f1 g1 s1).sep ((f2 b1 v1).sep ((f1 g2 s2).sep Emp.foot)))
  have FX := Lib.hid (fun g1 s1 b1 v1 b2 v2 g2 s2 => (f1 g1 s1).sep ((f2 b1 v1).sep ((f2 b2 v2).sep ((f1 g2 s2).sep Emp.foot))))
  have FW := Lib.hid (fun b1 v1 b2 v2 g2 s2 => (f2 b1 v1).sep ((f2 b2 v2).sep ((f1 g2 s2).sep Emp.foot)))
  have FV := Lib.hid (fun b1 v1 g2 s2 => (f2 b1 v1).sep ((f1 g2 s2).sep Emp.foot))
  have FU := Lib.hid (fun g2 s2 => (f1 g2 s2).sep Emp.foot)
  have FQ := Lib.hid (fun g1 s1 b1 v1 b2 v2 => (f1 g1 s1).sep ((f2 b1 v1).sep ((f2 b2 v2).sep Emp.foot)))
  have FP := Lib.hid (fun g2 s2 g1 s1 b1 v1 b2 v2 => (f1 g2 s2).sep ((f1 g1 s1).sep ((f2 b1 v1).sep ((f2 b2 v2).sep Emp.foot))))
  have F3 := Lib.hid f3
  have F2 := Lib.hid f2
  have F1 := Lib.hid f1
  clear f1 f2 f3
  go_enter Try.func5, Try.ntmps5
  go_wp2_with fail
  refine (KN.out _).mono ?_
  rintro e w1 ⟨rfl, hg⟩
  have H := Lib.hid ((Hold.nil w).grow Emp.foot hg)
  clear hg
  go_wp2_with fail
  refine (hold_new H.out Emp.foot).mono ?_
  rintro e w2 ⟨g, rfl, hh⟩
  replace H := Lib.hid hh
  clear hh
  go_wp2_with fail
  refine (hold_new H.out (FU.out _ _)).mono ?_
  rintro e w3 ⟨g2, rfl, hh⟩
  replace H := Lib.hid hh.rot
  clear hh
  go_wp2_with fail
  refine (GR.out _ (HZ.out.below H.out.below)).mono ?_
  rintro e w4 ⟨b1, c1, rfl, ho, hg⟩
  replace H := Lib.hid (hold_ts H.out (F1.out _ _) (FU.out _ _) hg ho)
  clear ho hg
  go_wp2_with fail
  refine (GR.out _ (HZ.out.below H.out.below)).mono ?_
  rintro e w5 ⟨b2, c2, rfl, ho, hg⟩
  replace H := Lib.hid (hold_ts H.out (F1.out _ _) (FV.out _ _ _ _) hg ho)
  clear ho hg
  go_wp2_with ((refine Hold.storeAll 0 (t := 42) (FX.out _ _ _ _ _ _ _ _) rfl rfl rfl rfl (n := 4) (by kernel_rfl) (Hold.alloc' (Hold.alloc' H.out (FX.out _ _ _ _ _ _ _ _) _ _ (g := w5.heap.size) rfl) (FX.out _ _ _ _ _ _ _ _) _ _ (g := w5.heap.size + 1) (by simp)) rfl rfl rfl rfl ?_; intro wm1 HMm Cwm1))
  simp only [K0, K1, L1, L2, K2, K3, K4, K5, K6, K7, Nat.reduceAdd, Nat.reduceSub] at HMm
  replace H := Lib.hid HMm
  clear HMm
  refine Stay.go ?_
  go_wp2_with ((refine Hold.storeAll 1 (t := 42) (FX.out _ _ _ _ _ _ _ _) rfl rfl rfl rfl (n := 4) (by kernel_rfl) H.out rfl rfl rfl rfl ?_; intro wm2 HMm Cwm2))
  simp only [K0, K1, L1, L2, K2, K3, K4, K5, K6, K7, Nat.reduceAdd, Nat.reduceSub] at HMm
  replace H := Lib.hid HMm
  clear HMm
  refine Stay.go ?_
  replace H := Lib.hid (H.out.map fun F h => h.under fun F h => h.rot)
  go_wp2_with ((refine Mem.loadAll 0 (t := 42) rfl rfl rfl Try.underlying42 (n := 4) (by kernel_rfl) H.out.mem rfl rfl ?_))
  refine (P1.out _ _ _ _ (FW.out _ _ _ _ _ _) _ _ _ H.out (see_ts H.out)).mono ?_
  rintro e ws4 ⟨rfl, hst⟩
  replace H := Lib.hid hst
  clear hst
  replace H := Lib.hid ((H.out.rot).map fun F h => h.over fun F h => any_ts h (by omega))
  go_wp2_with fail
  go_loopw [13] (fun i wr => ∃ k : Nat, k ≤ ts.length ∧ i = .int .i64 k ∧ Hid (Hold w wr [(w5.heap.size, [.string rn, .string rc, .slice (some ⟨b1, 0, none⟩) ts.length c1, .int .i64 rl], 42), (w5.heap.size + 1, [.string rn, .string rc, .slice (some ⟨b2, 0, none⟩) ts.length c2, .int .i64 rl], 42)] (Sep (AnyF b1 (ts.length * 3) 46) (Sep (ShP g S) (Sep (TsF w4.heap.size (.slice (some ⟨b2, 0, none⟩) ts.length c2) ts) (Sep (ShP g2 Sh.new) Emp)))))) (fun i _ => ts.length - (intOf i).toNat)
  case atStart => exact ⟨0, Nat.zero_le _, rfl, H⟩
  case round =>
    obtain ⟨k, hk, rfl, HK⟩ := hrel
    by_cases hlt : k < ts.length
    · have k0 : (0 : Int) ≤ (k : Int) := by omega
      have k1 : (k : Int) < (ts.length : Int) := by omega
      go_wp2_with (first | (refine Mem.load1 0 (t := 40) rfl rfl rfl Try.underlying40 rfl HK.out.mem rfl rfl ?_) | (refine Hold.poke (t := 46) ((F1.out g S).sep ((F2.out _ _).sep ((F1.out g2 _).sep Emp.foot))) rfl rfl rfl rfl (vs := [.string ⟨#[]⟩, .string ⟨#[113]⟩, .int .i64 0]) rfl (n := 3) (by kernel_rfl) HK.out rfl (by omega) rfl ?_; intro wq HKm))
      replace HK := Lib.hid HKm
      clear HKm
      refine Stay.go ?_
      go_wp2_with fail
      exact ⟨⟨k + 1, by omega, rfl, HK⟩, by simp [intOf]; omega⟩
    · obtain rfl : k = ts.length := by omega
      replace H := Lib.hid HK.out.drop1
      clear HK
      go_wp2_with (first | (refine Mem.load1 1 (t := 9) rfl rfl rfl Try.underlying9 rfl H.out.mem rfl rfl ?_) | refine Mem.load1 0 (t := 40) rfl rfl rfl Try.underlying40 rfl H.out.mem rfl rfl ?_)
      refine (E1.out _ _ _ _ (FU.out _ _ |> fun q => (F2.out _ _).sep q) _ H.out).mono ?_
      rintro e w6 ⟨b3, c3, rfl, hst⟩
      replace H := Lib.hid hst
      clear hst
      go_wp2_with ((refine Hold.storeAll 2 (t := 42) (FX.out _ _ _ _ _ _ _ _) rfl rfl rfl rfl (n := 4) (by kernel_rfl) (Hold.alloc' H.out (FX.out _ _ _ _ _ _ _ _) _ _ rfl) rfl rfl rfl rfl ?_; intro wm6 HMm Cwm6))
      simp only [K0, K1, L1, L2, K2, K3, K4, K5, K6, K7, Nat.reduceAdd, Nat.reduceSub] at HMm
      replace H := Lib.hid HMm
      clear HMm
      refine Stay.go ?_
      go_wp2_with (first | (refine loadAllW 1 (t := 42) rfl rfl rfl Try.underlying42 (n := 4) (by kernel_rfl) H.out.mem rfl rfl ?_) | (refine loadAllW 2 (t := 42) rfl rfl rfl Try.underlying42 (n := 4) (by kernel_rfl) H.out.mem rfl rfl ?_))
      refine (SR.out _ _ c3 _ c2 (see_ts H.out) (see_ts (H.out.map fun F h => h.under fun F h => h.rot))).mono ?_
      rintro e w7 ⟨rfl, hg⟩
      replace H := Lib.hid (H.out.grow (FX.out _ _ _ _ _ _ _ _) hg)
      clear hg
      replace H := Lib.hid ((H.out.rot).map fun F h => h.over fun F h => any_ts h (by omega))
      go_wp2_with fail
      go_loopw [17] (fun i wr => ∃ k : Nat, k ≤ ts.length ∧ i = .int .i64 k ∧ Hid (Hold w wr [(w5.heap.size, [.string rn, .string rc, .slice (some ⟨b1, 0, none⟩) ts.length c1, .int .i64 rl], 42), (w5.heap.size + 1, [.string rn, .string rc, .slice (some ⟨b2, 0, none⟩) ts.length c2, .int .i64 rl], 42), (w6.heap.size, [.string rn, .string rc, .slice (some ⟨b3, 0, none⟩) ts.length c3, .int .i64 rl], 42)] (Sep (AnyF b3 (ts.length * 3) 46) (Sep (ShP g S) (Sep (TsF w4.heap.size (.slice (some ⟨b2, 0, none⟩) ts.length c2) ts) (Sep (ShP g2 Sh.new) Emp)))))) (fun i _ => ts.length - (intOf i).toNat)
      case atStart => exact ⟨0, Nat.zero_le _, rfl, H⟩
      case round =>
        obtain ⟨k, hk, rfl, HK⟩ := hrel
        by_cases hlt : k < ts.length
        · have k0 : (0 : Int) ≤ (k : Int) := by omega
          have k1 : (k : Int) < (ts.length : Int) := by omega
          go_wp2_with (first | (refine Mem.load1 2 (t := 40) rfl rfl rfl Try.underlying40 rfl HK.out.mem rfl rfl ?_) | (refine Hold.poke (t := 46) ((F1.out g S).sep ((F2.out _ _).sep ((F1.out g2 _).sep Emp.foot))) rfl rfl rfl rfl (vs := [.string ⟨#[]⟩, .string ⟨#[112]⟩, .int .i64 0]) rfl (n := 3) (by kernel_rfl) HK.out rfl (by omega) rfl ?_; intro wq HKm))
          replace HK := Lib.hid HKm
          clear HKm
          refine Stay.go ?_
          go_wp2_with fail
          exact ⟨⟨k + 1, by omega, rfl, HK⟩, by simp [intOf]; omega⟩
        · obtain rfl : k = ts.length := by omega
          replace H := Lib.hid HK.out.drop1
          clear HK
          go_wp2_with (first | (refine Mem.load1 1 (t := 9) rfl rfl rfl Try.underlying9 rfl H.out.mem rfl rfl ?_) | refine Mem.load1 2 (t := 40) rfl rfl rfl Try.underlying40 rfl H.out.mem rfl rfl ?_)
          refine (E1.out _ _ _ _ (FU.out _ _ |> fun q => (F2.out _ _).sep q) _ H.out).mono ?_
          rintro e w8 ⟨b5, c5, rfl, hst⟩
          replace H := Lib.hid hst
          clear hst
          go_wp2_with ((refine Hold.storeAll 3 (t := 42) (FX.out _ _ _ _ _ _ _ _) rfl rfl rfl rfl (n := 4) (by kernel_rfl) (Hold.alloc' H.out (FX.out _ _ _ _ _ _ _ _) _ _ rfl) rfl rfl rfl rfl ?_; intro wm9 HMm Cwm9))
          simp only [K0, K1, L1, L2, K2, K3, K4, K5, K6, K7, Nat.reduceAdd, Nat.reduceSub] at HMm
          replace H := Lib.hid HMm
          clear HMm
          refine Stay.go ?_
          go_wp2_with ((refine Mem.load1 1 (t := 9) rfl rfl rfl Try.underlying9 rfl H.out.mem rfl rfl ?_))
          replace H := Lib.hid ((((H.out.map fun F h => h.under fun F h => h.under fun F h => h.rot)).map fun F h => h.under fun F h => h.rot).rot)
          refine (E2.out _ _ _ _ (FQ.out _ _ _ _ _ _) _ H.out).mono ?_
          rintro e w9 ⟨rfl, hst⟩
          replace H := Lib.hid hst
          clear hst
          go_wp2_with ((refine Hold.storeAll 4 (t := 42) (FP.out _ _ _ _ _ _ _ _) rfl rfl rfl rfl (n := 4) (by kernel_rfl) (Hold.alloc' H.out (FP.out _ _ _ _ _ _ _ _) _ _ rfl) rfl rfl rfl rfl ?_; intro wm12 HMm Cwm12))
          simp only [K0, K1, L1, L2, K2, K3, K4, K5, K6, K7, Nat.reduceAdd, Nat.reduceSub] at HMm
          replace H := Lib.hid HMm
          clear HMm
          refine Stay.go ?_
          go_wp2_with (first | (refine Mem.loadAll 1 (t := 42) rfl rfl rfl Try.underlying42 (n := 4) (by kernel_rfl) H.out.mem rfl rfl ?_) | (refine Mem.loadAll 3 (t := 42) rfl rfl rfl Try.underlying42 (n := 4) (by kernel_rfl) H.out.mem rfl rfl ?_))
          have ty := see_ts (H.out.drop1)
          have tw := see_ts (H.out.drop1.map fun F h => h.under fun F h => h.rot)
          refine (SR.out _ _ c5 _ c2 ty tw).mono ?_
          rintro e w10 ⟨rfl, hg⟩
          replace H := Lib.hid (H.out.grow (FP.out _ _ _ _ _ _ _ _) hg)
          clear hg
          go_wp2_with fail
          refine (E3.out _ _ _ _ (FQ.out _ _ _ _ _ _) _ H.out).mono ?_
          rintro e ws14 ⟨a6, c6, rfl, -, hst⟩
          replace H := Lib.hid hst
          clear hst
          go_wp2_with fail
          go_ret
          exact ⟨rfl, H.out.below⟩
end Go.Proofs.Ythnjplbcaheooaa
