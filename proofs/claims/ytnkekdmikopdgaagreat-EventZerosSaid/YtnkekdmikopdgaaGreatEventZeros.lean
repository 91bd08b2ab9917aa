/- The walk of EventZeros. -/
import Derived.Test.YtnkekdmikopdgaaGreatZ7
import Derived.Test.YtnkekdmikopdgaaGreatZ16
import Derived.Test.YtnkekdmikopdgaaGreatZ5
import Derived.Test.YtnkekdmikopdgaaGreatZ2
import Derived.Test.YtnkekdmikopdgaaGreatZ17
import Derived.Test.YtnkekdmikopdgaaGreatZ18
import Derived.Test.YtnkekdmikopdgaaGreatZ11
namespace Go.Proofs.YtnkekdmikopdgaaGreat
set_option maxRecDepth 100000
set_option linter.unusedVariables false
set_option linter.unusedSimpArgs false
set_option linter.unnecessarySimpa false
open Go.RowKit

set_option maxHeartbeats 8000000 in
theorem walkEventZeros (w : World) (kd : Int) (hkd : wf64 kd) (n : Int) (hn : wf64 n) (dr : Int) (hdr : wf64 dr) (nm : Int) (hnm : wf64 nm) (c : Cfg) (hc : c.wf ∧ c.nm.size ≤ 140737488351232) (v : Value) (zs : List Int) (hz : IntSlice w v zs) (wh : Int) (hwh : wf64 wh) :
    Calls Tryz.prog 10 #[.int .i64 kd, .int .i64 n, .int .i64 dr, .int .i64 nm, c.v, v, .int .i64 wh] w fun e w' => e = .returned (.bool true) ∧ Below w.heap.size w w' := by
  have MK := Lib.hid (fun w h => make_any kd n dr nm c v zs w hkd hn hdr hnm hc.1 h)
  have HZ := Lib.hid hz
  have CHK := mkE_chk kd n dr nm c zs
  generalize mkE kd n dr nm c zs = E at *
  have db := dr_bd CHK
  have WD : IntKind.i64.wrap (E.dr + 1) = E.dr + 1 := by rw [IntKind.wrap_i64]; omega
  have HCK := Lib.hid CHK
  have CK0 := Lib.hid (fun a c w (h : TgtSl w a E.ts) => (show Calls Tryz.prog 14 #[.agg #[.int .i64 E.k, .string E.nm, .string E.tg, .int .i64 E.n, .int .i64 E.dr, .string E.c.nm, .int .i64 E.c.im, .int .i64 E.c.co, .int .i64 E.c.mn, .int .i64 E.c.mx, .int .i64 E.c.gr, .string E.rn, .string E.rc, .slice a E.ts.length c, .int .i64 E.rr]] w fun x w' => x = .returned (.int .i64 0) ∧ Grow.G w w' from by
    have := echk_any E a c w (ev_bd CHK h)
    rwa [CHK] at this))
  have CX0 := Lib.hid (fun a c w (h : TgtSl w a E.ts) (hk : ¬ (E.k = 3 ∨ E.k = 4)) => (show Calls Tryz.prog 14 #[.agg #[.int .i64 E.k, .string E.nm, .string E.tg, .int .i64 E.n, .int .i64 (E.dr + 1), .string E.c.nm, .int .i64 E.c.im, .int .i64 E.c.co, .int .i64 E.c.mn, .int .i64 E.c.mx, .int .i64 E.c.gr, .string E.rn, .string E.rc, .slice a E.ts.length c, .int .i64 E.rr]] w fun x w' => x = .returned (.int .i64 (2)) ∧ Grow.G w w' from by
    have hb := ev_bd CHK h
    have := echk_any ({ E with dr := E.dr + 1 } : EvD) a c w ⟨hb.nm, hb.tg, hb.cn, hb.rn, hb.rc, hb.tl, hb.ts, hb.ok⟩
    rwa [z0 CHK hk] at this))
  have CX1 := Lib.hid (fun a c w (h : TgtSl w a E.ts) => (show Calls Tryz.prog 14 #[.agg #[.int .i64 E.k, .string E.nm, .string ⟨#[116]⟩, .int .i64 E.n, .int .i64 E.dr, .string E.c.nm, .int .i64 E.c.im, .int .i64 E.c.co, .int .i64 E.c.mn, .int .i64 E.c.mx, .int .i64 E.c.gr, .string E.rn, .string E.rc, .slice a E.ts.length c, .int .i64 E.rr]] w fun x w' => x = .returned (.int .i64 (if E.k = 4 then 0 else 2)) ∧ Grow.G w w' from by
    have hb := ev_bd CHK h
    have := echk_any ({ E with tg := ⟨#[116]⟩ } : EvD) a c w ⟨hb.nm, (show ByteArray.size ⟨#[116]⟩ ≤ 140737488351232 from by decide), hb.cn, hb.rn, hb.rc, hb.tl, hb.ts, hb.ok⟩
    rwa [z1 CHK] at this))
  have CX2 := Lib.hid (fun a c w (h : TgtSl w a E.ts) => (show Calls Tryz.prog 14 #[.agg #[.int .i64 E.k, .string E.nm, .string E.tg, .int .i64 E.n, .int .i64 E.dr, .string E.c.nm, .int .i64 1, .int .i64 E.c.co, .int .i64 E.c.mn, .int .i64 E.c.mx, .int .i64 E.c.gr, .string E.rn, .string E.rc, .slice a E.ts.length c, .int .i64 E.rr]] w fun x w' => x = .returned (.int .i64 (if E.k = 1 then 0 else 2)) ∧ Grow.G w w' from by
    have hb := ev_bd CHK h
    have := echk_any ({ E with c := { E.c with im := 1 } } : EvD) a c w ⟨hb.nm, hb.tg, hb.cn, hb.rn, hb.rc, hb.tl, hb.ts, hb.ok⟩
    rwa [z2 CHK] at this))
  have CX3 := Lib.hid (fun a c w (h : TgtSl w a E.ts) => (show Calls Tryz.prog 14 #[.agg #[.int .i64 E.k, .string E.nm, .string E.tg, .int .i64 E.n, .int .i64 E.dr, .string E.c.nm, .int .i64 E.c.im, .int .i64 E.c.co, .int .i64 E.c.mn, .int .i64 E.c.mx, .int .i64 E.c.gr, .string E.rn, .string E.rc, .slice a E.ts.length c, .int .i64 5]] w fun x w' => x = .returned (.int .i64 (if E.k = 2 then 0 else 2)) ∧ Grow.G w w' from by
    have hb := ev_bd CHK h
    have := echk_any ({ E with rr := 5 } : EvD) a c w ⟨hb.nm, hb.tg, hb.cn, hb.rn, hb.rc, hb.tl, hb.ts, hb.ok⟩
    rwa [z3 CHK] at this))
  have CX4 := Lib.hid (fun a c w (h : TgtSl w a E.ts) => (show Calls Tryz.prog 14 #[.agg #[.int .i64 E.k, .string E.nm, .string E.tg, .int .i64 1, .int .i64 E.dr, .string E.c.nm, .int .i64 E.c.im, .int .i64 E.c.co, .int .i64 E.c.mn, .int .i64 E.c.mx, .int .i64 E.c.gr, .string E.rn, .string E.rc, .slice a E.ts.length c, .int .i64 E.rr]] w fun x w' => x = .returned (.int .i64 (if E.k ≤ 8 then 0 else 2)) ∧ Grow.G w w' from by
    have hb := ev_bd CHK h
    have := echk_any ({ E with n := 1 } : EvD) a c w ⟨hb.nm, hb.tg, hb.cn, hb.rn, hb.rc, hb.tl, hb.ts, hb.ok⟩
    rwa [z4 CHK] at this))
  have WI := Lib.hid (fun w => within3_any wh 5 w (by omega) (by omega) hwh.1 hwh.2)
  have rW := withinI_range wh 5 (by omega)
  generalize withinI wh 5 = q at *
  have hq : q = 0 ∨ q = 1 ∨ q = 2 ∨ q = 3 ∨ q = 4 := by omega
  have CE : (Tryz.prog.info? 28).map (·.size) = some 15 := by kernel_rfl
  have CI : (Tryz.prog.info? 3).map (·.size) = some 1 := by kernel_rfl
  have CS : (Tryz.prog.info? 9).map (·.size) = some 1 := by kernel_rfl
  obtain ⟨cn, im, co, mn, mx, gr⟩ := c
  unfold Cfg.v at *
  dsimp only at *
  clear hz hc hkd hn hdr hnm CHK hwh rW db
  go_enter Tryz.func10, Tryz.ntmps10
  go_wp2_with fail
  refine (known3_any _).mono ?_
  rintro e wn1 ⟨rfl, hb1⟩
  have g1 : Grow.G w wn1 := Grow.G.trans (Grow.G.alloc (Grow.G.refl _) _) hb1
  have KB1 := Lib.hid (Evo.later hb1)
  have hxwn1c := (bcell hb1).1
  have hxwn1f := (bcell hb1).2.1
  have hxwn1z := (bcell hb1).2.2
  (try (have hlewn1_1 : w.heap.size ≤ wn1.heap.size := (by first | omega | (have hh := hxwn1z; (try simp at hh); omega))))
  (try (have hlwn1_1_0 : w.heap.size < wn1.heap.size := (by first | omega | (have hh := hxwn1z; (try simp at hh); omega))))
  (try (have hlwn1_1_1 : w.heap.size + 1 < wn1.heap.size := (by first | omega | (have hh := hxwn1z; (try simp at hh); omega))))
  (try (have hlwn1_1_2 : w.heap.size + 1 + 1 < wn1.heap.size := (by first | omega | (have hh := hxwn1z; (try simp at hh); omega))))
  go_wp2_with fail
  refine (MK.out _ (HZ.out.below g1)).mono ?_
  rintro e wn2 ⟨a2, c2, rfl, ht2, -, hb2⟩
  have HM2 := Lib.hid ((Mem.nil w).grow (g1.trans hb2))
  have HT2 := Lib.hid ht2
  clear hb1 hb2 g1 ht2
  go_wp2_with (refine Mem.storeAll 0 (t := 28) rfl rfl rfl rfl CE (Mem.alloc' HM2.out _ _ rfl) rfl rfl rfl rfl ?_; intro wn3 HM3 C3)
  have HT3 := Lib.hid (HT2.out.past (Grow.G.alloc (Grow.G.refl _) _) C3 (Nat.le_refl _))
  simp only [List.nil_append, List.cons_append, List.set_cons_zero, List.set_cons_succ, List.take_succ_cons, List.take_zero, List.drop_succ_cons, List.drop_zero, List.length_cons, List.length_nil, Nat.reduceAdd, Nat.reduceSub] at HM3
  replace HM := Lib.hid HM3
  clear HM3 C3 HT2 HM2
  refine Stay.go ?_
  go_wp2_with (first | (refine Mem.loadAll 0 (t := 28) rfl rfl rfl Tryz.underlying28 CE HM.out rfl rfl ?_) | (refine Mem.storeAll 1 (t := 28) rfl rfl rfl rfl CE (Mem.alloc' HM.out _ _ rfl) rfl rfl rfl rfl ?_; intro wn4 HM4 C4))
  have HC4 := Lib.hid C4
  simp only [List.nil_append, List.cons_append, List.set_cons_zero, List.set_cons_succ, List.take_succ_cons, List.take_zero, List.drop_succ_cons, List.drop_zero, List.length_cons, List.length_nil, Nat.reduceAdd, Nat.reduceSub] at HM4
  replace HM := Lib.hid HM4
  clear HM4 C4
  refine Stay.go ?_
  go_wp2_with fail
  refine (WI.out _).mono ?_
  rintro e wx ⟨rfl, rfl⟩
  rcases hq with rfl | rfl | rfl | rfl | rfl
  · go_wp2_with (first | (refine Mem.load1 1 (t := 3) rfl rfl rfl Tryz.underlying3 rfl HM.out rfl rfl ?_) | (refine Mem.store 1 (t := 3) rfl rfl rfl rfl (vs := [.int .i64 (E.dr + 1)]) rfl CI HM.out rfl rfl (by simp) rfl ?_; intro wn5 HM5 C5))
    have HT5 := Lib.hid (HT3.out.past (Grow.G.alloc (Grow.G.refl _) _) (HC4.out.trans C5) (Nat.le_refl _))
    simp only [List.nil_append, List.cons_append, List.set_cons_zero, List.set_cons_succ, List.take_succ_cons, List.take_zero, List.drop_succ_cons, List.drop_zero, List.length_cons, List.length_nil, Nat.reduceAdd, Nat.reduceSub] at HM5
    replace HM := Lib.hid HM5
    have e0 := (HM5.cell (i := 0) rfl (o := 0) rfl)
    clear HM5 C5 HT3 HC4
    refine Stay.go ?_
    by_cases h3 : E.k = 3
    · have hh : (E.k == 3) = true := by simp [h3]
      clear h3
      go_wp2_with (first | (refine Mem.loadAll 0 (t := 28) rfl rfl rfl Tryz.underlying28 CE HM.out rfl rfl ?_))
      refine (CK0.out a2 c2 _ HT5.out).mono ?_
      rintro e wn9 ⟨rfl, hg9⟩
      have HB9 := Lib.hid (HM.out.grow hg9).below
      clear hg9
      go_wp2_with fail
      go_ret
      exact ⟨rfl, HB9.out⟩
    · have hh : (E.k == 3) = false := by simp [h3]
      by_cases h4 : E.k = 4
      · have hh4 : (E.k == 4) = true := by simp [h4]
        clear h3 h4
        go_wp2_with (first | (refine Mem.loadAll 0 (t := 28) rfl rfl rfl Tryz.underlying28 CE HM.out rfl rfl ?_))
        refine (CK0.out a2 c2 _ HT5.out).mono ?_
        rintro e wn9 ⟨rfl, hg9⟩
        have HB9 := Lib.hid (HM.out.grow hg9).below
        clear hg9
        go_wp2_with fail
        go_ret
        exact ⟨rfl, HB9.out⟩
      · have hh4 : (E.k == 4) = false := by simp [h4]
        have CXX := Lib.hid (fun w h => CX0.out a2 c2 w h (by omega))
        clear h3 h4
        go_wp2_with (first | (refine Mem.loadAll 1 (t := 28) rfl rfl rfl Tryz.underlying28 CE HM.out rfl rfl ?_))
        refine (CXX.out _ HT5.out).mono ?_
        rintro e wn9 ⟨rfl, hg9⟩
        have HB9 := Lib.hid (HM.out.grow hg9).below
        clear hg9
        go_wp2_with fail
        go_ret
        exact ⟨rfl, HB9.out⟩
  · go_wp2_with (first | (refine Mem.load1 1 (t := 3) rfl rfl rfl Tryz.underlying3 rfl HM.out rfl rfl ?_) | (refine Mem.store 1 (t := 9) rfl rfl rfl rfl (vs := [.string ⟨#[116]⟩]) rfl CS HM.out rfl rfl (by simp) rfl ?_; intro wn5 HM5 C5))
    have HT5 := Lib.hid (HT3.out.past (Grow.G.alloc (Grow.G.refl _) _) (HC4.out.trans C5) (Nat.le_refl _))
    simp only [List.nil_append, List.cons_append, List.set_cons_zero, List.set_cons_succ, List.take_succ_cons, List.take_zero, List.drop_succ_cons, List.drop_zero, List.length_cons, List.length_nil, Nat.reduceAdd, Nat.reduceSub] at HM5
    replace HM := Lib.hid HM5
    have e0 := (HM5.cell (i := 0) rfl (o := 0) rfl)
    clear HM5 C5 HT3 HC4
    refine Stay.go ?_
    by_cases hk : E.k = 4
    · have hh : (E.k == 4) = true := by simp [hk]
      have CXX := Lib.hid (fun w h => CX1.out a2 c2 w h)
      rw [if_pos hk] at CXX
      clear hk
      go_wp2_with (first | (refine Mem.loadAll 1 (t := 28) rfl rfl rfl Tryz.underlying28 CE HM.out rfl rfl ?_))
      refine (CXX.out _ HT5.out).mono ?_
      rintro e wn9 ⟨rfl, hg9⟩
      have HB9 := Lib.hid (HM.out.grow hg9).below
      clear hg9
      go_wp2_with fail
      go_ret
      exact ⟨rfl, HB9.out⟩
    · have hh : (E.k == 4) = false := by simp [hk]
      have CXX := Lib.hid (fun w h => CX1.out a2 c2 w h)
      rw [if_neg hk] at CXX
      clear hk
      go_wp2_with (first | (refine Mem.loadAll 1 (t := 28) rfl rfl rfl Tryz.underlying28 CE HM.out rfl rfl ?_))
      refine (CXX.out _ HT5.out).mono ?_
      rintro e wn9 ⟨rfl, hg9⟩
      have HB9 := Lib.hid (HM.out.grow hg9).below
      clear hg9
      go_wp2_with fail
      go_ret
      exact ⟨rfl, HB9.out⟩
  · go_wp2_with (first | (refine Mem.load1 1 (t := 3) rfl rfl rfl Tryz.underlying3 rfl HM.out rfl rfl ?_) | (refine Mem.store 1 (t := 3) rfl rfl rfl rfl (vs := [.int .i64 1]) rfl CI HM.out rfl rfl (by simp) rfl ?_; intro wn5 HM5 C5))
    have HT5 := Lib.hid (HT3.out.past (Grow.G.alloc (Grow.G.refl _) _) (HC4.out.trans C5) (Nat.le_refl _))
    simp only [List.nil_append, List.cons_append, List.set_cons_zero, List.set_cons_succ, List.take_succ_cons, List.take_zero, List.drop_succ_cons, List.drop_zero, List.length_cons, List.length_nil, Nat.reduceAdd, Nat.reduceSub] at HM5
    replace HM := Lib.hid HM5
    have e0 := (HM5.cell (i := 0) rfl (o := 0) rfl)
    clear HM5 C5 HT3 HC4
    refine Stay.go ?_
    by_cases hk : E.k = 1
    · have hh : (E.k == 1) = true := by simp [hk]
      have CXX := Lib.hid (fun w h => CX2.out a2 c2 w h)
      rw [if_pos hk] at CXX
      clear hk
      go_wp2_with (first | (refine Mem.loadAll 1 (t := 28) rfl rfl rfl Tryz.underlying28 CE HM.out rfl rfl ?_))
      refine (CXX.out _ HT5.out).mono ?_
      rintro e wn9 ⟨rfl, hg9⟩
      have HB9 := Lib.hid (HM.out.grow hg9).below
      clear hg9
      go_wp2_with fail
      go_ret
      exact ⟨rfl, HB9.out⟩
    · have hh : (E.k == 1) = false := by simp [hk]
      have CXX := Lib.hid (fun w h => CX2.out a2 c2 w h)
      rw [if_neg hk] at CXX
      clear hk
      go_wp2_with (first | (refine Mem.loadAll 1 (t := 28) rfl rfl rfl Tryz.underlying28 CE HM.out rfl rfl ?_))
      refine (CXX.out _ HT5.out).mono ?_
      rintro e wn9 ⟨rfl, hg9⟩
      have HB9 := Lib.hid (HM.out.grow hg9).below
      clear hg9
      go_wp2_with fail
      go_ret
      exact ⟨rfl, HB9.out⟩
  · go_wp2_with (first | (refine Mem.load1 1 (t := 3) rfl rfl rfl Tryz.underlying3 rfl HM.out rfl rfl ?_) | (refine Mem.store 1 (t := 3) rfl rfl rfl rfl (vs := [.int .i64 5]) rfl CI HM.out rfl rfl (by simp) rfl ?_; intro wn5 HM5 C5))
    have HT5 := Lib.hid (HT3.out.past (Grow.G.alloc (Grow.G.refl _) _) (HC4.out.trans C5) (Nat.le_refl _))
    simp only [List.nil_append, List.cons_append, List.set_cons_zero, List.set_cons_succ, List.take_succ_cons, List.take_zero, List.drop_succ_cons, List.drop_zero, List.length_cons, List.length_nil, Nat.reduceAdd, Nat.reduceSub] at HM5
    replace HM := Lib.hid HM5
    have e0 := (HM5.cell (i := 0) rfl (o := 0) rfl)
    clear HM5 C5 HT3 HC4
    refine Stay.go ?_
    by_cases hk : E.k = 2
    · have hh : (E.k == 2) = true := by simp [hk]
      have CXX := Lib.hid (fun w h => CX3.out a2 c2 w h)
      rw [if_pos hk] at CXX
      clear hk
      go_wp2_with (first | (refine Mem.loadAll 1 (t := 28) rfl rfl rfl Tryz.underlying28 CE HM.out rfl rfl ?_))
      refine (CXX.out _ HT5.out).mono ?_
      rintro e wn9 ⟨rfl, hg9⟩
      have HB9 := Lib.hid (HM.out.grow hg9).below
      clear hg9
      go_wp2_with fail
      go_ret
      exact ⟨rfl, HB9.out⟩
    · have hh : (E.k == 2) = false := by simp [hk]
      have CXX := Lib.hid (fun w h => CX3.out a2 c2 w h)
      rw [if_neg hk] at CXX
      clear hk
      go_wp2_with (first | (refine Mem.loadAll 1 (t := 28) rfl rfl rfl Tryz.underlying28 CE HM.out rfl rfl ?_))
      refine (CXX.out _ HT5.out).mono ?_
      rintro e wn9 ⟨rfl, hg9⟩
      have HB9 := Lib.hid (HM.out.grow hg9).below
      clear hg9
      go_wp2_with fail
      go_ret
      exact ⟨rfl, HB9.out⟩
  · go_wp2_with (first | (refine Mem.load1 1 (t := 3) rfl rfl rfl Tryz.underlying3 rfl HM.out rfl rfl ?_) | (refine Mem.store 1 (t := 3) rfl rfl rfl rfl (vs := [.int .i64 1]) rfl CI HM.out rfl rfl (by simp) rfl ?_; intro wn5 HM5 C5))
    have HT5 := Lib.hid (HT3.out.past (Grow.G.alloc (Grow.G.refl _) _) (HC4.out.trans C5) (Nat.le_refl _))
    simp only [List.nil_append, List.cons_append, List.set_cons_zero, List.set_cons_succ, List.take_succ_cons, List.take_zero, List.drop_succ_cons, List.drop_zero, List.length_cons, List.length_nil, Nat.reduceAdd, Nat.reduceSub] at HM5
    replace HM := Lib.hid HM5
    have e0 := (HM5.cell (i := 0) rfl (o := 0) rfl)
    clear HM5 C5 HT3 HC4
    refine Stay.go ?_
    by_cases hk : E.k ≤ 8
    · have hh : decide (E.k ≤ 8) = true := decide_eq_true hk
      have CXX := Lib.hid (fun w h => CX4.out a2 c2 w h)
      rw [if_pos hk] at CXX
      clear hk
      go_wp2_with (first | (refine Mem.loadAll 1 (t := 28) rfl rfl rfl Tryz.underlying28 CE HM.out rfl rfl ?_))
      refine (CXX.out _ HT5.out).mono ?_
      rintro e wn9 ⟨rfl, hg9⟩
      have HB9 := Lib.hid (HM.out.grow hg9).below
      clear hg9
      go_wp2_with fail
      go_ret
      exact ⟨rfl, HB9.out⟩
    · have hh : decide (E.k ≤ 8) = false := decide_eq_false hk
      have CXX := Lib.hid (fun w h => CX4.out a2 c2 w h)
      rw [if_neg hk] at CXX
      clear hk
      go_wp2_with (first | (refine Mem.loadAll 1 (t := 28) rfl rfl rfl Tryz.underlying28 CE HM.out rfl rfl ?_))
      refine (CXX.out _ HT5.out).mono ?_
      rintro e wn9 ⟨rfl, hg9⟩
      have HB9 := Lib.hid (HM.out.grow hg9).below
      clear hg9
      go_wp2_with fail
      go_ret
      exact ⟨rfl, HB9.out⟩
end Go.Proofs.YtnkekdmikopdgaaGreat
