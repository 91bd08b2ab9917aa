/- My own texts RP4, RP5, laid in one file. -/
import Derived.Test.YtnkekdmikopdgaaGreatZ25
import Derived.Test.YtnkekdmikopdgaaGreatZ13

/- What damperref3.Parse reads: kinds 1, 5, 6. -/
namespace Go.Proofs.YtnkekdmikopdgaaGreat
set_option maxRecDepth 100000
set_option linter.unusedVariables false
set_option linter.unusedSimpArgs false
set_option linter.unnecessarySimpa false
open Go.RowKit

set_option maxHeartbeats 8000000 in
theorem rparse_1 (sb : Nat) (a : Option Addr) (c : Nat) (zs r : List Int) (w : World) (hs : BySl w sb a c zs) (hsb : sb < w.heap.size) (hz : zs.length ≤ 1000000) (hbt : Bts zs) (hzs : zs = 1 :: r) :
  Calls Tryz.prog 22 #[.slice a zs.length c] w fun x w' => ParseR zs w x w' := by
 have CE : (Tryz.prog.info? 28).map (·.size) = some 15 := by kernel_rfl
 have CI : (Tryz.prog.info? 3).map (·.size) = some 1 := by kernel_rfl
 have CS : (Tryz.prog.info? 9).map (·.size) = some 1 := by kernel_rfl
 have b0 : Bts r := fun x hx => hbt x (by rw [hzs]; simp [hx])
 have T0 := Lib.hid (fun W eb cs (h : PSt w W eb a c zs (zs, false) cs) => h.num (n := 1) hs hsb hz (by decide) hbt)
 have TB := Lib.hid (fun W (h : TkAt W (w.heap.size + 1) a c zs (zs, false)) (hb : BySl W sb a c zs) => tk_num (w.heap.size + 1) sb a c zs (zs, false) 1 W h hb (by omega) (by decide) hz hbt)
 rw [show Qnum 1 (zs, false) = (1, (r, false)) from by rw [hzs]; exact qnum_one _ _] at TB
 dsimp only at TB
 obtain ⟨s1, h1⟩ : ∃ s, (Qnum 4 (r, false)).2 = s := ⟨_, rfl⟩
 have b1 : Bts s1.1 := h1 ▸ Qnum_bts (s := (r, false)) b0
 have T1 := Lib.hid (fun W eb cs (h : PSt w W eb a c zs (r, false) cs) => h.num (n := 4) hs hsb hz (by decide) b0)
 rw [h1] at T1
 obtain ⟨s2, h2⟩ : ∃ s, (Qtxt s1).2 = s := ⟨_, rfl⟩
 have b2 : Bts s2.1 := h2 ▸ Qtxt_bts (s := s1) b1
 have T2 := Lib.hid (fun W eb cs (h : PSt w W eb a c zs s1 cs) => h.txt hs hsb hz b1)
 have z2 := Qtxt_size (s := s1) b1
 rw [h2] at T2
 obtain ⟨s3, h3⟩ : ∃ s, (Qnum 1 s2).2 = s := ⟨_, rfl⟩
 have b3 : Bts s3.1 := h3 ▸ Qnum_bts (s := s2) b2
 have T3 := Lib.hid (fun W eb cs (h : PSt w W eb a c zs s2 cs) => h.num (n := 1) hs hsb hz (by decide) b2)
 rw [h3] at T3
 obtain ⟨s4, h4⟩ : ∃ s, (Qnum 1 s3).2 = s := ⟨_, rfl⟩
 have b4 : Bts s4.1 := h4 ▸ Qnum_bts (s := s3) b3
 have T4 := Lib.hid (fun W eb cs (h : PSt w W eb a c zs s3 cs) => h.num (n := 1) hs hsb hz (by decide) b3)
 rw [h4] at T4
 obtain ⟨s5, h5⟩ : ∃ s, (Qnum 1 s4).2 = s := ⟨_, rfl⟩
 have b5 : Bts s5.1 := h5 ▸ Qnum_bts (s := s4) b4
 have T5 := Lib.hid (fun W eb cs (h : PSt w W eb a c zs s4 cs) => h.num (n := 1) hs hsb hz (by decide) b4)
 rw [h5] at T5
 obtain ⟨s6, h6⟩ : ∃ s, (Qnum 1 s5).2 = s := ⟨_, rfl⟩
 have b6 : Bts s6.1 := h6 ▸ Qnum_bts (s := s5) b5
 have T6 := Lib.hid (fun W eb cs (h : PSt w W eb a c zs s5 cs) => h.num (n := 1) hs hsb hz (by decide) b5)
 rw [h6] at T6
 obtain ⟨s7, h7⟩ : ∃ s, (Qnum 1 s6).2 = s := ⟨_, rfl⟩
 have b7 : Bts s7.1 := h7 ▸ Qnum_bts (s := s6) b6
 have T7 := Lib.hid (fun W eb cs (h : PSt w W eb a c zs s6 cs) => h.num (n := 1) hs hsb hz (by decide) b6)
 rw [h7] at T7
 have E : Hid (evQ 1 r = ({ ev0 with k := 1, n := (Qnum 4 (r, false)).1, c := ⟨(Qtxt s1).1, (Qnum 1 s2).1, (Qnum 1 s3).1, (Qnum 1 s4).1, (Qnum 1 s5).1, (Qnum 1 s6).1⟩ }, s7)) := Lib.hid (by subst h7 h6 h5 h4 h3 h2 h1; rfl)
 clear h1 h2 h3 h4 h5 h6 h7
 generalize (Qnum 4 (r, false)).1 = v1 at *
 generalize (Qtxt s1).1 = v2 at *
 generalize (Qnum 1 s2).1 = v3 at *
 generalize (Qnum 1 s3).1 = v4 at *
 generalize (Qnum 1 s4).1 = v5 at *
 generalize (Qnum 1 s5).1 = v6 at *
 generalize (Qnum 1 s6).1 = v7 at *
 have SCK := Lib.hid (fun W => (show Calls Tryz.prog 15 #[.agg #[.int .i64 1, .string ⟨#[]⟩, .string ⟨#[]⟩, .int .i64 v1, .int .i64 0, .string v2, .int .i64 v3, .int .i64 v4, .int .i64 v5, .int .i64 v6, .int .i64 v7, .string ⟨#[]⟩, .string ⟨#[]⟩, .slice none 0 0, .int .i64 0]] W fun x W' => x = .returned (.int .i64 (EvD.chk { ev0 with k := 1, n := v1, c := ⟨v2, v3, v4, v5, v6, v7⟩ })) ∧ Grow.G W W' from rchk_any { ev0 with k := 1, n := v1, c := ⟨v2, v3, v4, v5, v6, v7⟩ } none 0 W ⟨(show ByteArray.size _ ≤ _ from by exact Nat.zero_le _), (show ByteArray.size _ ≤ _ from by exact Nat.zero_le _), (show ByteArray.size v2 ≤ _ from by omega), (show ByteArray.size _ ≤ _ from by exact Nat.zero_le _), (show ByteArray.size _ ≤ _ from by exact Nat.zero_le _), Nat.zero_le _, .inl rfl, fun i hi => absurd hi (Nat.not_lt_zero _)⟩))
 have RB := Lib.hid (fun h => (show evParse zs = (ev0, 10) from by rw [hzs]; exact rp_bad (by decide) E.out h))
 have RM := Lib.hid (fun h1 h2 => (show evParse zs = (ev0, 11) from by rw [hzs]; exact rp_more (by decide) E.out h1 h2))
 have RC := Lib.hid (fun h1 h2 h3 => (show evParse zs = (ev0, _) from by rw [hzs]; exact rp_chk (by decide) E.out h1 h2 h3))
 have RO := Lib.hid (fun h1 h2 h3 => (show evParse zs = (_, 0) from by rw [hzs]; exact rp_ok (by decide) E.out h1 h2 h3))
 have XV : Hid (∀ x, x = EvD.chk { ev0 with k := 1, n := v1, c := ⟨v2, v3, v4, v5, v6, v7⟩ } → x = EvD.chk { ev0 with k := 1, n := v1, c := ⟨v2, v3, v4, v5, v6, v7⟩ }) := Lib.hid (fun _ h => h)
 generalize EvD.chk { ev0 with k := 1, n := v1, c := ⟨v2, v3, v4, v5, v6, v7⟩ } = ck at *
 have HS := Lib.hid hs
 have NZ : Hid (zs.length = r.length + 1) := Lib.hid (by rw [hzs]; rfl)
 clear hs hbt hzs E XV T0 b0 b1 b2 b3 b4 b5 b6 b7
 go_enter Tryz.func22, Tryz.ntmps22
 go_wp2_with fail
 have GA := Grow.G.alloc (Grow.G.alloc (Grow.G.refl w) (.cells Z15.toArray 28)) (.cells #[.slice a zs.length c, .int .i64 0, .bool false] 88)
 have M0 := (Mem.alloc' (Mem.nil w) Z15 28 (g := w.heap.size) rfl).grow (Grow.G.alloc (Grow.G.refl _) (.cells #[.slice a zs.length c, .int .i64 0, .bool false] 88))
 have KT0 : TkAt ((w.alloc (.cells Z15.toArray 28)).alloc (.cells #[.slice a zs.length c, .int .i64 0, .bool false] 88)) (w.heap.size + 1) a c zs (zs, false) := ⟨0, Nat.zero_le _, rfl, by exact Blk.new' (by simp)⟩
 refine (TB.out _ KT0 (HS.out.below (Below.mono GA (Nat.le_refl _)) hsb)).mono ?_
 rintro e W1 ⟨rfl, KT1, C1⟩
 have M1 := M0.chg C1 (fun k hk q => by have q : k = w.heap.size + 1 := q; omega) (fun b hb q => by
  have q : b.1 = w.heap.size + 1 := q
  simp at hb
  subst hb
  dsimp only at q
  omega)
 (try simp only [K0, K1, L1, L2, K2, K3, K4, K5, K6, K7, Nat.reduceAdd, Nat.reduceSub] at M1)
 have HM1 := Lib.hid M1
 have HK1 := Lib.hid KT1
 have sz1 := C1.size
 simp only [World.size_alloc] at sz1
 clear M0 KT0 GA M1 KT1 C1 TB HS
 go_wp2_with (refine Mem.storeAll 1 (t := 28) rfl rfl rfl rfl CE (Mem.alloc' HM1.out _ _ rfl) rfl rfl rfl rfl ?_; intro W2 M2 C2)
 (try simp only [K0, K1, L1, L2, K2, K3, K4, K5, K6, K7, Nat.reduceAdd, Nat.reduceSub] at M2)
 have P0 : PSt w W2 W1.heap.size a c zs (r, false) _ := ⟨M2, (HK1.out.grow (Grow.G.alloc (Grow.G.refl _) _)).chg C2 (fun q => by have q : w.heap.size + 1 = W1.heap.size := q; omega), by omega⟩
 have HP := Lib.hid P0
 clear M2 C2 P0 HM1 HK1
 refine Stay.go ?_
 generalize W1.heap.size = eb at *
 have q2 := HP.out.tk.bad
 dsimp only at q2
 have q0 := evd (HP.out.mem.blk (i := 1) rfl) (i := 0) rfl
 go_wp2_with (refine Mem.load1 1 (t := 3) rfl rfl rfl Tryz.underlying3 rfl HP.out.mem rfl rfl ?_)
 clear q2 q0
 refine (T1.out _ _ _ HP.out).mono ?_
 rintro e U1 ⟨rfl, P1, -⟩
 replace HP := Lib.hid P1
 clear P1 T1
 have q2 := True.intro
 go_wp2_with (refine PSt.store (t := 3) rfl rfl rfl rfl rfl CI HP.out (Nat.le_of_ble_eq_true rfl) rfl ?_; intro V1 P1 C1)
 simp only [K0, K1, L1, L2, K2, K3, K4, K5, K6, K7, Nat.reduceAdd, Nat.reduceSub] at P1
 replace HP := Lib.hid P1
 clear P1 C1
 refine Stay.go ?_
 replace q2 := HP.out.tk.bad
 have q0 := evd (HP.out.mem.blk (i := 1) rfl) (i := 0) rfl
 go_wp2_with (refine Mem.load1 1 (t := 3) rfl rfl rfl Tryz.underlying3 rfl HP.out.mem rfl rfl ?_)
 clear q2 q0
 refine (T2.out _ _ _ HP.out).mono ?_
 rintro e U2 ⟨rfl, P2, -⟩
 replace HP := Lib.hid P2
 clear P2 T2
 have q2 := True.intro
 go_wp2_with (refine PSt.store (t := 9) rfl rfl rfl rfl rfl CS HP.out (Nat.le_of_ble_eq_true rfl) rfl ?_; intro V2 P2 C2)
 simp only [K0, K1, L1, L2, K2, K3, K4, K5, K6, K7, Nat.reduceAdd, Nat.reduceSub] at P2
 replace HP := Lib.hid P2
 clear P2 C2
 refine Stay.go ?_
 replace q2 := HP.out.tk.bad
 have q0 := evd (HP.out.mem.blk (i := 1) rfl) (i := 0) rfl
 go_wp2_with (refine Mem.load1 1 (t := 3) rfl rfl rfl Tryz.underlying3 rfl HP.out.mem rfl rfl ?_)
 clear q2 q0
 refine (T3.out _ _ _ HP.out).mono ?_
 rintro e U3 ⟨rfl, P3, -⟩
 replace HP := Lib.hid P3
 clear P3 T3
 have q2 := True.intro
 go_wp2_with (refine PSt.store (t := 3) rfl rfl rfl rfl rfl CI HP.out (Nat.le_of_ble_eq_true rfl) rfl ?_; intro V3 P3 C3)
 simp only [K0, K1, L1, L2, K2, K3, K4, K5, K6, K7, Nat.reduceAdd, Nat.reduceSub] at P3
 replace HP := Lib.hid P3
 clear P3 C3
 refine Stay.go ?_
 replace q2 := HP.out.tk.bad
 have q0 := evd (HP.out.mem.blk (i := 1) rfl) (i := 0) rfl
 go_wp2_with (refine Mem.load1 1 (t := 3) rfl rfl rfl Tryz.underlying3 rfl HP.out.mem rfl rfl ?_)
 clear q2 q0
 refine (T4.out _ _ _ HP.out).mono ?_
 rintro e U4 ⟨rfl, P4, -⟩
 replace HP := Lib.hid P4
 clear P4 T4
 have q2 := True.intro
 go_wp2_with (refine PSt.store (t := 3) rfl rfl rfl rfl rfl CI HP.out (Nat.le_of_ble_eq_true rfl) rfl ?_; intro V4 P4 C4)
 simp only [K0, K1, L1, L2, K2, K3, K4, K5, K6, K7, Nat.reduceAdd, Nat.reduceSub] at P4
 replace HP := Lib.hid P4
 clear P4 C4
 refine Stay.go ?_
 replace q2 := HP.out.tk.bad
 have q0 := evd (HP.out.mem.blk (i := 1) rfl) (i := 0) rfl
 go_wp2_with (refine Mem.load1 1 (t := 3) rfl rfl rfl Tryz.underlying3 rfl HP.out.mem rfl rfl ?_)
 clear q2 q0
 refine (T5.out _ _ _ HP.out).mono ?_
 rintro e U5 ⟨rfl, P5, -⟩
 replace HP := Lib.hid P5
 clear P5 T5
 have q2 := True.intro
 go_wp2_with (refine PSt.store (t := 3) rfl rfl rfl rfl rfl CI HP.out (Nat.le_of_ble_eq_true rfl) rfl ?_; intro V5 P5 C5)
 simp only [K0, K1, L1, L2, K2, K3, K4, K5, K6, K7, Nat.reduceAdd, Nat.reduceSub] at P5
 replace HP := Lib.hid P5
 clear P5 C5
 refine Stay.go ?_
 replace q2 := HP.out.tk.bad
 have q0 := evd (HP.out.mem.blk (i := 1) rfl) (i := 0) rfl
 go_wp2_with (refine Mem.load1 1 (t := 3) rfl rfl rfl Tryz.underlying3 rfl HP.out.mem rfl rfl ?_)
 clear q2 q0
 refine (T6.out _ _ _ HP.out).mono ?_
 rintro e U6 ⟨rfl, P6, -⟩
 replace HP := Lib.hid P6
 clear P6 T6
 have q2 := True.intro
 go_wp2_with (refine PSt.store (t := 3) rfl rfl rfl rfl rfl CI HP.out (Nat.le_of_ble_eq_true rfl) rfl ?_; intro V6 P6 C6)
 simp only [K0, K1, L1, L2, K2, K3, K4, K5, K6, K7, Nat.reduceAdd, Nat.reduceSub] at P6
 replace HP := Lib.hid P6
 clear P6 C6
 refine Stay.go ?_
 replace q2 := HP.out.tk.bad
 have q0 := evd (HP.out.mem.blk (i := 1) rfl) (i := 0) rfl
 go_wp2_with (refine Mem.load1 1 (t := 3) rfl rfl rfl Tryz.underlying3 rfl HP.out.mem rfl rfl ?_)
 clear q2 q0
 refine (T7.out _ _ _ HP.out).mono ?_
 rintro e U7 ⟨rfl, P7, -⟩
 replace HP := Lib.hid P7
 clear P7 T7
 have q2 := True.intro
 go_wp2_with (refine PSt.store (t := 3) rfl rfl rfl rfl rfl CI HP.out (Nat.le_of_ble_eq_true rfl) rfl ?_; intro V7 P7 C7)
 simp only [K0, K1, L1, L2, K2, K3, K4, K5, K6, K7, Nat.reduceAdd, Nat.reduceSub] at P7
 replace HP := Lib.hid P7
 clear P7 C7
 refine Stay.go ?_
 replace q2 := HP.out.tk.bad
 have q0 := evd (HP.out.mem.blk (i := 1) rfl) (i := 0) rfl
 obtain ⟨p, q1, hp1, hp2⟩ := HP.out.tk.at
 obtain ⟨l, b⟩ := s7
 dsimp only at q2 hp2 RB RM RC RO
 cases b with
 | true =>
  replace RB := Lib.hid (RB.out rfl)
  clear RM RC RO
  go_wp2_with (first | (refine Mem.storeAll 0 (t := 28) rfl rfl rfl rfl CE HP.out.mem rfl rfl rfl rfl ?_; intro W9 M9 C9) | (refine Mem.load1 1 (t := 3) rfl rfl rfl Tryz.underlying3 rfl HP.out.mem rfl rfl ?_))
  simp only [K0, K1, L1, L2, K2, K3, K4, K5, K6, K7, Nat.reduceAdd, Nat.reduceSub] at M9
  have HM := Lib.hid M9
  clear M9 C9
  refine Stay.go ?_
  have BF := HM.out.blk (i := 0) rfl
  go_wp2_with fail
  refine bodyPost_ret (v := .tuple #[.agg Z15.toArray, .int .i64 10]) (by simp [Z15, results, Tryz.results22, go_sem, BF.cell]) rfl ⟨none, 0, ?_, ?_, HM.out.below⟩
  ·
   rw [RB.out]; rfl
  ·
   rw [RB.out]; exact .inl rfl
 | false =>
  have HP2 := Lib.hid hp2
  have ep := congrArg List.length hp2
  rw [List.length_drop] at ep
  clear hp2
  by_cases hlt : (p : Int) < (zs.length : Int)
  ·
   replace RM := Lib.hid (RM.out (by trivial) (by intro q; rw [q] at ep; simp at ep; omega))
   clear RB RC RO
   go_wp2_with (first | (refine Mem.storeAll 0 (t := 28) rfl rfl rfl rfl CE HP.out.mem rfl rfl rfl rfl ?_; intro W9 M9 C9) | (refine Mem.load1 1 (t := 3) rfl rfl rfl Tryz.underlying3 rfl HP.out.mem rfl rfl ?_))
   simp only [K0, K1, L1, L2, K2, K3, K4, K5, K6, K7, Nat.reduceAdd, Nat.reduceSub] at M9
   have HM := Lib.hid M9
   clear M9 C9
   refine Stay.go ?_
   have BF := HM.out.blk (i := 0) rfl
   go_wp2_with fail
   refine bodyPost_ret (v := .tuple #[.agg Z15.toArray, .int .i64 11]) (by simp [Z15, results, Tryz.results22, go_sem, BF.cell]) rfl ⟨none, 0, ?_, ?_, HM.out.below⟩
   ·
    rw [RM.out]; rfl
   ·
    rw [RM.out]; exact .inl rfl
  ·
   have hl0 : l = [] := List.eq_nil_of_length_eq_zero (by omega)
   replace RC := Lib.hid (RC.out (by trivial) hl0)
   replace RO := Lib.hid (RO.out (by trivial) hl0)
   clear RB RM hl0 ep
   go_wp2_with (first | (refine Mem.loadAll 1 (t := 28) rfl rfl rfl Tryz.underlying28 CE HP.out.mem rfl rfl ?_) | (refine Mem.load1 1 (t := 3) rfl rfl rfl Tryz.underlying3 rfl HP.out.mem rfl rfl ?_))
   refine (SCK.out _).mono ?_
   rintro e W5 ⟨rfl, g5⟩
   have P5 := HP.out.grow g5
   replace HP := Lib.hid P5
   clear P5 g5 q1 q2 q0 SCK
   by_cases hc : ck = 0
   ·
    subst hc
    replace RO := Lib.hid (RO.out rfl)
    clear RC
    go_wp2_with (first | (refine Mem.loadAll 1 (t := 28) rfl rfl rfl Tryz.underlying28 CE HP.out.mem rfl rfl ?_) | (refine Mem.storeAll 0 (t := 28) rfl rfl rfl rfl CE HP.out.mem rfl rfl rfl rfl ?_; intro W9 M9 C9))
    simp only [K0, K1, L1, L2, K2, K3, K4, K5, K6, K7, Nat.reduceAdd, Nat.reduceSub] at M9
    have HM := Lib.hid M9
    clear M9 C9
    refine Stay.go ?_
    have BF := HM.out.blk (i := 0) rfl
    go_wp2_with fail
    refine bodyPost_ret (v := .tuple #[.agg #[.int .i64 1, .string ⟨#[]⟩, .string ⟨#[]⟩, .int .i64 v1, .int .i64 0, .string v2, .int .i64 v3, .int .i64 v4, .int .i64 v5, .int .i64 v6, .int .i64 v7, .string ⟨#[]⟩, .string ⟨#[]⟩, .slice none 0 0, .int .i64 0], .int .i64 0]) (by simp [results, Tryz.results22, go_sem, BF.cell]) rfl ⟨none, 0, ?_, ?_, HM.out.below⟩
    ·
     rw [RO.out]; rfl
    ·
     rw [RO.out]; exact .inl rfl
   ·
    have hc2 : (ck != 0) = true := by simpa using hc
    replace RC := Lib.hid (RC.out hc)
    clear RO hc
    go_wp2_with (first | (refine Mem.storeAll 0 (t := 28) rfl rfl rfl rfl CE HP.out.mem rfl rfl rfl rfl ?_; intro W9 M9 C9) | (refine Mem.load1 1 (t := 3) rfl rfl rfl Tryz.underlying3 rfl HP.out.mem rfl rfl ?_))
    simp only [K0, K1, L1, L2, K2, K3, K4, K5, K6, K7, Nat.reduceAdd, Nat.reduceSub] at M9
    have HM := Lib.hid M9
    clear M9 C9
    refine Stay.go ?_
    have BF := HM.out.blk (i := 0) rfl
    go_wp2_with fail
    refine bodyPost_ret (v := .tuple #[.agg Z15.toArray, .int .i64 ck]) (by simp [Z15, results, Tryz.results22, go_sem, BF.cell]) rfl ⟨none, 0, ?_, ?_, HM.out.below⟩
    ·
     rw [RC.out]; rfl
    ·
     rw [RC.out]; exact .inl rfl

set_option maxHeartbeats 8000000 in
theorem rparse_5 (sb : Nat) (a : Option Addr) (c : Nat) (zs r : List Int) (w : World) (hs : BySl w sb a c zs) (hsb : sb < w.heap.size) (hz : zs.length ≤ 1000000) (hbt : Bts zs) (hzs : zs = 5 :: r) :
  Calls Tryz.prog 22 #[.slice a zs.length c] w fun x w' => ParseR zs w x w' := by
 have CE : (Tryz.prog.info? 28).map (·.size) = some 15 := by kernel_rfl
 have CI : (Tryz.prog.info? 3).map (·.size) = some 1 := by kernel_rfl
 have CS : (Tryz.prog.info? 9).map (·.size) = some 1 := by kernel_rfl
 have b0 : Bts r := fun x hx => hbt x (by rw [hzs]; simp [hx])
 have T0 := Lib.hid (fun W eb cs (h : PSt w W eb a c zs (zs, false) cs) => h.num (n := 1) hs hsb hz (by decide) hbt)
 have TB := Lib.hid (fun W (h : TkAt W (w.heap.size + 1) a c zs (zs, false)) (hb : BySl W sb a c zs) => tk_num (w.heap.size + 1) sb a c zs (zs, false) 1 W h hb (by omega) (by decide) hz hbt)
 rw [show Qnum 1 (zs, false) = (5, (r, false)) from by rw [hzs]; exact qnum_one _ _] at TB
 dsimp only at TB
 obtain ⟨s1, h1⟩ : ∃ s, (Qnum 4 (r, false)).2 = s := ⟨_, rfl⟩
 have b1 : Bts s1.1 := h1 ▸ Qnum_bts (s := (r, false)) b0
 have T1 := Lib.hid (fun W eb cs (h : PSt w W eb a c zs (r, false) cs) => h.num (n := 4) hs hsb hz (by decide) b0)
 rw [h1] at T1
 have E : Hid (evQ 5 r = ({ ev0 with k := 5, n := (Qnum 4 (r, false)).1 }, s1)) := Lib.hid (by subst h1; rfl)
 clear h1
 generalize (Qnum 4 (r, false)).1 = v1 at *
 have SCK := Lib.hid (fun W => (show Calls Tryz.prog 15 #[.agg #[.int .i64 5, .string ⟨#[]⟩, .string ⟨#[]⟩, .int .i64 v1, .int .i64 0, .string ⟨#[]⟩, .int .i64 0, .int .i64 0, .int .i64 0, .int .i64 0, .int .i64 0, .string ⟨#[]⟩, .string ⟨#[]⟩, .slice none 0 0, .int .i64 0]] W fun x W' => x = .returned (.int .i64 (EvD.chk { ev0 with k := 5, n := v1 })) ∧ Grow.G W W' from rchk_any { ev0 with k := 5, n := v1 } none 0 W ⟨(show ByteArray.size _ ≤ _ from by exact Nat.zero_le _), (show ByteArray.size _ ≤ _ from by exact Nat.zero_le _), (show ByteArray.size _ ≤ _ from by exact Nat.zero_le _), (show ByteArray.size _ ≤ _ from by exact Nat.zero_le _), (show ByteArray.size _ ≤ _ from by exact Nat.zero_le _), Nat.zero_le _, .inl rfl, fun i hi => absurd hi (Nat.not_lt_zero _)⟩))
 have RB := Lib.hid (fun h => (show evParse zs = (ev0, 10) from by rw [hzs]; exact rp_bad (by decide) E.out h))
 have RM := Lib.hid (fun h1 h2 => (show evParse zs = (ev0, 11) from by rw [hzs]; exact rp_more (by decide) E.out h1 h2))
 have RC := Lib.hid (fun h1 h2 h3 => (show evParse zs = (ev0, _) from by rw [hzs]; exact rp_chk (by decide) E.out h1 h2 h3))
 have RO := Lib.hid (fun h1 h2 h3 => (show evParse zs = (_, 0) from by rw [hzs]; exact rp_ok (by decide) E.out h1 h2 h3))
 have XV : Hid (∀ x, x = EvD.chk { ev0 with k := 5, n := v1 } → x = EvD.chk { ev0 with k := 5, n := v1 }) := Lib.hid (fun _ h => h)
 generalize EvD.chk { ev0 with k := 5, n := v1 } = ck at *
 have HS := Lib.hid hs
 have NZ : Hid (zs.length = r.length + 1) := Lib.hid (by rw [hzs]; rfl)
 clear hs hbt hzs E XV T0 b0 b1
 go_enter Tryz.func22, Tryz.ntmps22
 go_wp2_with fail
 have GA := Grow.G.alloc (Grow.G.alloc (Grow.G.refl w) (.cells Z15.toArray 28)) (.cells #[.slice a zs.length c, .int .i64 0, .bool false] 88)
 have M0 := (Mem.alloc' (Mem.nil w) Z15 28 (g := w.heap.size) rfl).grow (Grow.G.alloc (Grow.G.refl _) (.cells #[.slice a zs.length c, .int .i64 0, .bool false] 88))
 have KT0 : TkAt ((w.alloc (.cells Z15.toArray 28)).alloc (.cells #[.slice a zs.length c, .int .i64 0, .bool false] 88)) (w.heap.size + 1) a c zs (zs, false) := ⟨0, Nat.zero_le _, rfl, by exact Blk.new' (by simp)⟩
 refine (TB.out _ KT0 (HS.out.below (Below.mono GA (Nat.le_refl _)) hsb)).mono ?_
 rintro e W1 ⟨rfl, KT1, C1⟩
 have M1 := M0.chg C1 (fun k hk q => by have q : k = w.heap.size + 1 := q; omega) (fun b hb q => by
  have q : b.1 = w.heap.size + 1 := q
  simp at hb
  subst hb
  dsimp only at q
  omega)
 (try simp only [K0, K1, L1, L2, K2, K3, K4, K5, K6, K7, Nat.reduceAdd, Nat.reduceSub] at M1)
 have HM1 := Lib.hid M1
 have HK1 := Lib.hid KT1
 have sz1 := C1.size
 simp only [World.size_alloc] at sz1
 clear M0 KT0 GA M1 KT1 C1 TB HS
 go_wp2_with (refine Mem.storeAll 1 (t := 28) rfl rfl rfl rfl CE (Mem.alloc' HM1.out _ _ rfl) rfl rfl rfl rfl ?_; intro W2 M2 C2)
 (try simp only [K0, K1, L1, L2, K2, K3, K4, K5, K6, K7, Nat.reduceAdd, Nat.reduceSub] at M2)
 have P0 : PSt w W2 W1.heap.size a c zs (r, false) _ := ⟨M2, (HK1.out.grow (Grow.G.alloc (Grow.G.refl _) _)).chg C2 (fun q => by have q : w.heap.size + 1 = W1.heap.size := q; omega), by omega⟩
 have HP := Lib.hid P0
 clear M2 C2 P0 HM1 HK1
 refine Stay.go ?_
 generalize W1.heap.size = eb at *
 have q2 := HP.out.tk.bad
 dsimp only at q2
 have q0 := evd (HP.out.mem.blk (i := 1) rfl) (i := 0) rfl
 go_wp2_with (refine Mem.load1 1 (t := 3) rfl rfl rfl Tryz.underlying3 rfl HP.out.mem rfl rfl ?_)
 clear q2 q0
 refine (T1.out _ _ _ HP.out).mono ?_
 rintro e U1 ⟨rfl, P1, -⟩
 replace HP := Lib.hid P1
 clear P1 T1
 have q2 := True.intro
 go_wp2_with (refine PSt.store (t := 3) rfl rfl rfl rfl rfl CI HP.out (Nat.le_of_ble_eq_true rfl) rfl ?_; intro V1 P1 C1)
 simp only [K0, K1, L1, L2, K2, K3, K4, K5, K6, K7, Nat.reduceAdd, Nat.reduceSub] at P1
 replace HP := Lib.hid P1
 clear P1 C1
 refine Stay.go ?_
 replace q2 := HP.out.tk.bad
 have q0 := evd (HP.out.mem.blk (i := 1) rfl) (i := 0) rfl
 obtain ⟨p, q1, hp1, hp2⟩ := HP.out.tk.at
 obtain ⟨l, b⟩ := s1
 dsimp only at q2 hp2 RB RM RC RO
 cases b with
 | true =>
  replace RB := Lib.hid (RB.out rfl)
  clear RM RC RO
  go_wp2_with (first | (refine Mem.storeAll 0 (t := 28) rfl rfl rfl rfl CE HP.out.mem rfl rfl rfl rfl ?_; intro W9 M9 C9) | (refine Mem.load1 1 (t := 3) rfl rfl rfl Tryz.underlying3 rfl HP.out.mem rfl rfl ?_))
  simp only [K0, K1, L1, L2, K2, K3, K4, K5, K6, K7, Nat.reduceAdd, Nat.reduceSub] at M9
  have HM := Lib.hid M9
  clear M9 C9
  refine Stay.go ?_
  have BF := HM.out.blk (i := 0) rfl
  go_wp2_with fail
  refine bodyPost_ret (v := .tuple #[.agg Z15.toArray, .int .i64 10]) (by simp [Z15, results, Tryz.results22, go_sem, BF.cell]) rfl ⟨none, 0, ?_, ?_, HM.out.below⟩
  ·
   rw [RB.out]; rfl
  ·
   rw [RB.out]; exact .inl rfl
 | false =>
  have HP2 := Lib.hid hp2
  have ep := congrArg List.length hp2
  rw [List.length_drop] at ep
  clear hp2
  by_cases hlt : (p : Int) < (zs.length : Int)
  ·
   replace RM := Lib.hid (RM.out (by trivial) (by intro q; rw [q] at ep; simp at ep; omega))
   clear RB RC RO
   go_wp2_with (first | (refine Mem.storeAll 0 (t := 28) rfl rfl rfl rfl CE HP.out.mem rfl rfl rfl rfl ?_; intro W9 M9 C9) | (refine Mem.load1 1 (t := 3) rfl rfl rfl Tryz.underlying3 rfl HP.out.mem rfl rfl ?_))
   simp only [K0, K1, L1, L2, K2, K3, K4, K5, K6, K7, Nat.reduceAdd, Nat.reduceSub] at M9
   have HM := Lib.hid M9
   clear M9 C9
   refine Stay.go ?_
   have BF := HM.out.blk (i := 0) rfl
   go_wp2_with fail
   refine bodyPost_ret (v := .tuple #[.agg Z15.toArray, .int .i64 11]) (by simp [Z15, results, Tryz.results22, go_sem, BF.cell]) rfl ⟨none, 0, ?_, ?_, HM.out.below⟩
   ·
    rw [RM.out]; rfl
   ·
    rw [RM.out]; exact .inl rfl
  ·
   have hl0 : l = [] := List.eq_nil_of_length_eq_zero (by omega)
   replace RC := Lib.hid (RC.out (by trivial) hl0)
   replace RO := Lib.hid (RO.out (by trivial) hl0)
   clear RB RM hl0 ep
   go_wp2_with (first | (refine Mem.loadAll 1 (t := 28) rfl rfl rfl Tryz.underlying28 CE HP.out.mem rfl rfl ?_) | (refine Mem.load1 1 (t := 3) rfl rfl rfl Tryz.underlying3 rfl HP.out.mem rfl rfl ?_))
   refine (SCK.out _).mono ?_
   rintro e W5 ⟨rfl, g5⟩
   have P5 := HP.out.grow g5
   replace HP := Lib.hid P5
   clear P5 g5 q1 q2 q0 SCK
   by_cases hc : ck = 0
   ·
    subst hc
    replace RO := Lib.hid (RO.out rfl)
    clear RC
    go_wp2_with (first | (refine Mem.loadAll 1 (t := 28) rfl rfl rfl Tryz.underlying28 CE HP.out.mem rfl rfl ?_) | (refine Mem.storeAll 0 (t := 28) rfl rfl rfl rfl CE HP.out.mem rfl rfl rfl rfl ?_; intro W9 M9 C9))
    simp only [K0, K1, L1, L2, K2, K3, K4, K5, K6, K7, Nat.reduceAdd, Nat.reduceSub] at M9
    have HM := Lib.hid M9
    clear M9 C9
    refine Stay.go ?_
    have BF := HM.out.blk (i := 0) rfl
    go_wp2_with fail
    refine bodyPost_ret (v := .tuple #[.agg #[.int .i64 5, .string ⟨#[]⟩, .string ⟨#[]⟩, .int .i64 v1, .int .i64 0, .string ⟨#[]⟩, .int .i64 0, .int .i64 0, .int .i64 0, .int .i64 0, .int .i64 0, .string ⟨#[]⟩, .string ⟨#[]⟩, .slice none 0 0, .int .i64 0], .int .i64 0]) (by simp [results, Tryz.results22, go_sem, BF.cell]) rfl ⟨none, 0, ?_, ?_, HM.out.below⟩
    ·
     rw [RO.out]; rfl
    ·
     rw [RO.out]; exact .inl rfl
   ·
    have hc2 : (ck != 0) = true := by simpa using hc
    replace RC := Lib.hid (RC.out hc)
    clear RO hc
    go_wp2_with (first | (refine Mem.storeAll 0 (t := 28) rfl rfl rfl rfl CE HP.out.mem rfl rfl rfl rfl ?_; intro W9 M9 C9) | (refine Mem.load1 1 (t := 3) rfl rfl rfl Tryz.underlying3 rfl HP.out.mem rfl rfl ?_))
    simp only [K0, K1, L1, L2, K2, K3, K4, K5, K6, K7, Nat.reduceAdd, Nat.reduceSub] at M9
    have HM := Lib.hid M9
    clear M9 C9
    refine Stay.go ?_
    have BF := HM.out.blk (i := 0) rfl
    go_wp2_with fail
    refine bodyPost_ret (v := .tuple #[.agg Z15.toArray, .int .i64 ck]) (by simp [Z15, results, Tryz.results22, go_sem, BF.cell]) rfl ⟨none, 0, ?_, ?_, HM.out.below⟩
    ·
     rw [RC.out]; rfl
    ·
     rw [RC.out]; exact .inl rfl

set_option maxHeartbeats 8000000 in
theorem rparse_6 (sb : Nat) (a : Option Addr) (c : Nat) (zs r : List Int) (w : World) (hs : BySl w sb a c zs) (hsb : sb < w.heap.size) (hz : zs.length ≤ 1000000) (hbt : Bts zs) (hzs : zs = 6 :: r) :
  Calls Tryz.prog 22 #[.slice a zs.length c] w fun x w' => ParseR zs w x w' := by
 have CE : (Tryz.prog.info? 28).map (·.size) = some 15 := by kernel_rfl
 have CI : (Tryz.prog.info? 3).map (·.size) = some 1 := by kernel_rfl
 have CS : (Tryz.prog.info? 9).map (·.size) = some 1 := by kernel_rfl
 have b0 : Bts r := fun x hx => hbt x (by rw [hzs]; simp [hx])
 have T0 := Lib.hid (fun W eb cs (h : PSt w W eb a c zs (zs, false) cs) => h.num (n := 1) hs hsb hz (by decide) hbt)
 have TB := Lib.hid (fun W (h : TkAt W (w.heap.size + 1) a c zs (zs, false)) (hb : BySl W sb a c zs) => tk_num (w.heap.size + 1) sb a c zs (zs, false) 1 W h hb (by omega) (by decide) hz hbt)
 rw [show Qnum 1 (zs, false) = (6, (r, false)) from by rw [hzs]; exact qnum_one _ _] at TB
 dsimp only at TB
 obtain ⟨s1, h1⟩ : ∃ s, (Qnum 4 (r, false)).2 = s := ⟨_, rfl⟩
 have b1 : Bts s1.1 := h1 ▸ Qnum_bts (s := (r, false)) b0
 have T1 := Lib.hid (fun W eb cs (h : PSt w W eb a c zs (r, false) cs) => h.num (n := 4) hs hsb hz (by decide) b0)
 rw [h1] at T1
 have E : Hid (evQ 6 r = ({ ev0 with k := 6, n := (Qnum 4 (r, false)).1 }, s1)) := Lib.hid (by subst h1; rfl)
 clear h1
 generalize (Qnum 4 (r, false)).1 = v1 at *
 have SCK := Lib.hid (fun W => (show Calls Tryz.prog 15 #[.agg #[.int .i64 6, .string ⟨#[]⟩, .string ⟨#[]⟩, .int .i64 v1, .int .i64 0, .string ⟨#[]⟩, .int .i64 0, .int .i64 0, .int .i64 0, .int .i64 0, .int .i64 0, .string ⟨#[]⟩, .string ⟨#[]⟩, .slice none 0 0, .int .i64 0]] W fun x W' => x = .returned (.int .i64 (EvD.chk { ev0 with k := 6, n := v1 })) ∧ Grow.G W W' from rchk_any { ev0 with k := 6, n := v1 } none 0 W ⟨(show ByteArray.size _ ≤ _ from by exact Nat.zero_le _), (show ByteArray.size _ ≤ _ from by exact Nat.zero_le _), (show ByteArray.size _ ≤ _ from by exact Nat.zero_le _), (show ByteArray.size _ ≤ _ from by exact Nat.zero_le _), (show ByteArray.size _ ≤ _ from by exact Nat.zero_le _), Nat.zero_le _, .inl rfl, fun i hi => absurd hi (Nat.not_lt_zero _)⟩))
 have RB := Lib.hid (fun h => (show evParse zs = (ev0, 10) from by rw [hzs]; exact rp_bad (by decide) E.out h))
 have RM := Lib.hid (fun h1 h2 => (show evParse zs = (ev0, 11) from by rw [hzs]; exact rp_more (by decide) E.out h1 h2))
 have RC := Lib.hid (fun h1 h2 h3 => (show evParse zs = (ev0, _) from by rw [hzs]; exact rp_chk (by decide) E.out h1 h2 h3))
 have RO := Lib.hid (fun h1 h2 h3 => (show evParse zs = (_, 0) from by rw [hzs]; exact rp_ok (by decide) E.out h1 h2 h3))
 have XV : Hid (∀ x, x = EvD.chk { ev0 with k := 6, n := v1 } → x = EvD.chk { ev0 with k := 6, n := v1 }) := Lib.hid (fun _ h => h)
 generalize EvD.chk { ev0 with k := 6, n := v1 } = ck at *
 have HS := Lib.hid hs
 have NZ : Hid (zs.length = r.length + 1) := Lib.hid (by rw [hzs]; rfl)
 clear hs hbt hzs E XV T0 b0 b1
 go_enter Tryz.func22, Tryz.ntmps22
 go_wp2_with fail
 have GA := Grow.G.alloc (Grow.G.alloc (Grow.G.refl w) (.cells Z15.toArray 28)) (.cells #[.slice a zs.length c, .int .i64 0, .bool false] 88)
 have M0 := (Mem.alloc' (Mem.nil w) Z15 28 (g := w.heap.size) rfl).grow (Grow.G.alloc (Grow.G.refl _) (.cells #[.slice a zs.length c, .int .i64 0, .bool false] 88))
 have KT0 : TkAt ((w.alloc (.cells Z15.toArray 28)).alloc (.cells #[.slice a zs.length c, .int .i64 0, .bool false] 88)) (w.heap.size + 1) a c zs (zs, false) := ⟨0, Nat.zero_le _, rfl, by exact Blk.new' (by simp)⟩
 refine (TB.out _ KT0 (HS.out.below (Below.mono GA (Nat.le_refl _)) hsb)).mono ?_
 rintro e W1 ⟨rfl, KT1, C1⟩
 have M1 := M0.chg C1 (fun k hk q => by have q : k = w.heap.size + 1 := q; omega) (fun b hb q => by
  have q : b.1 = w.heap.size + 1 := q
  simp at hb
  subst hb
  dsimp only at q
  omega)
 (try simp only [K0, K1, L1, L2, K2, K3, K4, K5, K6, K7, Nat.reduceAdd, Nat.reduceSub] at M1)
 have HM1 := Lib.hid M1
 have HK1 := Lib.hid KT1
 have sz1 := C1.size
 simp only [World.size_alloc] at sz1
 clear M0 KT0 GA M1 KT1 C1 TB HS
 go_wp2_with (refine Mem.storeAll 1 (t := 28) rfl rfl rfl rfl CE (Mem.alloc' HM1.out _ _ rfl) rfl rfl rfl rfl ?_; intro W2 M2 C2)
 (try simp only [K0, K1, L1, L2, K2, K3, K4, K5, K6, K7, Nat.reduceAdd, Nat.reduceSub] at M2)
 have P0 : PSt w W2 W1.heap.size a c zs (r, false) _ := ⟨M2, (HK1.out.grow (Grow.G.alloc (Grow.G.refl _) _)).chg C2 (fun q => by have q : w.heap.size + 1 = W1.heap.size := q; omega), by omega⟩
 have HP := Lib.hid P0
 clear M2 C2 P0 HM1 HK1
 refine Stay.go ?_
 generalize W1.heap.size = eb at *
 have q2 := HP.out.tk.bad
 dsimp only at q2
 have q0 := evd (HP.out.mem.blk (i := 1) rfl) (i := 0) rfl
 go_wp2_with (refine Mem.load1 1 (t := 3) rfl rfl rfl Tryz.underlying3 rfl HP.out.mem rfl rfl ?_)
 clear q2 q0
 refine (T1.out _ _ _ HP.out).mono ?_
 rintro e U1 ⟨rfl, P1, -⟩
 replace HP := Lib.hid P1
 clear P1 T1
 have q2 := True.intro
 go_wp2_with (refine PSt.store (t := 3) rfl rfl rfl rfl rfl CI HP.out (Nat.le_of_ble_eq_true rfl) rfl ?_; intro V1 P1 C1)
 simp only [K0, K1, L1, L2, K2, K3, K4, K5, K6, K7, Nat.reduceAdd, Nat.reduceSub] at P1
 replace HP := Lib.hid P1
 clear P1 C1
 refine Stay.go ?_
 replace q2 := HP.out.tk.bad
 have q0 := evd (HP.out.mem.blk (i := 1) rfl) (i := 0) rfl
 obtain ⟨p, q1, hp1, hp2⟩ := HP.out.tk.at
 obtain ⟨l, b⟩ := s1
 dsimp only at q2 hp2 RB RM RC RO
 cases b with
 | true =>
  replace RB := Lib.hid (RB.out rfl)
  clear RM RC RO
  go_wp2_with (first | (refine Mem.storeAll 0 (t := 28) rfl rfl rfl rfl CE HP.out.mem rfl rfl rfl rfl ?_; intro W9 M9 C9) | (refine Mem.load1 1 (t := 3) rfl rfl rfl Tryz.underlying3 rfl HP.out.mem rfl rfl ?_))
  simp only [K0, K1, L1, L2, K2, K3, K4, K5, K6, K7, Nat.reduceAdd, Nat.reduceSub] at M9
  have HM := Lib.hid M9
  clear M9 C9
  refine Stay.go ?_
  have BF := HM.out.blk (i := 0) rfl
  go_wp2_with fail
  refine bodyPost_ret (v := .tuple #[.agg Z15.toArray, .int .i64 10]) (by simp [Z15, results, Tryz.results22, go_sem, BF.cell]) rfl ⟨none, 0, ?_, ?_, HM.out.below⟩
  ·
   rw [RB.out]; rfl
  ·
   rw [RB.out]; exact .inl rfl
 | false =>
  have HP2 := Lib.hid hp2
  have ep := congrArg List.length hp2
  rw [List.length_drop] at ep
  clear hp2
  by_cases hlt : (p : Int) < (zs.length : Int)
  ·
   replace RM := Lib.hid (RM.out (by trivial) (by intro q; rw [q] at ep; simp at ep; omega))
   clear RB RC RO
   go_wp2_with (first | (refine Mem.storeAll 0 (t := 28) rfl rfl rfl rfl CE HP.out.mem rfl rfl rfl rfl ?_; intro W9 M9 C9) | (refine Mem.load1 1 (t := 3) rfl rfl rfl Tryz.underlying3 rfl HP.out.mem rfl rfl ?_))
   simp only [K0, K1, L1, L2, K2, K3, K4, K5, K6, K7, Nat.reduceAdd, Nat.reduceSub] at M9
   have HM := Lib.hid M9
   clear M9 C9
   refine Stay.go ?_
   have BF := HM.out.blk (i := 0) rfl
   go_wp2_with fail
   refine bodyPost_ret (v := .tuple #[.agg Z15.toArray, .int .i64 11]) (by simp [Z15, results, Tryz.results22, go_sem, BF.cell]) rfl ⟨none, 0, ?_, ?_, HM.out.below⟩
   ·
    rw [RM.out]; rfl
   ·
    rw [RM.out]; exact .inl rfl
  ·
   have hl0 : l = [] := List.eq_nil_of_length_eq_zero (by omega)
   replace RC := Lib.hid (RC.out (by trivial) hl0)
   replace RO := Lib.hid (RO.out (by trivial) hl0)
   clear RB RM hl0 ep
   go_wp2_with (first | (refine Mem.loadAll 1 (t := 28) rfl rfl rfl Tryz.underlying28 CE HP.out.mem rfl rfl ?_) | (refine Mem.load1 1 (t := 3) rfl rfl rfl Tryz.underlying3 rfl HP.out.mem rfl rfl ?_))
   refine (SCK.out _).mono ?_
   rintro e W5 ⟨rfl, g5⟩
   have P5 := HP.out.grow g5
   replace HP := Lib.hid P5
   clear P5 g5 q1 q2 q0 SCK
   by_cases hc : ck = 0
   ·
    subst hc
    replace RO := Lib.hid (RO.out rfl)
    clear RC
    go_wp2_with (first | (refine Mem.loadAll 1 (t := 28) rfl rfl rfl Tryz.underlying28 CE HP.out.mem rfl rfl ?_) | (refine Mem.storeAll 0 (t := 28) rfl rfl rfl rfl CE HP.out.mem rfl rfl rfl rfl ?_; intro W9 M9 C9))
    simp only [K0, K1, L1, L2, K2, K3, K4, K5, K6, K7, Nat.reduceAdd, Nat.reduceSub] at M9
    have HM := Lib.hid M9
    clear M9 C9
    refine Stay.go ?_
    have BF := HM.out.blk (i := 0) rfl
    go_wp2_with fail
    refine bodyPost_ret (v := .tuple #[.agg #[.int .i64 6, .string ⟨#[]⟩, .string ⟨#[]⟩, .int .i64 v1, .int .i64 0, .string ⟨#[]⟩, .int .i64 0, .int .i64 0, .int .i64 0, .int .i64 0, .int .i64 0, .string ⟨#[]⟩, .string ⟨#[]⟩, .slice none 0 0, .int .i64 0], .int .i64 0]) (by simp [results, Tryz.results22, go_sem, BF.cell]) rfl ⟨none, 0, ?_, ?_, HM.out.below⟩
    ·
     rw [RO.out]; rfl
    ·
     rw [RO.out]; exact .inl rfl
   ·
    have hc2 : (ck != 0) = true := by simpa using hc
    replace RC := Lib.hid (RC.out hc)
    clear RO hc
    go_wp2_with (first | (refine Mem.storeAll 0 (t := 28) rfl rfl rfl rfl CE HP.out.mem rfl rfl rfl rfl ?_; intro W9 M9 C9) | (refine Mem.load1 1 (t := 3) rfl rfl rfl Tryz.underlying3 rfl HP.out.mem rfl rfl ?_))
    simp only [K0, K1, L1, L2, K2, K3, K4, K5, K6, K7, Nat.reduceAdd, Nat.reduceSub] at M9
    have HM := Lib.hid M9
    clear M9 C9
    refine Stay.go ?_
    have BF := HM.out.blk (i := 0) rfl
    go_wp2_with fail
    refine bodyPost_ret (v := .tuple #[.agg Z15.toArray, .int .i64 ck]) (by simp [Z15, results, Tryz.results22, go_sem, BF.cell]) rfl ⟨none, 0, ?_, ?_, HM.out.below⟩
    ·
     rw [RC.out]; rfl
    ·
     rw [RC.out]; exact .inl rfl

set_option maxHeartbeats 8000000 in
theorem rparse_4 (sb : Nat) (a : Option Addr) (c : Nat) (zs r : List Int) (w : World) (hs : BySl w sb a c zs) (hsb : sb < w.heap.size) (hz : zs.length ≤ 1000000) (hbt : Bts zs) (hzs : zs = 4 :: r) :
  Calls Tryz.prog 22 #[.slice a zs.length c] w fun x w' => ParseR zs w x w' := by
 have CE : (Tryz.prog.info? 28).map (·.size) = some 15 := by kernel_rfl
 have CI : (Tryz.prog.info? 3).map (·.size) = some 1 := by kernel_rfl
 have CS : (Tryz.prog.info? 9).map (·.size) = some 1 := by kernel_rfl
 have b0 : Bts r := fun x hx => hbt x (by rw [hzs]; simp [hx])
 have T0 := Lib.hid (fun W eb cs (h : PSt w W eb a c zs (zs, false) cs) => h.num (n := 1) hs hsb hz (by decide) hbt)
 have TB := Lib.hid (fun W (h : TkAt W (w.heap.size + 1) a c zs (zs, false)) (hb : BySl W sb a c zs) => tk_num (w.heap.size + 1) sb a c zs (zs, false) 1 W h hb (by omega) (by decide) hz hbt)
 rw [show Qnum 1 (zs, false) = (4, (r, false)) from by rw [hzs]; exact qnum_one _ _] at TB
 dsimp only at TB
 obtain ⟨s1, h1⟩ : ∃ s, (Qnum 4 (r, false)).2 = s := ⟨_, rfl⟩
 have b1 : Bts s1.1 := h1 ▸ Qnum_bts (s := (r, false)) b0
 have T1 := Lib.hid (fun W eb cs (h : PSt w W eb a c zs (r, false) cs) => h.num (n := 4) hs hsb hz (by decide) b0)
 rw [h1] at T1
 obtain ⟨s2, h2⟩ : ∃ s, (Qtxt s1).2 = s := ⟨_, rfl⟩
 have b2 : Bts s2.1 := h2 ▸ Qtxt_bts (s := s1) b1
 have T2 := Lib.hid (fun W eb cs (h : PSt w W eb a c zs s1 cs) => h.txt hs hsb hz b1)
 have z2 := Qtxt_size (s := s1) b1
 rw [h2] at T2
 obtain ⟨s3, h3⟩ : ∃ s, (Qtxt s2).2 = s := ⟨_, rfl⟩
 have b3 : Bts s3.1 := h3 ▸ Qtxt_bts (s := s2) b2
 have T3 := Lib.hid (fun W eb cs (h : PSt w W eb a c zs s2 cs) => h.txt hs hsb hz b2)
 have z3 := Qtxt_size (s := s2) b2
 rw [h3] at T3
 obtain ⟨s4, h4⟩ : ∃ s, (Qnum 4 s3).2 = s := ⟨_, rfl⟩
 have b4 : Bts s4.1 := h4 ▸ Qnum_bts (s := s3) b3
 have T4 := Lib.hid (fun W eb cs (h : PSt w W eb a c zs s3 cs) => h.num (n := 4) hs hsb hz (by decide) b3)
 rw [h4] at T4
 have E : Hid (evQ 4 r = ({ ev0 with k := 4, n := (Qnum 4 (r, false)).1, nm := (Qtxt s1).1, tg := (Qtxt s2).1, dr := (Qnum 4 s3).1 }, s4)) := Lib.hid (by subst h4 h3 h2 h1; rfl)
 clear h1 h2 h3 h4
 generalize (Qnum 4 (r, false)).1 = v1 at *
 generalize (Qtxt s1).1 = v2 at *
 generalize (Qtxt s2).1 = v3 at *
 generalize (Qnum 4 s3).1 = v4 at *
 have SCK := Lib.hid (fun W => (show Calls Tryz.prog 15 #[.agg #[.int .i64 4, .string v2, .string v3, .int .i64 v1, .int .i64 v4, .string ⟨#[]⟩, .int .i64 0, .int .i64 0, .int .i64 0, .int .i64 0, .int .i64 0, .string ⟨#[]⟩, .string ⟨#[]⟩, .slice none 0 0, .int .i64 0]] W fun x W' => x = .returned (.int .i64 (EvD.chk { ev0 with k := 4, n := v1, nm := v2, tg := v3, dr := v4 })) ∧ Grow.G W W' from rchk_any { ev0 with k := 4, n := v1, nm := v2, tg := v3, dr := v4 } none 0 W ⟨(show ByteArray.size v2 ≤ _ from by omega), (show ByteArray.size v3 ≤ _ from by omega), (show ByteArray.size _ ≤ _ from by exact Nat.zero_le _), (show ByteArray.size _ ≤ _ from by exact Nat.zero_le _), (show ByteArray.size _ ≤ _ from by exact Nat.zero_le _), Nat.zero_le _, .inl rfl, fun i hi => absurd hi (Nat.not_lt_zero _)⟩))
 have RB := Lib.hid (fun h => (show evParse zs = (ev0, 10) from by rw [hzs]; exact rp_bad (by decide) E.out h))
 have RM := Lib.hid (fun h1 h2 => (show evParse zs = (ev0, 11) from by rw [hzs]; exact rp_more (by decide) E.out h1 h2))
 have RC := Lib.hid (fun h1 h2 h3 => (show evParse zs = (ev0, _) from by rw [hzs]; exact rp_chk (by decide) E.out h1 h2 h3))
 have RO := Lib.hid (fun h1 h2 h3 => (show evParse zs = (_, 0) from by rw [hzs]; exact rp_ok (by decide) E.out h1 h2 h3))
 have XV : Hid (∀ x, x = EvD.chk { ev0 with k := 4, n := v1, nm := v2, tg := v3, dr := v4 } → x = EvD.chk { ev0 with k := 4, n := v1, nm := v2, tg := v3, dr := v4 }) := Lib.hid (fun _ h => h)
 generalize EvD.chk { ev0 with k := 4, n := v1, nm := v2, tg := v3, dr := v4 } = ck at *
 have HS := Lib.hid hs
 have NZ : Hid (zs.length = r.length + 1) := Lib.hid (by rw [hzs]; rfl)
 clear hs hbt hzs E XV T0 b0 b1 b2 b3 b4
 go_enter Tryz.func22, Tryz.ntmps22
 go_wp2_with fail
 have GA := Grow.G.alloc (Grow.G.alloc (Grow.G.refl w) (.cells Z15.toArray 28)) (.cells #[.slice a zs.length c, .int .i64 0, .bool false] 88)
 have M0 := (Mem.alloc' (Mem.nil w) Z15 28 (g := w.heap.size) rfl).grow (Grow.G.alloc (Grow.G.refl _) (.cells #[.slice a zs.length c, .int .i64 0, .bool false] 88))
 have KT0 : TkAt ((w.alloc (.cells Z15.toArray 28)).alloc (.cells #[.slice a zs.length c, .int .i64 0, .bool false] 88)) (w.heap.size + 1) a c zs (zs, false) := ⟨0, Nat.zero_le _, rfl, by exact Blk.new' (by simp)⟩
 refine (TB.out _ KT0 (HS.out.below (Below.mono GA (Nat.le_refl _)) hsb)).mono ?_
 rintro e W1 ⟨rfl, KT1, C1⟩
 have M1 := M0.chg C1 (fun k hk q => by have q : k = w.heap.size + 1 := q; omega) (fun b hb q => by
  have q : b.1 = w.heap.size + 1 := q
  simp at hb
  subst hb
  dsimp only at q
  omega)
 (try simp only [K0, K1, L1, L2, K2, K3, K4, K5, K6, K7, Nat.reduceAdd, Nat.reduceSub] at M1)
 have HM1 := Lib.hid M1
 have HK1 := Lib.hid KT1
 have sz1 := C1.size
 simp only [World.size_alloc] at sz1
 clear M0 KT0 GA M1 KT1 C1 TB HS
 go_wp2_with (refine Mem.storeAll 1 (t := 28) rfl rfl rfl rfl CE (Mem.alloc' HM1.out _ _ rfl) rfl rfl rfl rfl ?_; intro W2 M2 C2)
 (try simp only [K0, K1, L1, L2, K2, K3, K4, K5, K6, K7, Nat.reduceAdd, Nat.reduceSub] at M2)
 have P0 : PSt w W2 W1.heap.size a c zs (r, false) _ := ⟨M2, (HK1.out.grow (Grow.G.alloc (Grow.G.refl _) _)).chg C2 (fun q => by have q : w.heap.size + 1 = W1.heap.size := q; omega), by omega⟩
 have HP := Lib.hid P0
 clear M2 C2 P0 HM1 HK1
 refine Stay.go ?_
 generalize W1.heap.size = eb at *
 have q2 := HP.out.tk.bad
 dsimp only at q2
 have q0 := evd (HP.out.mem.blk (i := 1) rfl) (i := 0) rfl
 go_wp2_with (refine Mem.load1 1 (t := 3) rfl rfl rfl Tryz.underlying3 rfl HP.out.mem rfl rfl ?_)
 clear q2 q0
 refine (T1.out _ _ _ HP.out).mono ?_
 rintro e U1 ⟨rfl, P1, -⟩
 replace HP := Lib.hid P1
 clear P1 T1
 have q2 := True.intro
 go_wp2_with (refine PSt.store (t := 3) rfl rfl rfl rfl rfl CI HP.out (Nat.le_of_ble_eq_true rfl) rfl ?_; intro V1 P1 C1)
 simp only [K0, K1, L1, L2, K2, K3, K4, K5, K6, K7, Nat.reduceAdd, Nat.reduceSub] at P1
 replace HP := Lib.hid P1
 clear P1 C1
 refine Stay.go ?_
 replace q2 := HP.out.tk.bad
 have q0 := evd (HP.out.mem.blk (i := 1) rfl) (i := 0) rfl
 go_wp2_with (refine Mem.load1 1 (t := 3) rfl rfl rfl Tryz.underlying3 rfl HP.out.mem rfl rfl ?_)
 clear q2 q0
 refine (T2.out _ _ _ HP.out).mono ?_
 rintro e U2 ⟨rfl, P2, -⟩
 replace HP := Lib.hid P2
 clear P2 T2
 have q2 := True.intro
 go_wp2_with (refine PSt.store (t := 9) rfl rfl rfl rfl rfl CS HP.out (Nat.le_of_ble_eq_true rfl) rfl ?_; intro V2 P2 C2)
 simp only [K0, K1, L1, L2, K2, K3, K4, K5, K6, K7, Nat.reduceAdd, Nat.reduceSub] at P2
 replace HP := Lib.hid P2
 clear P2 C2
 refine Stay.go ?_
 replace q2 := HP.out.tk.bad
 have q0 := evd (HP.out.mem.blk (i := 1) rfl) (i := 0) rfl
 go_wp2_with (refine Mem.load1 1 (t := 3) rfl rfl rfl Tryz.underlying3 rfl HP.out.mem rfl rfl ?_)
 clear q2 q0
 refine (T3.out _ _ _ HP.out).mono ?_
 rintro e U3 ⟨rfl, P3, -⟩
 replace HP := Lib.hid P3
 clear P3 T3
 have q2 := True.intro
 go_wp2_with (refine PSt.store (t := 9) rfl rfl rfl rfl rfl CS HP.out (Nat.le_of_ble_eq_true rfl) rfl ?_; intro V3 P3 C3)
 simp only [K0, K1, L1, L2, K2, K3, K4, K5, K6, K7, Nat.reduceAdd, Nat.reduceSub] at P3
 replace HP := Lib.hid P3
 clear P3 C3
 refine Stay.go ?_
 replace q2 := HP.out.tk.bad
 have q0 := evd (HP.out.mem.blk (i := 1) rfl) (i := 0) rfl
 go_wp2_with (refine Mem.load1 1 (t := 3) rfl rfl rfl Tryz.underlying3 rfl HP.out.mem rfl rfl ?_)
 clear q2 q0
 refine (T4.out _ _ _ HP.out).mono ?_
 rintro e U4 ⟨rfl, P4, -⟩
 replace HP := Lib.hid P4
 clear P4 T4
 have q2 := True.intro
 go_wp2_with (refine PSt.store (t := 3) rfl rfl rfl rfl rfl CI HP.out (Nat.le_of_ble_eq_true rfl) rfl ?_; intro V4 P4 C4)
 simp only [K0, K1, L1, L2, K2, K3, K4, K5, K6, K7, Nat.reduceAdd, Nat.reduceSub] at P4
 replace HP := Lib.hid P4
 clear P4 C4
 refine Stay.go ?_
 replace q2 := HP.out.tk.bad
 have q0 := evd (HP.out.mem.blk (i := 1) rfl) (i := 0) rfl
 obtain ⟨p, q1, hp1, hp2⟩ := HP.out.tk.at
 obtain ⟨l, b⟩ := s4
 dsimp only at q2 hp2 RB RM RC RO
 cases b with
 | true =>
  replace RB := Lib.hid (RB.out rfl)
  clear RM RC RO
  go_wp2_with (first | (refine Mem.storeAll 0 (t := 28) rfl rfl rfl rfl CE HP.out.mem rfl rfl rfl rfl ?_; intro W9 M9 C9) | (refine Mem.load1 1 (t := 3) rfl rfl rfl Tryz.underlying3 rfl HP.out.mem rfl rfl ?_))
  simp only [K0, K1, L1, L2, K2, K3, K4, K5, K6, K7, Nat.reduceAdd, Nat.reduceSub] at M9
  have HM := Lib.hid M9
  clear M9 C9
  refine Stay.go ?_
  have BF := HM.out.blk (i := 0) rfl
  go_wp2_with fail
  refine bodyPost_ret (v := .tuple #[.agg Z15.toArray, .int .i64 10]) (by simp [Z15, results, Tryz.results22, go_sem, BF.cell]) rfl ⟨none, 0, ?_, ?_, HM.out.below⟩
  ·
   rw [RB.out]; rfl
  ·
   rw [RB.out]; exact .inl rfl
 | false =>
  have HP2 := Lib.hid hp2
  have ep := congrArg List.length hp2
  rw [List.length_drop] at ep
  clear hp2
  by_cases hlt : (p : Int) < (zs.length : Int)
  ·
   replace RM := Lib.hid (RM.out (by trivial) (by intro q; rw [q] at ep; simp at ep; omega))
   clear RB RC RO
   go_wp2_with (first | (refine Mem.storeAll 0 (t := 28) rfl rfl rfl rfl CE HP.out.mem rfl rfl rfl rfl ?_; intro W9 M9 C9) | (refine Mem.load1 1 (t := 3) rfl rfl rfl Tryz.underlying3 rfl HP.out.mem rfl rfl ?_))
   simp only [K0, K1, L1, L2, K2, K3, K4, K5, K6, K7, Nat.reduceAdd, Nat.reduceSub] at M9
   have HM := Lib.hid M9
   clear M9 C9
   refine Stay.go ?_
   have BF := HM.out.blk (i := 0) rfl
   go_wp2_with fail
   refine bodyPost_ret (v := .tuple #[.agg Z15.toArray, .int .i64 11]) (by simp [Z15, results, Tryz.results22, go_sem, BF.cell]) rfl ⟨none, 0, ?_, ?_, HM.out.below⟩
   ·
    rw [RM.out]; rfl
   ·
    rw [RM.out]; exact .inl rfl
  ·
   have hl0 : l = [] := List.eq_nil_of_length_eq_zero (by omega)
   replace RC := Lib.hid (RC.out (by trivial) hl0)
   replace RO := Lib.hid (RO.out (by trivial) hl0)
   clear RB RM hl0 ep
   go_wp2_with (first | (refine Mem.loadAll 1 (t := 28) rfl rfl rfl Tryz.underlying28 CE HP.out.mem rfl rfl ?_) | (refine Mem.load1 1 (t := 3) rfl rfl rfl Tryz.underlying3 rfl HP.out.mem rfl rfl ?_))
   refine (SCK.out _).mono ?_
   rintro e W5 ⟨rfl, g5⟩
   have P5 := HP.out.grow g5
   replace HP := Lib.hid P5
   clear P5 g5 q1 q2 q0 SCK
   by_cases hc : ck = 0
   ·
    subst hc
    replace RO := Lib.hid (RO.out rfl)
    clear RC
    go_wp2_with (first | (refine Mem.loadAll 1 (t := 28) rfl rfl rfl Tryz.underlying28 CE HP.out.mem rfl rfl ?_) | (refine Mem.storeAll 0 (t := 28) rfl rfl rfl rfl CE HP.out.mem rfl rfl rfl rfl ?_; intro W9 M9 C9))
    simp only [K0, K1, L1, L2, K2, K3, K4, K5, K6, K7, Nat.reduceAdd, Nat.reduceSub] at M9
    have HM := Lib.hid M9
    clear M9 C9
    refine Stay.go ?_
    have BF := HM.out.blk (i := 0) rfl
    go_wp2_with fail
    refine bodyPost_ret (v := .tuple #[.agg #[.int .i64 4, .string v2, .string v3, .int .i64 v1, .int .i64 v4, .string ⟨#[]⟩, .int .i64 0, .int .i64 0, .int .i64 0, .int .i64 0, .int .i64 0, .string ⟨#[]⟩, .string ⟨#[]⟩, .slice none 0 0, .int .i64 0], .int .i64 0]) (by simp [results, Tryz.results22, go_sem, BF.cell]) rfl ⟨none, 0, ?_, ?_, HM.out.below⟩
    ·
     rw [RO.out]; rfl
    ·
     rw [RO.out]; exact .inl rfl
   ·
    have hc2 : (ck != 0) = true := by simpa using hc
    replace RC := Lib.hid (RC.out hc)
    clear RO hc
    go_wp2_with (first | (refine Mem.storeAll 0 (t := 28) rfl rfl rfl rfl CE HP.out.mem rfl rfl rfl rfl ?_; intro W9 M9 C9) | (refine Mem.load1 1 (t := 3) rfl rfl rfl Tryz.underlying3 rfl HP.out.mem rfl rfl ?_))
    simp only [K0, K1, L1, L2, K2, K3, K4, K5, K6, K7, Nat.reduceAdd, Nat.reduceSub] at M9
    have HM := Lib.hid M9
    clear M9 C9
    refine Stay.go ?_
    have BF := HM.out.blk (i := 0) rfl
    go_wp2_with fail
    refine bodyPost_ret (v := .tuple #[.agg Z15.toArray, .int .i64 ck]) (by simp [Z15, results, Tryz.results22, go_sem, BF.cell]) rfl ⟨none, 0, ?_, ?_, HM.out.below⟩
    ·
     rw [RC.out]; rfl
    ·
     rw [RC.out]; exact .inl rfl

set_option maxHeartbeats 8000000 in
theorem rparse_7 (sb : Nat) (a : Option Addr) (c : Nat) (zs r : List Int) (w : World) (hs : BySl w sb a c zs) (hsb : sb < w.heap.size) (hz : zs.length ≤ 1000000) (hbt : Bts zs) (hzs : zs = 7 :: r) :
  Calls Tryz.prog 22 #[.slice a zs.length c] w fun x w' => ParseR zs w x w' := by
 have CE : (Tryz.prog.info? 28).map (·.size) = some 15 := by kernel_rfl
 have CI : (Tryz.prog.info? 3).map (·.size) = some 1 := by kernel_rfl
 have CS : (Tryz.prog.info? 9).map (·.size) = some 1 := by kernel_rfl
 have b0 : Bts r := fun x hx => hbt x (by rw [hzs]; simp [hx])
 have T0 := Lib.hid (fun W eb cs (h : PSt w W eb a c zs (zs, false) cs) => h.num (n := 1) hs hsb hz (by decide) hbt)
 have TB := Lib.hid (fun W (h : TkAt W (w.heap.size + 1) a c zs (zs, false)) (hb : BySl W sb a c zs) => tk_num (w.heap.size + 1) sb a c zs (zs, false) 1 W h hb (by omega) (by decide) hz hbt)
 rw [show Qnum 1 (zs, false) = (7, (r, false)) from by rw [hzs]; exact qnum_one _ _] at TB
 dsimp only at TB
 obtain ⟨s1, h1⟩ : ∃ s, (Qnum 4 (r, false)).2 = s := ⟨_, rfl⟩
 have b1 : Bts s1.1 := h1 ▸ Qnum_bts (s := (r, false)) b0
 have T1 := Lib.hid (fun W eb cs (h : PSt w W eb a c zs (r, false) cs) => h.num (n := 4) hs hsb hz (by decide) b0)
 rw [h1] at T1
 have E : Hid (evQ 7 r = ({ ev0 with k := 7, n := (Qnum 4 (r, false)).1 }, s1)) := Lib.hid (by subst h1; rfl)
 clear h1
 generalize (Qnum 4 (r, false)).1 = v1 at *
 have SCK := Lib.hid (fun W => (show Calls Tryz.prog 15 #[.agg #[.int .i64 7, .string ⟨#[]⟩, .string ⟨#[]⟩, .int .i64 v1, .int .i64 0, .string ⟨#[]⟩, .int .i64 0, .int .i64 0, .int .i64 0, .int .i64 0, .int .i64 0, .string ⟨#[]⟩, .string ⟨#[]⟩, .slice none 0 0, .int .i64 0]] W fun x W' => x = .returned (.int .i64 (EvD.chk { ev0 with k := 7, n := v1 })) ∧ Grow.G W W' from rchk_any { ev0 with k := 7, n := v1 } none 0 W ⟨(show ByteArray.size _ ≤ _ from by exact Nat.zero_le _), (show ByteArray.size _ ≤ _ from by exact Nat.zero_le _), (show ByteArray.size _ ≤ _ from by exact Nat.zero_le _), (show ByteArray.size _ ≤ _ from by exact Nat.zero_le _), (show ByteArray.size _ ≤ _ from by exact Nat.zero_le _), Nat.zero_le _, .inl rfl, fun i hi => absurd hi (Nat.not_lt_zero _)⟩))
 have RB := Lib.hid (fun h => (show evParse zs = (ev0, 10) from by rw [hzs]; exact rp_bad (by decide) E.out h))
 have RM := Lib.hid (fun h1 h2 => (show evParse zs = (ev0, 11) from by rw [hzs]; exact rp_more (by decide) E.out h1 h2))
 have RC := Lib.hid (fun h1 h2 h3 => (show evParse zs = (ev0, _) from by rw [hzs]; exact rp_chk (by decide) E.out h1 h2 h3))
 have RO := Lib.hid (fun h1 h2 h3 => (show evParse zs = (_, 0) from by rw [hzs]; exact rp_ok (by decide) E.out h1 h2 h3))
 have XV : Hid (∀ x, x = EvD.chk { ev0 with k := 7, n := v1 } → x = EvD.chk { ev0 with k := 7, n := v1 }) := Lib.hid (fun _ h => h)
 generalize EvD.chk { ev0 with k := 7, n := v1 } = ck at *
 have HS := Lib.hid hs
 have NZ : Hid (zs.length = r.length + 1) := Lib.hid (by rw [hzs]; rfl)
 clear hs hbt hzs E XV T0 b0 b1
 go_enter Tryz.func22, Tryz.ntmps22
 go_wp2_with fail
 have GA := Grow.G.alloc (Grow.G.alloc (Grow.G.refl w) (.cells Z15.toArray 28)) (.cells #[.slice a zs.length c, .int .i64 0, .bool false] 88)
 have M0 := (Mem.alloc' (Mem.nil w) Z15 28 (g := w.heap.size) rfl).grow (Grow.G.alloc (Grow.G.refl _) (.cells #[.slice a zs.length c, .int .i64 0, .bool false] 88))
 have KT0 : TkAt ((w.alloc (.cells Z15.toArray 28)).alloc (.cells #[.slice a zs.length c, .int .i64 0, .bool false] 88)) (w.heap.size + 1) a c zs (zs, false) := ⟨0, Nat.zero_le _, rfl, by exact Blk.new' (by simp)⟩
 refine (TB.out _ KT0 (HS.out.below (Below.mono GA (Nat.le_refl _)) hsb)).mono ?_
 rintro e W1 ⟨rfl, KT1, C1⟩
 have M1 := M0.chg C1 (fun k hk q => by have q : k = w.heap.size + 1 := q; omega) (fun b hb q => by
  have q : b.1 = w.heap.size + 1 := q
  simp at hb
  subst hb
  dsimp only at q
  omega)
 (try simp only [K0, K1, L1, L2, K2, K3, K4, K5, K6, K7, Nat.reduceAdd, Nat.reduceSub] at M1)
 have HM1 := Lib.hid M1
 have HK1 := Lib.hid KT1
 have sz1 := C1.size
 simp only [World.size_alloc] at sz1
 clear M0 KT0 GA M1 KT1 C1 TB HS
 go_wp2_with (refine Mem.storeAll 1 (t := 28) rfl rfl rfl rfl CE (Mem.alloc' HM1.out _ _ rfl) rfl rfl rfl rfl ?_; intro W2 M2 C2)
 (try simp only [K0, K1, L1, L2, K2, K3, K4, K5, K6, K7, Nat.reduceAdd, Nat.reduceSub] at M2)
 have P0 : PSt w W2 W1.heap.size a c zs (r, false) _ := ⟨M2, (HK1.out.grow (Grow.G.alloc (Grow.G.refl _) _)).chg C2 (fun q => by have q : w.heap.size + 1 = W1.heap.size := q; omega), by omega⟩
 have HP := Lib.hid P0
 clear M2 C2 P0 HM1 HK1
 refine Stay.go ?_
 generalize W1.heap.size = eb at *
 have q2 := HP.out.tk.bad
 dsimp only at q2
 have q0 := evd (HP.out.mem.blk (i := 1) rfl) (i := 0) rfl
 go_wp2_with (refine Mem.load1 1 (t := 3) rfl rfl rfl Tryz.underlying3 rfl HP.out.mem rfl rfl ?_)
 clear q2 q0
 refine (T1.out _ _ _ HP.out).mono ?_
 rintro e U1 ⟨rfl, P1, -⟩
 replace HP := Lib.hid P1
 clear P1 T1
 have q2 := True.intro
 go_wp2_with (refine PSt.store (t := 3) rfl rfl rfl rfl rfl CI HP.out (Nat.le_of_ble_eq_true rfl) rfl ?_; intro V1 P1 C1)
 simp only [K0, K1, L1, L2, K2, K3, K4, K5, K6, K7, Nat.reduceAdd, Nat.reduceSub] at P1
 replace HP := Lib.hid P1
 clear P1 C1
 refine Stay.go ?_
 replace q2 := HP.out.tk.bad
 have q0 := evd (HP.out.mem.blk (i := 1) rfl) (i := 0) rfl
 obtain ⟨p, q1, hp1, hp2⟩ := HP.out.tk.at
 obtain ⟨l, b⟩ := s1
 dsimp only at q2 hp2 RB RM RC RO
 cases b with
 | true =>
  replace RB := Lib.hid (RB.out rfl)
  clear RM RC RO
  go_wp2_with (first | (refine Mem.storeAll 0 (t := 28) rfl rfl rfl rfl CE HP.out.mem rfl rfl rfl rfl ?_; intro W9 M9 C9) | (refine Mem.load1 1 (t := 3) rfl rfl rfl Tryz.underlying3 rfl HP.out.mem rfl rfl ?_))
  simp only [K0, K1, L1, L2, K2, K3, K4, K5, K6, K7, Nat.reduceAdd, Nat.reduceSub] at M9
  have HM := Lib.hid M9
  clear M9 C9
  refine Stay.go ?_
  have BF := HM.out.blk (i := 0) rfl
  go_wp2_with fail
  refine bodyPost_ret (v := .tuple #[.agg Z15.toArray, .int .i64 10]) (by simp [Z15, results, Tryz.results22, go_sem, BF.cell]) rfl ⟨none, 0, ?_, ?_, HM.out.below⟩
  ·
   rw [RB.out]; rfl
  ·
   rw [RB.out]; exact .inl rfl
 | false =>
  have HP2 := Lib.hid hp2
  have ep := congrArg List.length hp2
  rw [List.length_drop] at ep
  clear hp2
  by_cases hlt : (p : Int) < (zs.length : Int)
  ·
   replace RM := Lib.hid (RM.out (by trivial) (by intro q; rw [q] at ep; simp at ep; omega))
   clear RB RC RO
   go_wp2_with (first | (refine Mem.storeAll 0 (t := 28) rfl rfl rfl rfl CE HP.out.mem rfl rfl rfl rfl ?_; intro W9 M9 C9) | (refine Mem.load1 1 (t := 3) rfl rfl rfl Tryz.underlying3 rfl HP.out.mem rfl rfl ?_))
   simp only [K0, K1, L1, L2, K2, K3, K4, K5, K6, K7, Nat.reduceAdd, Nat.reduceSub] at M9
   have HM := Lib.hid M9
   clear M9 C9
   refine Stay.go ?_
   have BF := HM.out.blk (i := 0) rfl
   go_wp2_with fail
   refine bodyPost_ret (v := .tuple #[.agg Z15.toArray, .int .i64 11]) (by simp [Z15, results, Tryz.results22, go_sem, BF.cell]) rfl ⟨none, 0, ?_, ?_, HM.out.below⟩
   ·
    rw [RM.out]; rfl
   ·
    rw [RM.out]; exact .inl rfl
  ·
   have hl0 : l = [] := List.eq_nil_of_length_eq_zero (by omega)
   replace RC := Lib.hid (RC.out (by trivial) hl0)
   replace RO := Lib.hid (RO.out (by trivial) hl0)
   clear RB RM hl0 ep
   go_wp2_with (first | (refine Mem.loadAll 1 (t := 28) rfl rfl rfl Tryz.underlying28 CE HP.out.mem rfl rfl ?_) | (refine Mem.load1 1 (t := 3) rfl rfl rfl Tryz.underlying3 rfl HP.out.mem rfl rfl ?_))
   refine (SCK.out _).mono ?_
   rintro e W5 ⟨rfl, g5⟩
   have P5 := HP.out.grow g5
   replace HP := Lib.hid P5
   clear P5 g5 q1 q2 q0 SCK
   by_cases hc : ck = 0
   ·
    subst hc
    replace RO := Lib.hid (RO.out rfl)
    clear RC
    go_wp2_with (first | (refine Mem.loadAll 1 (t := 28) rfl rfl rfl Tryz.underlying28 CE HP.out.mem rfl rfl ?_) | (refine Mem.storeAll 0 (t := 28) rfl rfl rfl rfl CE HP.out.mem rfl rfl rfl rfl ?_; intro W9 M9 C9))
    simp only [K0, K1, L1, L2, K2, K3, K4, K5, K6, K7, Nat.reduceAdd, Nat.reduceSub] at M9
    have HM := Lib.hid M9
    clear M9 C9
    refine Stay.go ?_
    have BF := HM.out.blk (i := 0) rfl
    go_wp2_with fail
    refine bodyPost_ret (v := .tuple #[.agg #[.int .i64 7, .string ⟨#[]⟩, .string ⟨#[]⟩, .int .i64 v1, .int .i64 0, .string ⟨#[]⟩, .int .i64 0, .int .i64 0, .int .i64 0, .int .i64 0, .int .i64 0, .string ⟨#[]⟩, .string ⟨#[]⟩, .slice none 0 0, .int .i64 0], .int .i64 0]) (by simp [results, Tryz.results22, go_sem, BF.cell]) rfl ⟨none, 0, ?_, ?_, HM.out.below⟩
    ·
     rw [RO.out]; rfl
    ·
     rw [RO.out]; exact .inl rfl
   ·
    have hc2 : (ck != 0) = true := by simpa using hc
    replace RC := Lib.hid (RC.out hc)
    clear RO hc
    go_wp2_with (first | (refine Mem.storeAll 0 (t := 28) rfl rfl rfl rfl CE HP.out.mem rfl rfl rfl rfl ?_; intro W9 M9 C9) | (refine Mem.load1 1 (t := 3) rfl rfl rfl Tryz.underlying3 rfl HP.out.mem rfl rfl ?_))
    simp only [K0, K1, L1, L2, K2, K3, K4, K5, K6, K7, Nat.reduceAdd, Nat.reduceSub] at M9
    have HM := Lib.hid M9
    clear M9 C9
    refine Stay.go ?_
    have BF := HM.out.blk (i := 0) rfl
    go_wp2_with fail
    refine bodyPost_ret (v := .tuple #[.agg Z15.toArray, .int .i64 ck]) (by simp [Z15, results, Tryz.results22, go_sem, BF.cell]) rfl ⟨none, 0, ?_, ?_, HM.out.below⟩
    ·
     rw [RC.out]; rfl
    ·
     rw [RC.out]; exact .inl rfl

set_option maxHeartbeats 8000000 in
theorem rparse_8 (sb : Nat) (a : Option Addr) (c : Nat) (zs r : List Int) (w : World) (hs : BySl w sb a c zs) (hsb : sb < w.heap.size) (hz : zs.length ≤ 1000000) (hbt : Bts zs) (hzs : zs = 8 :: r) :
  Calls Tryz.prog 22 #[.slice a zs.length c] w fun x w' => ParseR zs w x w' := by
 have CE : (Tryz.prog.info? 28).map (·.size) = some 15 := by kernel_rfl
 have CI : (Tryz.prog.info? 3).map (·.size) = some 1 := by kernel_rfl
 have CS : (Tryz.prog.info? 9).map (·.size) = some 1 := by kernel_rfl
 have b0 : Bts r := fun x hx => hbt x (by rw [hzs]; simp [hx])
 have T0 := Lib.hid (fun W eb cs (h : PSt w W eb a c zs (zs, false) cs) => h.num (n := 1) hs hsb hz (by decide) hbt)
 have TB := Lib.hid (fun W (h : TkAt W (w.heap.size + 1) a c zs (zs, false)) (hb : BySl W sb a c zs) => tk_num (w.heap.size + 1) sb a c zs (zs, false) 1 W h hb (by omega) (by decide) hz hbt)
 rw [show Qnum 1 (zs, false) = (8, (r, false)) from by rw [hzs]; exact qnum_one _ _] at TB
 dsimp only at TB
 obtain ⟨s1, h1⟩ : ∃ s, (Qnum 4 (r, false)).2 = s := ⟨_, rfl⟩
 have b1 : Bts s1.1 := h1 ▸ Qnum_bts (s := (r, false)) b0
 have T1 := Lib.hid (fun W eb cs (h : PSt w W eb a c zs (r, false) cs) => h.num (n := 4) hs hsb hz (by decide) b0)
 rw [h1] at T1
 have E : Hid (evQ 8 r = ({ ev0 with k := 8, n := (Qnum 4 (r, false)).1 }, s1)) := Lib.hid (by subst h1; rfl)
 clear h1
 generalize (Qnum 4 (r, false)).1 = v1 at *
 have SCK := Lib.hid (fun W => (show Calls Tryz.prog 15 #[.agg #[.int .i64 8, .string ⟨#[]⟩, .string ⟨#[]⟩, .int .i64 v1, .int .i64 0, .string ⟨#[]⟩, .int .i64 0, .int .i64 0, .int .i64 0, .int .i64 0, .int .i64 0, .string ⟨#[]⟩, .string ⟨#[]⟩, .slice none 0 0, .int .i64 0]] W fun x W' => x = .returned (.int .i64 (EvD.chk { ev0 with k := 8, n := v1 })) ∧ Grow.G W W' from rchk_any { ev0 with k := 8, n := v1 } none 0 W ⟨(show ByteArray.size _ ≤ _ from by exact Nat.zero_le _), (show ByteArray.size _ ≤ _ from by exact Nat.zero_le _), (show ByteArray.size _ ≤ _ from by exact Nat.zero_le _), (show ByteArray.size _ ≤ _ from by exact Nat.zero_le _), (show ByteArray.size _ ≤ _ from by exact Nat.zero_le _), Nat.zero_le _, .inl rfl, fun i hi => absurd hi (Nat.not_lt_zero _)⟩))
 have RB := Lib.hid (fun h => (show evParse zs = (ev0, 10) from by rw [hzs]; exact rp_bad (by decide) E.out h))
 have RM := Lib.hid (fun h1 h2 => (show evParse zs = (ev0, 11) from by rw [hzs]; exact rp_more (by decide) E.out h1 h2))
 have RC := Lib.hid (fun h1 h2 h3 => (show evParse zs = (ev0, _) from by rw [hzs]; exact rp_chk (by decide) E.out h1 h2 h3))
 have RO := Lib.hid (fun h1 h2 h3 => (show evParse zs = (_, 0) from by rw [hzs]; exact rp_ok (by decide) E.out h1 h2 h3))
 have XV : Hid (∀ x, x = EvD.chk { ev0 with k := 8, n := v1 } → x = EvD.chk { ev0 with k := 8, n := v1 }) := Lib.hid (fun _ h => h)
 generalize EvD.chk { ev0 with k := 8, n := v1 } = ck at *
 have HS := Lib.hid hs
 have NZ : Hid (zs.length = r.length + 1) := Lib.hid (by rw [hzs]; rfl)
 clear hs hbt hzs E XV T0 b0 b1
 go_enter Tryz.func22, Tryz.ntmps22
 go_wp2_with fail
 have GA := Grow.G.alloc (Grow.G.alloc (Grow.G.refl w) (.cells Z15.toArray 28)) (.cells #[.slice a zs.length c, .int .i64 0, .bool false] 88)
 have M0 := (Mem.alloc' (Mem.nil w) Z15 28 (g := w.heap.size) rfl).grow (Grow.G.alloc (Grow.G.refl _) (.cells #[.slice a zs.length c, .int .i64 0, .bool false] 88))
 have KT0 : TkAt ((w.alloc (.cells Z15.toArray 28)).alloc (.cells #[.slice a zs.length c, .int .i64 0, .bool false] 88)) (w.heap.size + 1) a c zs (zs, false) := ⟨0, Nat.zero_le _, rfl, by exact Blk.new' (by simp)⟩
 refine (TB.out _ KT0 (HS.out.below (Below.mono GA (Nat.le_refl _)) hsb)).mono ?_
 rintro e W1 ⟨rfl, KT1, C1⟩
 have M1 := M0.chg C1 (fun k hk q => by have q : k = w.heap.size + 1 := q; omega) (fun b hb q => by
  have q : b.1 = w.heap.size + 1 := q
  simp at hb
  subst hb
  dsimp only at q
  omega)
 (try simp only [K0, K1, L1, L2, K2, K3, K4, K5, K6, K7, Nat.reduceAdd, Nat.reduceSub] at M1)
 have HM1 := Lib.hid M1
 have HK1 := Lib.hid KT1
 have sz1 := C1.size
 simp only [World.size_alloc] at sz1
 clear M0 KT0 GA M1 KT1 C1 TB HS
 go_wp2_with (refine Mem.storeAll 1 (t := 28) rfl rfl rfl rfl CE (Mem.alloc' HM1.out _ _ rfl) rfl rfl rfl rfl ?_; intro W2 M2 C2)
 (try simp only [K0, K1, L1, L2, K2, K3, K4, K5, K6, K7, Nat.reduceAdd, Nat.reduceSub] at M2)
 have P0 : PSt w W2 W1.heap.size a c zs (r, false) _ := ⟨M2, (HK1.out.grow (Grow.G.alloc (Grow.G.refl _) _)).chg C2 (fun q => by have q : w.heap.size + 1 = W1.heap.size := q; omega), by omega⟩
 have HP := Lib.hid P0
 clear M2 C2 P0 HM1 HK1
 refine Stay.go ?_
 generalize W1.heap.size = eb at *
 have q2 := HP.out.tk.bad
 dsimp only at q2
 have q0 := evd (HP.out.mem.blk (i := 1) rfl) (i := 0) rfl
 go_wp2_with (refine Mem.load1 1 (t := 3) rfl rfl rfl Tryz.underlying3 rfl HP.out.mem rfl rfl ?_)
 clear q2 q0
 refine (T1.out _ _ _ HP.out).mono ?_
 rintro e U1 ⟨rfl, P1, -⟩
 replace HP := Lib.hid P1
 clear P1 T1
 have q2 := True.intro
 go_wp2_with (refine PSt.store (t := 3) rfl rfl rfl rfl rfl CI HP.out (Nat.le_of_ble_eq_true rfl) rfl ?_; intro V1 P1 C1)
 simp only [K0, K1, L1, L2, K2, K3, K4, K5, K6, K7, Nat.reduceAdd, Nat.reduceSub] at P1
 replace HP := Lib.hid P1
 clear P1 C1
 refine Stay.go ?_
 replace q2 := HP.out.tk.bad
 have q0 := evd (HP.out.mem.blk (i := 1) rfl) (i := 0) rfl
 obtain ⟨p, q1, hp1, hp2⟩ := HP.out.tk.at
 obtain ⟨l, b⟩ := s1
 dsimp only at q2 hp2 RB RM RC RO
 cases b with
 | true =>
  replace RB := Lib.hid (RB.out rfl)
  clear RM RC RO
  go_wp2_with (first | (refine Mem.storeAll 0 (t := 28) rfl rfl rfl rfl CE HP.out.mem rfl rfl rfl rfl ?_; intro W9 M9 C9) | (refine Mem.load1 1 (t := 3) rfl rfl rfl Tryz.underlying3 rfl HP.out.mem rfl rfl ?_))
  simp only [K0, K1, L1, L2, K2, K3, K4, K5, K6, K7, Nat.reduceAdd, Nat.reduceSub] at M9
  have HM := Lib.hid M9
  clear M9 C9
  refine Stay.go ?_
  have BF := HM.out.blk (i := 0) rfl
  go_wp2_with fail
  refine bodyPost_ret (v := .tuple #[.agg Z15.toArray, .int .i64 10]) (by simp [Z15, results, Tryz.results22, go_sem, BF.cell]) rfl ⟨none, 0, ?_, ?_, HM.out.below⟩
  ·
   rw [RB.out]; rfl
  ·
   rw [RB.out]; exact .inl rfl
 | false =>
  have HP2 := Lib.hid hp2
  have ep := congrArg List.length hp2
  rw [List.length_drop] at ep
  clear hp2
  by_cases hlt : (p : Int) < (zs.length : Int)
  ·
   replace RM := Lib.hid (RM.out (by trivial) (by intro q; rw [q] at ep; simp at ep; omega))
   clear RB RC RO
   go_wp2_with (first | (refine Mem.storeAll 0 (t := 28) rfl rfl rfl rfl CE HP.out.mem rfl rfl rfl rfl ?_; intro W9 M9 C9) | (refine Mem.load1 1 (t := 3) rfl rfl rfl Tryz.underlying3 rfl HP.out.mem rfl rfl ?_))
   simp only [K0, K1, L1, L2, K2, K3, K4, K5, K6, K7, Nat.reduceAdd, Nat.reduceSub] at M9
   have HM := Lib.hid M9
   clear M9 C9
   refine Stay.go ?_
   have BF := HM.out.blk (i := 0) rfl
   go_wp2_with fail
   refine bodyPost_ret (v := .tuple #[.agg Z15.toArray, .int .i64 11]) (by simp [Z15, results, Tryz.results22, go_sem, BF.cell]) rfl ⟨none, 0, ?_, ?_, HM.out.below⟩
   ·
    rw [RM.out]; rfl
   ·
    rw [RM.out]; exact .inl rfl
  ·
   have hl0 : l = [] := List.eq_nil_of_length_eq_zero (by omega)
   replace RC := Lib.hid (RC.out (by trivial) hl0)
   replace RO := Lib.hid (RO.out (by trivial) hl0)
   clear RB RM hl0 ep
   go_wp2_with (first | (refine Mem.loadAll 1 (t := 28) rfl rfl rfl Tryz.underlying28 CE HP.out.mem rfl rfl ?_) | (refine Mem.load1 1 (t := 3) rfl rfl rfl Tryz.underlying3 rfl HP.out.mem rfl rfl ?_))
   refine (SCK.out _).mono ?_
   rintro e W5 ⟨rfl, g5⟩
   have P5 := HP.out.grow g5
   replace HP := Lib.hid P5
   clear P5 g5 q1 q2 q0 SCK
   by_cases hc : ck = 0
   ·
    subst hc
    replace RO := Lib.hid (RO.out rfl)
    clear RC
    go_wp2_with (first | (refine Mem.loadAll 1 (t := 28) rfl rfl rfl Tryz.underlying28 CE HP.out.mem rfl rfl ?_) | (refine Mem.storeAll 0 (t := 28) rfl rfl rfl rfl CE HP.out.mem rfl rfl rfl rfl ?_; intro W9 M9 C9))
    simp only [K0, K1, L1, L2, K2, K3, K4, K5, K6, K7, Nat.reduceAdd, Nat.reduceSub] at M9
    have HM := Lib.hid M9
    clear M9 C9
    refine Stay.go ?_
    have BF := HM.out.blk (i := 0) rfl
    go_wp2_with fail
    refine bodyPost_ret (v := .tuple #[.agg #[.int .i64 8, .string ⟨#[]⟩, .string ⟨#[]⟩, .int .i64 v1, .int .i64 0, .string ⟨#[]⟩, .int .i64 0, .int .i64 0, .int .i64 0, .int .i64 0, .int .i64 0, .string ⟨#[]⟩, .string ⟨#[]⟩, .slice none 0 0, .int .i64 0], .int .i64 0]) (by simp [results, Tryz.results22, go_sem, BF.cell]) rfl ⟨none, 0, ?_, ?_, HM.out.below⟩
    ·
     rw [RO.out]; rfl
    ·
     rw [RO.out]; exact .inl rfl
   ·
    have hc2 : (ck != 0) = true := by simpa using hc
    replace RC := Lib.hid (RC.out hc)
    clear RO hc
    go_wp2_with (first | (refine Mem.storeAll 0 (t := 28) rfl rfl rfl rfl CE HP.out.mem rfl rfl rfl rfl ?_; intro W9 M9 C9) | (refine Mem.load1 1 (t := 3) rfl rfl rfl Tryz.underlying3 rfl HP.out.mem rfl rfl ?_))
    simp only [K0, K1, L1, L2, K2, K3, K4, K5, K6, K7, Nat.reduceAdd, Nat.reduceSub] at M9
    have HM := Lib.hid M9
    clear M9 C9
    refine Stay.go ?_
    have BF := HM.out.blk (i := 0) rfl
    go_wp2_with fail
    refine bodyPost_ret (v := .tuple #[.agg Z15.toArray, .int .i64 ck]) (by simp [Z15, results, Tryz.results22, go_sem, BF.cell]) rfl ⟨none, 0, ?_, ?_, HM.out.below⟩
    ·
     rw [RC.out]; rfl
    ·
     rw [RC.out]; exact .inl rfl
end Go.Proofs.YtnkekdmikopdgaaGreat
