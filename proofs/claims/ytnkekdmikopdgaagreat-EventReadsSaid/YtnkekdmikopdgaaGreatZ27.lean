/- My own texts RP6, RParse, laid in one file. -/
import Derived.Test.YtnkekdmikopdgaaGreatZ25
import Derived.Test.YtnkekdmikopdgaaGreatZ13
import Derived.Test.YtnkekdmikopdgaaGreatZ26
import Derived.Test.YtnkekdmikopdgaaGreatZ23

/- What damperref3.Parse reads: kinds 10, 11, 12, 13. -/
namespace Go.Proofs.YtnkekdmikopdgaaGreat
set_option maxRecDepth 100000
set_option linter.unusedVariables false
set_option linter.unusedSimpArgs false
set_option linter.unnecessarySimpa false
open Go.RowKit

set_option maxHeartbeats 8000000 in
theorem rparse_10 (sb : Nat) (a : Option Addr) (c : Nat) (zs r : List Int) (w : World) (hs : BySl w sb a c zs) (hsb : sb < w.heap.size) (hz : zs.length ≤ 1000000) (hbt : Bts zs) (hzs : zs = 10 :: r) :
  Calls Tryz.prog 22 #[.slice a zs.length c] w fun x w' => ParseR zs w x w' := by
 have CE : (Tryz.prog.info? 28).map (·.size) = some 15 := by kernel_rfl
 have CI : (Tryz.prog.info? 3).map (·.size) = some 1 := by kernel_rfl
 have CS : (Tryz.prog.info? 9).map (·.size) = some 1 := by kernel_rfl
 have b0 : Bts r := fun x hx => hbt x (by rw [hzs]; simp [hx])
 have T0 := Lib.hid (fun W eb cs (h : PSt w W eb a c zs (zs, false) cs) => h.num (n := 1) hs hsb hz (by decide) hbt)
 have TB := Lib.hid (fun W (h : TkAt W (w.heap.size + 1) a c zs (zs, false)) (hb : BySl W sb a c zs) => tk_num (w.heap.size + 1) sb a c zs (zs, false) 1 W h hb (by omega) (by decide) hz hbt)
 rw [show Qnum 1 (zs, false) = (10, (r, false)) from by rw [hzs]; exact qnum_one _ _] at TB
 dsimp only at TB
 obtain ⟨s1, h1⟩ : ∃ s, (Qtxt (r, false)).2 = s := ⟨_, rfl⟩
 have b1 : Bts s1.1 := h1 ▸ Qtxt_bts (s := (r, false)) b0
 have T1 := Lib.hid (fun W eb cs (h : PSt w W eb a c zs (r, false) cs) => h.txt hs hsb hz b0)
 have z1 := Qtxt_size (s := (r, false)) b0
 rw [h1] at T1
 have E : Hid (evQ 10 r = ({ ev0 with k := 10, nm := (Qtxt (r, false)).1 }, s1)) := Lib.hid (by subst h1; rfl)
 clear h1
 generalize (Qtxt (r, false)).1 = v1 at *
 have SCK := Lib.hid (fun W => (show Calls Tryz.prog 15 #[.agg #[.int .i64 10, .string v1, .string ⟨#[]⟩, .int .i64 0, .int .i64 0, .string ⟨#[]⟩, .int .i64 0, .int .i64 0, .int .i64 0, .int .i64 0, .int .i64 0, .string ⟨#[]⟩, .string ⟨#[]⟩, .slice none 0 0, .int .i64 0]] W fun x W' => x = .returned (.int .i64 (EvD.chk { ev0 with k := 10, nm := v1 })) ∧ Grow.G W W' from rchk_any { ev0 with k := 10, nm := v1 } none 0 W ⟨(show ByteArray.size v1 ≤ _ from by omega), (show ByteArray.size _ ≤ _ from by exact Nat.zero_le _), (show ByteArray.size _ ≤ _ from by exact Nat.zero_le _), (show ByteArray.size _ ≤ _ from by exact Nat.zero_le _), (show ByteArray.size _ ≤ _ from by exact Nat.zero_le _), Nat.zero_le _, .inl rfl, fun i hi => absurd hi (Nat.not_lt_zero _)⟩))
 have RB := Lib.hid (fun h => (show evParse zs = (ev0, 10) from by rw [hzs]; exact rp_bad (by decide) E.out h))
 have RM := Lib.hid (fun h1 h2 => (show evParse zs = (ev0, 11) from by rw [hzs]; exact rp_more (by decide) E.out h1 h2))
 have RC := Lib.hid (fun h1 h2 h3 => (show evParse zs = (ev0, _) from by rw [hzs]; exact rp_chk (by decide) E.out h1 h2 h3))
 have RO := Lib.hid (fun h1 h2 h3 => (show evParse zs = (_, 0) from by rw [hzs]; exact rp_ok (by decide) E.out h1 h2 h3))
 have XV : Hid (∀ x, x = EvD.chk { ev0 with k := 10, nm := v1 } → x = EvD.chk { ev0 with k := 10, nm := v1 }) := Lib.hid (fun _ h => h)
 generalize EvD.chk { ev0 with k := 10, nm := v1 } = ck at *
 have HS := Lib.hid hs
 have NZ : Hid (zs.length = r.length + 1) := Lib.hid (by rw [hzs]; rfl)
 clear hs hbt hzs E XV T0 b0 b1
 go_enter Tryz.func22, Tryz.ntmps22
 go_wp2_with fail
 have GA := Grow.G.alloc (Grow.G.alloc (Grow.G.refl w) (.cells Z15.toArray 28)) (.cells #[.slice a zs.length c, .int .i64 0, .bool false] 88)
 have M0 := (Mem.alloc' (Mem.nil w) Z15 28 (g := w.heap.size) rfl).grow (Grow.G.alloc (Grow.G.refl _) (.cells #[.slice a zs.length c, .int .i64 0, .bool false] 88))
 have KT0 : TkAt ((w.alloc (.cells Z15.toArray 28)).alloc (.cells #[.slice a zs.length c, .int .i64 0, .bool false] 88)) (w.heap.size + 1) a c zs (zs, false) := ⟨0, Nat.zero_le _, rfl, by exact Blk.new' (by simp)⟩
 refine (TB.out _ KT0 (HS.out.below (Below.mono GA (Nat.le_refl _)) hsb)).mono ?_
 rintro e W1 ⟨rfl, KT1, C1⟩
 have M1 := M0.chg C1 (fun k hk q => by have q : k = w.heap.size + 1 := q; omega) (fun b hb q => by
  have q : b.1 = w.heap.size + 1 := q
  simp at hb
  subst hb
  dsimp only at q
  omega)
 (try simp only [K0, K1, L1, L2, K2, K3, K4, K5, K6, K7, Nat.reduceAdd, Nat.reduceSub] at M1)
 have HM1 := Lib.hid M1
 have HK1 := Lib.hid KT1
 have sz1 := C1.size
 simp only [World.size_alloc] at sz1
 clear M0 KT0 GA M1 KT1 C1 TB HS
 go_wp2_with (refine Mem.storeAll 1 (t := 28) rfl rfl rfl rfl CE (Mem.alloc' HM1.out _ _ rfl) rfl rfl rfl rfl ?_; intro W2 M2 C2)
 (try simp only [K0, K1, L1, L2, K2, K3, K4, K5, K6, K7, Nat.reduceAdd, Nat.reduceSub] at M2)
 have P0 : PSt w W2 W1.heap.size a c zs (r, false) _ := ⟨M2, (HK1.out.grow (Grow.G.alloc (Grow.G.refl _) _)).chg C2 (fun q => by have q : w.heap.size + 1 = W1.heap.size := q; omega), by omega⟩
 have HP := Lib.hid P0
 clear M2 C2 P0 HM1 HK1
 refine Stay.go ?_
 generalize W1.heap.size = eb at *
 have q2 := HP.out.tk.bad
 dsimp only at q2
 have q0 := evd (HP.out.mem.blk (i := 1) rfl) (i := 0) rfl
 go_wp2_with (refine Mem.load1 1 (t := 3) rfl rfl rfl Tryz.underlying3 rfl HP.out.mem rfl rfl ?_)
 clear q2 q0
 refine (T1.out _ _ _ HP.out).mono ?_
 rintro e U1 ⟨rfl, P1, -⟩
 replace HP := Lib.hid P1
 clear P1 T1
 have q2 := True.intro
 go_wp2_with (refine PSt.store (t := 9) rfl rfl rfl rfl rfl CS HP.out (Nat.le_of_ble_eq_true rfl) rfl ?_; intro V1 P1 C1)
 simp only [K0, K1, L1, L2, K2, K3, K4, K5, K6, K7, Nat.reduceAdd, Nat.reduceSub] at P1
 replace HP := Lib.hid P1
 clear P1 C1
 refine Stay.go ?_
 replace q2 := HP.out.tk.bad
 have q0 := evd (HP.out.mem.blk (i := 1) rfl) (i := 0) rfl
 obtain ⟨p, q1, hp1, hp2⟩ := HP.out.tk.at
 obtain ⟨l, b⟩ := s1
 dsimp only at q2 hp2 RB RM RC RO
 cases b with
 | true =>
  replace RB := Lib.hid (RB.out rfl)
  clear RM RC RO
  go_wp2_with (first | (refine Mem.storeAll 0 (t := 28) rfl rfl rfl rfl CE HP.out.mem rfl rfl rfl rfl ?_; intro W9 M9 C9) | (refine Mem.load1 1 (t := 3) rfl rfl rfl Tryz.underlying3 rfl HP.out.mem rfl rfl ?_))
  simp only [K0, K1, L1, L2, K2, K3, K4, K5, K6, K7, Nat.reduceAdd, Nat.reduceSub] at M9
  have HM := Lib.hid M9
  clear M9 C9
  refine Stay.go ?_
  have BF := HM.out.blk (i := 0) rfl
  go_wp2_with fail
  refine bodyPost_ret (v := .tuple #[.agg Z15.toArray, .int .i64 10]) (by simp [Z15, results, Tryz.results22, go_sem, BF.cell]) rfl ⟨none, 0, ?_, ?_, HM.out.below⟩
  ·
   rw [RB.out]; rfl
  ·
   rw [RB.out]; exact .inl rfl
 | false =>
  have HP2 := Lib.hid hp2
  have ep := congrArg List.length hp2
  rw [List.length_drop] at ep
  clear hp2
  by_cases hlt : (p : Int) < (zs.length : Int)
  ·
   replace RM := Lib.hid (RM.out (by trivial) (by intro q; rw [q] at ep; simp at ep; omega))
   clear RB RC RO
   go_wp2_with (first | (refine Mem.storeAll 0 (t := 28) rfl rfl rfl rfl CE HP.out.mem rfl rfl rfl rfl ?_; intro W9 M9 C9) | (refine Mem.load1 1 (t := 3) rfl rfl rfl Tryz.underlying3 rfl HP.out.mem rfl rfl ?_))
   simp only [K0, K1, L1, L2, K2, K3, K4, K5, K6, K7, Nat.reduceAdd, Nat.reduceSub] at M9
   have HM := Lib.hid M9
   clear M9 C9
   refine Stay.go ?_
   have BF := HM.out.blk (i := 0) rfl
   go_wp2_with fail
   refine bodyPost_ret (v := .tuple #[.agg Z15.toArray, .int .i64 11]) (by simp [Z15, results, Tryz.results22, go_sem, BF.cell]) rfl ⟨none, 0, ?_, ?_, HM.out.below⟩
   ·
    rw [RM.out]; rfl
   ·
    rw [RM.out]; exact .inl rfl
  ·
   have hl0 : l = [] := List.eq_nil_of_length_eq_zero (by omega)
   replace RC := Lib.hid (RC.out (by trivial) hl0)
   replace RO := Lib.hid (RO.out (by trivial) hl0)
   clear RB RM hl0 ep
   go_wp2_with (first | (refine Mem.loadAll 1 (t := 28) rfl rfl rfl Tryz.underlying28 CE HP.out.mem rfl rfl ?_) | (refine Mem.load1 1 (t := 3) rfl rfl rfl Tryz.underlying3 rfl HP.out.mem rfl rfl ?_))
   refine (SCK.out _).mono ?_
   rintro e W5 ⟨rfl, g5⟩
   have P5 := HP.out.grow g5
   replace HP := Lib.hid P5
   clear P5 g5 q1 q2 q0 SCK
   by_cases hc : ck = 0
   ·
    subst hc
    replace RO := Lib.hid (RO.out rfl)
    clear RC
    go_wp2_with (first | (refine Mem.loadAll 1 (t := 28) rfl rfl rfl Tryz.underlying28 CE HP.out.mem rfl rfl ?_) | (refine Mem.storeAll 0 (t := 28) rfl rfl rfl rfl CE HP.out.mem rfl rfl rfl rfl ?_; intro W9 M9 C9))
    simp only [K0, K1, L1, L2, K2, K3, K4, K5, K6, K7, Nat.reduceAdd, Nat.reduceSub] at M9
    have HM := Lib.hid M9
    clear M9 C9
    refine Stay.go ?_
    have BF := HM.out.blk (i := 0) rfl
    go_wp2_with fail
    refine bodyPost_ret (v := .tuple #[.agg #[.int .i64 10, .string v1, .string ⟨#[]⟩, .int .i64 0, .int .i64 0, .string ⟨#[]⟩, .int .i64 0, .int .i64 0, .int .i64 0, .int .i64 0, .int .i64 0, .string ⟨#[]⟩, .string ⟨#[]⟩, .slice none 0 0, .int .i64 0], .int .i64 0]) (by simp [results, Tryz.results22, go_sem, BF.cell]) rfl ⟨none, 0, ?_, ?_, HM.out.below⟩
    ·
     rw [RO.out]; rfl
    ·
     rw [RO.out]; exact .inl rfl
   ·
    have hc2 : (ck != 0) = true := by simpa using hc
    replace RC := Lib.hid (RC.out hc)
    clear RO hc
    go_wp2_with (first | (refine Mem.storeAll 0 (t := 28) rfl rfl rfl rfl CE HP.out.mem rfl rfl rfl rfl ?_; intro W9 M9 C9) | (refine Mem.load1 1 (t := 3) rfl rfl rfl Tryz.underlying3 rfl HP.out.mem rfl rfl ?_))
    simp only [K0, K1, L1, L2, K2, K3, K4, K5, K6, K7, Nat.reduceAdd, Nat.reduceSub] at M9
    have HM := Lib.hid M9
    clear M9 C9
    refine Stay.go ?_
    have BF := HM.out.blk (i := 0) rfl
    go_wp2_with fail
    refine bodyPost_ret (v := .tuple #[.agg Z15.toArray, .int .i64 ck]) (by simp [Z15, results, Tryz.results22, go_sem, BF.cell]) rfl ⟨none, 0, ?_, ?_, HM.out.below⟩
    ·
     rw [RC.out]; rfl
    ·
     rw [RC.out]; exact .inl rfl

set_option maxHeartbeats 8000000 in
theorem rparse_11 (sb : Nat) (a : Option Addr) (c : Nat) (zs r : List Int) (w : World) (hs : BySl w sb a c zs) (hsb : sb < w.heap.size) (hz : zs.length ≤ 1000000) (hbt : Bts zs) (hzs : zs = 11 :: r) :
  Calls Tryz.prog 22 #[.slice a zs.length c] w fun x w' => ParseR zs w x w' := by
 have CE : (Tryz.prog.info? 28).map (·.size) = some 15 := by kernel_rfl
 have CI : (Tryz.prog.info? 3).map (·.size) = some 1 := by kernel_rfl
 have CS : (Tryz.prog.info? 9).map (·.size) = some 1 := by kernel_rfl
 have b0 : Bts r := fun x hx => hbt x (by rw [hzs]; simp [hx])
 have T0 := Lib.hid (fun W eb cs (h : PSt w W eb a c zs (zs, false) cs) => h.num (n := 1) hs hsb hz (by decide) hbt)
 have TB := Lib.hid (fun W (h : TkAt W (w.heap.size + 1) a c zs (zs, false)) (hb : BySl W sb a c zs) => tk_num (w.heap.size + 1) sb a c zs (zs, false) 1 W h hb (by omega) (by decide) hz hbt)
 rw [show Qnum 1 (zs, false) = (11, (r, false)) from by rw [hzs]; exact qnum_one _ _] at TB
 dsimp only at TB
 obtain ⟨s1, h1⟩ : ∃ s, (Qtxt (r, false)).2 = s := ⟨_, rfl⟩
 have b1 : Bts s1.1 := h1 ▸ Qtxt_bts (s := (r, false)) b0
 have T1 := Lib.hid (fun W eb cs (h : PSt w W eb a c zs (r, false) cs) => h.txt hs hsb hz b0)
 have z1 := Qtxt_size (s := (r, false)) b0
 rw [h1] at T1
 have E : Hid (evQ 11 r = ({ ev0 with k := 11, nm := (Qtxt (r, false)).1 }, s1)) := Lib.hid (by subst h1; rfl)
 clear h1
 generalize (Qtxt (r, false)).1 = v1 at *
 have SCK := Lib.hid (fun W => (show Calls Tryz.prog 15 #[.agg #[.int .i64 11, .string v1, .string ⟨#[]⟩, .int .i64 0, .int .i64 0, .string ⟨#[]⟩, .int .i64 0, .int .i64 0, .int .i64 0, .int .i64 0, .int .i64 0, .string ⟨#[]⟩, .string ⟨#[]⟩, .slice none 0 0, .int .i64 0]] W fun x W' => x = .returned (.int .i64 (EvD.chk { ev0 with k := 11, nm := v1 })) ∧ Grow.G W W' from rchk_any { ev0 with k := 11, nm := v1 } none 0 W ⟨(show ByteArray.size v1 ≤ _ from by omega), (show ByteArray.size _ ≤ _ from by exact Nat.zero_le _), (show ByteArray.size _ ≤ _ from by exact Nat.zero_le _), (show ByteArray.size _ ≤ _ from by exact Nat.zero_le _), (show ByteArray.size _ ≤ _ from by exact Nat.zero_le _), Nat.zero_le _, .inl rfl, fun i hi => absurd hi (Nat.not_lt_zero _)⟩))
 have RB := Lib.hid (fun h => (show evParse zs = (ev0, 10) from by rw [hzs]; exact rp_bad (by decide) E.out h))
 have RM := Lib.hid (fun h1 h2 => (show evParse zs = (ev0, 11) from by rw [hzs]; exact rp_more (by decide) E.out h1 h2))
 have RC := Lib.hid (fun h1 h2 h3 => (show evParse zs = (ev0, _) from by rw [hzs]; exact rp_chk (by decide) E.out h1 h2 h3))
 have RO := Lib.hid (fun h1 h2 h3 => (show evParse zs = (_, 0) from by rw [hzs]; exact rp_ok (by decide) E.out h1 h2 h3))
 have XV : Hid (∀ x, x = EvD.chk { ev0 with k := 11, nm := v1 } → x = EvD.chk { ev0 with k := 11, nm := v1 }) := Lib.hid (fun _ h => h)
 generalize EvD.chk { ev0 with k := 11, nm := v1 } = ck at *
 have HS := Lib.hid hs
 have NZ : Hid (zs.length = r.length + 1) := Lib.hid (by rw [hzs]; rfl)
 clear hs hbt hzs E XV T0 b0 b1
 go_enter Tryz.func22, Tryz.ntmps22
 go_wp2_with fail
 have GA := Grow.G.alloc (Grow.G.alloc (Grow.G.refl w) (.cells Z15.toArray 28)) (.cells #[.slice a zs.length c, .int .i64 0, .bool false] 88)
 have M0 := (Mem.alloc' (Mem.nil w) Z15 28 (g := w.heap.size) rfl).grow (Grow.G.alloc (Grow.G.refl _) (.cells #[.slice a zs.length c, .int .i64 0, .bool false] 88))
 have KT0 : TkAt ((w.alloc (.cells Z15.toArray 28)).alloc (.cells #[.slice a zs.length c, .int .i64 0, .bool false] 88)) (w.heap.size + 1) a c zs (zs, false) := ⟨0, Nat.zero_le _, rfl, by exact Blk.new' (by simp)⟩
 refine (TB.out _ KT0 (HS.out.below (Below.mono GA (Nat.le_refl _)) hsb)).mono ?_
 rintro e W1 ⟨rfl, KT1, C1⟩
 have M1 := M0.chg C1 (fun k hk q => by have q : k = w.heap.size + 1 := q; omega) (fun b hb q => by
  have q : b.1 = w.heap.size + 1 := q
  simp at hb
  subst hb
  dsimp only at q
  omega)
 (try simp only [K0, K1, L1, L2, K2, K3, K4, K5, K6, K7, Nat.reduceAdd, Nat.reduceSub] at M1)
 have HM1 := Lib.hid M1
 have HK1 := Lib.hid KT1
 have sz1 := C1.size
 simp only [World.size_alloc] at sz1
 clear M0 KT0 GA M1 KT1 C1 TB HS
 go_wp2_with (refine Mem.storeAll 1 (t := 28) rfl rfl rfl rfl CE (Mem.alloc' HM1.out _ _ rfl) rfl rfl rfl rfl ?_; intro W2 M2 C2)
 (try simp only [K0, K1, L1, L2, K2, K3, K4, K5, K6, K7, Nat.reduceAdd, Nat.reduceSub] at M2)
 have P0 : PSt w W2 W1.heap.size a c zs (r, false) _ := ⟨M2, (HK1.out.grow (Grow.G.alloc (Grow.G.refl _) _)).chg C2 (fun q => by have q : w.heap.size + 1 = W1.heap.size := q; omega), by omega⟩
 have HP := Lib.hid P0
 clear M2 C2 P0 HM1 HK1
 refine Stay.go ?_
 generalize W1.heap.size = eb at *
 have q2 := HP.out.tk.bad
 dsimp only at q2
 have q0 := evd (HP.out.mem.blk (i := 1) rfl) (i := 0) rfl
 go_wp2_with (refine Mem.load1 1 (t := 3) rfl rfl rfl Tryz.underlying3 rfl HP.out.mem rfl rfl ?_)
 clear q2 q0
 refine (T1.out _ _ _ HP.out).mono ?_
 rintro e U1 ⟨rfl, P1, -⟩
 replace HP := Lib.hid P1
 clear P1 T1
 have q2 := True.intro
 go_wp2_with (refine PSt.store (t := 9) rfl rfl rfl rfl rfl CS HP.out (Nat.le_of_ble_eq_true rfl) rfl ?_; intro V1 P1 C1)
 simp only [K0, K1, L1, L2, K2, K3, K4, K5, K6, K7, Nat.reduceAdd, Nat.reduceSub] at P1
 replace HP := Lib.hid P1
 clear P1 C1
 refine Stay.go ?_
 replace q2 := HP.out.tk.bad
 have q0 := evd (HP.out.mem.blk (i := 1) rfl) (i := 0) rfl
 obtain ⟨p, q1, hp1, hp2⟩ := HP.out.tk.at
 obtain ⟨l, b⟩ := s1
 dsimp only at q2 hp2 RB RM RC RO
 cases b with
 | true =>
  replace RB := Lib.hid (RB.out rfl)
  clear RM RC RO
  go_wp2_with (first | (refine Mem.storeAll 0 (t := 28) rfl rfl rfl rfl CE HP.out.mem rfl rfl rfl rfl ?_; intro W9 M9 C9) | (refine Mem.load1 1 (t := 3) rfl rfl rfl Tryz.underlying3 rfl HP.out.mem rfl rfl ?_))
  simp only [K0, K1, L1, L2, K2, K3, K4, K5, K6, K7, Nat.reduceAdd, Nat.reduceSub] at M9
  have HM := Lib.hid M9
  clear M9 C9
  refine Stay.go ?_
  have BF := HM.out.blk (i := 0) rfl
  go_wp2_with fail
  refine bodyPost_ret (v := .tuple #[.agg Z15.toArray, .int .i64 10]) (by simp [Z15, results, Tryz.results22, go_sem, BF.cell]) rfl ⟨none, 0, ?_, ?_, HM.out.below⟩
  ·
   rw [RB.out]; rfl
  ·
   rw [RB.out]; exact .inl rfl
 | false =>
  have HP2 := Lib.hid hp2
  have ep := congrArg List.length hp2
  rw [List.length_drop] at ep
  clear hp2
  by_cases hlt : (p : Int) < (zs.length : Int)
  ·
   replace RM := Lib.hid (RM.out (by trivial) (by intro q; rw [q] at ep; simp at ep; omega))
   clear RB RC RO
   go_wp2_with (first | (refine Mem.storeAll 0 (t := 28) rfl rfl rfl rfl CE HP.out.mem rfl rfl rfl rfl ?_; intro W9 M9 C9) | (refine Mem.load1 1 (t := 3) rfl rfl rfl Tryz.underlying3 rfl HP.out.mem rfl rfl ?_))
   simp only [K0, K1, L1, L2, K2, K3, K4, K5, K6, K7, Nat.reduceAdd, Nat.reduceSub] at M9
   have HM := Lib.hid M9
   clear M9 C9
   refine Stay.go ?_
   have BF := HM.out.blk (i := 0) rfl
   go_wp2_with fail
   refine bodyPost_ret (v := .tuple #[.agg Z15.toArray, .int .i64 11]) (by simp [Z15, results, Tryz.results22, go_sem, BF.cell]) rfl ⟨none, 0, ?_, ?_, HM.out.below⟩
   ·
    rw [RM.out]; rfl
   ·
    rw [RM.out]; exact .inl rfl
  ·
   have hl0 : l = [] := List.eq_nil_of_length_eq_zero (by omega)
   replace RC := Lib.hid (RC.out (by trivial) hl0)
   replace RO := Lib.hid (RO.out (by trivial) hl0)
   clear RB RM hl0 ep
   go_wp2_with (first | (refine Mem.loadAll 1 (t := 28) rfl rfl rfl Tryz.underlying28 CE HP.out.mem rfl rfl ?_) | (refine Mem.load1 1 (t := 3) rfl rfl rfl Tryz.underlying3 rfl HP.out.mem rfl rfl ?_))
   refine (SCK.out _).mono ?_
   rintro e W5 ⟨rfl, g5⟩
   have P5 := HP.out.grow g5
   replace HP := Lib.hid P5
   clear P5 g5 q1 q2 q0 SCK
   by_cases hc : ck = 0
   ·
    subst hc
    replace RO := Lib.hid (RO.out rfl)
    clear RC
    go_wp2_with (first | (refine Mem.loadAll 1 (t := 28) rfl rfl rfl Tryz.underlying28 CE HP.out.mem rfl rfl ?_) | (refine Mem.storeAll 0 (t := 28) rfl rfl rfl rfl CE HP.out.mem rfl rfl rfl rfl ?_; intro W9 M9 C9))
    simp only [K0, K1, L1, L2, K2, K3, K4, K5, K6, K7, Nat.reduceAdd, Nat.reduceSub] at M9
    have HM := Lib.hid M9
    clear M9 C9
    refine Stay.go ?_
    have BF := HM.out.blk (i := 0) rfl
    go_wp2_with fail
    refine bodyPost_ret (v := .tuple #[.agg #[.int .i64 11, .string v1, .string ⟨#[]⟩, .int .i64 0, .int .i64 0, .string ⟨#[]⟩, .int .i64 0, .int .i64 0, .int .i64 0, .int .i64 0, .int .i64 0, .string ⟨#[]⟩, .string ⟨#[]⟩, .slice none 0 0, .int .i64 0], .int .i64 0]) (by simp [results, Tryz.results22, go_sem, BF.cell]) rfl ⟨none, 0, ?_, ?_, HM.out.below⟩
    ·
     rw [RO.out]; rfl
    ·
     rw [RO.out]; exact .inl rfl
   ·
    have hc2 : (ck != 0) = true := by simpa using hc
    replace RC := Lib.hid (RC.out hc)
    clear RO hc
    go_wp2_with (first | (refine Mem.storeAll 0 (t := 28) rfl rfl rfl rfl CE HP.out.mem rfl rfl rfl rfl ?_; intro W9 M9 C9) | (refine Mem.load1 1 (t := 3) rfl rfl rfl Tryz.underlying3 rfl HP.out.mem rfl rfl ?_))
    simp only [K0, K1, L1, L2, K2, K3, K4, K5, K6, K7, Nat.reduceAdd, Nat.reduceSub] at M9
    have HM := Lib.hid M9
    clear M9 C9
    refine Stay.go ?_
    have BF := HM.out.blk (i := 0) rfl
    go_wp2_with fail
    refine bodyPost_ret (v := .tuple #[.agg Z15.toArray, .int .i64 ck]) (by simp [Z15, results, Tryz.results22, go_sem, BF.cell]) rfl ⟨none, 0, ?_, ?_, HM.out.below⟩
    ·
     rw [RC.out]; rfl
    ·
     rw [RC.out]; exact .inl rfl

set_option maxHeartbeats 8000000 in
theorem rparse_12 (sb : Nat) (a : Option Addr) (c : Nat) (zs r : List Int) (w : World) (hs : BySl w sb a c zs) (hsb : sb < w.heap.size) (hz : zs.length ≤ 1000000) (hbt : Bts zs) (hzs : zs = 12 :: r) :
  Calls Tryz.prog 22 #[.slice a zs.length c] w fun x w' => ParseR zs w x w' := by
 have CE : (Tryz.prog.info? 28).map (·.size) = some 15 := by kernel_rfl
 have CI : (Tryz.prog.info? 3).map (·.size) = some 1 := by kernel_rfl
 have CS : (Tryz.prog.info? 9).map (·.size) = some 1 := by kernel_rfl
 have b0 : Bts r := fun x hx => hbt x (by rw [hzs]; simp [hx])
 have T0 := Lib.hid (fun W eb cs (h : PSt w W eb a c zs (zs, false) cs) => h.num (n := 1) hs hsb hz (by decide) hbt)
 have TB := Lib.hid (fun W (h : TkAt W (w.heap.size + 1) a c zs (zs, false)) (hb : BySl W sb a c zs) => tk_num (w.heap.size + 1) sb a c zs (zs, false) 1 W h hb (by omega) (by decide) hz hbt)
 rw [show Qnum 1 (zs, false) = (12, (r, false)) from by rw [hzs]; exact qnum_one _ _] at TB
 dsimp only at TB
 obtain ⟨s1, h1⟩ : ∃ s, (Qtxt (r, false)).2 = s := ⟨_, rfl⟩
 have b1 : Bts s1.1 := h1 ▸ Qtxt_bts (s := (r, false)) b0
 have T1 := Lib.hid (fun W eb cs (h : PSt w W eb a c zs (r, false) cs) => h.txt hs hsb hz b0)
 have z1 := Qtxt_size (s := (r, false)) b0
 rw [h1] at T1
 have E : Hid (evQ 12 r = ({ ev0 with k := 12, nm := (Qtxt (r, false)).1 }, s1)) := Lib.hid (by subst h1; rfl)
 clear h1
 generalize (Qtxt (r, false)).1 = v1 at *
 have SCK := Lib.hid (fun W => (show Calls Tryz.prog 15 #[.agg #[.int .i64 12, .string v1, .string ⟨#[]⟩, .int .i64 0, .int .i64 0, .string ⟨#[]⟩, .int .i64 0, .int .i64 0, .int .i64 0, .int .i64 0, .int .i64 0, .string ⟨#[]⟩, .string ⟨#[]⟩, .slice none 0 0, .int .i64 0]] W fun x W' => x = .returned (.int .i64 (EvD.chk { ev0 with k := 12, nm := v1 })) ∧ Grow.G W W' from rchk_any { ev0 with k := 12, nm := v1 } none 0 W ⟨(show ByteArray.size v1 ≤ _ from by omega), (show ByteArray.size _ ≤ _ from by exact Nat.zero_le _), (show ByteArray.size _ ≤ _ from by exact Nat.zero_le _), (show ByteArray.size _ ≤ _ from by exact Nat.zero_le _), (show ByteArray.size _ ≤ _ from by exact Nat.zero_le _), Nat.zero_le _, .inl rfl, fun i hi => absurd hi (Nat.not_lt_zero _)⟩))
 have RB := Lib.hid (fun h => (show evParse zs = (ev0, 10) from by rw [hzs]; exact rp_bad (by decide) E.out h))
 have RM := Lib.hid (fun h1 h2 => (show evParse zs = (ev0, 11) from by rw [hzs]; exact rp_more (by decide) E.out h1 h2))
 have RC := Lib.hid (fun h1 h2 h3 => (show evParse zs = (ev0, _) from by rw [hzs]; exact rp_chk (by decide) E.out h1 h2 h3))
 have RO := Lib.hid (fun h1 h2 h3 => (show evParse zs = (_, 0) from by rw [hzs]; exact rp_ok (by decide) E.out h1 h2 h3))
 have XV : Hid (∀ x, x = EvD.chk { ev0 with k := 12, nm := v1 } → x = EvD.chk { ev0 with k := 12, nm := v1 }) := Lib.hid (fun _ h => h)
 generalize EvD.chk { ev0 with k := 12, nm := v1 } = ck at *
 have HS := Lib.hid hs
 have NZ : Hid (zs.length = r.length + 1) := Lib.hid (by rw [hzs]; rfl)
 clear hs hbt hzs E XV T0 b0 b1
 go_enter Tryz.func22, Tryz.ntmps22
 go_wp2_with fail
 have GA := Grow.G.alloc (Grow.G.alloc (Grow.G.refl w) (.cells Z15.toArray 28)) (.cells #[.slice a zs.length c, .int .i64 0, .bool false] 88)
 have M0 := (Mem.alloc' (Mem.nil w) Z15 28 (g := w.heap.size) rfl).grow (Grow.G.alloc (Grow.G.refl _) (.cells #[.slice a zs.length c, .int .i64 0, .bool false] 88))
 have KT0 : TkAt ((w.alloc (.cells Z15.toArray 28)).alloc (.cells #[.slice a zs.length c, .int .i64 0, .bool false] 88)) (w.heap.size + 1) a c zs (zs, false) := ⟨0, Nat.zero_le _, rfl, by exact Blk.new' (by simp)⟩
 refine (TB.out _ KT0 (HS.out.below (Below.mono GA (Nat.le_refl _)) hsb)).mono ?_
 rintro e W1 ⟨rfl, KT1, C1⟩
 have M1 := M0.chg C1 (fun k hk q => by have q : k = w.heap.size + 1 := q; omega) (fun b hb q => by
  have q : b.1 = w.heap.size + 1 := q
  simp at hb
  subst hb
  dsimp only at q
  omega)
 (try simp only [K0, K1, L1, L2, K2, K3, K4, K5, K6, K7, Nat.reduceAdd, Nat.reduceSub] at M1)
 have HM1 := Lib.hid M1
 have HK1 := Lib.hid KT1
 have sz1 := C1.size
 simp only [World.size_alloc] at sz1
 clear M0 KT0 GA M1 KT1 C1 TB HS
 go_wp2_with (refine Mem.storeAll 1 (t := 28) rfl rfl rfl rfl CE (Mem.alloc' HM1.out _ _ rfl) rfl rfl rfl rfl ?_; intro W2 M2 C2)
 (try simp only [K0, K1, L1, L2, K2, K3, K4, K5, K6, K7, Nat.reduceAdd, Nat.reduceSub] at M2)
 have P0 : PSt w W2 W1.heap.size a c zs (r, false) _ := ⟨M2, (HK1.out.grow (Grow.G.alloc (Grow.G.refl _) _)).chg C2 (fun q => by have q : w.heap.size + 1 = W1.heap.size := q; omega), by omega⟩
 have HP := Lib.hid P0
 clear M2 C2 P0 HM1 HK1
 refine Stay.go ?_
 generalize W1.heap.size = eb at *
 have q2 := HP.out.tk.bad
 dsimp only at q2
 have q0 := evd (HP.out.mem.blk (i := 1) rfl) (i := 0) rfl
 go_wp2_with (refine Mem.load1 1 (t := 3) rfl rfl rfl Tryz.underlying3 rfl HP.out.mem rfl rfl ?_)
 clear q2 q0
 refine (T1.out _ _ _ HP.out).mono ?_
 rintro e U1 ⟨rfl, P1, -⟩
 replace HP := Lib.hid P1
 clear P1 T1
 have q2 := True.intro
 go_wp2_with (refine PSt.store (t := 9) rfl rfl rfl rfl rfl CS HP.out (Nat.le_of_ble_eq_true rfl) rfl ?_; intro V1 P1 C1)
 simp only [K0, K1, L1, L2, K2, K3, K4, K5, K6, K7, Nat.reduceAdd, Nat.reduceSub] at P1
 replace HP := Lib.hid P1
 clear P1 C1
 refine Stay.go ?_
 replace q2 := HP.out.tk.bad
 have q0 := evd (HP.out.mem.blk (i := 1) rfl) (i := 0) rfl
 obtain ⟨p, q1, hp1, hp2⟩ := HP.out.tk.at
 obtain ⟨l, b⟩ := s1
 dsimp only at q2 hp2 RB RM RC RO
 cases b with
 | true =>
  replace RB := Lib.hid (RB.out rfl)
  clear RM RC RO
  go_wp2_with (first | (refine Mem.storeAll 0 (t := 28) rfl rfl rfl rfl CE HP.out.mem rfl rfl rfl rfl ?_; intro W9 M9 C9) | (refine Mem.load1 1 (t := 3) rfl rfl rfl Tryz.underlying3 rfl HP.out.mem rfl rfl ?_))
  simp only [K0, K1, L1, L2, K2, K3, K4, K5, K6, K7, Nat.reduceAdd, Nat.reduceSub] at M9
  have HM := Lib.hid M9
  clear M9 C9
  refine Stay.go ?_
  have BF := HM.out.blk (i := 0) rfl
  go_wp2_with fail
  refine bodyPost_ret (v := .tuple #[.agg Z15.toArray, .int .i64 10]) (by simp [Z15, results, Tryz.results22, go_sem, BF.cell]) rfl ⟨none, 0, ?_, ?_, HM.out.below⟩
  ·
   rw [RB.out]; rfl
  ·
   rw [RB.out]; exact .inl rfl
 | false =>
  have HP2 := Lib.hid hp2
  have ep := congrArg List.length hp2
  rw [List.length_drop] at ep
  clear hp2
  by_cases hlt : (p : Int) < (zs.length : Int)
  ·
   replace RM := Lib.hid (RM.out (by trivial) (by intro q; rw [q] at ep; simp at ep; omega))
   clear RB RC RO
   go_wp2_with (first | (refine Mem.storeAll 0 (t := 28) rfl rfl rfl rfl CE HP.out.mem rfl rfl rfl rfl ?_; intro W9 M9 C9) | (refine Mem.load1 1 (t := 3) rfl rfl rfl Tryz.underlying3 rfl HP.out.mem rfl rfl ?_))
   simp only [K0, K1, L1, L2, K2, K3, K4, K5, K6, K7, Nat.reduceAdd, Nat.reduceSub] at M9
   have HM := Lib.hid M9
   clear M9 C9
   refine Stay.go ?_
   have BF := HM.out.blk (i := 0) rfl
   go_wp2_with fail
   refine bodyPost_ret (v := .tuple #[.agg Z15.toArray, .int .i64 11]) (by simp [Z15, results, Tryz.results22, go_sem, BF.cell]) rfl ⟨none, 0, ?_, ?_, HM.out.below⟩
   ·
    rw [RM.out]; rfl
   ·
    rw [RM.out]; exact .inl rfl
  ·
   have hl0 : l = [] := List.eq_nil_of_length_eq_zero (by omega)
   replace RC := Lib.hid (RC.out (by trivial) hl0)
   replace RO := Lib.hid (RO.out (by trivial) hl0)
   clear RB RM hl0 ep
   go_wp2_with (first | (refine Mem.loadAll 1 (t := 28) rfl rfl rfl Tryz.underlying28 CE HP.out.mem rfl rfl ?_) | (refine Mem.load1 1 (t := 3) rfl rfl rfl Tryz.underlying3 rfl HP.out.mem rfl rfl ?_))
   refine (SCK.out _).mono ?_
   rintro e W5 ⟨rfl, g5⟩
   have P5 := HP.out.grow g5
   replace HP := Lib.hid P5
   clear P5 g5 q1 q2 q0 SCK
   by_cases hc : ck = 0
   ·
    subst hc
    replace RO := Lib.hid (RO.out rfl)
    clear RC
    go_wp2_with (first | (refine Mem.loadAll 1 (t := 28) rfl rfl rfl Tryz.underlying28 CE HP.out.mem rfl rfl ?_) | (refine Mem.storeAll 0 (t := 28) rfl rfl rfl rfl CE HP.out.mem rfl rfl rfl rfl ?_; intro W9 M9 C9))
    simp only [K0, K1, L1, L2, K2, K3, K4, K5, K6, K7, Nat.reduceAdd, Nat.reduceSub] at M9
    have HM := Lib.hid M9
    clear M9 C9
    refine Stay.go ?_
    have BF := HM.out.blk (i := 0) rfl
    go_wp2_with fail
    refine bodyPost_ret (v := .tuple #[.agg #[.int .i64 12, .string v1, .string ⟨#[]⟩, .int .i64 0, .int .i64 0, .string ⟨#[]⟩, .int .i64 0, .int .i64 0, .int .i64 0, .int .i64 0, .int .i64 0, .string ⟨#[]⟩, .string ⟨#[]⟩, .slice none 0 0, .int .i64 0], .int .i64 0]) (by simp [results, Tryz.results22, go_sem, BF.cell]) rfl ⟨none, 0, ?_, ?_, HM.out.below⟩
    ·
     rw [RO.out]; rfl
    ·
     rw [RO.out]; exact .inl rfl
   ·
    have hc2 : (ck != 0) = true := by simpa using hc
    replace RC := Lib.hid (RC.out hc)
    clear RO hc
    go_wp2_with (first | (refine Mem.storeAll 0 (t := 28) rfl rfl rfl rfl CE HP.out.mem rfl rfl rfl rfl ?_; intro W9 M9 C9) | (refine Mem.load1 1 (t := 3) rfl rfl rfl Tryz.underlying3 rfl HP.out.mem rfl rfl ?_))
    simp only [K0, K1, L1, L2, K2, K3, K4, K5, K6, K7, Nat.reduceAdd, Nat.reduceSub] at M9
    have HM := Lib.hid M9
    clear M9 C9
    refine Stay.go ?_
    have BF := HM.out.blk (i := 0) rfl
    go_wp2_with fail
    refine bodyPost_ret (v := .tuple #[.agg Z15.toArray, .int .i64 ck]) (by simp [Z15, results, Tryz.results22, go_sem, BF.cell]) rfl ⟨none, 0, ?_, ?_, HM.out.below⟩
    ·
     rw [RC.out]; rfl
    ·
     rw [RC.out]; exact .inl rfl

set_option maxHeartbeats 8000000 in
theorem rparse_13 (sb : Nat) (a : Option Addr) (c : Nat) (zs r : List Int) (w : World) (hs : BySl w sb a c zs) (hsb : sb < w.heap.size) (hz : zs.length ≤ 1000000) (hbt : Bts zs) (hzs : zs = 13 :: r) :
  Calls Tryz.prog 22 #[.slice a zs.length c] w fun x w' => ParseR zs w x w' := by
 have CE : (Tryz.prog.info? 28).map (·.size) = some 15 := by kernel_rfl
 have CI : (Tryz.prog.info? 3).map (·.size) = some 1 := by kernel_rfl
 have CS : (Tryz.prog.info? 9).map (·.size) = some 1 := by kernel_rfl
 have b0 : Bts r := fun x hx => hbt x (by rw [hzs]; simp [hx])
 have T0 := Lib.hid (fun W eb cs (h : PSt w W eb a c zs (zs, false) cs) => h.num (n := 1) hs hsb hz (by decide) hbt)
 have TB := Lib.hid (fun W (h : TkAt W (w.heap.size + 1) a c zs (zs, false)) (hb : BySl W sb a c zs) => tk_num (w.heap.size + 1) sb a c zs (zs, false) 1 W h hb (by omega) (by decide) hz hbt)
 rw [show Qnum 1 (zs, false) = (13, (r, false)) from by rw [hzs]; exact qnum_one _ _] at TB
 dsimp only at TB
 obtain ⟨s1, h1⟩ : ∃ s, (Qtxt (r, false)).2 = s := ⟨_, rfl⟩
 have b1 : Bts s1.1 := h1 ▸ Qtxt_bts (s := (r, false)) b0
 have T1 := Lib.hid (fun W eb cs (h : PSt w W eb a c zs (r, false) cs) => h.txt hs hsb hz b0)
 have z1 := Qtxt_size (s := (r, false)) b0
 rw [h1] at T1
 have E : Hid (evQ 13 r = ({ ev0 with k := 13, nm := (Qtxt (r, false)).1 }, s1)) := Lib.hid (by subst h1; rfl)
 clear h1
 generalize (Qtxt (r, false)).1 = v1 at *
 have SCK := Lib.hid (fun W => (show Calls Tryz.prog 15 #[.agg #[.int .i64 13, .string v1, .string ⟨#[]⟩, .int .i64 0, .int .i64 0, .string ⟨#[]⟩, .int .i64 0, .int .i64 0, .int .i64 0, .int .i64 0, .int .i64 0, .string ⟨#[]⟩, .string ⟨#[]⟩, .slice none 0 0, .int .i64 0]] W fun x W' => x = .returned (.int .i64 (EvD.chk { ev0 with k := 13, nm := v1 })) ∧ Grow.G W W' from rchk_any { ev0 with k := 13, nm := v1 } none 0 W ⟨(show ByteArray.size v1 ≤ _ from by omega), (show ByteArray.size _ ≤ _ from by exact Nat.zero_le _), (show ByteArray.size _ ≤ _ from by exact Nat.zero_le _), (show ByteArray.size _ ≤ _ from by exact Nat.zero_le _), (show ByteArray.size _ ≤ _ from by exact Nat.zero_le _), Nat.zero_le _, .inl rfl, fun i hi => absurd hi (Nat.not_lt_zero _)⟩))
 have RB := Lib.hid (fun h => (show evParse zs = (ev0, 10) from by rw [hzs]; exact rp_bad (by decide) E.out h))
 have RM := Lib.hid (fun h1 h2 => (show evParse zs = (ev0, 11) from by rw [hzs]; exact rp_more (by decide) E.out h1 h2))
 have RC := Lib.hid (fun h1 h2 h3 => (show evParse zs = (ev0, _) from by rw [hzs]; exact rp_chk (by decide) E.out h1 h2 h3))
 have RO := Lib.hid (fun h1 h2 h3 => (show evParse zs = (_, 0) from by rw [hzs]; exact rp_ok (by decide) E.out h1 h2 h3))
 have XV : Hid (∀ x, x = EvD.chk { ev0 with k := 13, nm := v1 } → x = EvD.chk { ev0 with k := 13, nm := v1 }) := Lib.hid (fun _ h => h)
 generalize EvD.chk { ev0 with k := 13, nm := v1 } = ck at *
 have HS := Lib.hid hs
 have NZ : Hid (zs.length = r.length + 1) := Lib.hid (by rw [hzs]; rfl)
 clear hs hbt hzs E XV T0 b0 b1
 go_enter Tryz.func22, Tryz.ntmps22
 go_wp2_with fail
 have GA := Grow.G.alloc (Grow.G.alloc (Grow.G.refl w) (.cells Z15.toArray 28)) (.cells #[.slice a zs.length c, .int .i64 0, .bool false] 88)
 have M0 := (Mem.alloc' (Mem.nil w) Z15 28 (g := w.heap.size) rfl).grow (Grow.G.alloc (Grow.G.refl _) (.cells #[.slice a zs.length c, .int .i64 0, .bool false] 88))
 have KT0 : TkAt ((w.alloc (.cells Z15.toArray 28)).alloc (.cells #[.slice a zs.length c, .int .i64 0, .bool false] 88)) (w.heap.size + 1) a c zs (zs, false) := ⟨0, Nat.zero_le _, rfl, by exact Blk.new' (by simp)⟩
 refine (TB.out _ KT0 (HS.out.below (Below.mono GA (Nat.le_refl _)) hsb)).mono ?_
 rintro e W1 ⟨rfl, KT1, C1⟩
 have M1 := M0.chg C1 (fun k hk q => by have q : k = w.heap.size + 1 := q; omega) (fun b hb q => by
  have q : b.1 = w.heap.size + 1 := q
  simp at hb
  subst hb
  dsimp only at q
  omega)
 (try simp only [K0, K1, L1, L2, K2, K3, K4, K5, K6, K7, Nat.reduceAdd, Nat.reduceSub] at M1)
 have HM1 := Lib.hid M1
 have HK1 := Lib.hid KT1
 have sz1 := C1.size
 simp only [World.size_alloc] at sz1
 clear M0 KT0 GA M1 KT1 C1 TB HS
 go_wp2_with (refine Mem.storeAll 1 (t := 28) rfl rfl rfl rfl CE (Mem.alloc' HM1.out _ _ rfl) rfl rfl rfl rfl ?_; intro W2 M2 C2)
 (try simp only [K0, K1, L1, L2, K2, K3, K4, K5, K6, K7, Nat.reduceAdd, Nat.reduceSub] at M2)
 have P0 : PSt w W2 W1.heap.size a c zs (r, false) _ := ⟨M2, (HK1.out.grow (Grow.G.alloc (Grow.G.refl _) _)).chg C2 (fun q => by have q : w.heap.size + 1 = W1.heap.size := q; omega), by omega⟩
 have HP := Lib.hid P0
 clear M2 C2 P0 HM1 HK1
 refine Stay.go ?_
 generalize W1.heap.size = eb at *
 have q2 := HP.out.tk.bad
 dsimp only at q2
 have q0 := evd (HP.out.mem.blk (i := 1) rfl) (i := 0) rfl
 go_wp2_with (refine Mem.load1 1 (t := 3) rfl rfl rfl Tryz.underlying3 rfl HP.out.mem rfl rfl ?_)
 clear q2 q0
 refine (T1.out _ _ _ HP.out).mono ?_
 rintro e U1 ⟨rfl, P1, -⟩
 replace HP := Lib.hid P1
 clear P1 T1
 have q2 := True.intro
 go_wp2_with (refine PSt.store (t := 9) rfl rfl rfl rfl rfl CS HP.out (Nat.le_of_ble_eq_true rfl) rfl ?_; intro V1 P1 C1)
 simp only [K0, K1, L1, L2, K2, K3, K4, K5, K6, K7, Nat.reduceAdd, Nat.reduceSub] at P1
 replace HP := Lib.hid P1
 clear P1 C1
 refine Stay.go ?_
 replace q2 := HP.out.tk.bad
 have q0 := evd (HP.out.mem.blk (i := 1) rfl) (i := 0) rfl
 obtain ⟨p, q1, hp1, hp2⟩ := HP.out.tk.at
 obtain ⟨l, b⟩ := s1
 dsimp only at q2 hp2 RB RM RC RO
 cases b with
 | true =>
  replace RB := Lib.hid (RB.out rfl)
  clear RM RC RO
  go_wp2_with (first | (refine Mem.storeAll 0 (t := 28) rfl rfl rfl rfl CE HP.out.mem rfl rfl rfl rfl ?_; intro W9 M9 C9) | (refine Mem.load1 1 (t := 3) rfl rfl rfl Tryz.underlying3 rfl HP.out.mem rfl rfl ?_))
  simp only [K0, K1, L1, L2, K2, K3, K4, K5, K6, K7, Nat.reduceAdd, Nat.reduceSub] at M9
  have HM := Lib.hid M9
  clear M9 C9
  refine Stay.go ?_
  have BF := HM.out.blk (i := 0) rfl
  go_wp2_with fail
  refine bodyPost_ret (v := .tuple #[.agg Z15.toArray, .int .i64 10]) (by simp [Z15, results, Tryz.results22, go_sem, BF.cell]) rfl ⟨none, 0, ?_, ?_, HM.out.below⟩
  ·
   rw [RB.out]; rfl
  ·
   rw [RB.out]; exact .inl rfl
 | false =>
  have HP2 := Lib.hid hp2
  have ep := congrArg List.length hp2
  rw [List.length_drop] at ep
  clear hp2
  by_cases hlt : (p : Int) < (zs.length : Int)
  ·
   replace RM := Lib.hid (RM.out (by trivial) (by intro q; rw [q] at ep; simp at ep; omega))
   clear RB RC RO
   go_wp2_with (first | (refine Mem.storeAll 0 (t := 28) rfl rfl rfl rfl CE HP.out.mem rfl rfl rfl rfl ?_; intro W9 M9 C9) | (refine Mem.load1 1 (t := 3) rfl rfl rfl Tryz.underlying3 rfl HP.out.mem rfl rfl ?_))
   simp only [K0, K1, L1, L2, K2, K3, K4, K5, K6, K7, Nat.reduceAdd, Nat.reduceSub] at M9
   have HM := Lib.hid M9
   clear M9 C9
   refine Stay.go ?_
   have BF := HM.out.blk (i := 0) rfl
   go_wp2_with fail
   refine bodyPost_ret (v := .tuple #[.agg Z15.toArray, .int .i64 11]) (by simp [Z15, results, Tryz.results22, go_sem, BF.cell]) rfl ⟨none, 0, ?_, ?_, HM.out.below⟩
   ·
    rw [RM.out]; rfl
   ·
    rw [RM.out]; exact .inl rfl
  ·
   have hl0 : l = [] := List.eq_nil_of_length_eq_zero (by omega)
   replace RC := Lib.hid (RC.out (by trivial) hl0)
   replace RO := Lib.hid (RO.out (by trivial) hl0)
   clear RB RM hl0 ep
   go_wp2_with (first | (refine Mem.loadAll 1 (t := 28) rfl rfl rfl Tryz.underlying28 CE HP.out.mem rfl rfl ?_) | (refine Mem.load1 1 (t := 3) rfl rfl rfl Tryz.underlying3 rfl HP.out.mem rfl rfl ?_))
   refine (SCK.out _).mono ?_
   rintro e W5 ⟨rfl, g5⟩
   have P5 := HP.out.grow g5
   replace HP := Lib.hid P5
   clear P5 g5 q1 q2 q0 SCK
   by_cases hc : ck = 0
   ·
    subst hc
    replace RO := Lib.hid (RO.out rfl)
    clear RC
    go_wp2_with (first | (refine Mem.loadAll 1 (t := 28) rfl rfl rfl Tryz.underlying28 CE HP.out.mem rfl rfl ?_) | (refine Mem.storeAll 0 (t := 28) rfl rfl rfl rfl CE HP.out.mem rfl rfl rfl rfl ?_; intro W9 M9 C9))
    simp only [K0, K1, L1, L2, K2, K3, K4, K5, K6, K7, Nat.reduceAdd, Nat.reduceSub] at M9
    have HM := Lib.hid M9
    clear M9 C9
    refine Stay.go ?_
    have BF := HM.out.blk (i := 0) rfl
    go_wp2_with fail
    refine bodyPost_ret (v := .tuple #[.agg #[.int .i64 13, .string v1, .string ⟨#[]⟩, .int .i64 0, .int .i64 0, .string ⟨#[]⟩, .int .i64 0, .int .i64 0, .int .i64 0, .int .i64 0, .int .i64 0, .string ⟨#[]⟩, .string ⟨#[]⟩, .slice none 0 0, .int .i64 0], .int .i64 0]) (by simp [results, Tryz.results22, go_sem, BF.cell]) rfl ⟨none, 0, ?_, ?_, HM.out.below⟩
    ·
     rw [RO.out]; rfl
    ·
     rw [RO.out]; exact .inl rfl
   ·
    have hc2 : (ck != 0) = true := by simpa using hc
    replace RC := Lib.hid (RC.out hc)
    clear RO hc
    go_wp2_with (first | (refine Mem.storeAll 0 (t := 28) rfl rfl rfl rfl CE HP.out.mem rfl rfl rfl rfl ?_; intro W9 M9 C9) | (refine Mem.load1 1 (t := 3) rfl rfl rfl Tryz.underlying3 rfl HP.out.mem rfl rfl ?_))
    simp only [K0, K1, L1, L2, K2, K3, K4, K5, K6, K7, Nat.reduceAdd, Nat.reduceSub] at M9
    have HM := Lib.hid M9
    clear M9 C9
    refine Stay.go ?_
    have BF := HM.out.blk (i := 0) rfl
    go_wp2_with fail
    refine bodyPost_ret (v := .tuple #[.agg Z15.toArray, .int .i64 ck]) (by simp [Z15, results, Tryz.results22, go_sem, BF.cell]) rfl ⟨none, 0, ?_, ?_, HM.out.below⟩
    ·
     rw [RC.out]; rfl
    ·
     rw [RC.out]; exact .inl rfl

theorem rparse_any (a : Option Addr) (c : Nat) (zs : List Int) (w : World) (h : PZ w a c zs) (hbt : Bts zs) (hz : zs.length ≤ 1000000) :
    Calls Tryz.prog 22 #[.slice a zs.length c] w fun x w' => ParseR zs w x w' := by
  cases zs with
  | nil => exact rparse_nil a c w
  | cons k r =>
    obtain ⟨sb, hs, hsb⟩ := h.by (by simp)
    by_cases hk : k < 1 ∨ 13 < k
    · exact rparse_out sb a c _ r k w hs hsb hz hbt rfl hk
    · have h13 : k = 1 ∨ k = 2 ∨ k = 3 ∨ k = 4 ∨ k = 5 ∨ k = 6 ∨ k = 7 ∨ k = 8 ∨ k = 9 ∨ k = 10 ∨ k = 11 ∨ k = 12 ∨ k = 13 := by omega
      rcases h13 with rfl | rfl | rfl | rfl | rfl | rfl | rfl | rfl | rfl | rfl | rfl | rfl | rfl
      · exact rparse_1 sb a c _ r w hs hsb hz hbt rfl
      · exact rparse_2 sb a c _ r w hs hsb hz hbt rfl
      · exact rparse_3 sb a c _ r w hs hsb hz hbt rfl
      · exact rparse_4 sb a c _ r w hs hsb hz hbt rfl
      · exact rparse_5 sb a c _ r w hs hsb hz hbt rfl
      · exact rparse_6 sb a c _ r w hs hsb hz hbt rfl
      · exact rparse_7 sb a c _ r w hs hsb hz hbt rfl
      · exact rparse_8 sb a c _ r w hs hsb hz hbt rfl
      · exact rparse_9 sb a c _ r w hs hsb hz hbt rfl
      · exact rparse_10 sb a c _ r w hs hsb hz hbt rfl
      · exact rparse_11 sb a c _ r w hs hsb hz hbt rfl
      · exact rparse_12 sb a c _ r w hs hsb hz hbt rfl
      · exact rparse_13 sb a c _ r w hs hsb hz hbt rfl
theorem PZ.parse {w : World} {a : Option Addr} {c : Nat} {z : List Int} (h : PZ w a c z) (hb : Bts z) : Calls Tryz.prog 19 #[.slice a z.length c] w fun x w' => ParseR z w x w' := by
  obtain ⟨sb, h⟩ := h.old
  exact eparse_any sb a c z w h hb
end Go.Proofs.YtnkekdmikopdgaaGreat
