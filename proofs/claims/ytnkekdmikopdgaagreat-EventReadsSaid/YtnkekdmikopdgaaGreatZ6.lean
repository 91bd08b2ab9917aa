/- My own texts Make, Make1, Make2, Make3, laid in one file. -/
import Derived.Test.YtnkekdmikopdgaaGreatZ5
import Derived.Test.YtnkekdmikopdgaaGreatZ2
import Derived.Test.YtnkekdmikopdgaaGreatZ8
import Derived.Test.YtnkekdmikopdgaaGreatZ4

/- The event that damperlaw3.Make makes: the walk. -/
namespace Go.Proofs.YtnkekdmikopdgaaGreat
set_option maxRecDepth 100000
set_option linter.unusedVariables false
set_option linter.unusedSimpArgs false
set_option linter.unnecessarySimpa false
open Go.RowKit

set_option maxHeartbeats 400000 in
theorem within3_big (a n : Int) (w : World) (hn : 1 ≤ n) (hn2 : n ≤ 2147483648) (ha : wf64 a) :
  Calls Tryz.prog 16 #[.int .i64 a, .int .i64 n] w fun e w' => e = .returned (.int .i64 (withinI a n)) ∧ w = w' := by
 obtain ⟨ha, ha2⟩ := ha
 have h1 := Int.tmod_lt_of_pos a (show 0 < n by omega)
 have h2 : -n < a.tmod n := by
  have := Int.lt_tmod_of_pos a (show 0 < n by omega); omega
 by_cases h : a.tmod n < 0
 ·
  have E : Hid (withinI a n = a.tmod n + n) := Lib.hid (by unfold withinI; rw [if_pos h])
  go_enter Tryz.func16, Tryz.ntmps16
  go_wp2
  go_ret
  exact ⟨ret_i64 E.out.symm, rfl⟩
 ·
  have E : Hid (withinI a n = a.tmod n) := Lib.hid (by unfold withinI; rw [if_neg h])
  go_enter Tryz.func16, Tryz.ntmps16
  go_wp2
  go_ret
  exact ⟨ret_i64 E.out.symm, rfl⟩
/-- An event of the call's own: its targets lie in blocks that are not older than it. -/
def MkR (w : World) (e : EvD) (x : Ending) (w' : World) : Prop :=
 ∃ a c, x = .returned (.agg (e.cells a c)) ∧ TgtSl w' a e.ts ∧ (∀ b off, a = some ⟨b, off, none⟩ → w.heap.size ≤ b ∧ b < w'.heap.size) ∧ Below w.heap.size w w'
theorem within3_w (a n : Int) (w : World) (hn : 1 ≤ n) (hn2 : n ≤ 2147483648) (ha : wf64 a) :
  Calls Tryz.prog 16 #[.int .i64 a, .int .i64 n] w fun e w' => e = .returned (.int .i64 (withinI a n)) ∧ Below w.heap.size w w' :=
 (within3_big a n w hn hn2 ha).mono fun e w' h => ⟨h.1, h.2 ▸ Below.refl _ _⟩

set_option maxHeartbeats 8000000 in
theorem make_5 (kd n dr nm : Int) (c : Cfg) (v : Value) (zs : List Int) (w : World) (hkd : wf64 kd) (hn : wf64 n) (hdr : wf64 dr) (hnm : wf64 nm) (hc : c.wf) (hz : IntSlice w v zs) (hq : withinI kd 13 = 4) :
  Calls Tryz.prog 13 #[.int .i64 kd, .int .i64 n, .int .i64 dr, .int .i64 nm, c.v, v] w fun x w' => MkR w (mkOf 5 n dr nm c zs) x w' := by
 have WK := Lib.hid (fun w => within3_big kd 13 w (by decide) (by decide) hkd)
 rw [hq] at WK
 have CE : (Tryz.prog.info? 28).map (·.size) = some 15 := by kernel_rfl
 have CI : (Tryz.prog.info? 3).map (·.size) = some 1 := by kernel_rfl
 have CS : (Tryz.prog.info? 9).map (·.size) = some 1 := by kernel_rfl
 have E : Hid (mkOf 5 n dr nm c zs = { ev0 with k := 5, n := 1 + withinI n 60 }) := Lib.hid (by unfold mkOf; rw [if_neg (by decide : ¬ ((5 : Int) = 1)), if_neg (by decide : ¬ ((5 : Int) = 2)), if_neg (by decide : ¬ ((5 : Int) = 3)), if_neg (by decide : ¬ ((5 : Int) = 4)), if_pos (by decide : (5 : Int) = 5)])
 have WN := Lib.hid (fun w => within3_big n 60 w (by decide) (by decide) hn)
 have rN := withinI_range n 60 (by decide)
 generalize withinI n 60 = q at *
 obtain ⟨cn, im, co, mn, mx, gr⟩ := c
 unfold Cfg.v
 generalize mkOf _ _ _ _ _ _ = z at *
 clear hkd hn hdr hnm hc hz hq
 go_enter Tryz.func13, Tryz.ntmps13
 go_wp2_with fail
 refine (WK.out _).mono ?_
 rintro e wx ⟨rfl, rfl⟩
 go_wp2_with (refine Mem.storeAll 2 (t := 28) rfl rfl rfl rfl CE (Mem.alloc' (Mem.alloc' (Mem.alloc' (Mem.nil w) _ _ (g := w.heap.size) rfl) _ _ (g := w.heap.size + 1) (by simp)) _ _ (g := w.heap.size + 1 + 1) (by simp)) rfl rfl rfl rfl ?_; intro wn0 HM0 C0)
 simp only [K0, K1, L1, L2, K2, K3, K4, K5, K6, K7, Nat.reduceAdd, Nat.reduceSub] at HM0
 have HM := Lib.hid HM0
 clear HM0
 refine Stay.go ?_
 go_wp2_with (first | (refine Mem.load1 2 (t := 3) rfl rfl rfl Tryz.underlying3 rfl HM.out rfl rfl ?_) | (refine Mem.load1 2 (t := 3) rfl rfl rfl Tryz.underlying3 rfl (Mem.alloc' HM.out _ _ rfl) rfl rfl ?_))
 refine (WN.out _).mono ?_
 rintro e wx ⟨rfl, rfl⟩
 go_wp2_with (first | (refine Mem.store 2 (t := 3) rfl rfl rfl rfl (vs := [.int .i64 (1 + q)]) rfl CI HM.out rfl rfl (by simp) rfl ?_; intro wn1 HM1 C1) | (refine Mem.store 2 (t := 3) rfl rfl rfl rfl (vs := [.int .i64 (1 + q)]) rfl CI (Mem.alloc' HM.out _ _ rfl) rfl rfl (by simp) rfl ?_; intro wn1 HM1 C1))
 simp only [K0, K1, L1, L2, K2, K3, K4, K5, K6, K7, Nat.reduceAdd, Nat.reduceSub] at HM1
 replace HM := Lib.hid HM1
 clear HM1
 refine Stay.go ?_
 go_wp2_with (first | (refine Mem.loadAll 2 (t := 28) rfl rfl rfl Tryz.underlying28 CE HM.out rfl rfl ?_) | (refine Mem.loadAll 2 (t := 28) rfl rfl rfl Tryz.underlying28 CE (Mem.alloc' HM.out _ _ rfl) rfl rfl ?_) | (refine Mem.storeAll 1 (t := 28) rfl rfl rfl rfl CE HM.out rfl rfl rfl rfl ?_; intro wn2 HM2 C2) | (refine Mem.storeAll 1 (t := 28) rfl rfl rfl rfl CE (Mem.alloc' HM.out _ _ rfl) rfl rfl rfl rfl ?_; intro wn2 HM2 C2))
 simp only [K0, K1, L1, L2, K2, K3, K4, K5, K6, K7, Nat.reduceAdd, Nat.reduceSub] at HM2
 replace HM := Lib.hid HM2
 clear HM2
 refine Stay.go ?_
 have BF := HM.out.blk (i := 1) rfl
 go_wp2_with fail
 refine bodyPost_ret (v := .agg #[.int .i64 5, .string ⟨#[]⟩, .string ⟨#[]⟩, .int .i64 (1 + q), .int .i64 0, .string ⟨#[]⟩, .int .i64 0, .int .i64 0, .int .i64 0, .int .i64 0, .int .i64 0, .string ⟨#[]⟩, .string ⟨#[]⟩, .slice none 0 0, .int .i64 0]) (by simp [results, Tryz.results13, go_sem, BF.cell]) rfl ⟨none, 0, ?_, by rw [E.out]; exact .inl rfl, (fun b off h => by cases h), HM.out.below⟩
 rw [E.out]; rfl

set_option maxHeartbeats 8000000 in
theorem make_6 (kd n dr nm : Int) (c : Cfg) (v : Value) (zs : List Int) (w : World) (hkd : wf64 kd) (hn : wf64 n) (hdr : wf64 dr) (hnm : wf64 nm) (hc : c.wf) (hz : IntSlice w v zs) (hq : withinI kd 13 = 5) :
  Calls Tryz.prog 13 #[.int .i64 kd, .int .i64 n, .int .i64 dr, .int .i64 nm, c.v, v] w fun x w' => MkR w (mkOf 6 n dr nm c zs) x w' := by
 have WK := Lib.hid (fun w => within3_big kd 13 w (by decide) (by decide) hkd)
 rw [hq] at WK
 have CE : (Tryz.prog.info? 28).map (·.size) = some 15 := by kernel_rfl
 have CI : (Tryz.prog.info? 3).map (·.size) = some 1 := by kernel_rfl
 have CS : (Tryz.prog.info? 9).map (·.size) = some 1 := by kernel_rfl
 have E : Hid (mkOf 6 n dr nm c zs = { ev0 with k := 6, n := 1 + withinI n 12 }) := Lib.hid (by unfold mkOf; rw [if_neg (by decide : ¬ ((6 : Int) = 1)), if_neg (by decide : ¬ ((6 : Int) = 2)), if_neg (by decide : ¬ ((6 : Int) = 3)), if_neg (by decide : ¬ ((6 : Int) = 4)), if_neg (by decide : ¬ ((6 : Int) = 5)), if_pos (by decide : 6 ≤ (6 : Int) ∧ (6 : Int) ≤ 8)])
 have WN := Lib.hid (fun w => within3_big n 12 w (by decide) (by decide) hn)
 have rN := withinI_range n 12 (by decide)
 generalize withinI n 12 = q at *
 obtain ⟨cn, im, co, mn, mx, gr⟩ := c
 unfold Cfg.v
 generalize mkOf _ _ _ _ _ _ = z at *
 clear hkd hn hdr hnm hc hz hq
 go_enter Tryz.func13, Tryz.ntmps13
 go_wp2_with fail
 refine (WK.out _).mono ?_
 rintro e wx ⟨rfl, rfl⟩
 go_wp2_with (refine Mem.storeAll 2 (t := 28) rfl rfl rfl rfl CE (Mem.alloc' (Mem.alloc' (Mem.alloc' (Mem.nil w) _ _ (g := w.heap.size) rfl) _ _ (g := w.heap.size + 1) (by simp)) _ _ (g := w.heap.size + 1 + 1) (by simp)) rfl rfl rfl rfl ?_; intro wn0 HM0 C0)
 simp only [K0, K1, L1, L2, K2, K3, K4, K5, K6, K7, Nat.reduceAdd, Nat.reduceSub] at HM0
 have HM := Lib.hid HM0
 clear HM0
 refine Stay.go ?_
 go_wp2_with (first | (refine Mem.load1 2 (t := 3) rfl rfl rfl Tryz.underlying3 rfl HM.out rfl rfl ?_) | (refine Mem.load1 2 (t := 3) rfl rfl rfl Tryz.underlying3 rfl (Mem.alloc' HM.out _ _ rfl) rfl rfl ?_))
 refine (WN.out _).mono ?_
 rintro e wx ⟨rfl, rfl⟩
 go_wp2_with (first | (refine Mem.store 2 (t := 3) rfl rfl rfl rfl (vs := [.int .i64 (1 + q)]) rfl CI HM.out rfl rfl (by simp) rfl ?_; intro wn1 HM1 C1) | (refine Mem.store 2 (t := 3) rfl rfl rfl rfl (vs := [.int .i64 (1 + q)]) rfl CI (Mem.alloc' HM.out _ _ rfl) rfl rfl (by simp) rfl ?_; intro wn1 HM1 C1))
 simp only [K0, K1, L1, L2, K2, K3, K4, K5, K6, K7, Nat.reduceAdd, Nat.reduceSub] at HM1
 replace HM := Lib.hid HM1
 clear HM1
 refine Stay.go ?_
 go_wp2_with (first | (refine Mem.loadAll 2 (t := 28) rfl rfl rfl Tryz.underlying28 CE HM.out rfl rfl ?_) | (refine Mem.loadAll 2 (t := 28) rfl rfl rfl Tryz.underlying28 CE (Mem.alloc' HM.out _ _ rfl) rfl rfl ?_) | (refine Mem.storeAll 1 (t := 28) rfl rfl rfl rfl CE HM.out rfl rfl rfl rfl ?_; intro wn2 HM2 C2) | (refine Mem.storeAll 1 (t := 28) rfl rfl rfl rfl CE (Mem.alloc' HM.out _ _ rfl) rfl rfl rfl rfl ?_; intro wn2 HM2 C2))
 simp only [K0, K1, L1, L2, K2, K3, K4, K5, K6, K7, Nat.reduceAdd, Nat.reduceSub] at HM2
 replace HM := Lib.hid HM2
 clear HM2
 refine Stay.go ?_
 have BF := HM.out.blk (i := 1) rfl
 go_wp2_with fail
 refine bodyPost_ret (v := .agg #[.int .i64 6, .string ⟨#[]⟩, .string ⟨#[]⟩, .int .i64 (1 + q), .int .i64 0, .string ⟨#[]⟩, .int .i64 0, .int .i64 0, .int .i64 0, .int .i64 0, .int .i64 0, .string ⟨#[]⟩, .string ⟨#[]⟩, .slice none 0 0, .int .i64 0]) (by simp [results, Tryz.results13, go_sem, BF.cell]) rfl ⟨none, 0, ?_, by rw [E.out]; exact .inl rfl, (fun b off h => by cases h), HM.out.below⟩
 rw [E.out]; rfl

set_option maxHeartbeats 8000000 in
theorem make_7 (kd n dr nm : Int) (c : Cfg) (v : Value) (zs : List Int) (w : World) (hkd : wf64 kd) (hn : wf64 n) (hdr : wf64 dr) (hnm : wf64 nm) (hc : c.wf) (hz : IntSlice w v zs) (hq : withinI kd 13 = 6) :
  Calls Tryz.prog 13 #[.int .i64 kd, .int .i64 n, .int .i64 dr, .int .i64 nm, c.v, v] w fun x w' => MkR w (mkOf 7 n dr nm c zs) x w' := by
 have WK := Lib.hid (fun w => within3_big kd 13 w (by decide) (by decide) hkd)
 rw [hq] at WK
 have CE : (Tryz.prog.info? 28).map (·.size) = some 15 := by kernel_rfl
 have CI : (Tryz.prog.info? 3).map (·.size) = some 1 := by kernel_rfl
 have CS : (Tryz.prog.info? 9).map (·.size) = some 1 := by kernel_rfl
 have E : Hid (mkOf 7 n dr nm c zs = { ev0 with k := 7, n := 1 + withinI n 12 }) := Lib.hid (by unfold mkOf; rw [if_neg (by decide : ¬ ((7 : Int) = 1)), if_neg (by decide : ¬ ((7 : Int) = 2)), if_neg (by decide : ¬ ((7 : Int) = 3)), if_neg (by decide : ¬ ((7 : Int) = 4)), if_neg (by decide : ¬ ((7 : Int) = 5)), if_pos (by decide : 6 ≤ (7 : Int) ∧ (7 : Int) ≤ 8)])
 have WN := Lib.hid (fun w => within3_big n 12 w (by decide) (by decide) hn)
 have rN := withinI_range n 12 (by decide)
 generalize withinI n 12 = q at *
 obtain ⟨cn, im, co, mn, mx, gr⟩ := c
 unfold Cfg.v
 generalize mkOf _ _ _ _ _ _ = z at *
 clear hkd hn hdr hnm hc hz hq
 go_enter Tryz.func13, Tryz.ntmps13
 go_wp2_with fail
 refine (WK.out _).mono ?_
 rintro e wx ⟨rfl, rfl⟩
 go_wp2_with (refine Mem.storeAll 2 (t := 28) rfl rfl rfl rfl CE (Mem.alloc' (Mem.alloc' (Mem.alloc' (Mem.nil w) _ _ (g := w.heap.size) rfl) _ _ (g := w.heap.size + 1) (by simp)) _ _ (g := w.heap.size + 1 + 1) (by simp)) rfl rfl rfl rfl ?_; intro wn0 HM0 C0)
 simp only [K0, K1, L1, L2, K2, K3, K4, K5, K6, K7, Nat.reduceAdd, Nat.reduceSub] at HM0
 have HM := Lib.hid HM0
 clear HM0
 refine Stay.go ?_
 go_wp2_with (first | (refine Mem.load1 2 (t := 3) rfl rfl rfl Tryz.underlying3 rfl HM.out rfl rfl ?_) | (refine Mem.load1 2 (t := 3) rfl rfl rfl Tryz.underlying3 rfl (Mem.alloc' HM.out _ _ rfl) rfl rfl ?_))
 refine (WN.out _).mono ?_
 rintro e wx ⟨rfl, rfl⟩
 go_wp2_with (first | (refine Mem.store 2 (t := 3) rfl rfl rfl rfl (vs := [.int .i64 (1 + q)]) rfl CI HM.out rfl rfl (by simp) rfl ?_; intro wn1 HM1 C1) | (refine Mem.store 2 (t := 3) rfl rfl rfl rfl (vs := [.int .i64 (1 + q)]) rfl CI (Mem.alloc' HM.out _ _ rfl) rfl rfl (by simp) rfl ?_; intro wn1 HM1 C1))
 simp only [K0, K1, L1, L2, K2, K3, K4, K5, K6, K7, Nat.reduceAdd, Nat.reduceSub] at HM1
 replace HM := Lib.hid HM1
 clear HM1
 refine Stay.go ?_
 go_wp2_with (first | (refine Mem.loadAll 2 (t := 28) rfl rfl rfl Tryz.underlying28 CE HM.out rfl rfl ?_) | (refine Mem.loadAll 2 (t := 28) rfl rfl rfl Tryz.underlying28 CE (Mem.alloc' HM.out _ _ rfl) rfl rfl ?_) | (refine Mem.storeAll 1 (t := 28) rfl rfl rfl rfl CE HM.out rfl rfl rfl rfl ?_; intro wn2 HM2 C2) | (refine Mem.storeAll 1 (t := 28) rfl rfl rfl rfl CE (Mem.alloc' HM.out _ _ rfl) rfl rfl rfl rfl ?_; intro wn2 HM2 C2))
 simp only [K0, K1, L1, L2, K2, K3, K4, K5, K6, K7, Nat.reduceAdd, Nat.reduceSub] at HM2
 replace HM := Lib.hid HM2
 clear HM2
 refine Stay.go ?_
 have BF := HM.out.blk (i := 1) rfl
 go_wp2_with fail
 refine bodyPost_ret (v := .agg #[.int .i64 7, .string ⟨#[]⟩, .string ⟨#[]⟩, .int .i64 (1 + q), .int .i64 0, .string ⟨#[]⟩, .int .i64 0, .int .i64 0, .int .i64 0, .int .i64 0, .int .i64 0, .string ⟨#[]⟩, .string ⟨#[]⟩, .slice none 0 0, .int .i64 0]) (by simp [results, Tryz.results13, go_sem, BF.cell]) rfl ⟨none, 0, ?_, by rw [E.out]; exact .inl rfl, (fun b off h => by cases h), HM.out.below⟩
 rw [E.out]; rfl

set_option maxHeartbeats 8000000 in
theorem make_8 (kd n dr nm : Int) (c : Cfg) (v : Value) (zs : List Int) (w : World) (hkd : wf64 kd) (hn : wf64 n) (hdr : wf64 dr) (hnm : wf64 nm) (hc : c.wf) (hz : IntSlice w v zs) (hq : withinI kd 13 = 7) :
  Calls Tryz.prog 13 #[.int .i64 kd, .int .i64 n, .int .i64 dr, .int .i64 nm, c.v, v] w fun x w' => MkR w (mkOf 8 n dr nm c zs) x w' := by
 have WK := Lib.hid (fun w => within3_big kd 13 w (by decide) (by decide) hkd)
 rw [hq] at WK
 have CE : (Tryz.prog.info? 28).map (·.size) = some 15 := by kernel_rfl
 have CI : (Tryz.prog.info? 3).map (·.size) = some 1 := by kernel_rfl
 have CS : (Tryz.prog.info? 9).map (·.size) = some 1 := by kernel_rfl
 have E : Hid (mkOf 8 n dr nm c zs = { ev0 with k := 8, n := 1 + withinI n 12 }) := Lib.hid (by unfold mkOf; rw [if_neg (by decide : ¬ ((8 : Int) = 1)), if_neg (by decide : ¬ ((8 : Int) = 2)), if_neg (by decide : ¬ ((8 : Int) = 3)), if_neg (by decide : ¬ ((8 : Int) = 4)), if_neg (by decide : ¬ ((8 : Int) = 5)), if_pos (by decide : 6 ≤ (8 : Int) ∧ (8 : Int) ≤ 8)])
 have WN := Lib.hid (fun w => within3_big n 12 w (by decide) (by decide) hn)
 have rN := withinI_range n 12 (by decide)
 generalize withinI n 12 = q at *
 obtain ⟨cn, im, co, mn, mx, gr⟩ := c
 unfold Cfg.v
 generalize mkOf _ _ _ _ _ _ = z at *
 clear hkd hn hdr hnm hc hz hq
 go_enter Tryz.func13, Tryz.ntmps13
 go_wp2_with fail
 refine (WK.out _).mono ?_
 rintro e wx ⟨rfl, rfl⟩
 go_wp2_with (refine Mem.storeAll 2 (t := 28) rfl rfl rfl rfl CE (Mem.alloc' (Mem.alloc' (Mem.alloc' (Mem.nil w) _ _ (g := w.heap.size) rfl) _ _ (g := w.heap.size + 1) (by simp)) _ _ (g := w.heap.size + 1 + 1) (by simp)) rfl rfl rfl rfl ?_; intro wn0 HM0 C0)
 simp only [K0, K1, L1, L2, K2, K3, K4, K5, K6, K7, Nat.reduceAdd, Nat.reduceSub] at HM0
 have HM := Lib.hid HM0
 clear HM0
 refine Stay.go ?_
 go_wp2_with (first | (refine Mem.load1 2 (t := 3) rfl rfl rfl Tryz.underlying3 rfl HM.out rfl rfl ?_) | (refine Mem.load1 2 (t := 3) rfl rfl rfl Tryz.underlying3 rfl (Mem.alloc' HM.out _ _ rfl) rfl rfl ?_))
 refine (WN.out _).mono ?_
 rintro e wx ⟨rfl, rfl⟩
 go_wp2_with (first | (refine Mem.store 2 (t := 3) rfl rfl rfl rfl (vs := [.int .i64 (1 + q)]) rfl CI HM.out rfl rfl (by simp) rfl ?_; intro wn1 HM1 C1) | (refine Mem.store 2 (t := 3) rfl rfl rfl rfl (vs := [.int .i64 (1 + q)]) rfl CI (Mem.alloc' HM.out _ _ rfl) rfl rfl (by simp) rfl ?_; intro wn1 HM1 C1))
 simp only [K0, K1, L1, L2, K2, K3, K4, K5, K6, K7, Nat.reduceAdd, Nat.reduceSub] at HM1
 replace HM := Lib.hid HM1
 clear HM1
 refine Stay.go ?_
 go_wp2_with (first | (refine Mem.loadAll 2 (t := 28) rfl rfl rfl Tryz.underlying28 CE HM.out rfl rfl ?_) | (refine Mem.loadAll 2 (t := 28) rfl rfl rfl Tryz.underlying28 CE (Mem.alloc' HM.out _ _ rfl) rfl rfl ?_) | (refine Mem.storeAll 1 (t := 28) rfl rfl rfl rfl CE HM.out rfl rfl rfl rfl ?_; intro wn2 HM2 C2) | (refine Mem.storeAll 1 (t := 28) rfl rfl rfl rfl CE (Mem.alloc' HM.out _ _ rfl) rfl rfl rfl rfl ?_; intro wn2 HM2 C2))
 simp only [K0, K1, L1, L2, K2, K3, K4, K5, K6, K7, Nat.reduceAdd, Nat.reduceSub] at HM2
 replace HM := Lib.hid HM2
 clear HM2
 refine Stay.go ?_
 have BF := HM.out.blk (i := 1) rfl
 go_wp2_with fail
 refine bodyPost_ret (v := .agg #[.int .i64 8, .string ⟨#[]⟩, .string ⟨#[]⟩, .int .i64 (1 + q), .int .i64 0, .string ⟨#[]⟩, .int .i64 0, .int .i64 0, .int .i64 0, .int .i64 0, .int .i64 0, .string ⟨#[]⟩, .string ⟨#[]⟩, .slice none 0 0, .int .i64 0]) (by simp [results, Tryz.results13, go_sem, BF.cell]) rfl ⟨none, 0, ?_, by rw [E.out]; exact .inl rfl, (fun b off h => by cases h), HM.out.below⟩
 rw [E.out]; rfl

set_option maxHeartbeats 8000000 in
theorem make_9 (kd n dr nm : Int) (c : Cfg) (v : Value) (zs : List Int) (w : World) (hkd : wf64 kd) (hn : wf64 n) (hdr : wf64 dr) (hnm : wf64 nm) (hc : c.wf) (hz : IntSlice w v zs) (hq : withinI kd 13 = 8) :
  Calls Tryz.prog 13 #[.int .i64 kd, .int .i64 n, .int .i64 dr, .int .i64 nm, c.v, v] w fun x w' => MkR w (mkOf 9 n dr nm c zs) x w' := by
 have WK := Lib.hid (fun w => within3_big kd 13 w (by decide) (by decide) hkd)
 rw [hq] at WK
 have CE : (Tryz.prog.info? 28).map (·.size) = some 15 := by kernel_rfl
 have CI : (Tryz.prog.info? 3).map (·.size) = some 1 := by kernel_rfl
 have CS : (Tryz.prog.info? 9).map (·.size) = some 1 := by kernel_rfl
 have E : Hid (mkOf 9 n dr nm c zs = { ev0 with k := 9 }) := Lib.hid (by unfold mkOf; rw [if_neg (by decide : ¬ ((9 : Int) = 1)), if_neg (by decide : ¬ ((9 : Int) = 2)), if_neg (by decide : ¬ ((9 : Int) = 3)), if_neg (by decide : ¬ ((9 : Int) = 4)), if_neg (by decide : ¬ ((9 : Int) = 5)), if_neg (by decide : ¬ (6 ≤ (9 : Int) ∧ (9 : Int) ≤ 8)), if_neg (by decide : ¬ ((9 : Int) = 10)), if_neg (by decide : ¬ ((9 : Int) = 11)), if_neg (by decide : ¬ (12 ≤ (9 : Int) ∧ (9 : Int) ≤ 13))])
 obtain ⟨cn, im, co, mn, mx, gr⟩ := c
 unfold Cfg.v
 generalize mkOf _ _ _ _ _ _ = z at *
 clear hkd hn hdr hnm hc hz hq
 go_enter Tryz.func13, Tryz.ntmps13
 go_wp2_with fail
 refine (WK.out _).mono ?_
 rintro e wx ⟨rfl, rfl⟩
 go_wp2_with (refine Mem.storeAll 2 (t := 28) rfl rfl rfl rfl CE (Mem.alloc' (Mem.alloc' (Mem.alloc' (Mem.nil w) _ _ (g := w.heap.size) rfl) _ _ (g := w.heap.size + 1) (by simp)) _ _ (g := w.heap.size + 1 + 1) (by simp)) rfl rfl rfl rfl ?_; intro wn0 HM0 C0)
 simp only [K0, K1, L1, L2, K2, K3, K4, K5, K6, K7, Nat.reduceAdd, Nat.reduceSub] at HM0
 have HM := Lib.hid HM0
 clear HM0
 refine Stay.go ?_
 go_wp2_with (first | (refine Mem.load1 2 (t := 3) rfl rfl rfl Tryz.underlying3 rfl HM.out rfl rfl ?_) | (refine Mem.load1 2 (t := 3) rfl rfl rfl Tryz.underlying3 rfl (Mem.alloc' HM.out _ _ rfl) rfl rfl ?_) | (refine Mem.loadAll 2 (t := 28) rfl rfl rfl Tryz.underlying28 CE HM.out rfl rfl ?_) | (refine Mem.loadAll 2 (t := 28) rfl rfl rfl Tryz.underlying28 CE (Mem.alloc' HM.out _ _ rfl) rfl rfl ?_) | (refine Mem.storeAll 1 (t := 28) rfl rfl rfl rfl CE HM.out rfl rfl rfl rfl ?_; intro wn1 HM1 C1) | (refine Mem.storeAll 1 (t := 28) rfl rfl rfl rfl CE (Mem.alloc' HM.out _ _ rfl) rfl rfl rfl rfl ?_; intro wn1 HM1 C1))
 simp only [K0, K1, L1, L2, K2, K3, K4, K5, K6, K7, Nat.reduceAdd, Nat.reduceSub] at HM1
 replace HM := Lib.hid HM1
 clear HM1
 refine Stay.go ?_
 have BF := HM.out.blk (i := 1) rfl
 go_wp2_with fail
 refine bodyPost_ret (v := .agg #[.int .i64 9, .string ⟨#[]⟩, .string ⟨#[]⟩, .int .i64 0, .int .i64 0, .string ⟨#[]⟩, .int .i64 0, .int .i64 0, .int .i64 0, .int .i64 0, .int .i64 0, .string ⟨#[]⟩, .string ⟨#[]⟩, .slice none 0 0, .int .i64 0]) (by simp [results, Tryz.results13, go_sem, BF.cell]) rfl ⟨none, 0, ?_, by rw [E.out]; exact .inl rfl, (fun b off h => by cases h), HM.out.below⟩
 rw [E.out]; rfl

set_option maxHeartbeats 8000000 in
theorem make_10 (kd n dr nm : Int) (c : Cfg) (v : Value) (zs : List Int) (w : World) (hkd : wf64 kd) (hn : wf64 n) (hdr : wf64 dr) (hnm : wf64 nm) (hc : c.wf) (hz : IntSlice w v zs) (hq : withinI kd 13 = 9) :
  Calls Tryz.prog 13 #[.int .i64 kd, .int .i64 n, .int .i64 dr, .int .i64 nm, c.v, v] w fun x w' => MkR w (mkOf 10 n dr nm c zs) x w' := by
 have WK := Lib.hid (fun w => within3_big kd 13 w (by decide) (by decide) hkd)
 rw [hq] at WK
 have CE : (Tryz.prog.info? 28).map (·.size) = some 15 := by kernel_rfl
 have CI : (Tryz.prog.info? 3).map (·.size) = some 1 := by kernel_rfl
 have CS : (Tryz.prog.info? 9).map (·.size) = some 1 := by kernel_rfl
 have E : Hid (mkOf 10 n dr nm c zs = { ev0 with k := 10, nm := names3.getD (withinI nm 3).toNat ⟨#[]⟩ }) := Lib.hid (by unfold mkOf; rw [if_neg (by decide : ¬ ((10 : Int) = 1)), if_neg (by decide : ¬ ((10 : Int) = 2)), if_neg (by decide : ¬ ((10 : Int) = 3)), if_neg (by decide : ¬ ((10 : Int) = 4)), if_neg (by decide : ¬ ((10 : Int) = 5)), if_neg (by decide : ¬ (6 ≤ (10 : Int) ∧ (10 : Int) ≤ 8)), if_pos (by decide : (10 : Int) = 10)]; rfl)
 have WM := Lib.hid (fun w => within3_big nm 3 w (by decide) (by decide) hnm)
 have N3 := w3_cases nm
 generalize withinI nm 3 = q at *
 obtain ⟨cn, im, co, mn, mx, gr⟩ := c
 unfold Cfg.v
 generalize mkOf _ _ _ _ _ _ = z at *
 clear hkd hn hdr hnm hc hz hq
 go_enter Tryz.func13, Tryz.ntmps13
 go_wp2_with fail
 refine (WK.out _).mono ?_
 rintro e wx ⟨rfl, rfl⟩
 go_wp2_with (refine Mem.storeAll 2 (t := 28) rfl rfl rfl rfl CE (Mem.alloc' (Mem.alloc' (Mem.alloc' (Mem.nil w) _ _ (g := w.heap.size) rfl) _ _ (g := w.heap.size + 1) (by simp)) _ _ (g := w.heap.size + 1 + 1) (by simp)) rfl rfl rfl rfl ?_; intro wn0 HM0 C0)
 simp only [K0, K1, L1, L2, K2, K3, K4, K5, K6, K7, Nat.reduceAdd, Nat.reduceSub] at HM0
 have HM := Lib.hid HM0
 clear HM0
 refine Stay.go ?_
 go_wp2_with (first | (refine Mem.load1 2 (t := 3) rfl rfl rfl Tryz.underlying3 rfl HM.out rfl rfl ?_) | (refine Mem.load1 2 (t := 3) rfl rfl rfl Tryz.underlying3 rfl (Mem.alloc' HM.out _ _ rfl) rfl rfl ?_))
 refine (WM.out _).mono ?_
 rintro e wx ⟨rfl, rfl⟩
 rcases N3 with rfl | rfl | rfl
 ·
  go_wp2_with (first | (refine Mem.store 2 (t := 9) rfl rfl rfl rfl (vs := [.string ⟨#[119, 101, 98]⟩]) rfl CS (Mem.alloc' (Mem.alloc' HM.out _ _ rfl) _ _ (g := wn0.heap.size + 1) (by simp)) rfl rfl (by simp) rfl ?_; intro wn1 HM1 C1))
  simp only [K0, K1, L1, L2, K2, K3, K4, K5, K6, K7, Nat.reduceAdd, Nat.reduceSub] at HM1
  replace HM := Lib.hid HM1
  clear HM1
  refine Stay.go ?_
  go_wp2_with (first | (refine Mem.loadAll 2 (t := 28) rfl rfl rfl Tryz.underlying28 CE HM.out rfl rfl ?_) | (refine Mem.loadAll 2 (t := 28) rfl rfl rfl Tryz.underlying28 CE (Mem.alloc' HM.out _ _ rfl) rfl rfl ?_) | (refine Mem.storeAll 1 (t := 28) rfl rfl rfl rfl CE HM.out rfl rfl rfl rfl ?_; intro wn2 HM2 C2) | (refine Mem.storeAll 1 (t := 28) rfl rfl rfl rfl CE (Mem.alloc' HM.out _ _ rfl) rfl rfl rfl rfl ?_; intro wn2 HM2 C2))
  simp only [K0, K1, L1, L2, K2, K3, K4, K5, K6, K7, Nat.reduceAdd, Nat.reduceSub] at HM2
  replace HM := Lib.hid HM2
  clear HM2
  refine Stay.go ?_
  have BF := HM.out.blk (i := 1) rfl
  go_wp2_with fail
  refine bodyPost_ret (v := .agg #[.int .i64 10, .string ⟨#[119, 101, 98]⟩, .string ⟨#[]⟩, .int .i64 0, .int .i64 0, .string ⟨#[]⟩, .int .i64 0, .int .i64 0, .int .i64 0, .int .i64 0, .int .i64 0, .string ⟨#[]⟩, .string ⟨#[]⟩, .slice none 0 0, .int .i64 0]) (by simp [results, Tryz.results13, go_sem, BF.cell]) rfl ⟨none, 0, ?_, by rw [E.out]; exact .inl rfl, (fun b off h => by cases h), HM.out.below⟩
  rw [E.out]; rfl
 ·
  go_wp2_with (first | (refine Mem.store 2 (t := 9) rfl rfl rfl rfl (vs := [.string ⟨#[97, 112, 105]⟩]) rfl CS (Mem.alloc' (Mem.alloc' HM.out _ _ rfl) _ _ (g := wn0.heap.size + 1) (by simp)) rfl rfl (by simp) rfl ?_; intro wn1 HM1 C1))
  simp only [K0, K1, L1, L2, K2, K3, K4, K5, K6, K7, Nat.reduceAdd, Nat.reduceSub] at HM1
  replace HM := Lib.hid HM1
  clear HM1
  refine Stay.go ?_
  go_wp2_with (first | (refine Mem.loadAll 2 (t := 28) rfl rfl rfl Tryz.underlying28 CE HM.out rfl rfl ?_) | (refine Mem.loadAll 2 (t := 28) rfl rfl rfl Tryz.underlying28 CE (Mem.alloc' HM.out _ _ rfl) rfl rfl ?_) | (refine Mem.storeAll 1 (t := 28) rfl rfl rfl rfl CE HM.out rfl rfl rfl rfl ?_; intro wn2 HM2 C2) | (refine Mem.storeAll 1 (t := 28) rfl rfl rfl rfl CE (Mem.alloc' HM.out _ _ rfl) rfl rfl rfl rfl ?_; intro wn2 HM2 C2))
  simp only [K0, K1, L1, L2, K2, K3, K4, K5, K6, K7, Nat.reduceAdd, Nat.reduceSub] at HM2
  replace HM := Lib.hid HM2
  clear HM2
  refine Stay.go ?_
  have BF := HM.out.blk (i := 1) rfl
  go_wp2_with fail
  refine bodyPost_ret (v := .agg #[.int .i64 10, .string ⟨#[97, 112, 105]⟩, .string ⟨#[]⟩, .int .i64 0, .int .i64 0, .string ⟨#[]⟩, .int .i64 0, .int .i64 0, .int .i64 0, .int .i64 0, .int .i64 0, .string ⟨#[]⟩, .string ⟨#[]⟩, .slice none 0 0, .int .i64 0]) (by simp [results, Tryz.results13, go_sem, BF.cell]) rfl ⟨none, 0, ?_, by rw [E.out]; exact .inl rfl, (fun b off h => by cases h), HM.out.below⟩
  rw [E.out]; rfl
 ·
  go_wp2_with (first | (refine Mem.store 2 (t := 9) rfl rfl rfl rfl (vs := [.string ⟨#[97, 45, 98]⟩]) rfl CS (Mem.alloc' (Mem.alloc' HM.out _ _ rfl) _ _ (g := wn0.heap.size + 1) (by simp)) rfl rfl (by simp) rfl ?_; intro wn1 HM1 C1))
  simp only [K0, K1, L1, L2, K2, K3, K4, K5, K6, K7, Nat.reduceAdd, Nat.reduceSub] at HM1
  replace HM := Lib.hid HM1
  clear HM1
  refine Stay.go ?_
  go_wp2_with (first | (refine Mem.loadAll 2 (t := 28) rfl rfl rfl Tryz.underlying28 CE HM.out rfl rfl ?_) | (refine Mem.loadAll 2 (t := 28) rfl rfl rfl Tryz.underlying28 CE (Mem.alloc' HM.out _ _ rfl) rfl rfl ?_) | (refine Mem.storeAll 1 (t := 28) rfl rfl rfl rfl CE HM.out rfl rfl rfl rfl ?_; intro wn2 HM2 C2) | (refine Mem.storeAll 1 (t := 28) rfl rfl rfl rfl CE (Mem.alloc' HM.out _ _ rfl) rfl rfl rfl rfl ?_; intro wn2 HM2 C2))
  simp only [K0, K1, L1, L2, K2, K3, K4, K5, K6, K7, Nat.reduceAdd, Nat.reduceSub] at HM2
  replace HM := Lib.hid HM2
  clear HM2
  refine Stay.go ?_
  have BF := HM.out.blk (i := 1) rfl
  go_wp2_with fail
  refine bodyPost_ret (v := .agg #[.int .i64 10, .string ⟨#[97, 45, 98]⟩, .string ⟨#[]⟩, .int .i64 0, .int .i64 0, .string ⟨#[]⟩, .int .i64 0, .int .i64 0, .int .i64 0, .int .i64 0, .int .i64 0, .string ⟨#[]⟩, .string ⟨#[]⟩, .slice none 0 0, .int .i64 0]) (by simp [results, Tryz.results13, go_sem, BF.cell]) rfl ⟨none, 0, ?_, by rw [E.out]; exact .inl rfl, (fun b off h => by cases h), HM.out.below⟩
  rw [E.out]; rfl

set_option maxHeartbeats 8000000 in
theorem make_2 (kd n dr nm : Int) (c : Cfg) (v : Value) (zs : List Int) (w : World) (hkd : wf64 kd) (hn : wf64 n) (hdr : wf64 dr) (hnm : wf64 nm) (hc : c.wf) (hz : IntSlice w v zs) (hq : withinI kd 13 = 1) :
  Calls Tryz.prog 13 #[.int .i64 kd, .int .i64 n, .int .i64 dr, .int .i64 nm, c.v, v] w fun x w' => MkR w (mkOf 2 n dr nm c zs) x w' := by
 have WK := Lib.hid (fun w => within3_big kd 13 w (by decide) (by decide) hkd)
 rw [hq] at WK
 have CE : (Tryz.prog.info? 28).map (·.size) = some 15 := by kernel_rfl
 have CR : (Tryz.prog.info? 26).map (·.size) = some 4 := by kernel_rfl
 have CI : (Tryz.prog.info? 3).map (·.size) = some 1 := by kernel_rfl
 have CS : (Tryz.prog.info? 9).map (·.size) = some 1 := by kernel_rfl
 have E : Hid (mkOf 2 n dr nm c zs = { ev0 with k := 2, n := withinI n 30, rn := rtName nm, rc := rtCf nm, ts := gTs (rtCf nm) zs, rr := withinI dr 61 }) := Lib.hid (by unfold mkOf; rw [if_neg (by decide : ¬ ((2 : Int) = 1)), if_pos (by decide : (2 : Int) = 2)])
 have WN := Lib.hid (fun w => within3_big n 30 w (by decide) (by decide) hn)
 have rN := withinI_range n 30 (by decide)
 have RT := Lib.hid (fun w h => groute_any nm v zs dr w hnm h hdr)
 have HZ := Lib.hid hz
 generalize withinI n 30 = q at *
 generalize rtName nm = rn at *
 generalize gTs (rtCf nm) zs = ts at *
 generalize rtCf nm = rc at *
 generalize withinI dr 61 = rr at *
 obtain ⟨cn, im, co, mn, mx, gr⟩ := c
 unfold Cfg.v
 generalize mkOf _ _ _ _ _ _ = z at *
 clear hkd hn hdr hnm hc hz hq
 go_enter Tryz.func13, Tryz.ntmps13
 go_wp2_with fail
 refine (WK.out _).mono ?_
 rintro e wx ⟨rfl, rfl⟩
 go_wp2_with (refine Mem.storeAll 2 (t := 28) rfl rfl rfl rfl CE (Mem.alloc' (Mem.alloc' (Mem.alloc' (Mem.nil w) _ _ (g := w.heap.size) rfl) _ _ (g := w.heap.size + 1) (by simp)) _ _ (g := w.heap.size + 1 + 1) (by simp)) rfl rfl rfl rfl ?_; intro wn0 HM0 C0)
 simp only [K0, K1, L1, L2, K2, K3, K4, K5, K6, K7, Nat.reduceAdd, Nat.reduceSub] at HM0
 have HM := Lib.hid HM0
 clear HM0
 refine Stay.go ?_
 go_wp2_with (first | (refine Mem.load1 2 (t := 3) rfl rfl rfl Tryz.underlying3 rfl HM.out rfl rfl ?_) | (refine Mem.load1 2 (t := 3) rfl rfl rfl Tryz.underlying3 rfl (Mem.alloc' HM.out _ _ rfl) rfl rfl ?_))
 refine (WN.out _).mono ?_
 rintro e wx ⟨rfl, rfl⟩
 go_wp2_with fail
 have hm0 := HM
 refine (RT.out _ (HZ.out.below (HM.out.below.trans (Below.alloc (Below.refl _ _) HM.out.size _)))).mono ?_
 rintro e wr ⟨⟨b, cc, rfl, HT, hf9, hb1, hb2⟩, hg⟩
 have HMr := (Mem.alloc' HM.out _ _ rfl).grow hg
 simp only [K0, K1, L1, L2, K2, K3, K4, K5, K6, K7, Nat.reduceAdd, Nat.reduceSub] at HMr
 replace HM := Lib.hid HMr
 have sz := HM.out.lt (i := 2) rfl
 have hb1' : w.heap.size + 1 + 1 < b := by
  have := HMr.lt (i := 2) rfl
  have h3 : wn0.heap.size + 1 ≤ b := by simpa using hb1
  have h4 := (Mem.lt hm0.out (i := 2) rfl)
  omega
 clear HMr hb1 hf9 hg
 go_wp2_with (first | (refine Mem.store 2 (t := 3) rfl rfl rfl rfl (vs := [.int .i64 q]) rfl CI HM.out rfl rfl (by simp) rfl ?_; intro wn1 HM1 C1) | (refine Mem.store 2 (t := 3) rfl rfl rfl rfl (vs := [.int .i64 q]) rfl CI (Mem.alloc' HM.out _ _ rfl) rfl rfl (by simp) rfl ?_; intro wn1 HM1 C1))
 simp only [K0, K1, L1, L2, K2, K3, K4, K5, K6, K7, Nat.reduceAdd, Nat.reduceSub] at HM1
 replace HM := Lib.hid HM1
 clear HM1
 refine Stay.go ?_
 go_wp2_with (first | (refine Mem.store 2 (t := 26) rfl rfl rfl rfl (vs := [.string rn, .string rc, .slice (some ⟨b, 0, none⟩) ts.length cc, .int .i64 rr]) rfl CR HM.out rfl rfl (by simp) rfl ?_; intro wn2 HM2 C2) | (refine Mem.store 2 (t := 26) rfl rfl rfl rfl (vs := [.string rn, .string rc, .slice (some ⟨b, 0, none⟩) ts.length cc, .int .i64 rr]) rfl CR (Mem.alloc' HM.out _ _ rfl) rfl rfl (by simp) rfl ?_; intro wn2 HM2 C2))
 simp only [K0, K1, L1, L2, K2, K3, K4, K5, K6, K7, Nat.reduceAdd, Nat.reduceSub] at HM2
 replace HM := Lib.hid HM2
 clear HM2
 refine Stay.go ?_
 go_wp2_with (first | (refine Mem.loadAll 2 (t := 28) rfl rfl rfl Tryz.underlying28 CE HM.out rfl rfl ?_) | (refine Mem.loadAll 2 (t := 28) rfl rfl rfl Tryz.underlying28 CE (Mem.alloc' HM.out _ _ rfl) rfl rfl ?_) | (refine Mem.storeAll 1 (t := 28) rfl rfl rfl rfl CE HM.out rfl rfl rfl rfl ?_; intro wn3 HM3 C3) | (refine Mem.storeAll 1 (t := 28) rfl rfl rfl rfl CE (Mem.alloc' HM.out _ _ rfl) rfl rfl rfl rfl ?_; intro wn3 HM3 C3))
 simp only [K0, K1, L1, L2, K2, K3, K4, K5, K6, K7, Nat.reduceAdd, Nat.reduceSub] at HM3
 replace HM := Lib.hid HM3
 clear HM3
 refine Stay.go ?_
 have BF := HM.out.blk (i := 1) rfl
 go_wp2_with fail
 refine bodyPost_ret (v := .agg #[.int .i64 2, .string ⟨#[]⟩, .string ⟨#[]⟩, .int .i64 q, .int .i64 0, .string ⟨#[]⟩, .int .i64 0, .int .i64 0, .int .i64 0, .int .i64 0, .int .i64 0, .string rn, .string rc, .slice (some ⟨b, 0, none⟩) ts.length cc, .int .i64 rr]) (by simp [results, Tryz.results13, go_sem, BF.cell]) rfl ⟨some ⟨b, 0, none⟩, cc, ?_, by rw [E.out]; exact ((HT.chg C1 (fun b' o h q => by cases h; have q : b = w.heap.size + 1 + 1 := q; omega)).chg C2 (fun b' o h q => by cases h; have q : b = w.heap.size + 1 + 1 := q; omega)).chg C3 (fun b' o h q => by cases h; have q : b = w.heap.size + 1 := q; omega), (fun b' o h => by cases h; have := C1.size; have := C2.size; have := C3.size; exact ⟨by omega, by omega⟩), HM.out.below⟩
 rw [E.out]; rfl

set_option maxHeartbeats 8000000 in
theorem make_11 (kd n dr nm : Int) (c : Cfg) (v : Value) (zs : List Int) (w : World) (hkd : wf64 kd) (hn : wf64 n) (hdr : wf64 dr) (hnm : wf64 nm) (hc : c.wf) (hz : IntSlice w v zs) (hq : withinI kd 13 = 10) :
  Calls Tryz.prog 13 #[.int .i64 kd, .int .i64 n, .int .i64 dr, .int .i64 nm, c.v, v] w fun x w' => MkR w (mkOf 11 n dr nm c zs) x w' := by
 have WK := Lib.hid (fun w => within3_big kd 13 w (by decide) (by decide) hkd)
 rw [hq] at WK
 have CE : (Tryz.prog.info? 28).map (·.size) = some 15 := by kernel_rfl
 have CI : (Tryz.prog.info? 3).map (·.size) = some 1 := by kernel_rfl
 have CS : (Tryz.prog.info? 9).map (·.size) = some 1 := by kernel_rfl
 have E : Hid (mkOf 11 n dr nm c zs = { ev0 with k := 11, nm := frontN.getD (withinI nm 3).toNat ⟨#[]⟩ }) := Lib.hid (by unfold mkOf; rw [if_neg (by decide : ¬ ((11 : Int) = 1)), if_neg (by decide : ¬ ((11 : Int) = 2)), if_neg (by decide : ¬ ((11 : Int) = 3)), if_neg (by decide : ¬ ((11 : Int) = 4)), if_neg (by decide : ¬ ((11 : Int) = 5)), if_neg (by decide : ¬ (6 ≤ (11 : Int) ∧ (11 : Int) ≤ 8)), if_neg (by decide : ¬ ((11 : Int) = 10)), if_pos (by decide : (11 : Int) = 11)]; rfl)
 have WM := Lib.hid (fun w => within3_big nm 3 w (by decide) (by decide) hnm)
 have N3 := w3_cases nm
 generalize withinI nm 3 = q at *
 obtain ⟨cn, im, co, mn, mx, gr⟩ := c
 unfold Cfg.v
 generalize mkOf _ _ _ _ _ _ = z at *
 clear hkd hn hdr hnm hc hz hq
 go_enter Tryz.func13, Tryz.ntmps13
 go_wp2_with fail
 refine (WK.out _).mono ?_
 rintro e wx ⟨rfl, rfl⟩
 go_wp2_with (refine Mem.storeAll 2 (t := 28) rfl rfl rfl rfl CE (Mem.alloc' (Mem.alloc' (Mem.alloc' (Mem.nil w) _ _ (g := w.heap.size) rfl) _ _ (g := w.heap.size + 1) (by simp)) _ _ (g := w.heap.size + 1 + 1) (by simp)) rfl rfl rfl rfl ?_; intro wn0 HM0 C0)
 simp only [K0, K1, L1, L2, K2, K3, K4, K5, K6, K7, Nat.reduceAdd, Nat.reduceSub] at HM0
 have HM := Lib.hid HM0
 clear HM0
 refine Stay.go ?_
 go_wp2_with (first | (refine Mem.load1 2 (t := 3) rfl rfl rfl Tryz.underlying3 rfl HM.out rfl rfl ?_) | (refine Mem.load1 2 (t := 3) rfl rfl rfl Tryz.underlying3 rfl (Mem.alloc' HM.out _ _ rfl) rfl rfl ?_))
 refine (WM.out _).mono ?_
 rintro e wx ⟨rfl, rfl⟩
 rcases N3 with rfl | rfl | rfl
 ·
  go_wp2_with (first | (refine Mem.store 2 (t := 9) rfl rfl rfl rfl (vs := [.string ⟨#[102, 114, 111, 110, 116]⟩]) rfl CS HM.out rfl rfl (by simp) rfl ?_; intro wn1 HM1 C1) | (refine Mem.store 2 (t := 9) rfl rfl rfl rfl (vs := [.string ⟨#[102, 114, 111, 110, 116]⟩]) rfl CS (Mem.alloc' HM.out _ _ rfl) rfl rfl (by simp) rfl ?_; intro wn1 HM1 C1))
  simp only [K0, K1, L1, L2, K2, K3, K4, K5, K6, K7, Nat.reduceAdd, Nat.reduceSub] at HM1
  replace HM := Lib.hid HM1
  clear HM1
  refine Stay.go ?_
  go_wp2_with (first | (refine Mem.loadAll 2 (t := 28) rfl rfl rfl Tryz.underlying28 CE HM.out rfl rfl ?_) | (refine Mem.loadAll 2 (t := 28) rfl rfl rfl Tryz.underlying28 CE (Mem.alloc' HM.out _ _ rfl) rfl rfl ?_) | (refine Mem.storeAll 1 (t := 28) rfl rfl rfl rfl CE HM.out rfl rfl rfl rfl ?_; intro wn2 HM2 C2) | (refine Mem.storeAll 1 (t := 28) rfl rfl rfl rfl CE (Mem.alloc' HM.out _ _ rfl) rfl rfl rfl rfl ?_; intro wn2 HM2 C2))
  simp only [K0, K1, L1, L2, K2, K3, K4, K5, K6, K7, Nat.reduceAdd, Nat.reduceSub] at HM2
  replace HM := Lib.hid HM2
  clear HM2
  refine Stay.go ?_
  have BF := HM.out.blk (i := 1) rfl
  go_wp2_with fail
  refine bodyPost_ret (v := .agg #[.int .i64 11, .string ⟨#[102, 114, 111, 110, 116]⟩, .string ⟨#[]⟩, .int .i64 0, .int .i64 0, .string ⟨#[]⟩, .int .i64 0, .int .i64 0, .int .i64 0, .int .i64 0, .int .i64 0, .string ⟨#[]⟩, .string ⟨#[]⟩, .slice none 0 0, .int .i64 0]) (by simp [results, Tryz.results13, go_sem, BF.cell]) rfl ⟨none, 0, ?_, by rw [E.out]; exact .inl rfl, (fun b off h => by cases h), HM.out.below⟩
  rw [E.out]; rfl
 ·
  go_wp2_with (first | (refine Mem.store 2 (t := 9) rfl rfl rfl rfl (vs := [.string ⟨#[98, 97, 99, 107]⟩]) rfl CS HM.out rfl rfl (by simp) rfl ?_; intro wn1 HM1 C1) | (refine Mem.store 2 (t := 9) rfl rfl rfl rfl (vs := [.string ⟨#[98, 97, 99, 107]⟩]) rfl CS (Mem.alloc' HM.out _ _ rfl) rfl rfl (by simp) rfl ?_; intro wn1 HM1 C1))
  simp only [K0, K1, L1, L2, K2, K3, K4, K5, K6, K7, Nat.reduceAdd, Nat.reduceSub] at HM1
  replace HM := Lib.hid HM1
  clear HM1
  refine Stay.go ?_
  go_wp2_with (first | (refine Mem.loadAll 2 (t := 28) rfl rfl rfl Tryz.underlying28 CE HM.out rfl rfl ?_) | (refine Mem.loadAll 2 (t := 28) rfl rfl rfl Tryz.underlying28 CE (Mem.alloc' HM.out _ _ rfl) rfl rfl ?_) | (refine Mem.storeAll 1 (t := 28) rfl rfl rfl rfl CE HM.out rfl rfl rfl rfl ?_; intro wn2 HM2 C2) | (refine Mem.storeAll 1 (t := 28) rfl rfl rfl rfl CE (Mem.alloc' HM.out _ _ rfl) rfl rfl rfl rfl ?_; intro wn2 HM2 C2))
  simp only [K0, K1, L1, L2, K2, K3, K4, K5, K6, K7, Nat.reduceAdd, Nat.reduceSub] at HM2
  replace HM := Lib.hid HM2
  clear HM2
  refine Stay.go ?_
  have BF := HM.out.blk (i := 1) rfl
  go_wp2_with fail
  refine bodyPost_ret (v := .agg #[.int .i64 11, .string ⟨#[98, 97, 99, 107]⟩, .string ⟨#[]⟩, .int .i64 0, .int .i64 0, .string ⟨#[]⟩, .int .i64 0, .int .i64 0, .int .i64 0, .int .i64 0, .int .i64 0, .string ⟨#[]⟩, .string ⟨#[]⟩, .slice none 0 0, .int .i64 0]) (by simp [results, Tryz.results13, go_sem, BF.cell]) rfl ⟨none, 0, ?_, by rw [E.out]; exact .inl rfl, (fun b off h => by cases h), HM.out.below⟩
  rw [E.out]; rfl
 ·
  go_wp2_with (first | (refine Mem.store 2 (t := 9) rfl rfl rfl rfl (vs := [.string ⟨#[114, 45, 49]⟩]) rfl CS HM.out rfl rfl (by simp) rfl ?_; intro wn1 HM1 C1) | (refine Mem.store 2 (t := 9) rfl rfl rfl rfl (vs := [.string ⟨#[114, 45, 49]⟩]) rfl CS (Mem.alloc' HM.out _ _ rfl) rfl rfl (by simp) rfl ?_; intro wn1 HM1 C1))
  simp only [K0, K1, L1, L2, K2, K3, K4, K5, K6, K7, Nat.reduceAdd, Nat.reduceSub] at HM1
  replace HM := Lib.hid HM1
  clear HM1
  refine Stay.go ?_
  go_wp2_with (first | (refine Mem.loadAll 2 (t := 28) rfl rfl rfl Tryz.underlying28 CE HM.out rfl rfl ?_) | (refine Mem.loadAll 2 (t := 28) rfl rfl rfl Tryz.underlying28 CE (Mem.alloc' HM.out _ _ rfl) rfl rfl ?_) | (refine Mem.storeAll 1 (t := 28) rfl rfl rfl rfl CE HM.out rfl rfl rfl rfl ?_; intro wn2 HM2 C2) | (refine Mem.storeAll 1 (t := 28) rfl rfl rfl rfl CE (Mem.alloc' HM.out _ _ rfl) rfl rfl rfl rfl ?_; intro wn2 HM2 C2))
  simp only [K0, K1, L1, L2, K2, K3, K4, K5, K6, K7, Nat.reduceAdd, Nat.reduceSub] at HM2
  replace HM := Lib.hid HM2
  clear HM2
  refine Stay.go ?_
  have BF := HM.out.blk (i := 1) rfl
  go_wp2_with fail
  refine bodyPost_ret (v := .agg #[.int .i64 11, .string ⟨#[114, 45, 49]⟩, .string ⟨#[]⟩, .int .i64 0, .int .i64 0, .string ⟨#[]⟩, .int .i64 0, .int .i64 0, .int .i64 0, .int .i64 0, .int .i64 0, .string ⟨#[]⟩, .string ⟨#[]⟩, .slice none 0 0, .int .i64 0]) (by simp [results, Tryz.results13, go_sem, BF.cell]) rfl ⟨none, 0, ?_, by rw [E.out]; exact .inl rfl, (fun b off h => by cases h), HM.out.below⟩
  rw [E.out]; rfl
end Go.Proofs.YtnkekdmikopdgaaGreat
