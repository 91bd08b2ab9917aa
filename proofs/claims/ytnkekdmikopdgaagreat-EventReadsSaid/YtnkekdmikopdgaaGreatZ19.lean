/- My own texts Kept1, Kept2, Kept3, Kept4, RChkV, laid in one file. -/
import Derived.Test.YtnkekdmikopdgaaGreatZ5
import Derived.Test.YtnkekdmikopdgaaGreatZ2
import Derived.Test.YtnkekdmikopdgaaGreatZ8
import Derived.Test.YtnkekdmikopdgaaGreatZ15
import Derived.Test.YtnkekdmikopdgaaGreatZ10
import Derived.Test.YtnkekdmikopdgaaGreatZ17
import Derived.Test.YtnkekdmikopdgaaGreatZ4

/- What damperref3.kept keeps: kinds 5, 6, 7, 8, 9. -/
namespace Go.Proofs.YtnkekdmikopdgaaGreat
set_option maxRecDepth 100000
set_option linter.unusedVariables false
set_option linter.unusedSimpArgs false
set_option linter.unnecessarySimpa false
open Go.RowKit

set_option maxHeartbeats 8000000 in
theorem rkept_5 (nm tg : ByteArray) (n dr : Int) (cn : ByteArray) (im co mn mx gr : Int) (rn rc : ByteArray) (a : Option Addr) (ts : List Tgt) (c : Nat) (rr : Int) (w : World) :
  Calls Tryz.prog 33 #[.agg #[.int .i64 5, .string nm, .string tg, .int .i64 n, .int .i64 dr, .string cn, .int .i64 im, .int .i64 co, .int .i64 mn, .int .i64 mx, .int .i64 gr, .string rn, .string rc, .slice a ts.length c, .int .i64 rr]] w fun x w' => x = .returned (.agg #[.int .i64 5, .string ⟨#[]⟩, .string ⟨#[]⟩, .int .i64 n, .int .i64 0, .string ⟨#[]⟩, .int .i64 0, .int .i64 0, .int .i64 0, .int .i64 0, .int .i64 0, .string ⟨#[]⟩, .string ⟨#[]⟩, .slice none 0 0, .int .i64 0]) ∧ Below w.heap.size w w' := by
 have CE : (Tryz.prog.info? 28).map (·.size) = some 15 := by kernel_rfl
 have CI : (Tryz.prog.info? 3).map (·.size) = some 1 := by kernel_rfl
 have CS : (Tryz.prog.info? 9).map (·.size) = some 1 := by kernel_rfl
 have CC : (Tryz.prog.info? 23).map (·.size) = some 6 := by kernel_rfl
 have CR : (Tryz.prog.info? 26).map (·.size) = some 4 := by kernel_rfl
 go_enter Tryz.func33, Tryz.ntmps33
 go_wp2_with (refine Mem.storeAll 2 (t := 28) rfl rfl rfl rfl CE (Mem.alloc' (Mem.alloc' (Mem.alloc' (Mem.nil w) _ _ (g := w.heap.size) rfl) _ _ (g := w.heap.size + 1) (by simp)) _ _ (g := w.heap.size + 1 + 1) (by simp)) rfl rfl rfl rfl ?_; intro wn0 HM0 C0)
 simp only [K0, K1, L1, L2, K2, K3, K4, K5, K6, K7, Nat.reduceAdd, Nat.reduceSub] at HM0
 have HM := Lib.hid HM0
 clear HM0
 refine Stay.go ?_
 go_wp2_with (first | (refine Mem.load1 0 (t := 3) rfl rfl rfl Tryz.underlying3 rfl HM.out rfl rfl ?_) | (refine Mem.store 2 (t := 3) rfl rfl rfl rfl (vs := [.int .i64 n]) rfl CI HM.out rfl rfl (by simp) rfl ?_; intro wn1 HM1 C1))
 simp only [K0, K1, L1, L2, K2, K3, K4, K5, K6, K7, Nat.reduceAdd, Nat.reduceSub] at HM1
 replace HM := Lib.hid HM1
 clear HM1
 refine Stay.go ?_
 go_wp2_with (first | (refine Mem.loadAll 2 (t := 28) rfl rfl rfl Tryz.underlying28 CE HM.out rfl rfl ?_) | (refine Mem.storeAll 1 (t := 28) rfl rfl rfl rfl CE HM.out rfl rfl rfl rfl ?_; intro wn9 HM9 C9))
 simp only [K0, K1, L1, L2, K2, K3, K4, K5, K6, K7, Nat.reduceAdd, Nat.reduceSub] at HM9
 replace HM := Lib.hid HM9
 clear HM9
 refine Stay.go ?_
 have BF := HM.out.blk (i := 1) rfl
 go_wp2_with fail
 exact bodyPost_ret (v := .agg #[.int .i64 5, .string ⟨#[]⟩, .string ⟨#[]⟩, .int .i64 n, .int .i64 0, .string ⟨#[]⟩, .int .i64 0, .int .i64 0, .int .i64 0, .int .i64 0, .int .i64 0, .string ⟨#[]⟩, .string ⟨#[]⟩, .slice none 0 0, .int .i64 0]) (by simp [results, Tryz.results33, go_sem, BF.cell]) rfl ⟨rfl, HM.out.below⟩

set_option maxHeartbeats 8000000 in
theorem rkept_6 (nm tg : ByteArray) (n dr : Int) (cn : ByteArray) (im co mn mx gr : Int) (rn rc : ByteArray) (a : Option Addr) (ts : List Tgt) (c : Nat) (rr : Int) (w : World) :
  Calls Tryz.prog 33 #[.agg #[.int .i64 6, .string nm, .string tg, .int .i64 n, .int .i64 dr, .string cn, .int .i64 im, .int .i64 co, .int .i64 mn, .int .i64 mx, .int .i64 gr, .string rn, .string rc, .slice a ts.length c, .int .i64 rr]] w fun x w' => x = .returned (.agg #[.int .i64 6, .string ⟨#[]⟩, .string ⟨#[]⟩, .int .i64 n, .int .i64 0, .string ⟨#[]⟩, .int .i64 0, .int .i64 0, .int .i64 0, .int .i64 0, .int .i64 0, .string ⟨#[]⟩, .string ⟨#[]⟩, .slice none 0 0, .int .i64 0]) ∧ Below w.heap.size w w' := by
 have CE : (Tryz.prog.info? 28).map (·.size) = some 15 := by kernel_rfl
 have CI : (Tryz.prog.info? 3).map (·.size) = some 1 := by kernel_rfl
 have CS : (Tryz.prog.info? 9).map (·.size) = some 1 := by kernel_rfl
 have CC : (Tryz.prog.info? 23).map (·.size) = some 6 := by kernel_rfl
 have CR : (Tryz.prog.info? 26).map (·.size) = some 4 := by kernel_rfl
 go_enter Tryz.func33, Tryz.ntmps33
 go_wp2_with (refine Mem.storeAll 2 (t := 28) rfl rfl rfl rfl CE (Mem.alloc' (Mem.alloc' (Mem.alloc' (Mem.nil w) _ _ (g := w.heap.size) rfl) _ _ (g := w.heap.size + 1) (by simp)) _ _ (g := w.heap.size + 1 + 1) (by simp)) rfl rfl rfl rfl ?_; intro wn0 HM0 C0)
 simp only [K0, K1, L1, L2, K2, K3, K4, K5, K6, K7, Nat.reduceAdd, Nat.reduceSub] at HM0
 have HM := Lib.hid HM0
 clear HM0
 refine Stay.go ?_
 go_wp2_with (first | (refine Mem.load1 0 (t := 3) rfl rfl rfl Tryz.underlying3 rfl HM.out rfl rfl ?_) | (refine Mem.store 2 (t := 3) rfl rfl rfl rfl (vs := [.int .i64 n]) rfl CI HM.out rfl rfl (by simp) rfl ?_; intro wn1 HM1 C1))
 simp only [K0, K1, L1, L2, K2, K3, K4, K5, K6, K7, Nat.reduceAdd, Nat.reduceSub] at HM1
 replace HM := Lib.hid HM1
 clear HM1
 refine Stay.go ?_
 go_wp2_with (first | (refine Mem.loadAll 2 (t := 28) rfl rfl rfl Tryz.underlying28 CE HM.out rfl rfl ?_) | (refine Mem.storeAll 1 (t := 28) rfl rfl rfl rfl CE HM.out rfl rfl rfl rfl ?_; intro wn9 HM9 C9))
 simp only [K0, K1, L1, L2, K2, K3, K4, K5, K6, K7, Nat.reduceAdd, Nat.reduceSub] at HM9
 replace HM := Lib.hid HM9
 clear HM9
 refine Stay.go ?_
 have BF := HM.out.blk (i := 1) rfl
 go_wp2_with fail
 exact bodyPost_ret (v := .agg #[.int .i64 6, .string ⟨#[]⟩, .string ⟨#[]⟩, .int .i64 n, .int .i64 0, .string ⟨#[]⟩, .int .i64 0, .int .i64 0, .int .i64 0, .int .i64 0, .int .i64 0, .string ⟨#[]⟩, .string ⟨#[]⟩, .slice none 0 0, .int .i64 0]) (by simp [results, Tryz.results33, go_sem, BF.cell]) rfl ⟨rfl, HM.out.below⟩

set_option maxHeartbeats 8000000 in
theorem rkept_7 (nm tg : ByteArray) (n dr : Int) (cn : ByteArray) (im co mn mx gr : Int) (rn rc : ByteArray) (a : Option Addr) (ts : List Tgt) (c : Nat) (rr : Int) (w : World) :
  Calls Tryz.prog 33 #[.agg #[.int .i64 7, .string nm, .string tg, .int .i64 n, .int .i64 dr, .string cn, .int .i64 im, .int .i64 co, .int .i64 mn, .int .i64 mx, .int .i64 gr, .string rn, .string rc, .slice a ts.length c, .int .i64 rr]] w fun x w' => x = .returned (.agg #[.int .i64 7, .string ⟨#[]⟩, .string ⟨#[]⟩, .int .i64 n, .int .i64 0, .string ⟨#[]⟩, .int .i64 0, .int .i64 0, .int .i64 0, .int .i64 0, .int .i64 0, .string ⟨#[]⟩, .string ⟨#[]⟩, .slice none 0 0, .int .i64 0]) ∧ Below w.heap.size w w' := by
 have CE : (Tryz.prog.info? 28).map (·.size) = some 15 := by kernel_rfl
 have CI : (Tryz.prog.info? 3).map (·.size) = some 1 := by kernel_rfl
 have CS : (Tryz.prog.info? 9).map (·.size) = some 1 := by kernel_rfl
 have CC : (Tryz.prog.info? 23).map (·.size) = some 6 := by kernel_rfl
 have CR : (Tryz.prog.info? 26).map (·.size) = some 4 := by kernel_rfl
 go_enter Tryz.func33, Tryz.ntmps33
 go_wp2_with (refine Mem.storeAll 2 (t := 28) rfl rfl rfl rfl CE (Mem.alloc' (Mem.alloc' (Mem.alloc' (Mem.nil w) _ _ (g := w.heap.size) rfl) _ _ (g := w.heap.size + 1) (by simp)) _ _ (g := w.heap.size + 1 + 1) (by simp)) rfl rfl rfl rfl ?_; intro wn0 HM0 C0)
 simp only [K0, K1, L1, L2, K2, K3, K4, K5, K6, K7, Nat.reduceAdd, Nat.reduceSub] at HM0
 have HM := Lib.hid HM0
 clear HM0
 refine Stay.go ?_
 go_wp2_with (first | (refine Mem.load1 0 (t := 3) rfl rfl rfl Tryz.underlying3 rfl HM.out rfl rfl ?_) | (refine Mem.store 2 (t := 3) rfl rfl rfl rfl (vs := [.int .i64 n]) rfl CI HM.out rfl rfl (by simp) rfl ?_; intro wn1 HM1 C1))
 simp only [K0, K1, L1, L2, K2, K3, K4, K5, K6, K7, Nat.reduceAdd, Nat.reduceSub] at HM1
 replace HM := Lib.hid HM1
 clear HM1
 refine Stay.go ?_
 go_wp2_with (first | (refine Mem.loadAll 2 (t := 28) rfl rfl rfl Tryz.underlying28 CE HM.out rfl rfl ?_) | (refine Mem.storeAll 1 (t := 28) rfl rfl rfl rfl CE HM.out rfl rfl rfl rfl ?_; intro wn9 HM9 C9))
 simp only [K0, K1, L1, L2, K2, K3, K4, K5, K6, K7, Nat.reduceAdd, Nat.reduceSub] at HM9
 replace HM := Lib.hid HM9
 clear HM9
 refine Stay.go ?_
 have BF := HM.out.blk (i := 1) rfl
 go_wp2_with fail
 exact bodyPost_ret (v := .agg #[.int .i64 7, .string ⟨#[]⟩, .string ⟨#[]⟩, .int .i64 n, .int .i64 0, .string ⟨#[]⟩, .int .i64 0, .int .i64 0, .int .i64 0, .int .i64 0, .int .i64 0, .string ⟨#[]⟩, .string ⟨#[]⟩, .slice none 0 0, .int .i64 0]) (by simp [results, Tryz.results33, go_sem, BF.cell]) rfl ⟨rfl, HM.out.below⟩

set_option maxHeartbeats 8000000 in
theorem rkept_8 (nm tg : ByteArray) (n dr : Int) (cn : ByteArray) (im co mn mx gr : Int) (rn rc : ByteArray) (a : Option Addr) (ts : List Tgt) (c : Nat) (rr : Int) (w : World) :
  Calls Tryz.prog 33 #[.agg #[.int .i64 8, .string nm, .string tg, .int .i64 n, .int .i64 dr, .string cn, .int .i64 im, .int .i64 co, .int .i64 mn, .int .i64 mx, .int .i64 gr, .string rn, .string rc, .slice a ts.length c, .int .i64 rr]] w fun x w' => x = .returned (.agg #[.int .i64 8, .string ⟨#[]⟩, .string ⟨#[]⟩, .int .i64 n, .int .i64 0, .string ⟨#[]⟩, .int .i64 0, .int .i64 0, .int .i64 0, .int .i64 0, .int .i64 0, .string ⟨#[]⟩, .string ⟨#[]⟩, .slice none 0 0, .int .i64 0]) ∧ Below w.heap.size w w' := by
 have CE : (Tryz.prog.info? 28).map (·.size) = some 15 := by kernel_rfl
 have CI : (Tryz.prog.info? 3).map (·.size) = some 1 := by kernel_rfl
 have CS : (Tryz.prog.info? 9).map (·.size) = some 1 := by kernel_rfl
 have CC : (Tryz.prog.info? 23).map (·.size) = some 6 := by kernel_rfl
 have CR : (Tryz.prog.info? 26).map (·.size) = some 4 := by kernel_rfl
 go_enter Tryz.func33, Tryz.ntmps33
 go_wp2_with (refine Mem.storeAll 2 (t := 28) rfl rfl rfl rfl CE (Mem.alloc' (Mem.alloc' (Mem.alloc' (Mem.nil w) _ _ (g := w.heap.size) rfl) _ _ (g := w.heap.size + 1) (by simp)) _ _ (g := w.heap.size + 1 + 1) (by simp)) rfl rfl rfl rfl ?_; intro wn0 HM0 C0)
 simp only [K0, K1, L1, L2, K2, K3, K4, K5, K6, K7, Nat.reduceAdd, Nat.reduceSub] at HM0
 have HM := Lib.hid HM0
 clear HM0
 refine Stay.go ?_
 go_wp2_with (first | (refine Mem.load1 0 (t := 3) rfl rfl rfl Tryz.underlying3 rfl HM.out rfl rfl ?_) | (refine Mem.store 2 (t := 3) rfl rfl rfl rfl (vs := [.int .i64 n]) rfl CI HM.out rfl rfl (by simp) rfl ?_; intro wn1 HM1 C1))
 simp only [K0, K1, L1, L2, K2, K3, K4, K5, K6, K7, Nat.reduceAdd, Nat.reduceSub] at HM1
 replace HM := Lib.hid HM1
 clear HM1
 refine Stay.go ?_
 go_wp2_with (first | (refine Mem.loadAll 2 (t := 28) rfl rfl rfl Tryz.underlying28 CE HM.out rfl rfl ?_) | (refine Mem.storeAll 1 (t := 28) rfl rfl rfl rfl CE HM.out rfl rfl rfl rfl ?_; intro wn9 HM9 C9))
 simp only [K0, K1, L1, L2, K2, K3, K4, K5, K6, K7, Nat.reduceAdd, Nat.reduceSub] at HM9
 replace HM := Lib.hid HM9
 clear HM9
 refine Stay.go ?_
 have BF := HM.out.blk (i := 1) rfl
 go_wp2_with fail
 exact bodyPost_ret (v := .agg #[.int .i64 8, .string ⟨#[]⟩, .string ⟨#[]⟩, .int .i64 n, .int .i64 0, .string ⟨#[]⟩, .int .i64 0, .int .i64 0, .int .i64 0, .int .i64 0, .int .i64 0, .string ⟨#[]⟩, .string ⟨#[]⟩, .slice none 0 0, .int .i64 0]) (by simp [results, Tryz.results33, go_sem, BF.cell]) rfl ⟨rfl, HM.out.below⟩

set_option maxHeartbeats 8000000 in
theorem rkept_9 (nm tg : ByteArray) (n dr : Int) (cn : ByteArray) (im co mn mx gr : Int) (rn rc : ByteArray) (a : Option Addr) (ts : List Tgt) (c : Nat) (rr : Int) (w : World) :
  Calls Tryz.prog 33 #[.agg #[.int .i64 9, .string nm, .string tg, .int .i64 n, .int .i64 dr, .string cn, .int .i64 im, .int .i64 co, .int .i64 mn, .int .i64 mx, .int .i64 gr, .string rn, .string rc, .slice a ts.length c, .int .i64 rr]] w fun x w' => x = .returned (.agg #[.int .i64 9, .string ⟨#[]⟩, .string ⟨#[]⟩, .int .i64 0, .int .i64 0, .string ⟨#[]⟩, .int .i64 0, .int .i64 0, .int .i64 0, .int .i64 0, .int .i64 0, .string ⟨#[]⟩, .string ⟨#[]⟩, .slice none 0 0, .int .i64 0]) ∧ Below w.heap.size w w' := by
 have CE : (Tryz.prog.info? 28).map (·.size) = some 15 := by kernel_rfl
 have CI : (Tryz.prog.info? 3).map (·.size) = some 1 := by kernel_rfl
 have CS : (Tryz.prog.info? 9).map (·.size) = some 1 := by kernel_rfl
 have CC : (Tryz.prog.info? 23).map (·.size) = some 6 := by kernel_rfl
 have CR : (Tryz.prog.info? 26).map (·.size) = some 4 := by kernel_rfl
 go_enter Tryz.func33, Tryz.ntmps33
 go_wp2_with (refine Mem.storeAll 2 (t := 28) rfl rfl rfl rfl CE (Mem.alloc' (Mem.alloc' (Mem.alloc' (Mem.nil w) _ _ (g := w.heap.size) rfl) _ _ (g := w.heap.size + 1) (by simp)) _ _ (g := w.heap.size + 1 + 1) (by simp)) rfl rfl rfl rfl ?_; intro wn0 HM0 C0)
 simp only [K0, K1, L1, L2, K2, K3, K4, K5, K6, K7, Nat.reduceAdd, Nat.reduceSub] at HM0
 have HM := Lib.hid HM0
 clear HM0
 refine Stay.go ?_
 go_wp2_with (first | (refine Mem.load1 0 (t := 3) rfl rfl rfl Tryz.underlying3 rfl HM.out rfl rfl ?_) | (refine Mem.loadAll 2 (t := 28) rfl rfl rfl Tryz.underlying28 CE HM.out rfl rfl ?_) | (refine Mem.storeAll 1 (t := 28) rfl rfl rfl rfl CE HM.out rfl rfl rfl rfl ?_; intro wn9 HM9 C9))
 simp only [K0, K1, L1, L2, K2, K3, K4, K5, K6, K7, Nat.reduceAdd, Nat.reduceSub] at HM9
 replace HM := Lib.hid HM9
 clear HM9
 refine Stay.go ?_
 have BF := HM.out.blk (i := 1) rfl
 go_wp2_with fail
 exact bodyPost_ret (v := .agg #[.int .i64 9, .string ⟨#[]⟩, .string ⟨#[]⟩, .int .i64 0, .int .i64 0, .string ⟨#[]⟩, .int .i64 0, .int .i64 0, .int .i64 0, .int .i64 0, .int .i64 0, .string ⟨#[]⟩, .string ⟨#[]⟩, .slice none 0 0, .int .i64 0]) (by simp [results, Tryz.results33, go_sem, BF.cell]) rfl ⟨rfl, HM.out.below⟩

set_option maxHeartbeats 8000000 in
theorem rkept_1 (nm tg : ByteArray) (n dr : Int) (cn : ByteArray) (im co mn mx gr : Int) (rn rc : ByteArray) (a : Option Addr) (ts : List Tgt) (c : Nat) (rr : Int) (w : World) :
  Calls Tryz.prog 33 #[.agg #[.int .i64 1, .string nm, .string tg, .int .i64 n, .int .i64 dr, .string cn, .int .i64 im, .int .i64 co, .int .i64 mn, .int .i64 mx, .int .i64 gr, .string rn, .string rc, .slice a ts.length c, .int .i64 rr]] w fun x w' => x = .returned (.agg #[.int .i64 1, .string ⟨#[]⟩, .string ⟨#[]⟩, .int .i64 n, .int .i64 0, .string cn, .int .i64 im, .int .i64 co, .int .i64 mn, .int .i64 mx, .int .i64 gr, .string ⟨#[]⟩, .string ⟨#[]⟩, .slice none 0 0, .int .i64 0]) ∧ Below w.heap.size w w' := by
 have CE : (Tryz.prog.info? 28).map (·.size) = some 15 := by kernel_rfl
 have CI : (Tryz.prog.info? 3).map (·.size) = some 1 := by kernel_rfl
 have CS : (Tryz.prog.info? 9).map (·.size) = some 1 := by kernel_rfl
 have CC : (Tryz.prog.info? 23).map (·.size) = some 6 := by kernel_rfl
 have CR : (Tryz.prog.info? 26).map (·.size) = some 4 := by kernel_rfl
 go_enter Tryz.func33, Tryz.ntmps33
 go_wp2_with (refine Mem.storeAll 2 (t := 28) rfl rfl rfl rfl CE (Mem.alloc' (Mem.alloc' (Mem.alloc' (Mem.nil w) _ _ (g := w.heap.size) rfl) _ _ (g := w.heap.size + 1) (by simp)) _ _ (g := w.heap.size + 1 + 1) (by simp)) rfl rfl rfl rfl ?_; intro wn0 HM0 C0)
 simp only [K0, K1, L1, L2, K2, K3, K4, K5, K6, K7, Nat.reduceAdd, Nat.reduceSub] at HM0
 have HM := Lib.hid HM0
 clear HM0
 refine Stay.go ?_
 go_wp2_with (first | (refine Mem.load1 0 (t := 3) rfl rfl rfl Tryz.underlying3 rfl HM.out rfl rfl ?_))
 have BE := Lib.hid (HM.out.blk (i := 0) rfl)
 have B0 := Lib.hid (HM.out.blk (i := 2) rfl)
 refine Evo2.start' (ℓ := none) (S := Chg (fun k => k = w.heap.size + 1 + 1)) (E := Grow.G) (by kernel_rfl) ⟨Chg.pre _, by decide +kernel, (by intro c a d v w h; cases d <;> exact h), by decide +kernel⟩ (fun ok => ?_)
 refine Evo2.va ok 0 _ _ ?_
 first | (refine Evo2.val ok 1 ?_ ?_ ?_; rotate_left; (focus (intro w' hg; refine Box.exec_load (off := 5) ?_ Tryz.underlying23 CC (BE.out.chg (Chg.trans (Chg.refl (fun k => k = w.heap.size + 1 + 1) _) hg) (fun q => by have q : w.heap.size = w.heap.size + 1 + 1 := q; omega)) (vs := [.string cn, .int .i64 im, .int .i64 co, .int .i64 mn, .int .i64 mx, .int .i64 gr]) ?_ ?_; (all_goals (first | exact ⟨rfl, rfl⟩ | rfl)))); simp only [Act.put, L0, L1, L2]) | (refine Evo2.val ok 1 ?_ ?_ ?_; rotate_left; (focus (intro w' hg; refine Box.exec_load1 (off := 3) ?_ Tryz.underlying3 rfl (BE.out.chg (Chg.trans (Chg.refl (fun k => k = w.heap.size + 1 + 1) _) hg) (fun q => by have q : w.heap.size = w.heap.size + 1 + 1 := q; omega)) ?_; (all_goals (first | exact ⟨rfl, rfl⟩ | rfl)))); simp only [Act.put, L0, L1, L2]) | (refine Evo2.va ok 1 _ _ ?_)
 refine Evo2.va ok 2 _ _ ?_
 first | (refine Evo2.val ok 3 ?_ ?_ ?_; rotate_left; (focus (intro w' hg; refine Box.exec_load (off := 5) ?_ Tryz.underlying23 CC (BE.out.chg (Chg.trans (Chg.refl (fun k => k = w.heap.size + 1 + 1) _) hg) (fun q => by have q : w.heap.size = w.heap.size + 1 + 1 := q; omega)) (vs := [.string cn, .int .i64 im, .int .i64 co, .int .i64 mn, .int .i64 mx, .int .i64 gr]) ?_ ?_; (all_goals (first | exact ⟨rfl, rfl⟩ | rfl)))); simp only [Act.put, L0, L1, L2]) | (refine Evo2.val ok 3 ?_ ?_ ?_; rotate_left; (focus (intro w' hg; refine Box.exec_load1 (off := 3) ?_ Tryz.underlying3 rfl (BE.out.chg (Chg.trans (Chg.refl (fun k => k = w.heap.size + 1 + 1) _) hg) (fun q => by have q : w.heap.size = w.heap.size + 1 + 1 := q; omega)) ?_; (all_goals (first | exact ⟨rfl, rfl⟩ | rfl)))); simp only [Act.put, L0, L1, L2]) | (refine Evo2.va ok 3 _ _ ?_)
 refine Evo2.va ok 4 _ _ ?_
 refine Evo2.all [5] (by decide +kernel) rfl ?_
 intro wp1 gp1 iq hq
 simp only [List.mem_cons, List.mem_nil_iff, or_false] at hq
 have AP1 := Chg.trans (Chg.refl (fun k => k = w.heap.size + 1 + 1) _) (Chg.grow gp1)
 subst hq
 refine Evo2.runs (by rfl) (by rfl) (fun K' hK' => ?_)
 have BQ1 := Lib.hid ((B0.out).grow gp1); (try simp only [List.setIfInBounds_toArray, List.set_cons_zero, List.set_cons_succ] at BQ1); have gl1 := BQ1.out.lt; have e3 := evd BQ1.out (i := 3) rfl; have f3 := BQ1.out.free 3
 go_simp
 (try (simp only [Evo.after_value, Evo.after_skip]))
 refine hK'.out _ _ ?_
 clear hK'
 simp only [Act.put, L0, L1, L2]
 (try clear gl1 e3 f3)
 refine ⟨.inr (by (repeat refine Chg.setCell ?_ (fun _ => by first | rfl | (simp; done) | (simp; omega)) _ _); exact Chg.refl _ _), ?_⟩
 refine Evo2.va ok 6 _ _ ?_
 refine Evo2.all [7] (by decide +kernel) rfl ?_
 intro wp2 gp2 iq hq
 simp only [List.mem_cons, List.mem_nil_iff, or_false] at hq
 have AP2 := Chg.trans (Chg.trans AP1 (by (repeat refine Chg.setCell ?_ (fun _ => by first | rfl | (simp; done) | (simp; omega)) _ _); exact Chg.refl _ _)) (Chg.grow gp2)
 subst hq
 refine Evo2.runs (by rfl) (by rfl) (fun K' hK' => ?_)
 have BQ2 := Lib.hid (((BQ1.out).set 3 (.int .i64 n)).grow gp2); (try simp only [List.setIfInBounds_toArray, List.set_cons_zero, List.set_cons_succ] at BQ2); have gl2 := BQ2.out.lt; have e5 := evd BQ2.out (i := 5) rfl; have f5 := BQ2.out.free 5; have e6 := evd BQ2.out (i := 6) rfl; have f6 := BQ2.out.free 6; have e7 := evd BQ2.out (i := 7) rfl; have f7 := BQ2.out.free 7; have e8 := evd BQ2.out (i := 8) rfl; have f8 := BQ2.out.free 8; have e9 := evd BQ2.out (i := 9) rfl; have f9 := BQ2.out.free 9; have e10 := evd BQ2.out (i := 10) rfl; have f10 := BQ2.out.free 10
 go_simp
 (try (simp only [Evo.after_value, Evo.after_skip]))
 refine hK'.out _ _ ?_
 clear hK'
 simp only [Act.put, L0, L1, L2]
 (try clear gl2 e5 f5 e6 f6 e7 f7 e8 f8 e9 f9 e10 f10)
 refine ⟨.inr (by (repeat refine Chg.setCell ?_ (fun _ => by first | rfl | (simp; done) | (simp; omega)) _ _); exact Chg.refl _ _), ?_⟩
 refine Evo2.done (by decide +kernel) (fun wz gz => ?_)
 have AZ := Chg.trans (Chg.trans AP2 (by (repeat refine Chg.setCell ?_ (fun _ => by first | rfl | (simp; done) | (simp; omega)) _ _); exact Chg.refl _ _)) (Chg.grow gz)
 have BZ := (((((((BQ2.out).set 5 (.string cn)).set 6 (.int .i64 im)).set 7 (.int .i64 co)).set 8 (.int .i64 mn)).set 9 (.int .i64 mx)).set 10 (.int .i64 gr)).grow gz
 simp only [List.setIfInBounds_toArray, List.set_cons_zero, List.set_cons_succ] at BZ
 have HMz := HM.out.set (i := 2) rfl BZ AZ
 simp only [K0, K1, L1, L2, K2, K3, K4, K5, K6, K7, Nat.reduceAdd, Nat.reduceSub] at HMz
 replace HM := Lib.hid HMz
 clear HMz BZ AZ
 go_wp2_with (first | (refine Mem.loadAll 2 (t := 28) rfl rfl rfl Tryz.underlying28 CE HM.out rfl rfl ?_) | (refine Mem.storeAll 1 (t := 28) rfl rfl rfl rfl CE HM.out rfl rfl rfl rfl ?_; intro wn9 HM9 C9))
 simp only [K0, K1, L1, L2, K2, K3, K4, K5, K6, K7, Nat.reduceAdd, Nat.reduceSub] at HM9
 replace HM := Lib.hid HM9
 clear HM9
 refine Stay.go ?_
 have BF := HM.out.blk (i := 1) rfl
 go_wp2_with fail
 exact bodyPost_ret (v := .agg #[.int .i64 1, .string ⟨#[]⟩, .string ⟨#[]⟩, .int .i64 n, .int .i64 0, .string cn, .int .i64 im, .int .i64 co, .int .i64 mn, .int .i64 mx, .int .i64 gr, .string ⟨#[]⟩, .string ⟨#[]⟩, .slice none 0 0, .int .i64 0]) (by simp [results, Tryz.results33, go_sem, BF.cell]) rfl ⟨rfl, HM.out.below⟩

set_option maxHeartbeats 8000000 in
theorem rkept_3 (nm tg : ByteArray) (n dr : Int) (cn : ByteArray) (im co mn mx gr : Int) (rn rc : ByteArray) (a : Option Addr) (ts : List Tgt) (c : Nat) (rr : Int) (w : World) :
  Calls Tryz.prog 33 #[.agg #[.int .i64 3, .string nm, .string tg, .int .i64 n, .int .i64 dr, .string cn, .int .i64 im, .int .i64 co, .int .i64 mn, .int .i64 mx, .int .i64 gr, .string rn, .string rc, .slice a ts.length c, .int .i64 rr]] w fun x w' => x = .returned (.agg #[.int .i64 3, .string nm, .string ⟨#[]⟩, .int .i64 n, .int .i64 dr, .string ⟨#[]⟩, .int .i64 0, .int .i64 0, .int .i64 0, .int .i64 0, .int .i64 0, .string ⟨#[]⟩, .string ⟨#[]⟩, .slice none 0 0, .int .i64 0]) ∧ Below w.heap.size w w' := by
 have CE : (Tryz.prog.info? 28).map (·.size) = some 15 := by kernel_rfl
 have CI : (Tryz.prog.info? 3).map (·.size) = some 1 := by kernel_rfl
 have CS : (Tryz.prog.info? 9).map (·.size) = some 1 := by kernel_rfl
 have CC : (Tryz.prog.info? 23).map (·.size) = some 6 := by kernel_rfl
 have CR : (Tryz.prog.info? 26).map (·.size) = some 4 := by kernel_rfl
 go_enter Tryz.func33, Tryz.ntmps33
 go_wp2_with (refine Mem.storeAll 2 (t := 28) rfl rfl rfl rfl CE (Mem.alloc' (Mem.alloc' (Mem.alloc' (Mem.nil w) _ _ (g := w.heap.size) rfl) _ _ (g := w.heap.size + 1) (by simp)) _ _ (g := w.heap.size + 1 + 1) (by simp)) rfl rfl rfl rfl ?_; intro wn0 HM0 C0)
 simp only [K0, K1, L1, L2, K2, K3, K4, K5, K6, K7, Nat.reduceAdd, Nat.reduceSub] at HM0
 have HM := Lib.hid HM0
 clear HM0
 refine Stay.go ?_
 go_wp2_with (first | (refine Mem.load1 0 (t := 3) rfl rfl rfl Tryz.underlying3 rfl HM.out rfl rfl ?_))
 have BE := Lib.hid (HM.out.blk (i := 0) rfl)
 have B0 := Lib.hid (HM.out.blk (i := 2) rfl)
 refine Evo2.start' (ℓ := none) (S := Chg (fun k => k = w.heap.size + 1 + 1)) (E := Grow.G) (by kernel_rfl) ⟨Chg.pre _, by decide +kernel, (by intro c a d v w h; cases d <;> exact h), by decide +kernel⟩ (fun ok => ?_)
 refine Evo2.va ok 0 _ _ ?_
 first | (refine Evo2.val ok 1 ?_ ?_ ?_; rotate_left; (focus (intro w' hg; refine Box.exec_load1 (off := 3) ?_ Tryz.underlying3 rfl (BE.out.chg (Chg.trans (Chg.refl (fun k => k = w.heap.size + 1 + 1) _) hg) (fun q => by have q : w.heap.size = w.heap.size + 1 + 1 := q; omega)) ?_; (all_goals (first | exact ⟨rfl, rfl⟩ | rfl)))); simp only [Act.put, L0, L1, L2]) | (refine Evo2.val ok 1 ?_ ?_ ?_; rotate_left; (focus (intro w' hg; refine Box.exec_load1 (off := 1) ?_ Tryz.underlying9 rfl (BE.out.chg (Chg.trans (Chg.refl (fun k => k = w.heap.size + 1 + 1) _) hg) (fun q => by have q : w.heap.size = w.heap.size + 1 + 1 := q; omega)) ?_; (all_goals (first | exact ⟨rfl, rfl⟩ | rfl)))); simp only [Act.put, L0, L1, L2]) | (refine Evo2.val ok 1 ?_ ?_ ?_; rotate_left; (focus (intro w' hg; refine Box.exec_load1 (off := 4) ?_ Tryz.underlying3 rfl (BE.out.chg (Chg.trans (Chg.refl (fun k => k = w.heap.size + 1 + 1) _) hg) (fun q => by have q : w.heap.size = w.heap.size + 1 + 1 := q; omega)) ?_; (all_goals (first | exact ⟨rfl, rfl⟩ | rfl)))); simp only [Act.put, L0, L1, L2]) | (refine Evo2.va ok 1 _ _ ?_)
 refine Evo2.va ok 2 _ _ ?_
 first | (refine Evo2.val ok 3 ?_ ?_ ?_; rotate_left; (focus (intro w' hg; refine Box.exec_load1 (off := 3) ?_ Tryz.underlying3 rfl (BE.out.chg (Chg.trans (Chg.refl (fun k => k = w.heap.size + 1 + 1) _) hg) (fun q => by have q : w.heap.size = w.heap.size + 1 + 1 := q; omega)) ?_; (all_goals (first | exact ⟨rfl, rfl⟩ | rfl)))); simp only [Act.put, L0, L1, L2]) | (refine Evo2.val ok 3 ?_ ?_ ?_; rotate_left; (focus (intro w' hg; refine Box.exec_load1 (off := 1) ?_ Tryz.underlying9 rfl (BE.out.chg (Chg.trans (Chg.refl (fun k => k = w.heap.size + 1 + 1) _) hg) (fun q => by have q : w.heap.size = w.heap.size + 1 + 1 := q; omega)) ?_; (all_goals (first | exact ⟨rfl, rfl⟩ | rfl)))); simp only [Act.put, L0, L1, L2]) | (refine Evo2.val ok 3 ?_ ?_ ?_; rotate_left; (focus (intro w' hg; refine Box.exec_load1 (off := 4) ?_ Tryz.underlying3 rfl (BE.out.chg (Chg.trans (Chg.refl (fun k => k = w.heap.size + 1 + 1) _) hg) (fun q => by have q : w.heap.size = w.heap.size + 1 + 1 := q; omega)) ?_; (all_goals (first | exact ⟨rfl, rfl⟩ | rfl)))); simp only [Act.put, L0, L1, L2]) | (refine Evo2.va ok 3 _ _ ?_)
 refine Evo2.va ok 4 _ _ ?_
 first | (refine Evo2.val ok 5 ?_ ?_ ?_; rotate_left; (focus (intro w' hg; refine Box.exec_load1 (off := 3) ?_ Tryz.underlying3 rfl (BE.out.chg (Chg.trans (Chg.refl (fun k => k = w.heap.size + 1 + 1) _) hg) (fun q => by have q : w.heap.size = w.heap.size + 1 + 1 := q; omega)) ?_; (all_goals (first | exact ⟨rfl, rfl⟩ | rfl)))); simp only [Act.put, L0, L1, L2]) | (refine Evo2.val ok 5 ?_ ?_ ?_; rotate_left; (focus (intro w' hg; refine Box.exec_load1 (off := 1) ?_ Tryz.underlying9 rfl (BE.out.chg (Chg.trans (Chg.refl (fun k => k = w.heap.size + 1 + 1) _) hg) (fun q => by have q : w.heap.size = w.heap.size + 1 + 1 := q; omega)) ?_; (all_goals (first | exact ⟨rfl, rfl⟩ | rfl)))); simp only [Act.put, L0, L1, L2]) | (refine Evo2.val ok 5 ?_ ?_ ?_; rotate_left; (focus (intro w' hg; refine Box.exec_load1 (off := 4) ?_ Tryz.underlying3 rfl (BE.out.chg (Chg.trans (Chg.refl (fun k => k = w.heap.size + 1 + 1) _) hg) (fun q => by have q : w.heap.size = w.heap.size + 1 + 1 := q; omega)) ?_; (all_goals (first | exact ⟨rfl, rfl⟩ | rfl)))); simp only [Act.put, L0, L1, L2]) | (refine Evo2.va ok 5 _ _ ?_)
 refine Evo2.va ok 6 _ _ ?_
 refine Evo2.all [7] (by decide +kernel) rfl ?_
 intro wp1 gp1 iq hq
 simp only [List.mem_cons, List.mem_nil_iff, or_false] at hq
 have AP1 := Chg.trans (Chg.refl (fun k => k = w.heap.size + 1 + 1) _) (Chg.grow gp1)
 subst hq
 refine Evo2.runs (by rfl) (by rfl) (fun K' hK' => ?_)
 have BQ1 := Lib.hid ((B0.out).grow gp1); (try simp only [List.setIfInBounds_toArray, List.set_cons_zero, List.set_cons_succ] at BQ1); have gl1 := BQ1.out.lt; have e3 := evd BQ1.out (i := 3) rfl; have f3 := BQ1.out.free 3
 go_simp
 (try (simp only [Evo.after_value, Evo.after_skip]))
 refine hK'.out _ _ ?_
 clear hK'
 simp only [Act.put, L0, L1, L2]
 (try clear gl1 e3 f3)
 refine ⟨.inr (by (repeat refine Chg.setCell ?_ (fun _ => by first | rfl | (simp; done) | (simp; omega)) _ _); exact Chg.refl _ _), ?_⟩
 refine Evo2.va ok 8 _ _ ?_
 refine Evo2.all [9] (by decide +kernel) rfl ?_
 intro wp2 gp2 iq hq
 simp only [List.mem_cons, List.mem_nil_iff, or_false] at hq
 have AP2 := Chg.trans (Chg.trans AP1 (by (repeat refine Chg.setCell ?_ (fun _ => by first | rfl | (simp; done) | (simp; omega)) _ _); exact Chg.refl _ _)) (Chg.grow gp2)
 subst hq
 refine Evo2.runs (by rfl) (by rfl) (fun K' hK' => ?_)
 have BQ2 := Lib.hid (((BQ1.out).set 3 (.int .i64 n)).grow gp2); (try simp only [List.setIfInBounds_toArray, List.set_cons_zero, List.set_cons_succ] at BQ2); have gl2 := BQ2.out.lt; have e1 := evd BQ2.out (i := 1) rfl; have f1 := BQ2.out.free 1
 go_simp
 (try (simp only [Evo.after_value, Evo.after_skip]))
 refine hK'.out _ _ ?_
 clear hK'
 simp only [Act.put, L0, L1, L2]
 (try clear gl2 e1 f1)
 refine ⟨.inr (by (repeat refine Chg.setCell ?_ (fun _ => by first | rfl | (simp; done) | (simp; omega)) _ _); exact Chg.refl _ _), ?_⟩
 refine Evo2.va ok 10 _ _ ?_
 refine Evo2.all [11] (by decide +kernel) rfl ?_
 intro wp3 gp3 iq hq
 simp only [List.mem_cons, List.mem_nil_iff, or_false] at hq
 have AP3 := Chg.trans (Chg.trans AP2 (by (repeat refine Chg.setCell ?_ (fun _ => by first | rfl | (simp; done) | (simp; omega)) _ _); exact Chg.refl _ _)) (Chg.grow gp3)
 subst hq
 refine Evo2.runs (by rfl) (by rfl) (fun K' hK' => ?_)
 have BQ3 := Lib.hid (((BQ2.out).set 1 (.string nm)).grow gp3); (try simp only [List.setIfInBounds_toArray, List.set_cons_zero, List.set_cons_succ] at BQ3); have gl3 := BQ3.out.lt; have e4 := evd BQ3.out (i := 4) rfl; have f4 := BQ3.out.free 4
 go_simp
 (try (simp only [Evo.after_value, Evo.after_skip]))
 refine hK'.out _ _ ?_
 clear hK'
 simp only [Act.put, L0, L1, L2]
 (try clear gl3 e4 f4)
 refine ⟨.inr (by (repeat refine Chg.setCell ?_ (fun _ => by first | rfl | (simp; done) | (simp; omega)) _ _); exact Chg.refl _ _), ?_⟩
 refine Evo2.done (by decide +kernel) (fun wz gz => ?_)
 have AZ := Chg.trans (Chg.trans AP3 (by (repeat refine Chg.setCell ?_ (fun _ => by first | rfl | (simp; done) | (simp; omega)) _ _); exact Chg.refl _ _)) (Chg.grow gz)
 have BZ := ((BQ3.out).set 4 (.int .i64 dr)).grow gz
 simp only [List.setIfInBounds_toArray, List.set_cons_zero, List.set_cons_succ] at BZ
 have HMz := HM.out.set (i := 2) rfl BZ AZ
 simp only [K0, K1, L1, L2, K2, K3, K4, K5, K6, K7, Nat.reduceAdd, Nat.reduceSub] at HMz
 replace HM := Lib.hid HMz
 clear HMz BZ AZ
 go_wp2_with (first | (refine Mem.loadAll 2 (t := 28) rfl rfl rfl Tryz.underlying28 CE HM.out rfl rfl ?_) | (refine Mem.storeAll 1 (t := 28) rfl rfl rfl rfl CE HM.out rfl rfl rfl rfl ?_; intro wn9 HM9 C9))
 simp only [K0, K1, L1, L2, K2, K3, K4, K5, K6, K7, Nat.reduceAdd, Nat.reduceSub] at HM9
 replace HM := Lib.hid HM9
 clear HM9
 refine Stay.go ?_
 have BF := HM.out.blk (i := 1) rfl
 go_wp2_with fail
 exact bodyPost_ret (v := .agg #[.int .i64 3, .string nm, .string ⟨#[]⟩, .int .i64 n, .int .i64 dr, .string ⟨#[]⟩, .int .i64 0, .int .i64 0, .int .i64 0, .int .i64 0, .int .i64 0, .string ⟨#[]⟩, .string ⟨#[]⟩, .slice none 0 0, .int .i64 0]) (by simp [results, Tryz.results33, go_sem, BF.cell]) rfl ⟨rfl, HM.out.below⟩

set_option maxHeartbeats 8000000 in
theorem rkept_2 (nm tg : ByteArray) (n dr : Int) (cn : ByteArray) (im co mn mx gr : Int) (rn rc : ByteArray) (a : Option Addr) (ts : List Tgt) (c : Nat) (rr : Int) (w : World) :
  Calls Tryz.prog 33 #[.agg #[.int .i64 2, .string nm, .string tg, .int .i64 n, .int .i64 dr, .string cn, .int .i64 im, .int .i64 co, .int .i64 mn, .int .i64 mx, .int .i64 gr, .string rn, .string rc, .slice a ts.length c, .int .i64 rr]] w fun x w' => x = .returned (.agg #[.int .i64 2, .string ⟨#[]⟩, .string ⟨#[]⟩, .int .i64 n, .int .i64 0, .string ⟨#[]⟩, .int .i64 0, .int .i64 0, .int .i64 0, .int .i64 0, .int .i64 0, .string rn, .string rc, .slice a ts.length c, .int .i64 rr]) ∧ Below w.heap.size w w' := by
 have CE : (Tryz.prog.info? 28).map (·.size) = some 15 := by kernel_rfl
 have CI : (Tryz.prog.info? 3).map (·.size) = some 1 := by kernel_rfl
 have CS : (Tryz.prog.info? 9).map (·.size) = some 1 := by kernel_rfl
 have CC : (Tryz.prog.info? 23).map (·.size) = some 6 := by kernel_rfl
 have CR : (Tryz.prog.info? 26).map (·.size) = some 4 := by kernel_rfl
 go_enter Tryz.func33, Tryz.ntmps33
 go_wp2_with (refine Mem.storeAll 2 (t := 28) rfl rfl rfl rfl CE (Mem.alloc' (Mem.alloc' (Mem.alloc' (Mem.nil w) _ _ (g := w.heap.size) rfl) _ _ (g := w.heap.size + 1) (by simp)) _ _ (g := w.heap.size + 1 + 1) (by simp)) rfl rfl rfl rfl ?_; intro wn0 HM0 C0)
 simp only [K0, K1, L1, L2, K2, K3, K4, K5, K6, K7, Nat.reduceAdd, Nat.reduceSub] at HM0
 have HM := Lib.hid HM0
 clear HM0
 refine Stay.go ?_
 go_wp2_with (first | (refine Mem.load1 0 (t := 3) rfl rfl rfl Tryz.underlying3 rfl HM.out rfl rfl ?_))
 have BE := Lib.hid (HM.out.blk (i := 0) rfl)
 have B0 := Lib.hid (HM.out.blk (i := 2) rfl)
 refine Evo2.start' (ℓ := none) (S := Chg (fun k => k = w.heap.size + 1 + 1)) (E := Grow.G) (by kernel_rfl) ⟨Chg.pre _, by decide +kernel, (by intro c a d v w h; cases d <;> exact h), by decide +kernel⟩ (fun ok => ?_)
 refine Evo2.va ok 0 _ _ ?_
 first | (refine Evo2.val ok 1 ?_ ?_ ?_; rotate_left; (focus (intro w' hg; refine Box.exec_load (off := 11) ?_ Tryz.underlying26 CR (BE.out.chg (Chg.trans (Chg.refl (fun k => k = w.heap.size + 1 + 1) _) hg) (fun q => by have q : w.heap.size = w.heap.size + 1 + 1 := q; omega)) (vs := [.string rn, .string rc, .slice a ts.length c, .int .i64 rr]) ?_ ?_; (all_goals (first | exact ⟨rfl, rfl⟩ | rfl)))); simp only [Act.put, L0, L1, L2]) | (refine Evo2.val ok 1 ?_ ?_ ?_; rotate_left; (focus (intro w' hg; refine Box.exec_load1 (off := 3) ?_ Tryz.underlying3 rfl (BE.out.chg (Chg.trans (Chg.refl (fun k => k = w.heap.size + 1 + 1) _) hg) (fun q => by have q : w.heap.size = w.heap.size + 1 + 1 := q; omega)) ?_; (all_goals (first | exact ⟨rfl, rfl⟩ | rfl)))); simp only [Act.put, L0, L1, L2]) | (refine Evo2.va ok 1 _ _ ?_)
 refine Evo2.va ok 2 _ _ ?_
 first | (refine Evo2.val ok 3 ?_ ?_ ?_; rotate_left; (focus (intro w' hg; refine Box.exec_load (off := 11) ?_ Tryz.underlying26 CR (BE.out.chg (Chg.trans (Chg.refl (fun k => k = w.heap.size + 1 + 1) _) hg) (fun q => by have q : w.heap.size = w.heap.size + 1 + 1 := q; omega)) (vs := [.string rn, .string rc, .slice a ts.length c, .int .i64 rr]) ?_ ?_; (all_goals (first | exact ⟨rfl, rfl⟩ | rfl)))); simp only [Act.put, L0, L1, L2]) | (refine Evo2.val ok 3 ?_ ?_ ?_; rotate_left; (focus (intro w' hg; refine Box.exec_load1 (off := 3) ?_ Tryz.underlying3 rfl (BE.out.chg (Chg.trans (Chg.refl (fun k => k = w.heap.size + 1 + 1) _) hg) (fun q => by have q : w.heap.size = w.heap.size + 1 + 1 := q; omega)) ?_; (all_goals (first | exact ⟨rfl, rfl⟩ | rfl)))); simp only [Act.put, L0, L1, L2]) | (refine Evo2.va ok 3 _ _ ?_)
 refine Evo2.va ok 4 _ _ ?_
 refine Evo2.all [5] (by decide +kernel) rfl ?_
 intro wp1 gp1 iq hq
 simp only [List.mem_cons, List.mem_nil_iff, or_false] at hq
 have AP1 := Chg.trans (Chg.refl (fun k => k = w.heap.size + 1 + 1) _) (Chg.grow gp1)
 subst hq
 refine Evo2.runs (by rfl) (by rfl) (fun K' hK' => ?_)
 have BQ1 := Lib.hid ((B0.out).grow gp1); (try simp only [List.setIfInBounds_toArray, List.set_cons_zero, List.set_cons_succ] at BQ1); have gl1 := BQ1.out.lt; have e3 := evd BQ1.out (i := 3) rfl; have f3 := BQ1.out.free 3
 go_simp
 (try (simp only [Evo.after_value, Evo.after_skip]))
 refine hK'.out _ _ ?_
 clear hK'
 simp only [Act.put, L0, L1, L2]
 (try clear gl1 e3 f3)
 refine ⟨.inr (by (repeat refine Chg.setCell ?_ (fun _ => by first | rfl | (simp; done) | (simp; omega)) _ _); exact Chg.refl _ _), ?_⟩
 refine Evo2.va ok 6 _ _ ?_
 refine Evo2.all [7] (by decide +kernel) rfl ?_
 intro wp2 gp2 iq hq
 simp only [List.mem_cons, List.mem_nil_iff, or_false] at hq
 have AP2 := Chg.trans (Chg.trans AP1 (by (repeat refine Chg.setCell ?_ (fun _ => by first | rfl | (simp; done) | (simp; omega)) _ _); exact Chg.refl _ _)) (Chg.grow gp2)
 subst hq
 refine Evo2.runs (by rfl) (by rfl) (fun K' hK' => ?_)
 have BQ2 := Lib.hid (((BQ1.out).set 3 (.int .i64 n)).grow gp2); (try simp only [List.setIfInBounds_toArray, List.set_cons_zero, List.set_cons_succ] at BQ2); have gl2 := BQ2.out.lt; have e11 := evd BQ2.out (i := 11) rfl; have f11 := BQ2.out.free 11; have e12 := evd BQ2.out (i := 12) rfl; have f12 := BQ2.out.free 12; have e13 := evd BQ2.out (i := 13) rfl; have f13 := BQ2.out.free 13; have e14 := evd BQ2.out (i := 14) rfl; have f14 := BQ2.out.free 14
 go_simp
 (try (simp only [Evo.after_value, Evo.after_skip]))
 refine hK'.out _ _ ?_
 clear hK'
 simp only [Act.put, L0, L1, L2]
 (try clear gl2 e11 f11 e12 f12 e13 f13 e14 f14)
 refine ⟨.inr (by (repeat refine Chg.setCell ?_ (fun _ => by first | rfl | (simp; done) | (simp; omega)) _ _); exact Chg.refl _ _), ?_⟩
 refine Evo2.done (by decide +kernel) (fun wz gz => ?_)
 have AZ := Chg.trans (Chg.trans AP2 (by (repeat refine Chg.setCell ?_ (fun _ => by first | rfl | (simp; done) | (simp; omega)) _ _); exact Chg.refl _ _)) (Chg.grow gz)
 have BZ := (((((BQ2.out).set 11 (.string rn)).set 12 (.string rc)).set 13 (.slice a ts.length c)).set 14 (.int .i64 rr)).grow gz
 simp only [List.setIfInBounds_toArray, List.set_cons_zero, List.set_cons_succ] at BZ
 have HMz := HM.out.set (i := 2) rfl BZ AZ
 simp only [K0, K1, L1, L2, K2, K3, K4, K5, K6, K7, Nat.reduceAdd, Nat.reduceSub] at HMz
 replace HM := Lib.hid HMz
 clear HMz BZ AZ
 go_wp2_with (first | (refine Mem.loadAll 2 (t := 28) rfl rfl rfl Tryz.underlying28 CE HM.out rfl rfl ?_) | (refine Mem.storeAll 1 (t := 28) rfl rfl rfl rfl CE HM.out rfl rfl rfl rfl ?_; intro wn9 HM9 C9))
 simp only [K0, K1, L1, L2, K2, K3, K4, K5, K6, K7, Nat.reduceAdd, Nat.reduceSub] at HM9
 replace HM := Lib.hid HM9
 clear HM9
 refine Stay.go ?_
 have BF := HM.out.blk (i := 1) rfl
 go_wp2_with fail
 exact bodyPost_ret (v := .agg #[.int .i64 2, .string ⟨#[]⟩, .string ⟨#[]⟩, .int .i64 n, .int .i64 0, .string ⟨#[]⟩, .int .i64 0, .int .i64 0, .int .i64 0, .int .i64 0, .int .i64 0, .string rn, .string rc, .slice a ts.length c, .int .i64 rr]) (by simp [results, Tryz.results33, go_sem, BF.cell]) rfl ⟨rfl, HM.out.below⟩

set_option maxHeartbeats 8000000 in
theorem rkept_4 (nm tg : ByteArray) (n dr : Int) (cn : ByteArray) (im co mn mx gr : Int) (rn rc : ByteArray) (a : Option Addr) (ts : List Tgt) (c : Nat) (rr : Int) (w : World) :
  Calls Tryz.prog 33 #[.agg #[.int .i64 4, .string nm, .string tg, .int .i64 n, .int .i64 dr, .string cn, .int .i64 im, .int .i64 co, .int .i64 mn, .int .i64 mx, .int .i64 gr, .string rn, .string rc, .slice a ts.length c, .int .i64 rr]] w fun x w' => x = .returned (.agg #[.int .i64 4, .string nm, .string tg, .int .i64 n, .int .i64 dr, .string ⟨#[]⟩, .int .i64 0, .int .i64 0, .int .i64 0, .int .i64 0, .int .i64 0, .string ⟨#[]⟩, .string ⟨#[]⟩, .slice none 0 0, .int .i64 0]) ∧ Below w.heap.size w w' := by
 have CE : (Tryz.prog.info? 28).map (·.size) = some 15 := by kernel_rfl
 have CI : (Tryz.prog.info? 3).map (·.size) = some 1 := by kernel_rfl
 have CS : (Tryz.prog.info? 9).map (·.size) = some 1 := by kernel_rfl
 have CC : (Tryz.prog.info? 23).map (·.size) = some 6 := by kernel_rfl
 have CR : (Tryz.prog.info? 26).map (·.size) = some 4 := by kernel_rfl
 go_enter Tryz.func33, Tryz.ntmps33
 go_wp2_with (refine Mem.storeAll 2 (t := 28) rfl rfl rfl rfl CE (Mem.alloc' (Mem.alloc' (Mem.alloc' (Mem.nil w) _ _ (g := w.heap.size) rfl) _ _ (g := w.heap.size + 1) (by simp)) _ _ (g := w.heap.size + 1 + 1) (by simp)) rfl rfl rfl rfl ?_; intro wn0 HM0 C0)
 simp only [K0, K1, L1, L2, K2, K3, K4, K5, K6, K7, Nat.reduceAdd, Nat.reduceSub] at HM0
 have HM := Lib.hid HM0
 clear HM0
 refine Stay.go ?_
 go_wp2_with (first | (refine Mem.load1 0 (t := 3) rfl rfl rfl Tryz.underlying3 rfl HM.out rfl rfl ?_))
 have BE := Lib.hid (HM.out.blk (i := 0) rfl)
 have B0 := Lib.hid (HM.out.blk (i := 2) rfl)
 refine Evo2.start' (ℓ := none) (S := Chg (fun k => k = w.heap.size + 1 + 1)) (E := Grow.G) (by kernel_rfl) ⟨Chg.pre _, by decide +kernel, (by intro c a d v w h; cases d <;> exact h), by decide +kernel⟩ (fun ok => ?_)
 refine Evo2.va ok 0 _ _ ?_
 first | (refine Evo2.val ok 1 ?_ ?_ ?_; rotate_left; (focus (intro w' hg; refine Box.exec_load1 (off := 3) ?_ Tryz.underlying3 rfl (BE.out.chg (Chg.trans (Chg.refl (fun k => k = w.heap.size + 1 + 1) _) hg) (fun q => by have q : w.heap.size = w.heap.size + 1 + 1 := q; omega)) ?_; (all_goals (first | exact ⟨rfl, rfl⟩ | rfl)))); simp only [Act.put, L0, L1, L2]) | (refine Evo2.val ok 1 ?_ ?_ ?_; rotate_left; (focus (intro w' hg; refine Box.exec_load1 (off := 1) ?_ Tryz.underlying9 rfl (BE.out.chg (Chg.trans (Chg.refl (fun k => k = w.heap.size + 1 + 1) _) hg) (fun q => by have q : w.heap.size = w.heap.size + 1 + 1 := q; omega)) ?_; (all_goals (first | exact ⟨rfl, rfl⟩ | rfl)))); simp only [Act.put, L0, L1, L2]) | (refine Evo2.val ok 1 ?_ ?_ ?_; rotate_left; (focus (intro w' hg; refine Box.exec_load1 (off := 2) ?_ Tryz.underlying9 rfl (BE.out.chg (Chg.trans (Chg.refl (fun k => k = w.heap.size + 1 + 1) _) hg) (fun q => by have q : w.heap.size = w.heap.size + 1 + 1 := q; omega)) ?_; (all_goals (first | exact ⟨rfl, rfl⟩ | rfl)))); simp only [Act.put, L0, L1, L2]) | (refine Evo2.val ok 1 ?_ ?_ ?_; rotate_left; (focus (intro w' hg; refine Box.exec_load1 (off := 4) ?_ Tryz.underlying3 rfl (BE.out.chg (Chg.trans (Chg.refl (fun k => k = w.heap.size + 1 + 1) _) hg) (fun q => by have q : w.heap.size = w.heap.size + 1 + 1 := q; omega)) ?_; (all_goals (first | exact ⟨rfl, rfl⟩ | rfl)))); simp only [Act.put, L0, L1, L2]) | (refine Evo2.va ok 1 _ _ ?_)
 refine Evo2.va ok 2 _ _ ?_
 first | (refine Evo2.val ok 3 ?_ ?_ ?_; rotate_left; (focus (intro w' hg; refine Box.exec_load1 (off := 3) ?_ Tryz.underlying3 rfl (BE.out.chg (Chg.trans (Chg.refl (fun k => k = w.heap.size + 1 + 1) _) hg) (fun q => by have q : w.heap.size = w.heap.size + 1 + 1 := q; omega)) ?_; (all_goals (first | exact ⟨rfl, rfl⟩ | rfl)))); simp only [Act.put, L0, L1, L2]) | (refine Evo2.val ok 3 ?_ ?_ ?_; rotate_left; (focus (intro w' hg; refine Box.exec_load1 (off := 1) ?_ Tryz.underlying9 rfl (BE.out.chg (Chg.trans (Chg.refl (fun k => k = w.heap.size + 1 + 1) _) hg) (fun q => by have q : w.heap.size = w.heap.size + 1 + 1 := q; omega)) ?_; (all_goals (first | exact ⟨rfl, rfl⟩ | rfl)))); simp only [Act.put, L0, L1, L2]) | (refine Evo2.val ok 3 ?_ ?_ ?_; rotate_left; (focus (intro w' hg; refine Box.exec_load1 (off := 2) ?_ Tryz.underlying9 rfl (BE.out.chg (Chg.trans (Chg.refl (fun k => k = w.heap.size + 1 + 1) _) hg) (fun q => by have q : w.heap.size = w.heap.size + 1 + 1 := q; omega)) ?_; (all_goals (first | exact ⟨rfl, rfl⟩ | rfl)))); simp only [Act.put, L0, L1, L2]) | (refine Evo2.val ok 3 ?_ ?_ ?_; rotate_left; (focus (intro w' hg; refine Box.exec_load1 (off := 4) ?_ Tryz.underlying3 rfl (BE.out.chg (Chg.trans (Chg.refl (fun k => k = w.heap.size + 1 + 1) _) hg) (fun q => by have q : w.heap.size = w.heap.size + 1 + 1 := q; omega)) ?_; (all_goals (first | exact ⟨rfl, rfl⟩ | rfl)))); simp only [Act.put, L0, L1, L2]) | (refine Evo2.va ok 3 _ _ ?_)
 refine Evo2.va ok 4 _ _ ?_
 first | (refine Evo2.val ok 5 ?_ ?_ ?_; rotate_left; (focus (intro w' hg; refine Box.exec_load1 (off := 3) ?_ Tryz.underlying3 rfl (BE.out.chg (Chg.trans (Chg.refl (fun k => k = w.heap.size + 1 + 1) _) hg) (fun q => by have q : w.heap.size = w.heap.size + 1 + 1 := q; omega)) ?_; (all_goals (first | exact ⟨rfl, rfl⟩ | rfl)))); simp only [Act.put, L0, L1, L2]) | (refine Evo2.val ok 5 ?_ ?_ ?_; rotate_left; (focus (intro w' hg; refine Box.exec_load1 (off := 1) ?_ Tryz.underlying9 rfl (BE.out.chg (Chg.trans (Chg.refl (fun k => k = w.heap.size + 1 + 1) _) hg) (fun q => by have q : w.heap.size = w.heap.size + 1 + 1 := q; omega)) ?_; (all_goals (first | exact ⟨rfl, rfl⟩ | rfl)))); simp only [Act.put, L0, L1, L2]) | (refine Evo2.val ok 5 ?_ ?_ ?_; rotate_left; (focus (intro w' hg; refine Box.exec_load1 (off := 2) ?_ Tryz.underlying9 rfl (BE.out.chg (Chg.trans (Chg.refl (fun k => k = w.heap.size + 1 + 1) _) hg) (fun q => by have q : w.heap.size = w.heap.size + 1 + 1 := q; omega)) ?_; (all_goals (first | exact ⟨rfl, rfl⟩ | rfl)))); simp only [Act.put, L0, L1, L2]) | (refine Evo2.val ok 5 ?_ ?_ ?_; rotate_left; (focus (intro w' hg; refine Box.exec_load1 (off := 4) ?_ Tryz.underlying3 rfl (BE.out.chg (Chg.trans (Chg.refl (fun k => k = w.heap.size + 1 + 1) _) hg) (fun q => by have q : w.heap.size = w.heap.size + 1 + 1 := q; omega)) ?_; (all_goals (first | exact ⟨rfl, rfl⟩ | rfl)))); simp only [Act.put, L0, L1, L2]) | (refine Evo2.va ok 5 _ _ ?_)
 refine Evo2.va ok 6 _ _ ?_
 first | (refine Evo2.val ok 7 ?_ ?_ ?_; rotate_left; (focus (intro w' hg; refine Box.exec_load1 (off := 3) ?_ Tryz.underlying3 rfl (BE.out.chg (Chg.trans (Chg.refl (fun k => k = w.heap.size + 1 + 1) _) hg) (fun q => by have q : w.heap.size = w.heap.size + 1 + 1 := q; omega)) ?_; (all_goals (first | exact ⟨rfl, rfl⟩ | rfl)))); simp only [Act.put, L0, L1, L2]) | (refine Evo2.val ok 7 ?_ ?_ ?_; rotate_left; (focus (intro w' hg; refine Box.exec_load1 (off := 1) ?_ Tryz.underlying9 rfl (BE.out.chg (Chg.trans (Chg.refl (fun k => k = w.heap.size + 1 + 1) _) hg) (fun q => by have q : w.heap.size = w.heap.size + 1 + 1 := q; omega)) ?_; (all_goals (first | exact ⟨rfl, rfl⟩ | rfl)))); simp only [Act.put, L0, L1, L2]) | (refine Evo2.val ok 7 ?_ ?_ ?_; rotate_left; (focus (intro w' hg; refine Box.exec_load1 (off := 2) ?_ Tryz.underlying9 rfl (BE.out.chg (Chg.trans (Chg.refl (fun k => k = w.heap.size + 1 + 1) _) hg) (fun q => by have q : w.heap.size = w.heap.size + 1 + 1 := q; omega)) ?_; (all_goals (first | exact ⟨rfl, rfl⟩ | rfl)))); simp only [Act.put, L0, L1, L2]) | (refine Evo2.val ok 7 ?_ ?_ ?_; rotate_left; (focus (intro w' hg; refine Box.exec_load1 (off := 4) ?_ Tryz.underlying3 rfl (BE.out.chg (Chg.trans (Chg.refl (fun k => k = w.heap.size + 1 + 1) _) hg) (fun q => by have q : w.heap.size = w.heap.size + 1 + 1 := q; omega)) ?_; (all_goals (first | exact ⟨rfl, rfl⟩ | rfl)))); simp only [Act.put, L0, L1, L2]) | (refine Evo2.va ok 7 _ _ ?_)
 refine Evo2.va ok 8 _ _ ?_
 refine Evo2.all [9] (by decide +kernel) rfl ?_
 intro wp1 gp1 iq hq
 simp only [List.mem_cons, List.mem_nil_iff, or_false] at hq
 have AP1 := Chg.trans (Chg.refl (fun k => k = w.heap.size + 1 + 1) _) (Chg.grow gp1)
 subst hq
 refine Evo2.runs (by rfl) (by rfl) (fun K' hK' => ?_)
 have BQ1 := Lib.hid ((B0.out).grow gp1); (try simp only [List.setIfInBounds_toArray, List.set_cons_zero, List.set_cons_succ] at BQ1); have gl1 := BQ1.out.lt; have e3 := evd BQ1.out (i := 3) rfl; have f3 := BQ1.out.free 3
 go_simp
 (try (simp only [Evo.after_value, Evo.after_skip]))
 refine hK'.out _ _ ?_
 clear hK'
 simp only [Act.put, L0, L1, L2]
 (try clear gl1 e3 f3)
 refine ⟨.inr (by (repeat refine Chg.setCell ?_ (fun _ => by first | rfl | (simp; done) | (simp; omega)) _ _); exact Chg.refl _ _), ?_⟩
 refine Evo2.va ok 10 _ _ ?_
 refine Evo2.all [11] (by decide +kernel) rfl ?_
 intro wp2 gp2 iq hq
 simp only [List.mem_cons, List.mem_nil_iff, or_false] at hq
 have AP2 := Chg.trans (Chg.trans AP1 (by (repeat refine Chg.setCell ?_ (fun _ => by first | rfl | (simp; done) | (simp; omega)) _ _); exact Chg.refl _ _)) (Chg.grow gp2)
 subst hq
 refine Evo2.runs (by rfl) (by rfl) (fun K' hK' => ?_)
 have BQ2 := Lib.hid (((BQ1.out).set 3 (.int .i64 n)).grow gp2); (try simp only [List.setIfInBounds_toArray, List.set_cons_zero, List.set_cons_succ] at BQ2); have gl2 := BQ2.out.lt; have e1 := evd BQ2.out (i := 1) rfl; have f1 := BQ2.out.free 1
 go_simp
 (try (simp only [Evo.after_value, Evo.after_skip]))
 refine hK'.out _ _ ?_
 clear hK'
 simp only [Act.put, L0, L1, L2]
 (try clear gl2 e1 f1)
 refine ⟨.inr (by (repeat refine Chg.setCell ?_ (fun _ => by first | rfl | (simp; done) | (simp; omega)) _ _); exact Chg.refl _ _), ?_⟩
 refine Evo2.va ok 12 _ _ ?_
 refine Evo2.all [13] (by decide +kernel) rfl ?_
 intro wp3 gp3 iq hq
 simp only [List.mem_cons, List.mem_nil_iff, or_false] at hq
 have AP3 := Chg.trans (Chg.trans AP2 (by (repeat refine Chg.setCell ?_ (fun _ => by first | rfl | (simp; done) | (simp; omega)) _ _); exact Chg.refl _ _)) (Chg.grow gp3)
 subst hq
 refine Evo2.runs (by rfl) (by rfl) (fun K' hK' => ?_)
 have BQ3 := Lib.hid (((BQ2.out).set 1 (.string nm)).grow gp3); (try simp only [List.setIfInBounds_toArray, List.set_cons_zero, List.set_cons_succ] at BQ3); have gl3 := BQ3.out.lt; have e2 := evd BQ3.out (i := 2) rfl; have f2 := BQ3.out.free 2
 go_simp
 (try (simp only [Evo.after_value, Evo.after_skip]))
 refine hK'.out _ _ ?_
 clear hK'
 simp only [Act.put, L0, L1, L2]
 (try clear gl3 e2 f2)
 refine ⟨.inr (by (repeat refine Chg.setCell ?_ (fun _ => by first | rfl | (simp; done) | (simp; omega)) _ _); exact Chg.refl _ _), ?_⟩
 refine Evo2.va ok 14 _ _ ?_
 refine Evo2.all [15] (by decide +kernel) rfl ?_
 intro wp4 gp4 iq hq
 simp only [List.mem_cons, List.mem_nil_iff, or_false] at hq
 have AP4 := Chg.trans (Chg.trans AP3 (by (repeat refine Chg.setCell ?_ (fun _ => by first | rfl | (simp; done) | (simp; omega)) _ _); exact Chg.refl _ _)) (Chg.grow gp4)
 subst hq
 refine Evo2.runs (by rfl) (by rfl) (fun K' hK' => ?_)
 have BQ4 := Lib.hid (((BQ3.out).set 2 (.string tg)).grow gp4); (try simp only [List.setIfInBounds_toArray, List.set_cons_zero, List.set_cons_succ] at BQ4); have gl4 := BQ4.out.lt; have e4 := evd BQ4.out (i := 4) rfl; have f4 := BQ4.out.free 4
 go_simp
 (try (simp only [Evo.after_value, Evo.after_skip]))
 refine hK'.out _ _ ?_
 clear hK'
 simp only [Act.put, L0, L1, L2]
 (try clear gl4 e4 f4)
 refine ⟨.inr (by (repeat refine Chg.setCell ?_ (fun _ => by first | rfl | (simp; done) | (simp; omega)) _ _); exact Chg.refl _ _), ?_⟩
 refine Evo2.done (by decide +kernel) (fun wz gz => ?_)
 have AZ := Chg.trans (Chg.trans AP4 (by (repeat refine Chg.setCell ?_ (fun _ => by first | rfl | (simp; done) | (simp; omega)) _ _); exact Chg.refl _ _)) (Chg.grow gz)
 have BZ := ((BQ4.out).set 4 (.int .i64 dr)).grow gz
 simp only [List.setIfInBounds_toArray, List.set_cons_zero, List.set_cons_succ] at BZ
 have HMz := HM.out.set (i := 2) rfl BZ AZ
 simp only [K0, K1, L1, L2, K2, K3, K4, K5, K6, K7, Nat.reduceAdd, Nat.reduceSub] at HMz
 replace HM := Lib.hid HMz
 clear HMz BZ AZ
 go_wp2_with (first | (refine Mem.loadAll 2 (t := 28) rfl rfl rfl Tryz.underlying28 CE HM.out rfl rfl ?_) | (refine Mem.storeAll 1 (t := 28) rfl rfl rfl rfl CE HM.out rfl rfl rfl rfl ?_; intro wn9 HM9 C9))
 simp only [K0, K1, L1, L2, K2, K3, K4, K5, K6, K7, Nat.reduceAdd, Nat.reduceSub] at HM9
 replace HM := Lib.hid HM9
 clear HM9
 refine Stay.go ?_
 have BF := HM.out.blk (i := 1) rfl
 go_wp2_with fail
 exact bodyPost_ret (v := .agg #[.int .i64 4, .string nm, .string tg, .int .i64 n, .int .i64 dr, .string ⟨#[]⟩, .int .i64 0, .int .i64 0, .int .i64 0, .int .i64 0, .int .i64 0, .string ⟨#[]⟩, .string ⟨#[]⟩, .slice none 0 0, .int .i64 0]) (by simp [results, Tryz.results33, go_sem, BF.cell]) rfl ⟨rfl, HM.out.below⟩

set_option maxHeartbeats 8000000 in
theorem rkept_10 (nm tg : ByteArray) (n dr : Int) (cn : ByteArray) (im co mn mx gr : Int) (rn rc : ByteArray) (a : Option Addr) (ts : List Tgt) (c : Nat) (rr : Int) (w : World) :
  Calls Tryz.prog 33 #[.agg #[.int .i64 10, .string nm, .string tg, .int .i64 n, .int .i64 dr, .string cn, .int .i64 im, .int .i64 co, .int .i64 mn, .int .i64 mx, .int .i64 gr, .string rn, .string rc, .slice a ts.length c, .int .i64 rr]] w fun x w' => x = .returned (.agg #[.int .i64 10, .string nm, .string ⟨#[]⟩, .int .i64 0, .int .i64 0, .string ⟨#[]⟩, .int .i64 0, .int .i64 0, .int .i64 0, .int .i64 0, .int .i64 0, .string ⟨#[]⟩, .string ⟨#[]⟩, .slice none 0 0, .int .i64 0]) ∧ Below w.heap.size w w' := by
 have CE : (Tryz.prog.info? 28).map (·.size) = some 15 := by kernel_rfl
 have CI : (Tryz.prog.info? 3).map (·.size) = some 1 := by kernel_rfl
 have CS : (Tryz.prog.info? 9).map (·.size) = some 1 := by kernel_rfl
 have CC : (Tryz.prog.info? 23).map (·.size) = some 6 := by kernel_rfl
 have CR : (Tryz.prog.info? 26).map (·.size) = some 4 := by kernel_rfl
 go_enter Tryz.func33, Tryz.ntmps33
 go_wp2_with (refine Mem.storeAll 2 (t := 28) rfl rfl rfl rfl CE (Mem.alloc' (Mem.alloc' (Mem.alloc' (Mem.nil w) _ _ (g := w.heap.size) rfl) _ _ (g := w.heap.size + 1) (by simp)) _ _ (g := w.heap.size + 1 + 1) (by simp)) rfl rfl rfl rfl ?_; intro wn0 HM0 C0)
 simp only [K0, K1, L1, L2, K2, K3, K4, K5, K6, K7, Nat.reduceAdd, Nat.reduceSub] at HM0
 have HM := Lib.hid HM0
 clear HM0
 refine Stay.go ?_
 go_wp2_with (first | (refine Mem.load1 0 (t := 3) rfl rfl rfl Tryz.underlying3 rfl HM.out rfl rfl ?_) | (refine Mem.load1 0 (t := 9) rfl rfl rfl Tryz.underlying9 rfl HM.out rfl rfl ?_) | (refine Mem.store 2 (t := 9) rfl rfl rfl rfl (vs := [.string nm]) rfl CS HM.out rfl rfl (by simp) rfl ?_; intro wn1 HM1 C1))
 simp only [K0, K1, L1, L2, K2, K3, K4, K5, K6, K7, Nat.reduceAdd, Nat.reduceSub] at HM1
 replace HM := Lib.hid HM1
 clear HM1
 refine Stay.go ?_
 go_wp2_with (first | (refine Mem.loadAll 2 (t := 28) rfl rfl rfl Tryz.underlying28 CE HM.out rfl rfl ?_) | (refine Mem.storeAll 1 (t := 28) rfl rfl rfl rfl CE HM.out rfl rfl rfl rfl ?_; intro wn9 HM9 C9))
 simp only [K0, K1, L1, L2, K2, K3, K4, K5, K6, K7, Nat.reduceAdd, Nat.reduceSub] at HM9
 replace HM := Lib.hid HM9
 clear HM9
 refine Stay.go ?_
 have BF := HM.out.blk (i := 1) rfl
 go_wp2_with fail
 exact bodyPost_ret (v := .agg #[.int .i64 10, .string nm, .string ⟨#[]⟩, .int .i64 0, .int .i64 0, .string ⟨#[]⟩, .int .i64 0, .int .i64 0, .int .i64 0, .int .i64 0, .int .i64 0, .string ⟨#[]⟩, .string ⟨#[]⟩, .slice none 0 0, .int .i64 0]) (by simp [results, Tryz.results33, go_sem, BF.cell]) rfl ⟨rfl, HM.out.below⟩

set_option maxHeartbeats 8000000 in
theorem rkept_11 (nm tg : ByteArray) (n dr : Int) (cn : ByteArray) (im co mn mx gr : Int) (rn rc : ByteArray) (a : Option Addr) (ts : List Tgt) (c : Nat) (rr : Int) (w : World) :
  Calls Tryz.prog 33 #[.agg #[.int .i64 11, .string nm, .string tg, .int .i64 n, .int .i64 dr, .string cn, .int .i64 im, .int .i64 co, .int .i64 mn, .int .i64 mx, .int .i64 gr, .string rn, .string rc, .slice a ts.length c, .int .i64 rr]] w fun x w' => x = .returned (.agg #[.int .i64 11, .string nm, .string ⟨#[]⟩, .int .i64 0, .int .i64 0, .string ⟨#[]⟩, .int .i64 0, .int .i64 0, .int .i64 0, .int .i64 0, .int .i64 0, .string ⟨#[]⟩, .string ⟨#[]⟩, .slice none 0 0, .int .i64 0]) ∧ Below w.heap.size w w' := by
 have CE : (Tryz.prog.info? 28).map (·.size) = some 15 := by kernel_rfl
 have CI : (Tryz.prog.info? 3).map (·.size) = some 1 := by kernel_rfl
 have CS : (Tryz.prog.info? 9).map (·.size) = some 1 := by kernel_rfl
 have CC : (Tryz.prog.info? 23).map (·.size) = some 6 := by kernel_rfl
 have CR : (Tryz.prog.info? 26).map (·.size) = some 4 := by kernel_rfl
 go_enter Tryz.func33, Tryz.ntmps33
 go_wp2_with (refine Mem.storeAll 2 (t := 28) rfl rfl rfl rfl CE (Mem.alloc' (Mem.alloc' (Mem.alloc' (Mem.nil w) _ _ (g := w.heap.size) rfl) _ _ (g := w.heap.size + 1) (by simp)) _ _ (g := w.heap.size + 1 + 1) (by simp)) rfl rfl rfl rfl ?_; intro wn0 HM0 C0)
 simp only [K0, K1, L1, L2, K2, K3, K4, K5, K6, K7, Nat.reduceAdd, Nat.reduceSub] at HM0
 have HM := Lib.hid HM0
 clear HM0
 refine Stay.go ?_
 go_wp2_with (first | (refine Mem.load1 0 (t := 3) rfl rfl rfl Tryz.underlying3 rfl HM.out rfl rfl ?_) | (refine Mem.load1 0 (t := 9) rfl rfl rfl Tryz.underlying9 rfl HM.out rfl rfl ?_) | (refine Mem.store 2 (t := 9) rfl rfl rfl rfl (vs := [.string nm]) rfl CS HM.out rfl rfl (by simp) rfl ?_; intro wn1 HM1 C1))
 simp only [K0, K1, L1, L2, K2, K3, K4, K5, K6, K7, Nat.reduceAdd, Nat.reduceSub] at HM1
 replace HM := Lib.hid HM1
 clear HM1
 refine Stay.go ?_
 go_wp2_with (first | (refine Mem.loadAll 2 (t := 28) rfl rfl rfl Tryz.underlying28 CE HM.out rfl rfl ?_) | (refine Mem.storeAll 1 (t := 28) rfl rfl rfl rfl CE HM.out rfl rfl rfl rfl ?_; intro wn9 HM9 C9))
 simp only [K0, K1, L1, L2, K2, K3, K4, K5, K6, K7, Nat.reduceAdd, Nat.reduceSub] at HM9
 replace HM := Lib.hid HM9
 clear HM9
 refine Stay.go ?_
 have BF := HM.out.blk (i := 1) rfl
 go_wp2_with fail
 exact bodyPost_ret (v := .agg #[.int .i64 11, .string nm, .string ⟨#[]⟩, .int .i64 0, .int .i64 0, .string ⟨#[]⟩, .int .i64 0, .int .i64 0, .int .i64 0, .int .i64 0, .int .i64 0, .string ⟨#[]⟩, .string ⟨#[]⟩, .slice none 0 0, .int .i64 0]) (by simp [results, Tryz.results33, go_sem, BF.cell]) rfl ⟨rfl, HM.out.below⟩

set_option maxHeartbeats 8000000 in
theorem rkept_12 (nm tg : ByteArray) (n dr : Int) (cn : ByteArray) (im co mn mx gr : Int) (rn rc : ByteArray) (a : Option Addr) (ts : List Tgt) (c : Nat) (rr : Int) (w : World) :
  Calls Tryz.prog 33 #[.agg #[.int .i64 12, .string nm, .string tg, .int .i64 n, .int .i64 dr, .string cn, .int .i64 im, .int .i64 co, .int .i64 mn, .int .i64 mx, .int .i64 gr, .string rn, .string rc, .slice a ts.length c, .int .i64 rr]] w fun x w' => x = .returned (.agg #[.int .i64 12, .string nm, .string ⟨#[]⟩, .int .i64 0, .int .i64 0, .string ⟨#[]⟩, .int .i64 0, .int .i64 0, .int .i64 0, .int .i64 0, .int .i64 0, .string ⟨#[]⟩, .string ⟨#[]⟩, .slice none 0 0, .int .i64 0]) ∧ Below w.heap.size w w' := by
 have CE : (Tryz.prog.info? 28).map (·.size) = some 15 := by kernel_rfl
 have CI : (Tryz.prog.info? 3).map (·.size) = some 1 := by kernel_rfl
 have CS : (Tryz.prog.info? 9).map (·.size) = some 1 := by kernel_rfl
 have CC : (Tryz.prog.info? 23).map (·.size) = some 6 := by kernel_rfl
 have CR : (Tryz.prog.info? 26).map (·.size) = some 4 := by kernel_rfl
 go_enter Tryz.func33, Tryz.ntmps33
 go_wp2_with (refine Mem.storeAll 2 (t := 28) rfl rfl rfl rfl CE (Mem.alloc' (Mem.alloc' (Mem.alloc' (Mem.nil w) _ _ (g := w.heap.size) rfl) _ _ (g := w.heap.size + 1) (by simp)) _ _ (g := w.heap.size + 1 + 1) (by simp)) rfl rfl rfl rfl ?_; intro wn0 HM0 C0)
 simp only [K0, K1, L1, L2, K2, K3, K4, K5, K6, K7, Nat.reduceAdd, Nat.reduceSub] at HM0
 have HM := Lib.hid HM0
 clear HM0
 refine Stay.go ?_
 go_wp2_with (first | (refine Mem.load1 0 (t := 3) rfl rfl rfl Tryz.underlying3 rfl HM.out rfl rfl ?_) | (refine Mem.load1 0 (t := 9) rfl rfl rfl Tryz.underlying9 rfl HM.out rfl rfl ?_) | (refine Mem.store 2 (t := 9) rfl rfl rfl rfl (vs := [.string nm]) rfl CS HM.out rfl rfl (by simp) rfl ?_; intro wn1 HM1 C1))
 simp only [K0, K1, L1, L2, K2, K3, K4, K5, K6, K7, Nat.reduceAdd, Nat.reduceSub] at HM1
 replace HM := Lib.hid HM1
 clear HM1
 refine Stay.go ?_
 go_wp2_with (first | (refine Mem.loadAll 2 (t := 28) rfl rfl rfl Tryz.underlying28 CE HM.out rfl rfl ?_) | (refine Mem.storeAll 1 (t := 28) rfl rfl rfl rfl CE HM.out rfl rfl rfl rfl ?_; intro wn9 HM9 C9))
 simp only [K0, K1, L1, L2, K2, K3, K4, K5, K6, K7, Nat.reduceAdd, Nat.reduceSub] at HM9
 replace HM := Lib.hid HM9
 clear HM9
 refine Stay.go ?_
 have BF := HM.out.blk (i := 1) rfl
 go_wp2_with fail
 exact bodyPost_ret (v := .agg #[.int .i64 12, .string nm, .string ⟨#[]⟩, .int .i64 0, .int .i64 0, .string ⟨#[]⟩, .int .i64 0, .int .i64 0, .int .i64 0, .int .i64 0, .int .i64 0, .string ⟨#[]⟩, .string ⟨#[]⟩, .slice none 0 0, .int .i64 0]) (by simp [results, Tryz.results33, go_sem, BF.cell]) rfl ⟨rfl, HM.out.below⟩

set_option maxHeartbeats 8000000 in
theorem rkept_13 (nm tg : ByteArray) (n dr : Int) (cn : ByteArray) (im co mn mx gr : Int) (rn rc : ByteArray) (a : Option Addr) (ts : List Tgt) (c : Nat) (rr : Int) (w : World) :
  Calls Tryz.prog 33 #[.agg #[.int .i64 13, .string nm, .string tg, .int .i64 n, .int .i64 dr, .string cn, .int .i64 im, .int .i64 co, .int .i64 mn, .int .i64 mx, .int .i64 gr, .string rn, .string rc, .slice a ts.length c, .int .i64 rr]] w fun x w' => x = .returned (.agg #[.int .i64 13, .string nm, .string ⟨#[]⟩, .int .i64 0, .int .i64 0, .string ⟨#[]⟩, .int .i64 0, .int .i64 0, .int .i64 0, .int .i64 0, .int .i64 0, .string ⟨#[]⟩, .string ⟨#[]⟩, .slice none 0 0, .int .i64 0]) ∧ Below w.heap.size w w' := by
 have CE : (Tryz.prog.info? 28).map (·.size) = some 15 := by kernel_rfl
 have CI : (Tryz.prog.info? 3).map (·.size) = some 1 := by kernel_rfl
 have CS : (Tryz.prog.info? 9).map (·.size) = some 1 := by kernel_rfl
 have CC : (Tryz.prog.info? 23).map (·.size) = some 6 := by kernel_rfl
 have CR : (Tryz.prog.info? 26).map (·.size) = some 4 := by kernel_rfl
 go_enter Tryz.func33, Tryz.ntmps33
 go_wp2_with (refine Mem.storeAll 2 (t := 28) rfl rfl rfl rfl CE (Mem.alloc' (Mem.alloc' (Mem.alloc' (Mem.nil w) _ _ (g := w.heap.size) rfl) _ _ (g := w.heap.size + 1) (by simp)) _ _ (g := w.heap.size + 1 + 1) (by simp)) rfl rfl rfl rfl ?_; intro wn0 HM0 C0)
 simp only [K0, K1, L1, L2, K2, K3, K4, K5, K6, K7, Nat.reduceAdd, Nat.reduceSub] at HM0
 have HM := Lib.hid HM0
 clear HM0
 refine Stay.go ?_
 go_wp2_with (first | (refine Mem.load1 0 (t := 3) rfl rfl rfl Tryz.underlying3 rfl HM.out rfl rfl ?_) | (refine Mem.load1 0 (t := 9) rfl rfl rfl Tryz.underlying9 rfl HM.out rfl rfl ?_) | (refine Mem.store 2 (t := 9) rfl rfl rfl rfl (vs := [.string nm]) rfl CS HM.out rfl rfl (by simp) rfl ?_; intro wn1 HM1 C1))
 simp only [K0, K1, L1, L2, K2, K3, K4, K5, K6, K7, Nat.reduceAdd, Nat.reduceSub] at HM1
 replace HM := Lib.hid HM1
 clear HM1
 refine Stay.go ?_
 go_wp2_with (first | (refine Mem.loadAll 2 (t := 28) rfl rfl rfl Tryz.underlying28 CE HM.out rfl rfl ?_) | (refine Mem.storeAll 1 (t := 28) rfl rfl rfl rfl CE HM.out rfl rfl rfl rfl ?_; intro wn9 HM9 C9))
 simp only [K0, K1, L1, L2, K2, K3, K4, K5, K6, K7, Nat.reduceAdd, Nat.reduceSub] at HM9
 replace HM := Lib.hid HM9
 clear HM9
 refine Stay.go ?_
 have BF := HM.out.blk (i := 1) rfl
 go_wp2_with fail
 exact bodyPost_ret (v := .agg #[.int .i64 13, .string nm, .string ⟨#[]⟩, .int .i64 0, .int .i64 0, .string ⟨#[]⟩, .int .i64 0, .int .i64 0, .int .i64 0, .int .i64 0, .int .i64 0, .string ⟨#[]⟩, .string ⟨#[]⟩, .slice none 0 0, .int .i64 0]) (by simp [results, Tryz.results33, go_sem, BF.cell]) rfl ⟨rfl, HM.out.below⟩

theorem grow_v {P : Program} {f : FuncId} {args : Array Value} {w : World} {v : Value} (h : Calls P f args w fun e w' => e = .returned v ∧ w = w') : Calls P f args w fun e w' => e = .returned v ∧ Grow.G w w' :=
 h.mono fun e w' h => ⟨h.1, h.2 ▸ Grow.G.refl _⟩
theorem rnumber_v (n least : Int) (w : World) : Calls Tryz.prog 36 #[.int .i64 n, .int .i64 least] w fun e w' => e = .returned (.int .i64 (numE n least)) ∧ Grow.G w w' := grow_v (rnumber_any n least w)
theorem rnamed_v (b : Bool) (w : World) : Calls Tryz.prog 39 #[.bool b] w fun e w' => e = .returned (.int .i64 (nmdE b)) ∧ Grow.G w w' := grow_v (rnamedE_any b w)
theorem rfirst_v (zs : List Int) (b : Nat) (w : World) (hl : zs.length ≤ 1000) {cs : Array Value} (hb' : w.heap[b]? = some (.cells cs 3 (0, 0))) (hc : cs = (zs.map (Value.int .i64)).toArray) {n : Nat} (hn : n = zs.length) :
  Calls Tryz.prog 35 #[.slice (some ⟨b, 0, none⟩) n n] w fun e w' => e = .returned (.int .i64 (fst0 zs)) ∧ Grow.G w w' := by
 subst hn
 have hb : Blk w b ((zs.map (Value.int .i64)).toArray) 3 := hc ▸ hb'
 refine grow_v (rfirst_any b 0 zs.length zs w hl fun i hi => ?_)
 rw [Nat.zero_add]
 refine hb.at ?_
 simp [List.getD, hi]
end Go.Proofs.YtnkekdmikopdgaaGreat
