/- The walk of EventKnown. -/
import Derived.Test.YtnkekdmikopdgaaGreatZ16
import Derived.Test.YtnkekdmikopdgaaGreatZ17
import Derived.Test.YtnkekdmikopdgaaGreatZ12
import Derived.Test.YtnkekdmikopdgaaGreatZ15
import Derived.Test.YtnkekdmikopdgaaGreatKnownB
namespace Go.Proofs.YtnkekdmikopdgaaGreat
set_option maxRecDepth 100000
set_option linter.unusedVariables false
set_option linter.unusedSimpArgs false
set_option linter.unnecessarySimpa false
open Go.RowKit

theorem kn_16 : evParse [12, 1, 97] = (ev0, 1) := by decide +kernel
theorem kn_17 : evParse [1, 0, 0, 0, 0, 1, 97, 7, 0, 0, 3, 4] = (ev0, 2) := by decide +kernel
theorem kn_18 : evParse [2, 0, 0, 0, 6, 1, 114, 1, 97, 9, 0] = (ev0, 3) := by decide +kernel
theorem kn_19 : evParse [5, 128, 0, 0, 0] = (ev0, 2) := by decide +kernel
set_option maxHeartbeats 16000000 in
theorem known_16 (w : World) (wh : Int) (hwh : wf64 wh) (hq : withinI wh 20 = 16 ∨ withinI wh 20 = 17 ∨ withinI wh 20 = 18 ∨ withinI wh 20 = 19) :
    Calls Tryz.prog 8 #[.int .i64 wh] w fun e w' => e = .returned (.bool true) ∧ Below w.heap.size w w' := by
  have WI := Lib.hid (fun w => within3_any wh 20 w (by omega) (by omega) hwh.1 hwh.2)
  have r20 := withinI_range wh 20 (by omega)
  generalize withinI wh 20 = q at *
  have CE : (Tryz.prog.info? 28).map (·.size) = some 15 := by kernel_rfl
  clear hwh r20
  go_enter Tryz.func8, Tryz.ntmps8
  go_wp2_with fail
  refine (known3_any _).mono ?_
  rintro e wn1 ⟨rfl, hb1⟩
  have HMk := Lib.hid ((Mem.nil w).grow hb1)
  clear hb1
  go_wp2_with fail
  have HM0 := HMk.out
  have HM1 := Mem.alloc' HM0 [.int .u8 9] 5 (g := wn1.heap.size) (by simp)
  clear HM0
  have HM2 := Mem.alloc' HM1 [.int .u8 5, .int .u8 0, .int .u8 0, .int .u8 1, .int .u8 2] 5 (g := wn1.heap.size + 1) (by simp)
  clear HM1
  have HM3 := Mem.alloc' HM2 [.int .u8 10, .int .u8 3, .int .u8 119, .int .u8 101, .int .u8 98] 5 (g := wn1.heap.size + 1 + 1) (by simp)
  clear HM2
  have HM4 := Mem.alloc' HM3 [.int .u8 12, .int .u8 3, .int .u8 97, .int .u8 45, .int .u8 55] 5 (g := wn1.heap.size + 1 + 1 + 1) (by simp)
  clear HM3
  have HM5 := Mem.alloc' HM4 [.int .u8 4, .int .u8 0, .int .u8 0, .int .u8 0, .int .u8 9, .int .u8 1, .int .u8 114, .int .u8 0, .int .u8 0, .int .u8 0, .int .u8 0, .int .u8 200] 5 (g := wn1.heap.size + 1 + 1 + 1 + 1) (by simp)
  clear HM4
  have HM6 := Mem.alloc' HM5 [.int .u8 3, .int .u8 0, .int .u8 0, .int .u8 0, .int .u8 2, .int .u8 1, .int .u8 114, .int .u8 0, .int .u8 0, .int .u8 0, .int .u8 5] 5 (g := wn1.heap.size + 1 + 1 + 1 + 1 + 1) (by simp)
  clear HM5
  have HM7 := Mem.alloc' HM6 [.int .u8 1, .int .u8 0, .int .u8 0, .int .u8 0, .int .u8 0, .int .u8 1, .int .u8 97, .int .u8 7, .int .u8 2, .int .u8 0, .int .u8 3, .int .u8 4] 5 (g := wn1.heap.size + 1 + 1 + 1 + 1 + 1 + 1) (by simp)
  clear HM6
  have HM8 := Mem.alloc' HM7 [.int .u8 2, .int .u8 0, .int .u8 0, .int .u8 0, .int .u8 6, .int .u8 1, .int .u8 114, .int .u8 1, .int .u8 97, .int .u8 9, .int .u8 1, .int .u8 0, .int .u8 1, .int .u8 116, .int .u8 100] 5 (g := wn1.heap.size + 1 + 1 + 1 + 1 + 1 + 1 + 1) (by simp)
  clear HM7
  have HM9 := Mem.alloc' HM8 [] 5 (g := wn1.heap.size + 1 + 1 + 1 + 1 + 1 + 1 + 1 + 1) (by simp)
  clear HM8
  have HM10 := Mem.alloc' HM9 [.int .u8 0] 5 (g := wn1.heap.size + 1 + 1 + 1 + 1 + 1 + 1 + 1 + 1 + 1) (by simp)
  clear HM9
  have HM11 := Mem.alloc' HM10 [.int .u8 14] 5 (g := wn1.heap.size + 1 + 1 + 1 + 1 + 1 + 1 + 1 + 1 + 1 + 1) (by simp)
  clear HM10
  have HM12 := Mem.alloc' HM11 [.int .u8 9, .int .u8 0] 5 (g := wn1.heap.size + 1 + 1 + 1 + 1 + 1 + 1 + 1 + 1 + 1 + 1 + 1) (by simp)
  clear HM11
  have HM13 := Mem.alloc' HM12 [.int .u8 5, .int .u8 0, .int .u8 0, .int .u8 0] 5 (g := wn1.heap.size + 1 + 1 + 1 + 1 + 1 + 1 + 1 + 1 + 1 + 1 + 1 + 1) (by simp)
  clear HM12
  have HM14 := Mem.alloc' HM13 [.int .u8 5, .int .u8 0, .int .u8 0, .int .u8 0, .int .u8 0] 5 (g := wn1.heap.size + 1 + 1 + 1 + 1 + 1 + 1 + 1 + 1 + 1 + 1 + 1 + 1 + 1) (by simp)
  clear HM13
  have HM15 := Mem.alloc' HM14 [.int .u8 10, .int .u8 0] 5 (g := wn1.heap.size + 1 + 1 + 1 + 1 + 1 + 1 + 1 + 1 + 1 + 1 + 1 + 1 + 1 + 1) (by simp)
  clear HM14
  have HM16 := Mem.alloc' HM15 [.int .u8 10, .int .u8 4, .int .u8 119, .int .u8 101, .int .u8 98] 5 (g := wn1.heap.size + 1 + 1 + 1 + 1 + 1 + 1 + 1 + 1 + 1 + 1 + 1 + 1 + 1 + 1 + 1) (by simp)
  clear HM15
  have HM17 := Mem.alloc' HM16 [.int .u8 12, .int .u8 1, .int .u8 97] 5 (g := wn1.heap.size + 1 + 1 + 1 + 1 + 1 + 1 + 1 + 1 + 1 + 1 + 1 + 1 + 1 + 1 + 1 + 1) (by simp)
  clear HM16
  have HM18 := Mem.alloc' HM17 [.int .u8 1, .int .u8 0, .int .u8 0, .int .u8 0, .int .u8 0, .int .u8 1, .int .u8 97, .int .u8 7, .int .u8 0, .int .u8 0, .int .u8 3, .int .u8 4] 5 (g := wn1.heap.size + 1 + 1 + 1 + 1 + 1 + 1 + 1 + 1 + 1 + 1 + 1 + 1 + 1 + 1 + 1 + 1 + 1) (by simp)
  clear HM17
  have HM19 := Mem.alloc' HM18 [.int .u8 2, .int .u8 0, .int .u8 0, .int .u8 0, .int .u8 6, .int .u8 1, .int .u8 114, .int .u8 1, .int .u8 97, .int .u8 9, .int .u8 0] 5 (g := wn1.heap.size + 1 + 1 + 1 + 1 + 1 + 1 + 1 + 1 + 1 + 1 + 1 + 1 + 1 + 1 + 1 + 1 + 1 + 1) (by simp)
  clear HM18
  have HM20 := Mem.alloc' HM19 [.int .u8 5, .int .u8 128, .int .u8 0, .int .u8 0, .int .u8 0] 5 (g := wn1.heap.size + 1 + 1 + 1 + 1 + 1 + 1 + 1 + 1 + 1 + 1 + 1 + 1 + 1 + 1 + 1 + 1 + 1 + 1 + 1) (by simp)
  clear HM19
  have HM21 := Mem.alloc' HM20 [.slice (some ⟨wn1.heap.size, 0, none⟩) 1 1, .slice (some ⟨wn1.heap.size + 1, 0, none⟩) 5 5, .slice (some ⟨wn1.heap.size + 1 + 1, 0, none⟩) 5 5, .slice (some ⟨wn1.heap.size + 1 + 1 + 1, 0, none⟩) 5 5, .slice (some ⟨wn1.heap.size + 1 + 1 + 1 + 1, 0, none⟩) 12 12, .slice (some ⟨wn1.heap.size + 1 + 1 + 1 + 1 + 1, 0, none⟩) 11 11, .slice (some ⟨wn1.heap.size + 1 + 1 + 1 + 1 + 1 + 1, 0, none⟩) 12 12, .slice (some ⟨wn1.heap.size + 1 + 1 + 1 + 1 + 1 + 1 + 1, 0, none⟩) 15 15, .slice (some ⟨wn1.heap.size + 1 + 1 + 1 + 1 + 1 + 1 + 1 + 1, 0, none⟩) 0 0, .slice (some ⟨wn1.heap.size + 1 + 1 + 1 + 1 + 1 + 1 + 1 + 1 + 1, 0, none⟩) 1 1, .slice (some ⟨wn1.heap.size + 1 + 1 + 1 + 1 + 1 + 1 + 1 + 1 + 1 + 1, 0, none⟩) 1 1, .slice (some ⟨wn1.heap.size + 1 + 1 + 1 + 1 + 1 + 1 + 1 + 1 + 1 + 1 + 1, 0, none⟩) 2 2, .slice (some ⟨wn1.heap.size + 1 + 1 + 1 + 1 + 1 + 1 + 1 + 1 + 1 + 1 + 1 + 1, 0, none⟩) 4 4, .slice (some ⟨wn1.heap.size + 1 + 1 + 1 + 1 + 1 + 1 + 1 + 1 + 1 + 1 + 1 + 1 + 1, 0, none⟩) 5 5, .slice (some ⟨wn1.heap.size + 1 + 1 + 1 + 1 + 1 + 1 + 1 + 1 + 1 + 1 + 1 + 1 + 1 + 1, 0, none⟩) 2 2, .slice (some ⟨wn1.heap.size + 1 + 1 + 1 + 1 + 1 + 1 + 1 + 1 + 1 + 1 + 1 + 1 + 1 + 1 + 1, 0, none⟩) 5 5, .slice (some ⟨wn1.heap.size + 1 + 1 + 1 + 1 + 1 + 1 + 1 + 1 + 1 + 1 + 1 + 1 + 1 + 1 + 1 + 1, 0, none⟩) 3 3, .slice (some ⟨wn1.heap.size + 1 + 1 + 1 + 1 + 1 + 1 + 1 + 1 + 1 + 1 + 1 + 1 + 1 + 1 + 1 + 1 + 1, 0, none⟩) 12 12, .slice (some ⟨wn1.heap.size + 1 + 1 + 1 + 1 + 1 + 1 + 1 + 1 + 1 + 1 + 1 + 1 + 1 + 1 + 1 + 1 + 1 + 1, 0, none⟩) 11 11, .slice (some ⟨wn1.heap.size + 1 + 1 + 1 + 1 + 1 + 1 + 1 + 1 + 1 + 1 + 1 + 1 + 1 + 1 + 1 + 1 + 1 + 1 + 1, 0, none⟩) 5 5] 41 (g := wn1.heap.size + 1 + 1 + 1 + 1 + 1 + 1 + 1 + 1 + 1 + 1 + 1 + 1 + 1 + 1 + 1 + 1 + 1 + 1 + 1 + 1) (by simp)
  clear HM20
  have HM22 := Mem.alloc' HM21 [.string ⟨#[]⟩, .string ⟨#[116]⟩, .int .i64 100] 39 (g := wn1.heap.size + 1 + 1 + 1 + 1 + 1 + 1 + 1 + 1 + 1 + 1 + 1 + 1 + 1 + 1 + 1 + 1 + 1 + 1 + 1 + 1 + 1) (by simp)
  clear HM21
  have HM23 := Mem.alloc' HM22 [.int .i64 9, .string ⟨#[]⟩, .string ⟨#[]⟩, .int .i64 0, .int .i64 0, .string ⟨#[]⟩, .int .i64 0, .int .i64 0, .int .i64 0, .int .i64 0, .int .i64 0, .string ⟨#[]⟩, .string ⟨#[]⟩, .slice none 0 0, .int .i64 0, .int .i64 5, .string ⟨#[]⟩, .string ⟨#[]⟩, .int .i64 258, .int .i64 0, .string ⟨#[]⟩, .int .i64 0, .int .i64 0, .int .i64 0, .int .i64 0, .int .i64 0, .string ⟨#[]⟩, .string ⟨#[]⟩, .slice none 0 0, .int .i64 0, .int .i64 10, .string ⟨#[119, 101, 98]⟩, .string ⟨#[]⟩, .int .i64 0, .int .i64 0, .string ⟨#[]⟩, .int .i64 0, .int .i64 0, .int .i64 0, .int .i64 0, .int .i64 0, .string ⟨#[]⟩, .string ⟨#[]⟩, .slice none 0 0, .int .i64 0, .int .i64 12, .string ⟨#[97, 45, 55]⟩, .string ⟨#[]⟩, .int .i64 0, .int .i64 0, .string ⟨#[]⟩, .int .i64 0, .int .i64 0, .int .i64 0, .int .i64 0, .int .i64 0, .string ⟨#[]⟩, .string ⟨#[]⟩, .slice none 0 0, .int .i64 0, .int .i64 4, .string ⟨#[114]⟩, .string ⟨#[]⟩, .int .i64 9, .int .i64 200, .string ⟨#[]⟩, .int .i64 0, .int .i64 0, .int .i64 0, .int .i64 0, .int .i64 0, .string ⟨#[]⟩, .string ⟨#[]⟩, .slice none 0 0, .int .i64 0, .int .i64 3, .string ⟨#[114]⟩, .string ⟨#[]⟩, .int .i64 2, .int .i64 5, .string ⟨#[]⟩, .int .i64 0, .int .i64 0, .int .i64 0, .int .i64 0, .int .i64 0, .string ⟨#[]⟩, .string ⟨#[]⟩, .slice none 0 0, .int .i64 0, .int .i64 1, .string ⟨#[]⟩, .string ⟨#[]⟩, .int .i64 0, .int .i64 0, .string ⟨#[97]⟩, .int .i64 7, .int .i64 2, .int .i64 0, .int .i64 3, .int .i64 4, .string ⟨#[]⟩, .string ⟨#[]⟩, .slice none 0 0, .int .i64 0, .int .i64 2, .string ⟨#[]⟩, .string ⟨#[]⟩, .int .i64 6, .int .i64 0, .string ⟨#[]⟩, .int .i64 0, .int .i64 0, .int .i64 0, .int .i64 0, .int .i64 0, .string ⟨#[114]⟩, .string ⟨#[97]⟩, .slice (some ⟨wn1.heap.size + 1 + 1 + 1 + 1 + 1 + 1 + 1 + 1 + 1 + 1 + 1 + 1 + 1 + 1 + 1 + 1 + 1 + 1 + 1 + 1 + 1, 0, none⟩) 1 1, .int .i64 9] 28 (g := wn1.heap.size + 1 + 1 + 1 + 1 + 1 + 1 + 1 + 1 + 1 + 1 + 1 + 1 + 1 + 1 + 1 + 1 + 1 + 1 + 1 + 1 + 1 + 1) (by simp)
  clear HM22
  have HM24 := Mem.alloc' HM23 [.int .i64 10, .int .i64 12, .int .i64 12, .int .i64 11, .int .i64 10, .int .i64 2, .int .i64 1, .int .i64 10, .int .i64 1, .int .i64 2, .int .i64 3, .int .i64 2] 33 (g := wn1.heap.size + 1 + 1 + 1 + 1 + 1 + 1 + 1 + 1 + 1 + 1 + 1 + 1 + 1 + 1 + 1 + 1 + 1 + 1 + 1 + 1 + 1 + 1 + 1) (by simp)
  clear HM23
  simp only [K0, K1, L1, L2, K2, K3, K4, K5, K6, K7, Nat.reduceAdd, Nat.reduceSub] at HM24
  refine calls_hide HM24 (fun W HMW => ?_)
  have HM := Lib.hid HMW
  clear HM24 HMk HMW
  refine (WI.out _).mono ?_
  rintro e wx ⟨rfl, rfl⟩
  rcases hq with rfl | rfl | rfl | rfl
  · have BK := Lib.hid (show Blk W (wn1.heap.size + 1 + 1 + 1 + 1 + 1 + 1 + 1 + 1 + 1 + 1 + 1 + 1 + 1 + 1 + 1 + 1) ((([12, 1, 97] : List Int).map (Value.int .u8)).toArray) 5 from HM.out.blk (i := 16) rfl)
    go_wp2_with (first | (refine Mem.load1 20 (t := 41) rfl rfl rfl Tryz.underlying41 rfl HM.out rfl rfl ?_))
    refine (show Calls Tryz.prog 19 #[.slice (some ⟨wn1.heap.size + 1 + 1 + 1 + 1 + 1 + 1 + 1 + 1 + 1 + 1 + 1 + 1 + 1 + 1 + 1 + 1, 0, none⟩) 3 3] W fun x w' => ParseR [12, 1, 97] W x w' from eparse_any (wn1.heap.size + 1 + 1 + 1 + 1 + 1 + 1 + 1 + 1 + 1 + 1 + 1 + 1 + 1 + 1 + 1 + 1) _ 3 [12, 1, 97] W (by_blk BK.out).2 (by intro x hx; first | (cases hx; done) | (simp at hx; omega))).mono ?_
    rintro e wn2 ⟨a2, c2, rfl, ht2, hg2⟩
    rw [kn_16] at ht2 ⊢
    dsimp only at ht2 ⊢
    have hm := HM.out.grow hg2
    replace HM := Lib.hid hm
    have HT2 := Lib.hid ht2
    have BK2 := Lib.hid (BK.out.grow hg2)
    clear hm ht2 hg2 BK
    go_wp2_with (refine Mem.storeAll 24 (t := 28) rfl rfl rfl rfl CE (Mem.alloc' HM.out _ _ rfl) rfl rfl rfl rfl ?_; intro wn3 HM3 C3)
    have HT3 := Lib.hid (HT2.out.past (Grow.G.alloc (Grow.G.refl _) _) C3 (Nat.le_refl _))
    simp only [K0, K1, L1, L2, K2, K3, K4, K5, K6, K7, Nat.reduceAdd, Nat.reduceSub] at HM3
    replace HM := Lib.hid HM3
    have BK3 := Lib.hid (show Blk wn3 (wn1.heap.size + 1 + 1 + 1 + 1 + 1 + 1 + 1 + 1 + 1 + 1 + 1 + 1 + 1 + 1 + 1 + 1) ((([12, 1, 97] : List Int).map (Value.int .u8)).toArray) 5 from HM3.blk (i := 16) rfl)
    have BX := Lib.hid (HM3.blk (i := 24) rfl)
    clear HM3 C3 HT2 BK2
    refine Stay.go ?_
    have e0 := evd BX.out (i := 0) rfl
    have e1 := evd BX.out (i := 1) rfl
    have e2 := evd BX.out (i := 2) rfl
    have e3 := evd BX.out (i := 3) rfl
    have e4 := evd BX.out (i := 4) rfl
    have e5 := evd BX.out (i := 5) rfl
    have e6 := evd BX.out (i := 6) rfl
    have e7 := evd BX.out (i := 7) rfl
    have e8 := evd BX.out (i := 8) rfl
    have e9 := evd BX.out (i := 9) rfl
    have e10 := evd BX.out (i := 10) rfl
    have e11 := evd BX.out (i := 11) rfl
    have e12 := evd BX.out (i := 12) rfl
    have e13 := evd BX.out (i := 13) rfl
    have e14 := evd BX.out (i := 14) rfl
    simp only [ev0, cfg0, ε, List.length_nil] at e0 e1 e2 e3 e4 e5 e6 e7 e8 e9 e10 e11 e12 e13 e14
    go_wp2_with (first | (refine Mem.load1 23 (t := 33) rfl rfl rfl Tryz.underlying33 rfl HM.out rfl rfl ?_))
    have SMX := rsame3_any ev0 ev0 a2 c2 none 0 wn3 HT3.out (.inl rfl) (by decide)
    rw [evB_iff.2 rfl] at SMX
    rw [ev0_cells, ev0_cells] at SMX
    refine SMX.mono ?_
    rintro e wn4 ⟨rfl, hb4⟩
    have HB9 := Lib.hid (HM.out.grow hb4).below
    clear SMX hb4
    go_wp2_with fail
    go_ret
    exact ⟨rfl, HB9.out⟩
  · have BK := Lib.hid (show Blk W (wn1.heap.size + 1 + 1 + 1 + 1 + 1 + 1 + 1 + 1 + 1 + 1 + 1 + 1 + 1 + 1 + 1 + 1 + 1) ((([1, 0, 0, 0, 0, 1, 97, 7, 0, 0, 3, 4] : List Int).map (Value.int .u8)).toArray) 5 from HM.out.blk (i := 17) rfl)
    go_wp2_with (first | (refine Mem.load1 20 (t := 41) rfl rfl rfl Tryz.underlying41 rfl HM.out rfl rfl ?_))
    refine (show Calls Tryz.prog 19 #[.slice (some ⟨wn1.heap.size + 1 + 1 + 1 + 1 + 1 + 1 + 1 + 1 + 1 + 1 + 1 + 1 + 1 + 1 + 1 + 1 + 1, 0, none⟩) 12 12] W fun x w' => ParseR [1, 0, 0, 0, 0, 1, 97, 7, 0, 0, 3, 4] W x w' from eparse_any (wn1.heap.size + 1 + 1 + 1 + 1 + 1 + 1 + 1 + 1 + 1 + 1 + 1 + 1 + 1 + 1 + 1 + 1 + 1) _ 12 [1, 0, 0, 0, 0, 1, 97, 7, 0, 0, 3, 4] W (by_blk BK.out).2 (by intro x hx; first | (cases hx; done) | (simp at hx; omega))).mono ?_
    rintro e wn2 ⟨a2, c2, rfl, ht2, hg2⟩
    rw [kn_17] at ht2 ⊢
    dsimp only at ht2 ⊢
    have hm := HM.out.grow hg2
    replace HM := Lib.hid hm
    have HT2 := Lib.hid ht2
    have BK2 := Lib.hid (BK.out.grow hg2)
    clear hm ht2 hg2 BK
    go_wp2_with (refine Mem.storeAll 24 (t := 28) rfl rfl rfl rfl CE (Mem.alloc' HM.out _ _ rfl) rfl rfl rfl rfl ?_; intro wn3 HM3 C3)
    have HT3 := Lib.hid (HT2.out.past (Grow.G.alloc (Grow.G.refl _) _) C3 (Nat.le_refl _))
    simp only [K0, K1, L1, L2, K2, K3, K4, K5, K6, K7, Nat.reduceAdd, Nat.reduceSub] at HM3
    replace HM := Lib.hid HM3
    have BK3 := Lib.hid (show Blk wn3 (wn1.heap.size + 1 + 1 + 1 + 1 + 1 + 1 + 1 + 1 + 1 + 1 + 1 + 1 + 1 + 1 + 1 + 1 + 1) ((([1, 0, 0, 0, 0, 1, 97, 7, 0, 0, 3, 4] : List Int).map (Value.int .u8)).toArray) 5 from HM3.blk (i := 17) rfl)
    have BX := Lib.hid (HM3.blk (i := 24) rfl)
    clear HM3 C3 HT2 BK2
    refine Stay.go ?_
    have e0 := evd BX.out (i := 0) rfl
    have e1 := evd BX.out (i := 1) rfl
    have e2 := evd BX.out (i := 2) rfl
    have e3 := evd BX.out (i := 3) rfl
    have e4 := evd BX.out (i := 4) rfl
    have e5 := evd BX.out (i := 5) rfl
    have e6 := evd BX.out (i := 6) rfl
    have e7 := evd BX.out (i := 7) rfl
    have e8 := evd BX.out (i := 8) rfl
    have e9 := evd BX.out (i := 9) rfl
    have e10 := evd BX.out (i := 10) rfl
    have e11 := evd BX.out (i := 11) rfl
    have e12 := evd BX.out (i := 12) rfl
    have e13 := evd BX.out (i := 13) rfl
    have e14 := evd BX.out (i := 14) rfl
    simp only [ev0, cfg0, ε, List.length_nil] at e0 e1 e2 e3 e4 e5 e6 e7 e8 e9 e10 e11 e12 e13 e14
    go_wp2_with (first | (refine Mem.load1 23 (t := 33) rfl rfl rfl Tryz.underlying33 rfl HM.out rfl rfl ?_))
    have SMX := rsame3_any ev0 ev0 a2 c2 none 0 wn3 HT3.out (.inl rfl) (by decide)
    rw [evB_iff.2 rfl] at SMX
    rw [ev0_cells, ev0_cells] at SMX
    refine SMX.mono ?_
    rintro e wn4 ⟨rfl, hb4⟩
    have HB9 := Lib.hid (HM.out.grow hb4).below
    clear SMX hb4
    go_wp2_with fail
    go_ret
    exact ⟨rfl, HB9.out⟩
  · have BK := Lib.hid (show Blk W (wn1.heap.size + 1 + 1 + 1 + 1 + 1 + 1 + 1 + 1 + 1 + 1 + 1 + 1 + 1 + 1 + 1 + 1 + 1 + 1) ((([2, 0, 0, 0, 6, 1, 114, 1, 97, 9, 0] : List Int).map (Value.int .u8)).toArray) 5 from HM.out.blk (i := 18) rfl)
    go_wp2_with (first | (refine Mem.load1 20 (t := 41) rfl rfl rfl Tryz.underlying41 rfl HM.out rfl rfl ?_))
    refine (show Calls Tryz.prog 19 #[.slice (some ⟨wn1.heap.size + 1 + 1 + 1 + 1 + 1 + 1 + 1 + 1 + 1 + 1 + 1 + 1 + 1 + 1 + 1 + 1 + 1 + 1, 0, none⟩) 11 11] W fun x w' => ParseR [2, 0, 0, 0, 6, 1, 114, 1, 97, 9, 0] W x w' from eparse_any (wn1.heap.size + 1 + 1 + 1 + 1 + 1 + 1 + 1 + 1 + 1 + 1 + 1 + 1 + 1 + 1 + 1 + 1 + 1 + 1) _ 11 [2, 0, 0, 0, 6, 1, 114, 1, 97, 9, 0] W (by_blk BK.out).2 (by intro x hx; first | (cases hx; done) | (simp at hx; omega))).mono ?_
    rintro e wn2 ⟨a2, c2, rfl, ht2, hg2⟩
    rw [kn_18] at ht2 ⊢
    dsimp only at ht2 ⊢
    have hm := HM.out.grow hg2
    replace HM := Lib.hid hm
    have HT2 := Lib.hid ht2
    have BK2 := Lib.hid (BK.out.grow hg2)
    clear hm ht2 hg2 BK
    go_wp2_with (refine Mem.storeAll 24 (t := 28) rfl rfl rfl rfl CE (Mem.alloc' HM.out _ _ rfl) rfl rfl rfl rfl ?_; intro wn3 HM3 C3)
    have HT3 := Lib.hid (HT2.out.past (Grow.G.alloc (Grow.G.refl _) _) C3 (Nat.le_refl _))
    simp only [K0, K1, L1, L2, K2, K3, K4, K5, K6, K7, Nat.reduceAdd, Nat.reduceSub] at HM3
    replace HM := Lib.hid HM3
    have BK3 := Lib.hid (show Blk wn3 (wn1.heap.size + 1 + 1 + 1 + 1 + 1 + 1 + 1 + 1 + 1 + 1 + 1 + 1 + 1 + 1 + 1 + 1 + 1 + 1) ((([2, 0, 0, 0, 6, 1, 114, 1, 97, 9, 0] : List Int).map (Value.int .u8)).toArray) 5 from HM3.blk (i := 18) rfl)
    have BX := Lib.hid (HM3.blk (i := 24) rfl)
    clear HM3 C3 HT2 BK2
    refine Stay.go ?_
    have e0 := evd BX.out (i := 0) rfl
    have e1 := evd BX.out (i := 1) rfl
    have e2 := evd BX.out (i := 2) rfl
    have e3 := evd BX.out (i := 3) rfl
    have e4 := evd BX.out (i := 4) rfl
    have e5 := evd BX.out (i := 5) rfl
    have e6 := evd BX.out (i := 6) rfl
    have e7 := evd BX.out (i := 7) rfl
    have e8 := evd BX.out (i := 8) rfl
    have e9 := evd BX.out (i := 9) rfl
    have e10 := evd BX.out (i := 10) rfl
    have e11 := evd BX.out (i := 11) rfl
    have e12 := evd BX.out (i := 12) rfl
    have e13 := evd BX.out (i := 13) rfl
    have e14 := evd BX.out (i := 14) rfl
    simp only [ev0, cfg0, ε, List.length_nil] at e0 e1 e2 e3 e4 e5 e6 e7 e8 e9 e10 e11 e12 e13 e14
    go_wp2_with (first | (refine Mem.load1 23 (t := 33) rfl rfl rfl Tryz.underlying33 rfl HM.out rfl rfl ?_))
    have SMX := rsame3_any ev0 ev0 a2 c2 none 0 wn3 HT3.out (.inl rfl) (by decide)
    rw [evB_iff.2 rfl] at SMX
    rw [ev0_cells, ev0_cells] at SMX
    refine SMX.mono ?_
    rintro e wn4 ⟨rfl, hb4⟩
    have HB9 := Lib.hid (HM.out.grow hb4).below
    clear SMX hb4
    go_wp2_with fail
    go_ret
    exact ⟨rfl, HB9.out⟩
  · have BK := Lib.hid (show Blk W (wn1.heap.size + 1 + 1 + 1 + 1 + 1 + 1 + 1 + 1 + 1 + 1 + 1 + 1 + 1 + 1 + 1 + 1 + 1 + 1 + 1) ((([5, 128, 0, 0, 0] : List Int).map (Value.int .u8)).toArray) 5 from HM.out.blk (i := 19) rfl)
    go_wp2_with (first | (refine Mem.load1 20 (t := 41) rfl rfl rfl Tryz.underlying41 rfl HM.out rfl rfl ?_))
    refine (show Calls Tryz.prog 19 #[.slice (some ⟨wn1.heap.size + 1 + 1 + 1 + 1 + 1 + 1 + 1 + 1 + 1 + 1 + 1 + 1 + 1 + 1 + 1 + 1 + 1 + 1 + 1, 0, none⟩) 5 5] W fun x w' => ParseR [5, 128, 0, 0, 0] W x w' from eparse_any (wn1.heap.size + 1 + 1 + 1 + 1 + 1 + 1 + 1 + 1 + 1 + 1 + 1 + 1 + 1 + 1 + 1 + 1 + 1 + 1 + 1) _ 5 [5, 128, 0, 0, 0] W (by_blk BK.out).2 (by intro x hx; first | (cases hx; done) | (simp at hx; omega))).mono ?_
    rintro e wn2 ⟨a2, c2, rfl, ht2, hg2⟩
    rw [kn_19] at ht2 ⊢
    dsimp only at ht2 ⊢
    have hm := HM.out.grow hg2
    replace HM := Lib.hid hm
    have HT2 := Lib.hid ht2
    have BK2 := Lib.hid (BK.out.grow hg2)
    clear hm ht2 hg2 BK
    go_wp2_with (refine Mem.storeAll 24 (t := 28) rfl rfl rfl rfl CE (Mem.alloc' HM.out _ _ rfl) rfl rfl rfl rfl ?_; intro wn3 HM3 C3)
    have HT3 := Lib.hid (HT2.out.past (Grow.G.alloc (Grow.G.refl _) _) C3 (Nat.le_refl _))
    simp only [K0, K1, L1, L2, K2, K3, K4, K5, K6, K7, Nat.reduceAdd, Nat.reduceSub] at HM3
    replace HM := Lib.hid HM3
    have BK3 := Lib.hid (show Blk wn3 (wn1.heap.size + 1 + 1 + 1 + 1 + 1 + 1 + 1 + 1 + 1 + 1 + 1 + 1 + 1 + 1 + 1 + 1 + 1 + 1 + 1) ((([5, 128, 0, 0, 0] : List Int).map (Value.int .u8)).toArray) 5 from HM3.blk (i := 19) rfl)
    have BX := Lib.hid (HM3.blk (i := 24) rfl)
    clear HM3 C3 HT2 BK2
    refine Stay.go ?_
    have e0 := evd BX.out (i := 0) rfl
    have e1 := evd BX.out (i := 1) rfl
    have e2 := evd BX.out (i := 2) rfl
    have e3 := evd BX.out (i := 3) rfl
    have e4 := evd BX.out (i := 4) rfl
    have e5 := evd BX.out (i := 5) rfl
    have e6 := evd BX.out (i := 6) rfl
    have e7 := evd BX.out (i := 7) rfl
    have e8 := evd BX.out (i := 8) rfl
    have e9 := evd BX.out (i := 9) rfl
    have e10 := evd BX.out (i := 10) rfl
    have e11 := evd BX.out (i := 11) rfl
    have e12 := evd BX.out (i := 12) rfl
    have e13 := evd BX.out (i := 13) rfl
    have e14 := evd BX.out (i := 14) rfl
    simp only [ev0, cfg0, ε, List.length_nil] at e0 e1 e2 e3 e4 e5 e6 e7 e8 e9 e10 e11 e12 e13 e14
    go_wp2_with (first | (refine Mem.load1 23 (t := 33) rfl rfl rfl Tryz.underlying33 rfl HM.out rfl rfl ?_))
    have SMX := rsame3_any ev0 ev0 a2 c2 none 0 wn3 HT3.out (.inl rfl) (by decide)
    rw [evB_iff.2 rfl] at SMX
    rw [ev0_cells, ev0_cells] at SMX
    refine SMX.mono ?_
    rintro e wn4 ⟨rfl, hb4⟩
    have HB9 := Lib.hid (HM.out.grow hb4).below
    clear SMX hb4
    go_wp2_with fail
    go_ret
    exact ⟨rfl, HB9.out⟩
end Go.Proofs.YtnkekdmikopdgaaGreat
