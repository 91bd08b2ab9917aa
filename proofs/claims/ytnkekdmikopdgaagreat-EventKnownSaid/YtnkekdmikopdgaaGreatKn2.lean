/- The walk of EventKnown. -/
import Derived.Test.YtnkekdmikopdgaaGreatZ16
import Derived.Test.YtnkekdmikopdgaaGreatZ17
import Derived.Test.YtnkekdmikopdgaaGreatZ12
import Derived.Test.YtnkekdmikopdgaaGreatZ15
import Derived.Test.YtnkekdmikopdgaaGreatKnownB
namespace Go.Proofs.YtnkekdmikopdgaaGreat
set_option maxRecDepth 100000
set_option linter.unusedVariables false
set_option linter.unusedSimpArgs false
set_option linter.unnecessarySimpa false
open Go.RowKit

theorem kn_4 : evParse [4, 0, 0, 0, 9, 1, 114, 0, 0, 0, 0, 200] = ((⟨4, ⟨#[114]⟩, ⟨#[]⟩, 9, 200, ⟨⟨#[]⟩, 0, 0, 0, 0, 0⟩, ⟨#[]⟩, ⟨#[]⟩, [], 0⟩ : EvD), 0) := by decide +kernel
theorem knb_4 : (⟨4, ⟨#[114]⟩, ⟨#[]⟩, 9, 200, ⟨⟨#[]⟩, 0, 0, 0, 0, 0⟩, ⟨#[]⟩, ⟨#[]⟩, [], 0⟩ : EvD).bytes = [4, 0, 0, 0, 9, 1, 114, 0, 0, 0, 0, 200] ∧ (⟨4, ⟨#[114]⟩, ⟨#[]⟩, 9, 200, ⟨⟨#[]⟩, 0, 0, 0, 0, 0⟩, ⟨#[]⟩, ⟨#[]⟩, [], 0⟩ : EvD).chk = 0 := by decide +kernel
theorem kn_5 : evParse [3, 0, 0, 0, 2, 1, 114, 0, 0, 0, 5] = ((⟨3, ⟨#[114]⟩, ⟨#[]⟩, 2, 5, ⟨⟨#[]⟩, 0, 0, 0, 0, 0⟩, ⟨#[]⟩, ⟨#[]⟩, [], 0⟩ : EvD), 0) := by decide +kernel
theorem knb_5 : (⟨3, ⟨#[114]⟩, ⟨#[]⟩, 2, 5, ⟨⟨#[]⟩, 0, 0, 0, 0, 0⟩, ⟨#[]⟩, ⟨#[]⟩, [], 0⟩ : EvD).bytes = [3, 0, 0, 0, 2, 1, 114, 0, 0, 0, 5] ∧ (⟨3, ⟨#[114]⟩, ⟨#[]⟩, 2, 5, ⟨⟨#[]⟩, 0, 0, 0, 0, 0⟩, ⟨#[]⟩, ⟨#[]⟩, [], 0⟩ : EvD).chk = 0 := by decide +kernel
theorem kn_6 : evParse [1, 0, 0, 0, 0, 1, 97, 7, 2, 0, 3, 4] = ((⟨1, ⟨#[]⟩, ⟨#[]⟩, 0, 0, ⟨⟨#[97]⟩, 7, 2, 0, 3, 4⟩, ⟨#[]⟩, ⟨#[]⟩, [], 0⟩ : EvD), 0) := by decide +kernel
theorem knb_6 : (⟨1, ⟨#[]⟩, ⟨#[]⟩, 0, 0, ⟨⟨#[97]⟩, 7, 2, 0, 3, 4⟩, ⟨#[]⟩, ⟨#[]⟩, [], 0⟩ : EvD).bytes = [1, 0, 0, 0, 0, 1, 97, 7, 2, 0, 3, 4] ∧ (⟨1, ⟨#[]⟩, ⟨#[]⟩, 0, 0, ⟨⟨#[97]⟩, 7, 2, 0, 3, 4⟩, ⟨#[]⟩, ⟨#[]⟩, [], 0⟩ : EvD).chk = 0 := by decide +kernel
theorem kn_7 : evParse [2, 0, 0, 0, 6, 1, 114, 1, 97, 9, 1, 0, 1, 116, 100] = ((⟨2, ⟨#[]⟩, ⟨#[]⟩, 6, 0, ⟨⟨#[]⟩, 0, 0, 0, 0, 0⟩, ⟨#[114]⟩, ⟨#[97]⟩, [⟨⟨#[]⟩, ⟨#[116]⟩, 100⟩], 9⟩ : EvD), 0) := by decide +kernel
theorem knb_7 : (⟨2, ⟨#[]⟩, ⟨#[]⟩, 6, 0, ⟨⟨#[]⟩, 0, 0, 0, 0, 0⟩, ⟨#[114]⟩, ⟨#[97]⟩, [⟨⟨#[]⟩, ⟨#[116]⟩, 100⟩], 9⟩ : EvD).bytes = [2, 0, 0, 0, 6, 1, 114, 1, 97, 9, 1, 0, 1, 116, 100] ∧ (⟨2, ⟨#[]⟩, ⟨#[]⟩, 6, 0, ⟨⟨#[]⟩, 0, 0, 0, 0, 0⟩, ⟨#[114]⟩, ⟨#[97]⟩, [⟨⟨#[]⟩, ⟨#[116]⟩, 100⟩], 9⟩ : EvD).chk = 0 := by decide +kernel
set_option maxHeartbeats 16000000 in
theorem known_4 (w : World) (wh : Int) (hwh : wf64 wh) (hq : withinI wh 20 = 4 ∨ withinI wh 20 = 5 ∨ withinI wh 20 = 6 ∨ withinI wh 20 = 7) :
    Calls Tryz.prog 8 #[.int .i64 wh] w fun e w' => e = .returned (.bool true) ∧ Below w.heap.size w w' := by
  have WI := Lib.hid (fun w => within3_any wh 20 w (by omega) (by omega) hwh.1 hwh.2)
  have r20 := withinI_range wh 20 (by omega)
  generalize withinI wh 20 = q at *
  have CE : (Tryz.prog.info? 28).map (·.size) = some 15 := by kernel_rfl
  clear hwh r20
  go_enter Tryz.func8, Tryz.ntmps8
  go_wp2_with fail
  refine (known3_any _).mono ?_
  rintro e wn1 ⟨rfl, hb1⟩
  have HMk := Lib.hid ((Mem.nil w).grow hb1)
  clear hb1
  go_wp2_with fail
  have HM0 := HMk.out
  have HM1 := Mem.alloc' HM0 [.int .u8 9] 5 (g := wn1.heap.size) (by simp)
  clear HM0
  have HM2 := Mem.alloc' HM1 [.int .u8 5, .int .u8 0, .int .u8 0, .int .u8 1, .int .u8 2] 5 (g := wn1.heap.size + 1) (by simp)
  clear HM1
  have HM3 := Mem.alloc' HM2 [.int .u8 10, .int .u8 3, .int .u8 119, .int .u8 101, .int .u8 98] 5 (g := wn1.heap.size + 1 + 1) (by simp)
  clear HM2
  have HM4 := Mem.alloc' HM3 [.int .u8 12, .int .u8 3, .int .u8 97, .int .u8 45, .int .u8 55] 5 (g := wn1.heap.size + 1 + 1 + 1) (by simp)
  clear HM3
  have HM5 := Mem.alloc' HM4 [.int .u8 4, .int .u8 0, .int .u8 0, .int .u8 0, .int .u8 9, .int .u8 1, .int .u8 114, .int .u8 0, .int .u8 0, .int .u8 0, .int .u8 0, .int .u8 200] 5 (g := wn1.heap.size + 1 + 1 + 1 + 1) (by simp)
  clear HM4
  have HM6 := Mem.alloc' HM5 [.int .u8 3, .int .u8 0, .int .u8 0, .int .u8 0, .int .u8 2, .int .u8 1, .int .u8 114, .int .u8 0, .int .u8 0, .int .u8 0, .int .u8 5] 5 (g := wn1.heap.size + 1 + 1 + 1 + 1 + 1) (by simp)
  clear HM5
  have HM7 := Mem.alloc' HM6 [.int .u8 1, .int .u8 0, .int .u8 0, .int .u8 0, .int .u8 0, .int .u8 1, .int .u8 97, .int .u8 7, .int .u8 2, .int .u8 0, .int .u8 3, .int .u8 4] 5 (g := wn1.heap.size + 1 + 1 + 1 + 1 + 1 + 1) (by simp)
  clear HM6
  have HM8 := Mem.alloc' HM7 [.int .u8 2, .int .u8 0, .int .u8 0, .int .u8 0, .int .u8 6, .int .u8 1, .int .u8 114, .int .u8 1, .int .u8 97, .int .u8 9, .int .u8 1, .int .u8 0, .int .u8 1, .int .u8 116, .int .u8 100] 5 (g := wn1.heap.size + 1 + 1 + 1 + 1 + 1 + 1 + 1) (by simp)
  clear HM7
  have HM9 := Mem.alloc' HM8 [] 5 (g := wn1.heap.size + 1 + 1 + 1 + 1 + 1 + 1 + 1 + 1) (by simp)
  clear HM8
  have HM10 := Mem.alloc' HM9 [.int .u8 0] 5 (g := wn1.heap.size + 1 + 1 + 1 + 1 + 1 + 1 + 1 + 1 + 1) (by simp)
  clear HM9
  have HM11 := Mem.alloc' HM10 [.int .u8 14] 5 (g := wn1.heap.size + 1 + 1 + 1 + 1 + 1 + 1 + 1 + 1 + 1 + 1) (by simp)
  clear HM10
  have HM12 := Mem.alloc' HM11 [.int .u8 9, .int .u8 0] 5 (g := wn1.heap.size + 1 + 1 + 1 + 1 + 1 + 1 + 1 + 1 + 1 + 1 + 1) (by simp)
  clear HM11
  have HM13 := Mem.alloc' HM12 [.int .u8 5, .int .u8 0, .int .u8 0, .int .u8 0] 5 (g := wn1.heap.size + 1 + 1 + 1 + 1 + 1 + 1 + 1 + 1 + 1 + 1 + 1 + 1) (by simp)
  clear HM12
  have HM14 := Mem.alloc' HM13 [.int .u8 5, .int .u8 0, .int .u8 0, .int .u8 0, .int .u8 0] 5 (g := wn1.heap.size + 1 + 1 + 1 + 1 + 1 + 1 + 1 + 1 + 1 + 1 + 1 + 1 + 1) (by simp)
  clear HM13
  have HM15 := Mem.alloc' HM14 [.int .u8 10, .int .u8 0] 5 (g := wn1.heap.size + 1 + 1 + 1 + 1 + 1 + 1 + 1 + 1 + 1 + 1 + 1 + 1 + 1 + 1) (by simp)
  clear HM14
  have HM16 := Mem.alloc' HM15 [.int .u8 10, .int .u8 4, .int .u8 119, .int .u8 101, .int .u8 98] 5 (g := wn1.heap.size + 1 + 1 + 1 + 1 + 1 + 1 + 1 + 1 + 1 + 1 + 1 + 1 + 1 + 1 + 1) (by simp)
  clear HM15
  have HM17 := Mem.alloc' HM16 [.int .u8 12, .int .u8 1, .int .u8 97] 5 (g := wn1.heap.size + 1 + 1 + 1 + 1 + 1 + 1 + 1 + 1 + 1 + 1 + 1 + 1 + 1 + 1 + 1 + 1) (by simp)
  clear HM16
  have HM18 := Mem.alloc' HM17 [.int .u8 1, .int .u8 0, .int .u8 0, .int .u8 0, .int .u8 0, .int .u8 1, .int .u8 97, .int .u8 7, .int .u8 0, .int .u8 0, .int .u8 3, .int .u8 4] 5 (g := wn1.heap.size + 1 + 1 + 1 + 1 + 1 + 1 + 1 + 1 + 1 + 1 + 1 + 1 + 1 + 1 + 1 + 1 + 1) (by simp)
  clear HM17
  have HM19 := Mem.alloc' HM18 [.int .u8 2, .int .u8 0, .int .u8 0, .int .u8 0, .int .u8 6, .int .u8 1, .int .u8 114, .int .u8 1, .int .u8 97, .int .u8 9, .int .u8 0] 5 (g := wn1.heap.size + 1 + 1 + 1 + 1 + 1 + 1 + 1 + 1 + 1 + 1 + 1 + 1 + 1 + 1 + 1 + 1 + 1 + 1) (by simp)
  clear HM18
  have HM20 := Mem.alloc' HM19 [.int .u8 5, .int .u8 128, .int .u8 0, .int .u8 0, .int .u8 0] 5 (g := wn1.heap.size + 1 + 1 + 1 + 1 + 1 + 1 + 1 + 1 + 1 + 1 + 1 + 1 + 1 + 1 + 1 + 1 + 1 + 1 + 1) (by simp)
  clear HM19
  have HM21 := Mem.alloc' HM20 [.slice (some ⟨wn1.heap.size, 0, none⟩) 1 1, .slice (some ⟨wn1.heap.size + 1, 0, none⟩) 5 5, .slice (some ⟨wn1.heap.size + 1 + 1, 0, none⟩) 5 5, .slice (some ⟨wn1.heap.size + 1 + 1 + 1, 0, none⟩) 5 5, .slice (some ⟨wn1.heap.size + 1 + 1 + 1 + 1, 0, none⟩) 12 12, .slice (some ⟨wn1.heap.size + 1 + 1 + 1 + 1 + 1, 0, none⟩) 11 11, .slice (some ⟨wn1.heap.size + 1 + 1 + 1 + 1 + 1 + 1, 0, none⟩) 12 12, .slice (some ⟨wn1.heap.size + 1 + 1 + 1 + 1 + 1 + 1 + 1, 0, none⟩) 15 15, .slice (some ⟨wn1.heap.size + 1 + 1 + 1 + 1 + 1 + 1 + 1 + 1, 0, none⟩) 0 0, .slice (some ⟨wn1.heap.size + 1 + 1 + 1 + 1 + 1 + 1 + 1 + 1 + 1, 0, none⟩) 1 1, .slice (some ⟨wn1.heap.size + 1 + 1 + 1 + 1 + 1 + 1 + 1 + 1 + 1 + 1, 0, none⟩) 1 1, .slice (some ⟨wn1.heap.size + 1 + 1 + 1 + 1 + 1 + 1 + 1 + 1 + 1 + 1 + 1, 0, none⟩) 2 2, .slice (some ⟨wn1.heap.size + 1 + 1 + 1 + 1 + 1 + 1 + 1 + 1 + 1 + 1 + 1 + 1, 0, none⟩) 4 4, .slice (some ⟨wn1.heap.size + 1 + 1 + 1 + 1 + 1 + 1 + 1 + 1 + 1 + 1 + 1 + 1 + 1, 0, none⟩) 5 5, .slice (some ⟨wn1.heap.size + 1 + 1 + 1 + 1 + 1 + 1 + 1 + 1 + 1 + 1 + 1 + 1 + 1 + 1, 0, none⟩) 2 2, .slice (some ⟨wn1.heap.size + 1 + 1 + 1 + 1 + 1 + 1 + 1 + 1 + 1 + 1 + 1 + 1 + 1 + 1 + 1, 0, none⟩) 5 5, .slice (some ⟨wn1.heap.size + 1 + 1 + 1 + 1 + 1 + 1 + 1 + 1 + 1 + 1 + 1 + 1 + 1 + 1 + 1 + 1, 0, none⟩) 3 3, .slice (some ⟨wn1.heap.size + 1 + 1 + 1 + 1 + 1 + 1 + 1 + 1 + 1 + 1 + 1 + 1 + 1 + 1 + 1 + 1 + 1, 0, none⟩) 12 12, .slice (some ⟨wn1.heap.size + 1 + 1 + 1 + 1 + 1 + 1 + 1 + 1 + 1 + 1 + 1 + 1 + 1 + 1 + 1 + 1 + 1 + 1, 0, none⟩) 11 11, .slice (some ⟨wn1.heap.size + 1 + 1 + 1 + 1 + 1 + 1 + 1 + 1 + 1 + 1 + 1 + 1 + 1 + 1 + 1 + 1 + 1 + 1 + 1, 0, none⟩) 5 5] 41 (g := wn1.heap.size + 1 + 1 + 1 + 1 + 1 + 1 + 1 + 1 + 1 + 1 + 1 + 1 + 1 + 1 + 1 + 1 + 1 + 1 + 1 + 1) (by simp)
  clear HM20
  have HM22 := Mem.alloc' HM21 [.string ⟨#[]⟩, .string ⟨#[116]⟩, .int .i64 100] 39 (g := wn1.heap.size + 1 + 1 + 1 + 1 + 1 + 1 + 1 + 1 + 1 + 1 + 1 + 1 + 1 + 1 + 1 + 1 + 1 + 1 + 1 + 1 + 1) (by simp)
  clear HM21
  have HM23 := Mem.alloc' HM22 [.int .i64 9, .string ⟨#[]⟩, .string ⟨#[]⟩, .int .i64 0, .int .i64 0, .string ⟨#[]⟩, .int .i64 0, .int .i64 0, .int .i64 0, .int .i64 0, .int .i64 0, .string ⟨#[]⟩, .string ⟨#[]⟩, .slice none 0 0, .int .i64 0, .int .i64 5, .string ⟨#[]⟩, .string ⟨#[]⟩, .int .i64 258, .int .i64 0, .string ⟨#[]⟩, .int .i64 0, .int .i64 0, .int .i64 0, .int .i64 0, .int .i64 0, .string ⟨#[]⟩, .string ⟨#[]⟩, .slice none 0 0, .int .i64 0, .int .i64 10, .string ⟨#[119, 101, 98]⟩, .string ⟨#[]⟩, .int .i64 0, .int .i64 0, .string ⟨#[]⟩, .int .i64 0, .int .i64 0, .int .i64 0, .int .i64 0, .int .i64 0, .string ⟨#[]⟩, .string ⟨#[]⟩, .slice none 0 0, .int .i64 0, .int .i64 12, .string ⟨#[97, 45, 55]⟩, .string ⟨#[]⟩, .int .i64 0, .int .i64 0, .string ⟨#[]⟩, .int .i64 0, .int .i64 0, .int .i64 0, .int .i64 0, .int .i64 0, .string ⟨#[]⟩, .string ⟨#[]⟩, .slice none 0 0, .int .i64 0, .int .i64 4, .string ⟨#[114]⟩, .string ⟨#[]⟩, .int .i64 9, .int .i64 200, .string ⟨#[]⟩, .int .i64 0, .int .i64 0, .int .i64 0, .int .i64 0, .int .i64 0, .string ⟨#[]⟩, .string ⟨#[]⟩, .slice none 0 0, .int .i64 0, .int .i64 3, .string ⟨#[114]⟩, .string ⟨#[]⟩, .int .i64 2, .int .i64 5, .string ⟨#[]⟩, .int .i64 0, .int .i64 0, .int .i64 0, .int .i64 0, .int .i64 0, .string ⟨#[]⟩, .string ⟨#[]⟩, .slice none 0 0, .int .i64 0, .int .i64 1, .string ⟨#[]⟩, .string ⟨#[]⟩, .int .i64 0, .int .i64 0, .string ⟨#[97]⟩, .int .i64 7, .int .i64 2, .int .i64 0, .int .i64 3, .int .i64 4, .string ⟨#[]⟩, .string ⟨#[]⟩, .slice none 0 0, .int .i64 0, .int .i64 2, .string ⟨#[]⟩, .string ⟨#[]⟩, .int .i64 6, .int .i64 0, .string ⟨#[]⟩, .int .i64 0, .int .i64 0, .int .i64 0, .int .i64 0, .int .i64 0, .string ⟨#[114]⟩, .string ⟨#[97]⟩, .slice (some ⟨wn1.heap.size + 1 + 1 + 1 + 1 + 1 + 1 + 1 + 1 + 1 + 1 + 1 + 1 + 1 + 1 + 1 + 1 + 1 + 1 + 1 + 1 + 1, 0, none⟩) 1 1, .int .i64 9] 28 (g := wn1.heap.size + 1 + 1 + 1 + 1 + 1 + 1 + 1 + 1 + 1 + 1 + 1 + 1 + 1 + 1 + 1 + 1 + 1 + 1 + 1 + 1 + 1 + 1) (by simp)
  clear HM22
  have HM24 := Mem.alloc' HM23 [.int .i64 10, .int .i64 12, .int .i64 12, .int .i64 11, .int .i64 10, .int .i64 2, .int .i64 1, .int .i64 10, .int .i64 1, .int .i64 2, .int .i64 3, .int .i64 2] 33 (g := wn1.heap.size + 1 + 1 + 1 + 1 + 1 + 1 + 1 + 1 + 1 + 1 + 1 + 1 + 1 + 1 + 1 + 1 + 1 + 1 + 1 + 1 + 1 + 1 + 1) (by simp)
  clear HM23
  simp only [K0, K1, L1, L2, K2, K3, K4, K5, K6, K7, Nat.reduceAdd, Nat.reduceSub] at HM24
  refine calls_hide HM24 (fun W HMW => ?_)
  have HM := Lib.hid HMW
  clear HM24 HMk HMW
  refine (WI.out _).mono ?_
  rintro e wx ⟨rfl, rfl⟩
  rcases hq with rfl | rfl | rfl | rfl
  · have BK := Lib.hid (show Blk W (wn1.heap.size + 1 + 1 + 1 + 1) ((([4, 0, 0, 0, 9, 1, 114, 0, 0, 0, 0, 200] : List Int).map (Value.int .u8)).toArray) 5 from HM.out.blk (i := 4) rfl)
    go_wp2_with (first | (refine Mem.load1 20 (t := 41) rfl rfl rfl Tryz.underlying41 rfl HM.out rfl rfl ?_))
    refine (show Calls Tryz.prog 19 #[.slice (some ⟨wn1.heap.size + 1 + 1 + 1 + 1, 0, none⟩) 12 12] W fun x w' => ParseR [4, 0, 0, 0, 9, 1, 114, 0, 0, 0, 0, 200] W x w' from eparse_any (wn1.heap.size + 1 + 1 + 1 + 1) _ 12 [4, 0, 0, 0, 9, 1, 114, 0, 0, 0, 0, 200] W (by_blk BK.out).2 (by intro x hx; first | (cases hx; done) | (simp at hx; omega))).mono ?_
    rintro e wn2 ⟨a2, c2, rfl, ht2, hg2⟩
    rw [kn_4] at ht2 ⊢
    dsimp only at ht2 ⊢
    have hm := HM.out.grow hg2
    replace HM := Lib.hid hm
    have HT2 := Lib.hid ht2
    have BK2 := Lib.hid (BK.out.grow hg2)
    clear hm ht2 hg2 BK
    go_wp2_with (refine Mem.storeAll 24 (t := 28) rfl rfl rfl rfl CE (Mem.alloc' HM.out _ _ rfl) rfl rfl rfl rfl ?_; intro wn3 HM3 C3)
    have HT3 := Lib.hid (HT2.out.past (Grow.G.alloc (Grow.G.refl _) _) C3 (Nat.le_refl _))
    simp only [K0, K1, L1, L2, K2, K3, K4, K5, K6, K7, Nat.reduceAdd, Nat.reduceSub] at HM3
    replace HM := Lib.hid HM3
    have BK3 := Lib.hid (show Blk wn3 (wn1.heap.size + 1 + 1 + 1 + 1) ((([4, 0, 0, 0, 9, 1, 114, 0, 0, 0, 0, 200] : List Int).map (Value.int .u8)).toArray) 5 from HM3.blk (i := 4) rfl)
    have BX := Lib.hid (HM3.blk (i := 24) rfl)
    clear HM3 C3 HT2 BK2
    refine Stay.go ?_
    have H21 : ∀ w' (h : Chg (fun _ => False) wn3 w'), Blk w' (wn1.heap.size + 1 + 1 + 1 + 1 + 1 + 1 + 1 + 1 + 1 + 1 + 1 + 1 + 1 + 1 + 1 + 1 + 1 + 1 + 1 + 1 + 1) #[.string ⟨#[]⟩, .string ⟨#[116]⟩, .int .i64 100] 39 := fun w' h => (HM.out.blk (i := 21) rfl).chg h id
    have TK := Lib.hid (fun (w' : World) (h : Chg (fun _ => False) wn3 w') => (show TgtSl w' none (⟨4, ⟨#[114]⟩, ⟨#[]⟩, 9, 200, ⟨⟨#[]⟩, 0, 0, 0, 0, 0⟩, ⟨#[]⟩, ⟨#[]⟩, [], 0⟩ : EvD).ts from (.inl rfl)))
    have EBX := Lib.hid (fun w (h : TgtSl w none (⟨4, ⟨#[114]⟩, ⟨#[]⟩, 9, 200, ⟨⟨#[]⟩, 0, 0, 0, 0, 0⟩, ⟨#[]⟩, ⟨#[]⟩, [], 0⟩ : EvD).ts) => (show Calls Tryz.prog 18 #[.agg #[.int .i64 4, .string ⟨#[114]⟩, .string ⟨#[]⟩, .int .i64 9, .int .i64 200, .string ⟨#[]⟩, .int .i64 0, .int .i64 0, .int .i64 0, .int .i64 0, .int .i64 0, .string ⟨#[]⟩, .string ⟨#[]⟩, .slice none 0 0, .int .i64 0]] w fun x w' => ∃ v, x = .returned v ∧ OwnB w' w.heap.size v [4, 0, 0, 0, 9, 1, 114, 0, 0, 0, 0, 200] ∧ Grow.G w w' from by
      have := ebytes_any (⟨4, ⟨#[114]⟩, ⟨#[]⟩, 9, 200, ⟨⟨#[]⟩, 0, 0, 0, 0, 0⟩, ⟨#[]⟩, ⟨#[]⟩, [], 0⟩ : EvD) none 0 w knb_4.2 h
      rw [knb_4.1] at this
      exact this))
    have SMX := Lib.hid (fun w (h : TgtSl w a2 (⟨4, ⟨#[114]⟩, ⟨#[]⟩, 9, 200, ⟨⟨#[]⟩, 0, 0, 0, 0, 0⟩, ⟨#[]⟩, ⟨#[]⟩, [], 0⟩ : EvD).ts) (h' : TgtSl w none (⟨4, ⟨#[114]⟩, ⟨#[]⟩, 9, 200, ⟨⟨#[]⟩, 0, 0, 0, 0, 0⟩, ⟨#[]⟩, ⟨#[]⟩, [], 0⟩ : EvD).ts) => (show Calls Tryz.prog 21 #[.agg #[.int .i64 4, .string ⟨#[114]⟩, .string ⟨#[]⟩, .int .i64 9, .int .i64 200, .string ⟨#[]⟩, .int .i64 0, .int .i64 0, .int .i64 0, .int .i64 0, .int .i64 0, .string ⟨#[]⟩, .string ⟨#[]⟩, .slice a2 0 c2, .int .i64 0], .agg #[.int .i64 4, .string ⟨#[114]⟩, .string ⟨#[]⟩, .int .i64 9, .int .i64 200, .string ⟨#[]⟩, .int .i64 0, .int .i64 0, .int .i64 0, .int .i64 0, .int .i64 0, .string ⟨#[]⟩, .string ⟨#[]⟩, .slice none 0 0, .int .i64 0]] w fun x w' => x = .returned (.bool true) ∧ Below w.heap.size w w' from by
      have := rsame3_any (⟨4, ⟨#[114]⟩, ⟨#[]⟩, 9, 200, ⟨⟨#[]⟩, 0, 0, 0, 0, 0⟩, ⟨#[]⟩, ⟨#[]⟩, [], 0⟩ : EvD) (⟨4, ⟨#[114]⟩, ⟨#[]⟩, 9, 200, ⟨⟨#[]⟩, 0, 0, 0, 0, 0⟩, ⟨#[]⟩, ⟨#[]⟩, [], 0⟩ : EvD) a2 c2 none 0 w h h' (by decide)
      rw [evB_iff.2 rfl] at this
      exact this))
    have B22 := Lib.hid (HM.out.blk (i := 22) rfl)
    have B20 := Lib.hid (HM.out.blk (i := 20) rfl)
    clear H21
    go_wp2_with fail
    have KC := Lib.hid (fun (w' : World) (h : Chg (fun _ => False) wn3 w') => (⟨cv_bytes (by_blk (BK3.out.chg h id)).1, trivial⟩ : (convert 41 9 (.slice (some ⟨wn1.heap.size + 1 + 1 + 1 + 1, 0, none⟩) 12 12)).run Tryz.prog w' = .ok (.string (strOfNums [4, 0, 0, 0, 9, 1, 114, 0, 0, 0, 0, 200])) w' ∧ True))
    refine Evo2.start' (ℓ := none) (S := Chg (fun _ => False)) (E := Grow.G) (by kernel_rfl) ⟨Chg.pre _, by decide +kernel, (by intro c a d v w h; cases d <;> exact h), by decide +kernel⟩ (fun ok => ?_)
    first | (refine Evo2.val ok 0 ?_ ?_ ?_; rotate_left; (intro w' hg; go_simp <;> with_reducible rfl); simp only [Act.put, L0, L1, L2])
    first | (refine Evo2.val ok 1 ?_ ?_ ?_; rotate_left; (intro w' hg; go_simp <;> with_reducible rfl); simp only [Act.put, L0, L1, L2])
    first | (refine Evo2.val ok 2 ?_ ?_ ?_; rotate_left; (intro w' hg; go_simp <;> with_reducible rfl); simp only [Act.put, L0, L1, L2])
    first | (refine Evo2.val ok 3 ?_ ?_ ?_; rotate_left; (focus (intro w' hg; refine Box.exec_loadAll ?_ Tryz.underlying28 CE (BX.out.chg (Chg.trans (Chg.refl (fun _ => False) _) hg) id) ?_; (all_goals (first | exact ⟨rfl, rfl⟩ | rfl)))); simp only [Act.put, L0, L1, L2]) | (refine Evo2.val ok 3 ?_ ?_ ?_; rotate_left; (focus (intro w' hg; refine Box.exec_load (off := 60) ?_ Tryz.underlying28 CE (B22.out.chg (Chg.trans (Chg.refl (fun _ => False) _) hg) id) (vs := [.int .i64 4, .string ⟨#[114]⟩, .string ⟨#[]⟩, .int .i64 9, .int .i64 200, .string ⟨#[]⟩, .int .i64 0, .int .i64 0, .int .i64 0, .int .i64 0, .int .i64 0, .string ⟨#[]⟩, .string ⟨#[]⟩, .slice none 0 0, .int .i64 0]) ?_ ?_; (all_goals (first | exact ⟨rfl, rfl⟩ | rfl)))); simp only [Act.put, L0, L1, L2]) | (refine Evo2.val ok 3 ?_ ?_ ?_; rotate_left; (focus (intro w' hg; refine Box.exec_load1 (off := 4) ?_ Tryz.underlying41 rfl (B20.out.chg (Chg.trans (Chg.refl (fun _ => False) _) hg) id) ?_; (all_goals (first | exact ⟨rfl, rfl⟩ | rfl)))); simp only [Act.put, L0, L1, L2]) | (refine Evo2.val ok 3 ?_ ?_ ?_; rotate_left; (intro w' hg; obtain ⟨q1, q2⟩ := KC.out w' (Chg.trans (Chg.refl (fun _ => False) _) hg); go_simp <;> with_reducible rfl); simp only [Act.put, L0, L1, L2]) | (refine Evo2.val ok 3 ?_ ?_ ?_; rotate_left; (intro w' hg; go_simp <;> with_reducible rfl); simp only [Act.put, L0, L1, L2]) | (refine Evo2.idl ok 3 ?_; simp only [Act.put, L0, L1, L2])
    first | (refine Evo2.val ok 4 ?_ ?_ ?_; rotate_left; (intro w' hg; go_simp <;> with_reducible rfl); simp only [Act.put, L0, L1, L2]) | (refine Evo2.idl ok 4 ?_; simp only [Act.put, L0, L1, L2])
    first | (refine Evo2.val ok 5 ?_ ?_ ?_; rotate_left; (intro w' hg; go_simp <;> with_reducible rfl); simp only [Act.put, L0, L1, L2]) | (refine Evo2.idl ok 5 ?_; simp only [Act.put, L0, L1, L2])
    first | (refine Evo2.val ok 6 ?_ ?_ ?_; rotate_left; (intro w' hg; go_simp <;> with_reducible rfl); simp only [Act.put, L0, L1, L2]) | (refine Evo2.idl ok 6 ?_; simp only [Act.put, L0, L1, L2])
    first | (refine Evo2.val ok 7 ?_ ?_ ?_; rotate_left; (focus (intro w' hg; refine Box.exec_loadAll ?_ Tryz.underlying28 CE (BX.out.chg (Chg.trans (Chg.refl (fun _ => False) _) hg) id) ?_; (all_goals (first | exact ⟨rfl, rfl⟩ | rfl)))); simp only [Act.put, L0, L1, L2]) | (refine Evo2.val ok 7 ?_ ?_ ?_; rotate_left; (focus (intro w' hg; refine Box.exec_load (off := 60) ?_ Tryz.underlying28 CE (B22.out.chg (Chg.trans (Chg.refl (fun _ => False) _) hg) id) (vs := [.int .i64 4, .string ⟨#[114]⟩, .string ⟨#[]⟩, .int .i64 9, .int .i64 200, .string ⟨#[]⟩, .int .i64 0, .int .i64 0, .int .i64 0, .int .i64 0, .int .i64 0, .string ⟨#[]⟩, .string ⟨#[]⟩, .slice none 0 0, .int .i64 0]) ?_ ?_; (all_goals (first | exact ⟨rfl, rfl⟩ | rfl)))); simp only [Act.put, L0, L1, L2]) | (refine Evo2.val ok 7 ?_ ?_ ?_; rotate_left; (focus (intro w' hg; refine Box.exec_load1 (off := 4) ?_ Tryz.underlying41 rfl (B20.out.chg (Chg.trans (Chg.refl (fun _ => False) _) hg) id) ?_; (all_goals (first | exact ⟨rfl, rfl⟩ | rfl)))); simp only [Act.put, L0, L1, L2]) | (refine Evo2.val ok 7 ?_ ?_ ?_; rotate_left; (intro w' hg; obtain ⟨q1, q2⟩ := KC.out w' (Chg.trans (Chg.refl (fun _ => False) _) hg); go_simp <;> with_reducible rfl); simp only [Act.put, L0, L1, L2]) | (refine Evo2.val ok 7 ?_ ?_ ?_; rotate_left; (intro w' hg; go_simp <;> with_reducible rfl); simp only [Act.put, L0, L1, L2]) | (refine Evo2.idl ok 7 ?_; simp only [Act.put, L0, L1, L2])
    first | (refine Evo2.cal ok 8 ?_ 21 ?_ ?_ ?_ ?_; rotate_left 2; (focus (intro w'; go_simp <;> with_reducible rfl)); (focus (intro w' g'; with_reducible exact SMX.out w' (HT3.out.chg (Chg.trans (Chg.refl (fun _ => False) _) g') (fun _ _ _ => id)) (TK.out w' (Chg.trans (Chg.refl (fun _ => False) _) g')))); simp only [Act.put, L0, L1, L2]) | (refine Evo2.idl ok 8 ?_; simp only [Act.put, L0, L1, L2])
    first | (refine Evo2.val ok 9 ?_ ?_ ?_; rotate_left; (intro w' hg; go_simp <;> with_reducible rfl); simp only [Act.put, L0, L1, L2])
    first | (refine Evo2.val ok 10 ?_ ?_ ?_; rotate_left; (intro w' hg; go_simp <;> with_reducible rfl); simp only [Act.put, L0, L1, L2])
    first | (refine Evo2.val ok 11 ?_ ?_ ?_; rotate_left; (intro w' hg; go_simp <;> with_reducible rfl); simp only [Act.put, L0, L1, L2]) | (refine Evo2.idl ok 11 ?_; simp only [Act.put, L0, L1, L2])
    first | (refine Evo2.val ok 12 ?_ ?_ ?_; rotate_left; (intro w' hg; go_simp <;> with_reducible rfl); simp only [Act.put, L0, L1, L2]) | (refine Evo2.idl ok 12 ?_; simp only [Act.put, L0, L1, L2])
    first | (refine Evo2.val ok 13 ?_ ?_ ?_; rotate_left; (intro w' hg; go_simp <;> with_reducible rfl); simp only [Act.put, L0, L1, L2]) | (refine Evo2.idl ok 13 ?_; simp only [Act.put, L0, L1, L2])
    first | (refine Evo2.val ok 14 ?_ ?_ ?_; rotate_left; (focus (intro w' hg; refine Box.exec_loadAll ?_ Tryz.underlying28 CE (BX.out.chg (Chg.trans (Chg.refl (fun _ => False) _) hg) id) ?_; (all_goals (first | exact ⟨rfl, rfl⟩ | rfl)))); simp only [Act.put, L0, L1, L2]) | (refine Evo2.val ok 14 ?_ ?_ ?_; rotate_left; (focus (intro w' hg; refine Box.exec_load (off := 60) ?_ Tryz.underlying28 CE (B22.out.chg (Chg.trans (Chg.refl (fun _ => False) _) hg) id) (vs := [.int .i64 4, .string ⟨#[114]⟩, .string ⟨#[]⟩, .int .i64 9, .int .i64 200, .string ⟨#[]⟩, .int .i64 0, .int .i64 0, .int .i64 0, .int .i64 0, .int .i64 0, .string ⟨#[]⟩, .string ⟨#[]⟩, .slice none 0 0, .int .i64 0]) ?_ ?_; (all_goals (first | exact ⟨rfl, rfl⟩ | rfl)))); simp only [Act.put, L0, L1, L2]) | (refine Evo2.val ok 14 ?_ ?_ ?_; rotate_left; (focus (intro w' hg; refine Box.exec_load1 (off := 4) ?_ Tryz.underlying41 rfl (B20.out.chg (Chg.trans (Chg.refl (fun _ => False) _) hg) id) ?_; (all_goals (first | exact ⟨rfl, rfl⟩ | rfl)))); simp only [Act.put, L0, L1, L2]) | (refine Evo2.val ok 14 ?_ ?_ ?_; rotate_left; (intro w' hg; obtain ⟨q1, q2⟩ := KC.out w' (Chg.trans (Chg.refl (fun _ => False) _) hg); go_simp <;> with_reducible rfl); simp only [Act.put, L0, L1, L2]) | (refine Evo2.val ok 14 ?_ ?_ ?_; rotate_left; (intro w' hg; go_simp <;> with_reducible rfl); simp only [Act.put, L0, L1, L2]) | (refine Evo2.idl ok 14 ?_; simp only [Act.put, L0, L1, L2])
    first | (refine Evo2.val ok 17 ?_ ?_ ?_; rotate_left; (intro w' hg; go_simp <;> with_reducible rfl); simp only [Act.put, L0, L1, L2]) | (refine Evo2.idl ok 17 ?_; simp only [Act.put, L0, L1, L2])
    first | (refine Evo2.val ok 18 ?_ ?_ ?_; rotate_left; (intro w' hg; go_simp <;> with_reducible rfl); simp only [Act.put, L0, L1, L2]) | (refine Evo2.idl ok 18 ?_; simp only [Act.put, L0, L1, L2])
    first | (refine Evo2.val ok 19 ?_ ?_ ?_; rotate_left; (intro w' hg; go_simp <;> with_reducible rfl); simp only [Act.put, L0, L1, L2]) | (refine Evo2.idl ok 19 ?_; simp only [Act.put, L0, L1, L2])
    first | (refine Evo2.val ok 20 ?_ ?_ ?_; rotate_left; (focus (intro w' hg; refine Box.exec_loadAll ?_ Tryz.underlying28 CE (BX.out.chg (Chg.trans (Chg.refl (fun _ => False) _) hg) id) ?_; (all_goals (first | exact ⟨rfl, rfl⟩ | rfl)))); simp only [Act.put, L0, L1, L2]) | (refine Evo2.val ok 20 ?_ ?_ ?_; rotate_left; (focus (intro w' hg; refine Box.exec_load (off := 60) ?_ Tryz.underlying28 CE (B22.out.chg (Chg.trans (Chg.refl (fun _ => False) _) hg) id) (vs := [.int .i64 4, .string ⟨#[114]⟩, .string ⟨#[]⟩, .int .i64 9, .int .i64 200, .string ⟨#[]⟩, .int .i64 0, .int .i64 0, .int .i64 0, .int .i64 0, .int .i64 0, .string ⟨#[]⟩, .string ⟨#[]⟩, .slice none 0 0, .int .i64 0]) ?_ ?_; (all_goals (first | exact ⟨rfl, rfl⟩ | rfl)))); simp only [Act.put, L0, L1, L2]) | (refine Evo2.val ok 20 ?_ ?_ ?_; rotate_left; (focus (intro w' hg; refine Box.exec_load1 (off := 4) ?_ Tryz.underlying41 rfl (B20.out.chg (Chg.trans (Chg.refl (fun _ => False) _) hg) id) ?_; (all_goals (first | exact ⟨rfl, rfl⟩ | rfl)))); simp only [Act.put, L0, L1, L2]) | (refine Evo2.val ok 20 ?_ ?_ ?_; rotate_left; (intro w' hg; obtain ⟨q1, q2⟩ := KC.out w' (Chg.trans (Chg.refl (fun _ => False) _) hg); go_simp <;> with_reducible rfl); simp only [Act.put, L0, L1, L2]) | (refine Evo2.val ok 20 ?_ ?_ ?_; rotate_left; (intro w' hg; go_simp <;> with_reducible rfl); simp only [Act.put, L0, L1, L2]) | (refine Evo2.idl ok 20 ?_; simp only [Act.put, L0, L1, L2])
    first | (refine Evo2.val ok 21 ?_ ?_ ?_; rotate_left; (intro w' hg; obtain ⟨q1, q2⟩ := KC.out w' (Chg.trans (Chg.refl (fun _ => False) _) hg); go_simp <;> with_reducible rfl); simp only [Act.put, L0, L1, L2]) | (refine Evo2.val ok 21 ?_ ?_ ?_; rotate_left; (intro w' hg; go_simp <;> with_reducible rfl); simp only [Act.put, L0, L1, L2]) | (refine Evo2.idl ok 21 ?_; simp only [Act.put, L0, L1, L2])
    refine Evo2.all [15] (by decide +kernel) rfl ?_
    intro wp1 gp1 iq hq
    simp only [List.mem_cons, List.mem_nil_iff, or_false] at hq
    have AP1 := Chg.trans (Chg.refl (fun _ => False) _) (Chg.grow gp1)
    subst hq
    refine Evo2.enters 18 _ (by rfl) (by rfl) (by go_simp; exact ⟨rfl, rfl⟩) ?_
    refine (EBX.out _ (TK.out _ AP1)).mono ?_
    rintro e wc1 ⟨v9, rfl, ho9, hg9⟩; obtain ⟨s9, c9, rfl⟩ := own_shape ho9; have CH1 := Chg.grow (G := fun _ => False) hg9; have QK1 := (fun (w' : World) (h : Chg (fun _ => False) wc1 w') => (show (convert 41 9 (.slice s9 12 c9)).run Tryz.prog w' = .ok (.string (strOfNums [4, 0, 0, 0, 9, 1, 114, 0, 0, 0, 0, 200])) w' from cv_own (h.own ho9 (fun _ _ => id))))
    refine ⟨_, rfl, .inr CH1, ?_⟩
    have AC1 := Chg.trans AP1 CH1
    simp only [Act.put, L0, L1, L2]
    first | (refine Evo2.val ok 16 ?_ ?_ ?_; rotate_left; (intro w' hg; have nq := QK1 w' hg; go_simp <;> with_reducible rfl); simp only [Act.put, L0, L1, L2]) | (refine Evo2.val ok 16 ?_ ?_ ?_; rotate_left; (intro w' hg; obtain ⟨q1, q2⟩ := KC.out w' (Chg.trans AC1 hg); go_simp <;> with_reducible rfl); simp only [Act.put, L0, L1, L2]) | (refine Evo2.val ok 16 ?_ ?_ ?_; rotate_left; (intro w' hg; go_simp <;> with_reducible rfl); simp only [Act.put, L0, L1, L2]) | (refine Evo2.idl ok 16 ?_; simp only [Act.put, L0, L1, L2])
    first | (refine Evo2.val ok 22 ?_ ?_ ?_; rotate_left; (intro w' hg; go_simp <;> with_reducible rfl); simp only [Act.put, L0, L1, L2]) | (refine Evo2.idl ok 22 ?_; simp only [Act.put, L0, L1, L2])
    first | (refine Evo2.val ok 23 ?_ ?_ ?_; rotate_left; (intro w' hg; go_simp <;> with_reducible rfl); simp only [Act.put, L0, L1, L2])
    first | (refine Evo2.val ok 24 ?_ ?_ ?_; rotate_left; (intro w' hg; go_simp <;> with_reducible rfl); simp only [Act.put, L0, L1, L2])
    refine Evo2.done (by decide +kernel) (fun wz gz => ?_)
    have AZ := Chg.trans AC1 (Chg.grow gz)
    have HB9 := Lib.hid (HM.out.grow (chg_none AZ)).below
    go_wp2_with fail
    go_ret
    exact ⟨rfl, HB9.out⟩
  · have BK := Lib.hid (show Blk W (wn1.heap.size + 1 + 1 + 1 + 1 + 1) ((([3, 0, 0, 0, 2, 1, 114, 0, 0, 0, 5] : List Int).map (Value.int .u8)).toArray) 5 from HM.out.blk (i := 5) rfl)
    go_wp2_with (first | (refine Mem.load1 20 (t := 41) rfl rfl rfl Tryz.underlying41 rfl HM.out rfl rfl ?_))
    refine (show Calls Tryz.prog 19 #[.slice (some ⟨wn1.heap.size + 1 + 1 + 1 + 1 + 1, 0, none⟩) 11 11] W fun x w' => ParseR [3, 0, 0, 0, 2, 1, 114, 0, 0, 0, 5] W x w' from eparse_any (wn1.heap.size + 1 + 1 + 1 + 1 + 1) _ 11 [3, 0, 0, 0, 2, 1, 114, 0, 0, 0, 5] W (by_blk BK.out).2 (by intro x hx; first | (cases hx; done) | (simp at hx; omega))).mono ?_
    rintro e wn2 ⟨a2, c2, rfl, ht2, hg2⟩
    rw [kn_5] at ht2 ⊢
    dsimp only at ht2 ⊢
    have hm := HM.out.grow hg2
    replace HM := Lib.hid hm
    have HT2 := Lib.hid ht2
    have BK2 := Lib.hid (BK.out.grow hg2)
    clear hm ht2 hg2 BK
    go_wp2_with (refine Mem.storeAll 24 (t := 28) rfl rfl rfl rfl CE (Mem.alloc' HM.out _ _ rfl) rfl rfl rfl rfl ?_; intro wn3 HM3 C3)
    have HT3 := Lib.hid (HT2.out.past (Grow.G.alloc (Grow.G.refl _) _) C3 (Nat.le_refl _))
    simp only [K0, K1, L1, L2, K2, K3, K4, K5, K6, K7, Nat.reduceAdd, Nat.reduceSub] at HM3
    replace HM := Lib.hid HM3
    have BK3 := Lib.hid (show Blk wn3 (wn1.heap.size + 1 + 1 + 1 + 1 + 1) ((([3, 0, 0, 0, 2, 1, 114, 0, 0, 0, 5] : List Int).map (Value.int .u8)).toArray) 5 from HM3.blk (i := 5) rfl)
    have BX := Lib.hid (HM3.blk (i := 24) rfl)
    clear HM3 C3 HT2 BK2
    refine Stay.go ?_
    have H21 : ∀ w' (h : Chg (fun _ => False) wn3 w'), Blk w' (wn1.heap.size + 1 + 1 + 1 + 1 + 1 + 1 + 1 + 1 + 1 + 1 + 1 + 1 + 1 + 1 + 1 + 1 + 1 + 1 + 1 + 1 + 1) #[.string ⟨#[]⟩, .string ⟨#[116]⟩, .int .i64 100] 39 := fun w' h => (HM.out.blk (i := 21) rfl).chg h id
    have TK := Lib.hid (fun (w' : World) (h : Chg (fun _ => False) wn3 w') => (show TgtSl w' none (⟨3, ⟨#[114]⟩, ⟨#[]⟩, 2, 5, ⟨⟨#[]⟩, 0, 0, 0, 0, 0⟩, ⟨#[]⟩, ⟨#[]⟩, [], 0⟩ : EvD).ts from (.inl rfl)))
    have EBX := Lib.hid (fun w (h : TgtSl w none (⟨3, ⟨#[114]⟩, ⟨#[]⟩, 2, 5, ⟨⟨#[]⟩, 0, 0, 0, 0, 0⟩, ⟨#[]⟩, ⟨#[]⟩, [], 0⟩ : EvD).ts) => (show Calls Tryz.prog 18 #[.agg #[.int .i64 3, .string ⟨#[114]⟩, .string ⟨#[]⟩, .int .i64 2, .int .i64 5, .string ⟨#[]⟩, .int .i64 0, .int .i64 0, .int .i64 0, .int .i64 0, .int .i64 0, .string ⟨#[]⟩, .string ⟨#[]⟩, .slice none 0 0, .int .i64 0]] w fun x w' => ∃ v, x = .returned v ∧ OwnB w' w.heap.size v [3, 0, 0, 0, 2, 1, 114, 0, 0, 0, 5] ∧ Grow.G w w' from by
      have := ebytes_any (⟨3, ⟨#[114]⟩, ⟨#[]⟩, 2, 5, ⟨⟨#[]⟩, 0, 0, 0, 0, 0⟩, ⟨#[]⟩, ⟨#[]⟩, [], 0⟩ : EvD) none 0 w knb_5.2 h
      rw [knb_5.1] at this
      exact this))
    have SMX := Lib.hid (fun w (h : TgtSl w a2 (⟨3, ⟨#[114]⟩, ⟨#[]⟩, 2, 5, ⟨⟨#[]⟩, 0, 0, 0, 0, 0⟩, ⟨#[]⟩, ⟨#[]⟩, [], 0⟩ : EvD).ts) (h' : TgtSl w none (⟨3, ⟨#[114]⟩, ⟨#[]⟩, 2, 5, ⟨⟨#[]⟩, 0, 0, 0, 0, 0⟩, ⟨#[]⟩, ⟨#[]⟩, [], 0⟩ : EvD).ts) => (show Calls Tryz.prog 21 #[.agg #[.int .i64 3, .string ⟨#[114]⟩, .string ⟨#[]⟩, .int .i64 2, .int .i64 5, .string ⟨#[]⟩, .int .i64 0, .int .i64 0, .int .i64 0, .int .i64 0, .int .i64 0, .string ⟨#[]⟩, .string ⟨#[]⟩, .slice a2 0 c2, .int .i64 0], .agg #[.int .i64 3, .string ⟨#[114]⟩, .string ⟨#[]⟩, .int .i64 2, .int .i64 5, .string ⟨#[]⟩, .int .i64 0, .int .i64 0, .int .i64 0, .int .i64 0, .int .i64 0, .string ⟨#[]⟩, .string ⟨#[]⟩, .slice none 0 0, .int .i64 0]] w fun x w' => x = .returned (.bool true) ∧ Below w.heap.size w w' from by
      have := rsame3_any (⟨3, ⟨#[114]⟩, ⟨#[]⟩, 2, 5, ⟨⟨#[]⟩, 0, 0, 0, 0, 0⟩, ⟨#[]⟩, ⟨#[]⟩, [], 0⟩ : EvD) (⟨3, ⟨#[114]⟩, ⟨#[]⟩, 2, 5, ⟨⟨#[]⟩, 0, 0, 0, 0, 0⟩, ⟨#[]⟩, ⟨#[]⟩, [], 0⟩ : EvD) a2 c2 none 0 w h h' (by decide)
      rw [evB_iff.2 rfl] at this
      exact this))
    have B22 := Lib.hid (HM.out.blk (i := 22) rfl)
    have B20 := Lib.hid (HM.out.blk (i := 20) rfl)
    clear H21
    go_wp2_with fail
    have KC := Lib.hid (fun (w' : World) (h : Chg (fun _ => False) wn3 w') => (⟨cv_bytes (by_blk (BK3.out.chg h id)).1, trivial⟩ : (convert 41 9 (.slice (some ⟨wn1.heap.size + 1 + 1 + 1 + 1 + 1, 0, none⟩) 11 11)).run Tryz.prog w' = .ok (.string (strOfNums [3, 0, 0, 0, 2, 1, 114, 0, 0, 0, 5])) w' ∧ True))
    refine Evo2.start' (ℓ := none) (S := Chg (fun _ => False)) (E := Grow.G) (by kernel_rfl) ⟨Chg.pre _, by decide +kernel, (by intro c a d v w h; cases d <;> exact h), by decide +kernel⟩ (fun ok => ?_)
    first | (refine Evo2.val ok 0 ?_ ?_ ?_; rotate_left; (intro w' hg; go_simp <;> with_reducible rfl); simp only [Act.put, L0, L1, L2])
    first | (refine Evo2.val ok 1 ?_ ?_ ?_; rotate_left; (intro w' hg; go_simp <;> with_reducible rfl); simp only [Act.put, L0, L1, L2])
    first | (refine Evo2.val ok 2 ?_ ?_ ?_; rotate_left; (intro w' hg; go_simp <;> with_reducible rfl); simp only [Act.put, L0, L1, L2])
    first | (refine Evo2.val ok 3 ?_ ?_ ?_; rotate_left; (focus (intro w' hg; refine Box.exec_loadAll ?_ Tryz.underlying28 CE (BX.out.chg (Chg.trans (Chg.refl (fun _ => False) _) hg) id) ?_; (all_goals (first | exact ⟨rfl, rfl⟩ | rfl)))); simp only [Act.put, L0, L1, L2]) | (refine Evo2.val ok 3 ?_ ?_ ?_; rotate_left; (focus (intro w' hg; refine Box.exec_load (off := 75) ?_ Tryz.underlying28 CE (B22.out.chg (Chg.trans (Chg.refl (fun _ => False) _) hg) id) (vs := [.int .i64 3, .string ⟨#[114]⟩, .string ⟨#[]⟩, .int .i64 2, .int .i64 5, .string ⟨#[]⟩, .int .i64 0, .int .i64 0, .int .i64 0, .int .i64 0, .int .i64 0, .string ⟨#[]⟩, .string ⟨#[]⟩, .slice none 0 0, .int .i64 0]) ?_ ?_; (all_goals (first | exact ⟨rfl, rfl⟩ | rfl)))); simp only [Act.put, L0, L1, L2]) | (refine Evo2.val ok 3 ?_ ?_ ?_; rotate_left; (focus (intro w' hg; refine Box.exec_load1 (off := 5) ?_ Tryz.underlying41 rfl (B20.out.chg (Chg.trans (Chg.refl (fun _ => False) _) hg) id) ?_; (all_goals (first | exact ⟨rfl, rfl⟩ | rfl)))); simp only [Act.put, L0, L1, L2]) | (refine Evo2.val ok 3 ?_ ?_ ?_; rotate_left; (intro w' hg; obtain ⟨q1, q2⟩ := KC.out w' (Chg.trans (Chg.refl (fun _ => False) _) hg); go_simp <;> with_reducible rfl); simp only [Act.put, L0, L1, L2]) | (refine Evo2.val ok 3 ?_ ?_ ?_; rotate_left; (intro w' hg; go_simp <;> with_reducible rfl); simp only [Act.put, L0, L1, L2]) | (refine Evo2.idl ok 3 ?_; simp only [Act.put, L0, L1, L2])
    first | (refine Evo2.val ok 4 ?_ ?_ ?_; rotate_left; (intro w' hg; go_simp <;> with_reducible rfl); simp only [Act.put, L0, L1, L2]) | (refine Evo2.idl ok 4 ?_; simp only [Act.put, L0, L1, L2])
    first | (refine Evo2.val ok 5 ?_ ?_ ?_; rotate_left; (intro w' hg; go_simp <;> with_reducible rfl); simp only [Act.put, L0, L1, L2]) | (refine Evo2.idl ok 5 ?_; simp only [Act.put, L0, L1, L2])
    first | (refine Evo2.val ok 6 ?_ ?_ ?_; rotate_left; (intro w' hg; go_simp <;> with_reducible rfl); simp only [Act.put, L0, L1, L2]) | (refine Evo2.idl ok 6 ?_; simp only [Act.put, L0, L1, L2])
    first | (refine Evo2.val ok 7 ?_ ?_ ?_; rotate_left; (focus (intro w' hg; refine Box.exec_loadAll ?_ Tryz.underlying28 CE (BX.out.chg (Chg.trans (Chg.refl (fun _ => False) _) hg) id) ?_; (all_goals (first | exact ⟨rfl, rfl⟩ | rfl)))); simp only [Act.put, L0, L1, L2]) | (refine Evo2.val ok 7 ?_ ?_ ?_; rotate_left; (focus (intro w' hg; refine Box.exec_load (off := 75) ?_ Tryz.underlying28 CE (B22.out.chg (Chg.trans (Chg.refl (fun _ => False) _) hg) id) (vs := [.int .i64 3, .string ⟨#[114]⟩, .string ⟨#[]⟩, .int .i64 2, .int .i64 5, .string ⟨#[]⟩, .int .i64 0, .int .i64 0, .int .i64 0, .int .i64 0, .int .i64 0, .string ⟨#[]⟩, .string ⟨#[]⟩, .slice none 0 0, .int .i64 0]) ?_ ?_; (all_goals (first | exact ⟨rfl, rfl⟩ | rfl)))); simp only [Act.put, L0, L1, L2]) | (refine Evo2.val ok 7 ?_ ?_ ?_; rotate_left; (focus (intro w' hg; refine Box.exec_load1 (off := 5) ?_ Tryz.underlying41 rfl (B20.out.chg (Chg.trans (Chg.refl (fun _ => False) _) hg) id) ?_; (all_goals (first | exact ⟨rfl, rfl⟩ | rfl)))); simp only [Act.put, L0, L1, L2]) | (refine Evo2.val ok 7 ?_ ?_ ?_; rotate_left; (intro w' hg; obtain ⟨q1, q2⟩ := KC.out w' (Chg.trans (Chg.refl (fun _ => False) _) hg); go_simp <;> with_reducible rfl); simp only [Act.put, L0, L1, L2]) | (refine Evo2.val ok 7 ?_ ?_ ?_; rotate_left; (intro w' hg; go_simp <;> with_reducible rfl); simp only [Act.put, L0, L1, L2]) | (refine Evo2.idl ok 7 ?_; simp only [Act.put, L0, L1, L2])
    first | (refine Evo2.cal ok 8 ?_ 21 ?_ ?_ ?_ ?_; rotate_left 2; (focus (intro w'; go_simp <;> with_reducible rfl)); (focus (intro w' g'; with_reducible exact SMX.out w' (HT3.out.chg (Chg.trans (Chg.refl (fun _ => False) _) g') (fun _ _ _ => id)) (TK.out w' (Chg.trans (Chg.refl (fun _ => False) _) g')))); simp only [Act.put, L0, L1, L2]) | (refine Evo2.idl ok 8 ?_; simp only [Act.put, L0, L1, L2])
    first | (refine Evo2.val ok 9 ?_ ?_ ?_; rotate_left; (intro w' hg; go_simp <;> with_reducible rfl); simp only [Act.put, L0, L1, L2])
    first | (refine Evo2.val ok 10 ?_ ?_ ?_; rotate_left; (intro w' hg; go_simp <;> with_reducible rfl); simp only [Act.put, L0, L1, L2])
    first | (refine Evo2.val ok 11 ?_ ?_ ?_; rotate_left; (intro w' hg; go_simp <;> with_reducible rfl); simp only [Act.put, L0, L1, L2]) | (refine Evo2.idl ok 11 ?_; simp only [Act.put, L0, L1, L2])
    first | (refine Evo2.val ok 12 ?_ ?_ ?_; rotate_left; (intro w' hg; go_simp <;> with_reducible rfl); simp only [Act.put, L0, L1, L2]) | (refine Evo2.idl ok 12 ?_; simp only [Act.put, L0, L1, L2])
    first | (refine Evo2.val ok 13 ?_ ?_ ?_; rotate_left; (intro w' hg; go_simp <;> with_reducible rfl); simp only [Act.put, L0, L1, L2]) | (refine Evo2.idl ok 13 ?_; simp only [Act.put, L0, L1, L2])
    first | (refine Evo2.val ok 14 ?_ ?_ ?_; rotate_left; (focus (intro w' hg; refine Box.exec_loadAll ?_ Tryz.underlying28 CE (BX.out.chg (Chg.trans (Chg.refl (fun _ => False) _) hg) id) ?_; (all_goals (first | exact ⟨rfl, rfl⟩ | rfl)))); simp only [Act.put, L0, L1, L2]) | (refine Evo2.val ok 14 ?_ ?_ ?_; rotate_left; (focus (intro w' hg; refine Box.exec_load (off := 75) ?_ Tryz.underlying28 CE (B22.out.chg (Chg.trans (Chg.refl (fun _ => False) _) hg) id) (vs := [.int .i64 3, .string ⟨#[114]⟩, .string ⟨#[]⟩, .int .i64 2, .int .i64 5, .string ⟨#[]⟩, .int .i64 0, .int .i64 0, .int .i64 0, .int .i64 0, .int .i64 0, .string ⟨#[]⟩, .string ⟨#[]⟩, .slice none 0 0, .int .i64 0]) ?_ ?_; (all_goals (first | exact ⟨rfl, rfl⟩ | rfl)))); simp only [Act.put, L0, L1, L2]) | (refine Evo2.val ok 14 ?_ ?_ ?_; rotate_left; (focus (intro w' hg; refine Box.exec_load1 (off := 5) ?_ Tryz.underlying41 rfl (B20.out.chg (Chg.trans (Chg.refl (fun _ => False) _) hg) id) ?_; (all_goals (first | exact ⟨rfl, rfl⟩ | rfl)))); simp only [Act.put, L0, L1, L2]) | (refine Evo2.val ok 14 ?_ ?_ ?_; rotate_left; (intro w' hg; obtain ⟨q1, q2⟩ := KC.out w' (Chg.trans (Chg.refl (fun _ => False) _) hg); go_simp <;> with_reducible rfl); simp only [Act.put, L0, L1, L2]) | (refine Evo2.val ok 14 ?_ ?_ ?_; rotate_left; (intro w' hg; go_simp <;> with_reducible rfl); simp only [Act.put, L0, L1, L2]) | (refine Evo2.idl ok 14 ?_; simp only [Act.put, L0, L1, L2])
    first | (refine Evo2.val ok 17 ?_ ?_ ?_; rotate_left; (intro w' hg; go_simp <;> with_reducible rfl); simp only [Act.put, L0, L1, L2]) | (refine Evo2.idl ok 17 ?_; simp only [Act.put, L0, L1, L2])
    first | (refine Evo2.val ok 18 ?_ ?_ ?_; rotate_left; (intro w' hg; go_simp <;> with_reducible rfl); simp only [Act.put, L0, L1, L2]) | (refine Evo2.idl ok 18 ?_; simp only [Act.put, L0, L1, L2])
    first | (refine Evo2.val ok 19 ?_ ?_ ?_; rotate_left; (intro w' hg; go_simp <;> with_reducible rfl); simp only [Act.put, L0, L1, L2]) | (refine Evo2.idl ok 19 ?_; simp only [Act.put, L0, L1, L2])
    first | (refine Evo2.val ok 20 ?_ ?_ ?_; rotate_left; (focus (intro w' hg; refine Box.exec_loadAll ?_ Tryz.underlying28 CE (BX.out.chg (Chg.trans (Chg.refl (fun _ => False) _) hg) id) ?_; (all_goals (first | exact ⟨rfl, rfl⟩ | rfl)))); simp only [Act.put, L0, L1, L2]) | (refine Evo2.val ok 20 ?_ ?_ ?_; rotate_left; (focus (intro w' hg; refine Box.exec_load (off := 75) ?_ Tryz.underlying28 CE (B22.out.chg (Chg.trans (Chg.refl (fun _ => False) _) hg) id) (vs := [.int .i64 3, .string ⟨#[114]⟩, .string ⟨#[]⟩, .int .i64 2, .int .i64 5, .string ⟨#[]⟩, .int .i64 0, .int .i64 0, .int .i64 0, .int .i64 0, .int .i64 0, .string ⟨#[]⟩, .string ⟨#[]⟩, .slice none 0 0, .int .i64 0]) ?_ ?_; (all_goals (first | exact ⟨rfl, rfl⟩ | rfl)))); simp only [Act.put, L0, L1, L2]) | (refine Evo2.val ok 20 ?_ ?_ ?_; rotate_left; (focus (intro w' hg; refine Box.exec_load1 (off := 5) ?_ Tryz.underlying41 rfl (B20.out.chg (Chg.trans (Chg.refl (fun _ => False) _) hg) id) ?_; (all_goals (first | exact ⟨rfl, rfl⟩ | rfl)))); simp only [Act.put, L0, L1, L2]) | (refine Evo2.val ok 20 ?_ ?_ ?_; rotate_left; (intro w' hg; obtain ⟨q1, q2⟩ := KC.out w' (Chg.trans (Chg.refl (fun _ => False) _) hg); go_simp <;> with_reducible rfl); simp only [Act.put, L0, L1, L2]) | (refine Evo2.val ok 20 ?_ ?_ ?_; rotate_left; (intro w' hg; go_simp <;> with_reducible rfl); simp only [Act.put, L0, L1, L2]) | (refine Evo2.idl ok 20 ?_; simp only [Act.put, L0, L1, L2])
    first | (refine Evo2.val ok 21 ?_ ?_ ?_; rotate_left; (intro w' hg; obtain ⟨q1, q2⟩ := KC.out w' (Chg.trans (Chg.refl (fun _ => False) _) hg); go_simp <;> with_reducible rfl); simp only [Act.put, L0, L1, L2]) | (refine Evo2.val ok 21 ?_ ?_ ?_; rotate_left; (intro w' hg; go_simp <;> with_reducible rfl); simp only [Act.put, L0, L1, L2]) | (refine Evo2.idl ok 21 ?_; simp only [Act.put, L0, L1, L2])
    refine Evo2.all [15] (by decide +kernel) rfl ?_
    intro wp1 gp1 iq hq
    simp only [List.mem_cons, List.mem_nil_iff, or_false] at hq
    have AP1 := Chg.trans (Chg.refl (fun _ => False) _) (Chg.grow gp1)
    subst hq
    refine Evo2.enters 18 _ (by rfl) (by rfl) (by go_simp; exact ⟨rfl, rfl⟩) ?_
    refine (EBX.out _ (TK.out _ AP1)).mono ?_
    rintro e wc1 ⟨v9, rfl, ho9, hg9⟩; obtain ⟨s9, c9, rfl⟩ := own_shape ho9; have CH1 := Chg.grow (G := fun _ => False) hg9; have QK1 := (fun (w' : World) (h : Chg (fun _ => False) wc1 w') => (show (convert 41 9 (.slice s9 11 c9)).run Tryz.prog w' = .ok (.string (strOfNums [3, 0, 0, 0, 2, 1, 114, 0, 0, 0, 5])) w' from cv_own (h.own ho9 (fun _ _ => id))))
    refine ⟨_, rfl, .inr CH1, ?_⟩
    have AC1 := Chg.trans AP1 CH1
    simp only [Act.put, L0, L1, L2]
    first | (refine Evo2.val ok 16 ?_ ?_ ?_; rotate_left; (intro w' hg; have nq := QK1 w' hg; go_simp <;> with_reducible rfl); simp only [Act.put, L0, L1, L2]) | (refine Evo2.val ok 16 ?_ ?_ ?_; rotate_left; (intro w' hg; obtain ⟨q1, q2⟩ := KC.out w' (Chg.trans AC1 hg); go_simp <;> with_reducible rfl); simp only [Act.put, L0, L1, L2]) | (refine Evo2.val ok 16 ?_ ?_ ?_; rotate_left; (intro w' hg; go_simp <;> with_reducible rfl); simp only [Act.put, L0, L1, L2]) | (refine Evo2.idl ok 16 ?_; simp only [Act.put, L0, L1, L2])
    first | (refine Evo2.val ok 22 ?_ ?_ ?_; rotate_left; (intro w' hg; go_simp <;> with_reducible rfl); simp only [Act.put, L0, L1, L2]) | (refine Evo2.idl ok 22 ?_; simp only [Act.put, L0, L1, L2])
    first | (refine Evo2.val ok 23 ?_ ?_ ?_; rotate_left; (intro w' hg; go_simp <;> with_reducible rfl); simp only [Act.put, L0, L1, L2])
    first | (refine Evo2.val ok 24 ?_ ?_ ?_; rotate_left; (intro w' hg; go_simp <;> with_reducible rfl); simp only [Act.put, L0, L1, L2])
    refine Evo2.done (by decide +kernel) (fun wz gz => ?_)
    have AZ := Chg.trans AC1 (Chg.grow gz)
    have HB9 := Lib.hid (HM.out.grow (chg_none AZ)).below
    go_wp2_with fail
    go_ret
    exact ⟨rfl, HB9.out⟩
  · have BK := Lib.hid (show Blk W (wn1.heap.size + 1 + 1 + 1 + 1 + 1 + 1) ((([1, 0, 0, 0, 0, 1, 97, 7, 2, 0, 3, 4] : List Int).map (Value.int .u8)).toArray) 5 from HM.out.blk (i := 6) rfl)
    go_wp2_with (first | (refine Mem.load1 20 (t := 41) rfl rfl rfl Tryz.underlying41 rfl HM.out rfl rfl ?_))
    refine (show Calls Tryz.prog 19 #[.slice (some ⟨wn1.heap.size + 1 + 1 + 1 + 1 + 1 + 1, 0, none⟩) 12 12] W fun x w' => ParseR [1, 0, 0, 0, 0, 1, 97, 7, 2, 0, 3, 4] W x w' from eparse_any (wn1.heap.size + 1 + 1 + 1 + 1 + 1 + 1) _ 12 [1, 0, 0, 0, 0, 1, 97, 7, 2, 0, 3, 4] W (by_blk BK.out).2 (by intro x hx; first | (cases hx; done) | (simp at hx; omega))).mono ?_
    rintro e wn2 ⟨a2, c2, rfl, ht2, hg2⟩
    rw [kn_6] at ht2 ⊢
    dsimp only at ht2 ⊢
    have hm := HM.out.grow hg2
    replace HM := Lib.hid hm
    have HT2 := Lib.hid ht2
    have BK2 := Lib.hid (BK.out.grow hg2)
    clear hm ht2 hg2 BK
    go_wp2_with (refine Mem.storeAll 24 (t := 28) rfl rfl rfl rfl CE (Mem.alloc' HM.out _ _ rfl) rfl rfl rfl rfl ?_; intro wn3 HM3 C3)
    have HT3 := Lib.hid (HT2.out.past (Grow.G.alloc (Grow.G.refl _) _) C3 (Nat.le_refl _))
    simp only [K0, K1, L1, L2, K2, K3, K4, K5, K6, K7, Nat.reduceAdd, Nat.reduceSub] at HM3
    replace HM := Lib.hid HM3
    have BK3 := Lib.hid (show Blk wn3 (wn1.heap.size + 1 + 1 + 1 + 1 + 1 + 1) ((([1, 0, 0, 0, 0, 1, 97, 7, 2, 0, 3, 4] : List Int).map (Value.int .u8)).toArray) 5 from HM3.blk (i := 6) rfl)
    have BX := Lib.hid (HM3.blk (i := 24) rfl)
    clear HM3 C3 HT2 BK2
    refine Stay.go ?_
    have H21 : ∀ w' (h : Chg (fun _ => False) wn3 w'), Blk w' (wn1.heap.size + 1 + 1 + 1 + 1 + 1 + 1 + 1 + 1 + 1 + 1 + 1 + 1 + 1 + 1 + 1 + 1 + 1 + 1 + 1 + 1 + 1) #[.string ⟨#[]⟩, .string ⟨#[116]⟩, .int .i64 100] 39 := fun w' h => (HM.out.blk (i := 21) rfl).chg h id
    have TK := Lib.hid (fun (w' : World) (h : Chg (fun _ => False) wn3 w') => (show TgtSl w' none (⟨1, ⟨#[]⟩, ⟨#[]⟩, 0, 0, ⟨⟨#[97]⟩, 7, 2, 0, 3, 4⟩, ⟨#[]⟩, ⟨#[]⟩, [], 0⟩ : EvD).ts from (.inl rfl)))
    have EBX := Lib.hid (fun w (h : TgtSl w none (⟨1, ⟨#[]⟩, ⟨#[]⟩, 0, 0, ⟨⟨#[97]⟩, 7, 2, 0, 3, 4⟩, ⟨#[]⟩, ⟨#[]⟩, [], 0⟩ : EvD).ts) => (show Calls Tryz.prog 18 #[.agg #[.int .i64 1, .string ⟨#[]⟩, .string ⟨#[]⟩, .int .i64 0, .int .i64 0, .string ⟨#[97]⟩, .int .i64 7, .int .i64 2, .int .i64 0, .int .i64 3, .int .i64 4, .string ⟨#[]⟩, .string ⟨#[]⟩, .slice none 0 0, .int .i64 0]] w fun x w' => ∃ v, x = .returned v ∧ OwnB w' w.heap.size v [1, 0, 0, 0, 0, 1, 97, 7, 2, 0, 3, 4] ∧ Grow.G w w' from by
      have := ebytes_any (⟨1, ⟨#[]⟩, ⟨#[]⟩, 0, 0, ⟨⟨#[97]⟩, 7, 2, 0, 3, 4⟩, ⟨#[]⟩, ⟨#[]⟩, [], 0⟩ : EvD) none 0 w knb_6.2 h
      rw [knb_6.1] at this
      exact this))
    have SMX := Lib.hid (fun w (h : TgtSl w a2 (⟨1, ⟨#[]⟩, ⟨#[]⟩, 0, 0, ⟨⟨#[97]⟩, 7, 2, 0, 3, 4⟩, ⟨#[]⟩, ⟨#[]⟩, [], 0⟩ : EvD).ts) (h' : TgtSl w none (⟨1, ⟨#[]⟩, ⟨#[]⟩, 0, 0, ⟨⟨#[97]⟩, 7, 2, 0, 3, 4⟩, ⟨#[]⟩, ⟨#[]⟩, [], 0⟩ : EvD).ts) => (show Calls Tryz.prog 21 #[.agg #[.int .i64 1, .string ⟨#[]⟩, .string ⟨#[]⟩, .int .i64 0, .int .i64 0, .string ⟨#[97]⟩, .int .i64 7, .int .i64 2, .int .i64 0, .int .i64 3, .int .i64 4, .string ⟨#[]⟩, .string ⟨#[]⟩, .slice a2 0 c2, .int .i64 0], .agg #[.int .i64 1, .string ⟨#[]⟩, .string ⟨#[]⟩, .int .i64 0, .int .i64 0, .string ⟨#[97]⟩, .int .i64 7, .int .i64 2, .int .i64 0, .int .i64 3, .int .i64 4, .string ⟨#[]⟩, .string ⟨#[]⟩, .slice none 0 0, .int .i64 0]] w fun x w' => x = .returned (.bool true) ∧ Below w.heap.size w w' from by
      have := rsame3_any (⟨1, ⟨#[]⟩, ⟨#[]⟩, 0, 0, ⟨⟨#[97]⟩, 7, 2, 0, 3, 4⟩, ⟨#[]⟩, ⟨#[]⟩, [], 0⟩ : EvD) (⟨1, ⟨#[]⟩, ⟨#[]⟩, 0, 0, ⟨⟨#[97]⟩, 7, 2, 0, 3, 4⟩, ⟨#[]⟩, ⟨#[]⟩, [], 0⟩ : EvD) a2 c2 none 0 w h h' (by decide)
      rw [evB_iff.2 rfl] at this
      exact this))
    have B22 := Lib.hid (HM.out.blk (i := 22) rfl)
    have B20 := Lib.hid (HM.out.blk (i := 20) rfl)
    clear H21
    go_wp2_with fail
    have KC := Lib.hid (fun (w' : World) (h : Chg (fun _ => False) wn3 w') => (⟨cv_bytes (by_blk (BK3.out.chg h id)).1, trivial⟩ : (convert 41 9 (.slice (some ⟨wn1.heap.size + 1 + 1 + 1 + 1 + 1 + 1, 0, none⟩) 12 12)).run Tryz.prog w' = .ok (.string (strOfNums [1, 0, 0, 0, 0, 1, 97, 7, 2, 0, 3, 4])) w' ∧ True))
    refine Evo2.start' (ℓ := none) (S := Chg (fun _ => False)) (E := Grow.G) (by kernel_rfl) ⟨Chg.pre _, by decide +kernel, (by intro c a d v w h; cases d <;> exact h), by decide +kernel⟩ (fun ok => ?_)
    first | (refine Evo2.val ok 0 ?_ ?_ ?_; rotate_left; (intro w' hg; go_simp <;> with_reducible rfl); simp only [Act.put, L0, L1, L2])
    first | (refine Evo2.val ok 1 ?_ ?_ ?_; rotate_left; (intro w' hg; go_simp <;> with_reducible rfl); simp only [Act.put, L0, L1, L2])
    first | (refine Evo2.val ok 2 ?_ ?_ ?_; rotate_left; (intro w' hg; go_simp <;> with_reducible rfl); simp only [Act.put, L0, L1, L2])
    first | (refine Evo2.val ok 3 ?_ ?_ ?_; rotate_left; (focus (intro w' hg; refine Box.exec_loadAll ?_ Tryz.underlying28 CE (BX.out.chg (Chg.trans (Chg.refl (fun _ => False) _) hg) id) ?_; (all_goals (first | exact ⟨rfl, rfl⟩ | rfl)))); simp only [Act.put, L0, L1, L2]) | (refine Evo2.val ok 3 ?_ ?_ ?_; rotate_left; (focus (intro w' hg; refine Box.exec_load (off := 90) ?_ Tryz.underlying28 CE (B22.out.chg (Chg.trans (Chg.refl (fun _ => False) _) hg) id) (vs := [.int .i64 1, .string ⟨#[]⟩, .string ⟨#[]⟩, .int .i64 0, .int .i64 0, .string ⟨#[97]⟩, .int .i64 7, .int .i64 2, .int .i64 0, .int .i64 3, .int .i64 4, .string ⟨#[]⟩, .string ⟨#[]⟩, .slice none 0 0, .int .i64 0]) ?_ ?_; (all_goals (first | exact ⟨rfl, rfl⟩ | rfl)))); simp only [Act.put, L0, L1, L2]) | (refine Evo2.val ok 3 ?_ ?_ ?_; rotate_left; (focus (intro w' hg; refine Box.exec_load1 (off := 6) ?_ Tryz.underlying41 rfl (B20.out.chg (Chg.trans (Chg.refl (fun _ => False) _) hg) id) ?_; (all_goals (first | exact ⟨rfl, rfl⟩ | rfl)))); simp only [Act.put, L0, L1, L2]) | (refine Evo2.val ok 3 ?_ ?_ ?_; rotate_left; (intro w' hg; obtain ⟨q1, q2⟩ := KC.out w' (Chg.trans (Chg.refl (fun _ => False) _) hg); go_simp <;> with_reducible rfl); simp only [Act.put, L0, L1, L2]) | (refine Evo2.val ok 3 ?_ ?_ ?_; rotate_left; (intro w' hg; go_simp <;> with_reducible rfl); simp only [Act.put, L0, L1, L2]) | (refine Evo2.idl ok 3 ?_; simp only [Act.put, L0, L1, L2])
    first | (refine Evo2.val ok 4 ?_ ?_ ?_; rotate_left; (intro w' hg; go_simp <;> with_reducible rfl); simp only [Act.put, L0, L1, L2]) | (refine Evo2.idl ok 4 ?_; simp only [Act.put, L0, L1, L2])
    first | (refine Evo2.val ok 5 ?_ ?_ ?_; rotate_left; (intro w' hg; go_simp <;> with_reducible rfl); simp only [Act.put, L0, L1, L2]) | (refine Evo2.idl ok 5 ?_; simp only [Act.put, L0, L1, L2])
    first | (refine Evo2.val ok 6 ?_ ?_ ?_; rotate_left; (intro w' hg; go_simp <;> with_reducible rfl); simp only [Act.put, L0, L1, L2]) | (refine Evo2.idl ok 6 ?_; simp only [Act.put, L0, L1, L2])
    first | (refine Evo2.val ok 7 ?_ ?_ ?_; rotate_left; (focus (intro w' hg; refine Box.exec_loadAll ?_ Tryz.underlying28 CE (BX.out.chg (Chg.trans (Chg.refl (fun _ => False) _) hg) id) ?_; (all_goals (first | exact ⟨rfl, rfl⟩ | rfl)))); simp only [Act.put, L0, L1, L2]) | (refine Evo2.val ok 7 ?_ ?_ ?_; rotate_left; (focus (intro w' hg; refine Box.exec_load (off := 90) ?_ Tryz.underlying28 CE (B22.out.chg (Chg.trans (Chg.refl (fun _ => False) _) hg) id) (vs := [.int .i64 1, .string ⟨#[]⟩, .string ⟨#[]⟩, .int .i64 0, .int .i64 0, .string ⟨#[97]⟩, .int .i64 7, .int .i64 2, .int .i64 0, .int .i64 3, .int .i64 4, .string ⟨#[]⟩, .string ⟨#[]⟩, .slice none 0 0, .int .i64 0]) ?_ ?_; (all_goals (first | exact ⟨rfl, rfl⟩ | rfl)))); simp only [Act.put, L0, L1, L2]) | (refine Evo2.val ok 7 ?_ ?_ ?_; rotate_left; (focus (intro w' hg; refine Box.exec_load1 (off := 6) ?_ Tryz.underlying41 rfl (B20.out.chg (Chg.trans (Chg.refl (fun _ => False) _) hg) id) ?_; (all_goals (first | exact ⟨rfl, rfl⟩ | rfl)))); simp only [Act.put, L0, L1, L2]) | (refine Evo2.val ok 7 ?_ ?_ ?_; rotate_left; (intro w' hg; obtain ⟨q1, q2⟩ := KC.out w' (Chg.trans (Chg.refl (fun _ => False) _) hg); go_simp <;> with_reducible rfl); simp only [Act.put, L0, L1, L2]) | (refine Evo2.val ok 7 ?_ ?_ ?_; rotate_left; (intro w' hg; go_simp <;> with_reducible rfl); simp only [Act.put, L0, L1, L2]) | (refine Evo2.idl ok 7 ?_; simp only [Act.put, L0, L1, L2])
    first | (refine Evo2.cal ok 8 ?_ 21 ?_ ?_ ?_ ?_; rotate_left 2; (focus (intro w'; go_simp <;> with_reducible rfl)); (focus (intro w' g'; with_reducible exact SMX.out w' (HT3.out.chg (Chg.trans (Chg.refl (fun _ => False) _) g') (fun _ _ _ => id)) (TK.out w' (Chg.trans (Chg.refl (fun _ => False) _) g')))); simp only [Act.put, L0, L1, L2]) | (refine Evo2.idl ok 8 ?_; simp only [Act.put, L0, L1, L2])
    first | (refine Evo2.val ok 9 ?_ ?_ ?_; rotate_left; (intro w' hg; go_simp <;> with_reducible rfl); simp only [Act.put, L0, L1, L2])
    first | (refine Evo2.val ok 10 ?_ ?_ ?_; rotate_left; (intro w' hg; go_simp <;> with_reducible rfl); simp only [Act.put, L0, L1, L2])
    first | (refine Evo2.val ok 11 ?_ ?_ ?_; rotate_left; (intro w' hg; go_simp <;> with_reducible rfl); simp only [Act.put, L0, L1, L2]) | (refine Evo2.idl ok 11 ?_; simp only [Act.put, L0, L1, L2])
    first | (refine Evo2.val ok 12 ?_ ?_ ?_; rotate_left; (intro w' hg; go_simp <;> with_reducible rfl); simp only [Act.put, L0, L1, L2]) | (refine Evo2.idl ok 12 ?_; simp only [Act.put, L0, L1, L2])
    first | (refine Evo2.val ok 13 ?_ ?_ ?_; rotate_left; (intro w' hg; go_simp <;> with_reducible rfl); simp only [Act.put, L0, L1, L2]) | (refine Evo2.idl ok 13 ?_; simp only [Act.put, L0, L1, L2])
    first | (refine Evo2.val ok 14 ?_ ?_ ?_; rotate_left; (focus (intro w' hg; refine Box.exec_loadAll ?_ Tryz.underlying28 CE (BX.out.chg (Chg.trans (Chg.refl (fun _ => False) _) hg) id) ?_; (all_goals (first | exact ⟨rfl, rfl⟩ | rfl)))); simp only [Act.put, L0, L1, L2]) | (refine Evo2.val ok 14 ?_ ?_ ?_; rotate_left; (focus (intro w' hg; refine Box.exec_load (off := 90) ?_ Tryz.underlying28 CE (B22.out.chg (Chg.trans (Chg.refl (fun _ => False) _) hg) id) (vs := [.int .i64 1, .string ⟨#[]⟩, .string ⟨#[]⟩, .int .i64 0, .int .i64 0, .string ⟨#[97]⟩, .int .i64 7, .int .i64 2, .int .i64 0, .int .i64 3, .int .i64 4, .string ⟨#[]⟩, .string ⟨#[]⟩, .slice none 0 0, .int .i64 0]) ?_ ?_; (all_goals (first | exact ⟨rfl, rfl⟩ | rfl)))); simp only [Act.put, L0, L1, L2]) | (refine Evo2.val ok 14 ?_ ?_ ?_; rotate_left; (focus (intro w' hg; refine Box.exec_load1 (off := 6) ?_ Tryz.underlying41 rfl (B20.out.chg (Chg.trans (Chg.refl (fun _ => False) _) hg) id) ?_; (all_goals (first | exact ⟨rfl, rfl⟩ | rfl)))); simp only [Act.put, L0, L1, L2]) | (refine Evo2.val ok 14 ?_ ?_ ?_; rotate_left; (intro w' hg; obtain ⟨q1, q2⟩ := KC.out w' (Chg.trans (Chg.refl (fun _ => False) _) hg); go_simp <;> with_reducible rfl); simp only [Act.put, L0, L1, L2]) | (refine Evo2.val ok 14 ?_ ?_ ?_; rotate_left; (intro w' hg; go_simp <;> with_reducible rfl); simp only [Act.put, L0, L1, L2]) | (refine Evo2.idl ok 14 ?_; simp only [Act.put, L0, L1, L2])
    first | (refine Evo2.val ok 17 ?_ ?_ ?_; rotate_left; (intro w' hg; go_simp <;> with_reducible rfl); simp only [Act.put, L0, L1, L2]) | (refine Evo2.idl ok 17 ?_; simp only [Act.put, L0, L1, L2])
    first | (refine Evo2.val ok 18 ?_ ?_ ?_; rotate_left; (intro w' hg; go_simp <;> with_reducible rfl); simp only [Act.put, L0, L1, L2]) | (refine Evo2.idl ok 18 ?_; simp only [Act.put, L0, L1, L2])
    first | (refine Evo2.val ok 19 ?_ ?_ ?_; rotate_left; (intro w' hg; go_simp <;> with_reducible rfl); simp only [Act.put, L0, L1, L2]) | (refine Evo2.idl ok 19 ?_; simp only [Act.put, L0, L1, L2])
    first | (refine Evo2.val ok 20 ?_ ?_ ?_; rotate_left; (focus (intro w' hg; refine Box.exec_loadAll ?_ Tryz.underlying28 CE (BX.out.chg (Chg.trans (Chg.refl (fun _ => False) _) hg) id) ?_; (all_goals (first | exact ⟨rfl, rfl⟩ | rfl)))); simp only [Act.put, L0, L1, L2]) | (refine Evo2.val ok 20 ?_ ?_ ?_; rotate_left; (focus (intro w' hg; refine Box.exec_load (off := 90) ?_ Tryz.underlying28 CE (B22.out.chg (Chg.trans (Chg.refl (fun _ => False) _) hg) id) (vs := [.int .i64 1, .string ⟨#[]⟩, .string ⟨#[]⟩, .int .i64 0, .int .i64 0, .string ⟨#[97]⟩, .int .i64 7, .int .i64 2, .int .i64 0, .int .i64 3, .int .i64 4, .string ⟨#[]⟩, .string ⟨#[]⟩, .slice none 0 0, .int .i64 0]) ?_ ?_; (all_goals (first | exact ⟨rfl, rfl⟩ | rfl)))); simp only [Act.put, L0, L1, L2]) | (refine Evo2.val ok 20 ?_ ?_ ?_; rotate_left; (focus (intro w' hg; refine Box.exec_load1 (off := 6) ?_ Tryz.underlying41 rfl (B20.out.chg (Chg.trans (Chg.refl (fun _ => False) _) hg) id) ?_; (all_goals (first | exact ⟨rfl, rfl⟩ | rfl)))); simp only [Act.put, L0, L1, L2]) | (refine Evo2.val ok 20 ?_ ?_ ?_; rotate_left; (intro w' hg; obtain ⟨q1, q2⟩ := KC.out w' (Chg.trans (Chg.refl (fun _ => False) _) hg); go_simp <;> with_reducible rfl); simp only [Act.put, L0, L1, L2]) | (refine Evo2.val ok 20 ?_ ?_ ?_; rotate_left; (intro w' hg; go_simp <;> with_reducible rfl); simp only [Act.put, L0, L1, L2]) | (refine Evo2.idl ok 20 ?_; simp only [Act.put, L0, L1, L2])
    first | (refine Evo2.val ok 21 ?_ ?_ ?_; rotate_left; (intro w' hg; obtain ⟨q1, q2⟩ := KC.out w' (Chg.trans (Chg.refl (fun _ => False) _) hg); go_simp <;> with_reducible rfl); simp only [Act.put, L0, L1, L2]) | (refine Evo2.val ok 21 ?_ ?_ ?_; rotate_left; (intro w' hg; go_simp <;> with_reducible rfl); simp only [Act.put, L0, L1, L2]) | (refine Evo2.idl ok 21 ?_; simp only [Act.put, L0, L1, L2])
    refine Evo2.all [15] (by decide +kernel) rfl ?_
    intro wp1 gp1 iq hq
    simp only [List.mem_cons, List.mem_nil_iff, or_false] at hq
    have AP1 := Chg.trans (Chg.refl (fun _ => False) _) (Chg.grow gp1)
    subst hq
    refine Evo2.enters 18 _ (by rfl) (by rfl) (by go_simp; exact ⟨rfl, rfl⟩) ?_
    refine (EBX.out _ (TK.out _ AP1)).mono ?_
    rintro e wc1 ⟨v9, rfl, ho9, hg9⟩; obtain ⟨s9, c9, rfl⟩ := own_shape ho9; have CH1 := Chg.grow (G := fun _ => False) hg9; have QK1 := (fun (w' : World) (h : Chg (fun _ => False) wc1 w') => (show (convert 41 9 (.slice s9 12 c9)).run Tryz.prog w' = .ok (.string (strOfNums [1, 0, 0, 0, 0, 1, 97, 7, 2, 0, 3, 4])) w' from cv_own (h.own ho9 (fun _ _ => id))))
    refine ⟨_, rfl, .inr CH1, ?_⟩
    have AC1 := Chg.trans AP1 CH1
    simp only [Act.put, L0, L1, L2]
    first | (refine Evo2.val ok 16 ?_ ?_ ?_; rotate_left; (intro w' hg; have nq := QK1 w' hg; go_simp <;> with_reducible rfl); simp only [Act.put, L0, L1, L2]) | (refine Evo2.val ok 16 ?_ ?_ ?_; rotate_left; (intro w' hg; obtain ⟨q1, q2⟩ := KC.out w' (Chg.trans AC1 hg); go_simp <;> with_reducible rfl); simp only [Act.put, L0, L1, L2]) | (refine Evo2.val ok 16 ?_ ?_ ?_; rotate_left; (intro w' hg; go_simp <;> with_reducible rfl); simp only [Act.put, L0, L1, L2]) | (refine Evo2.idl ok 16 ?_; simp only [Act.put, L0, L1, L2])
    first | (refine Evo2.val ok 22 ?_ ?_ ?_; rotate_left; (intro w' hg; go_simp <;> with_reducible rfl); simp only [Act.put, L0, L1, L2]) | (refine Evo2.idl ok 22 ?_; simp only [Act.put, L0, L1, L2])
    first | (refine Evo2.val ok 23 ?_ ?_ ?_; rotate_left; (intro w' hg; go_simp <;> with_reducible rfl); simp only [Act.put, L0, L1, L2])
    first | (refine Evo2.val ok 24 ?_ ?_ ?_; rotate_left; (intro w' hg; go_simp <;> with_reducible rfl); simp only [Act.put, L0, L1, L2])
    refine Evo2.done (by decide +kernel) (fun wz gz => ?_)
    have AZ := Chg.trans AC1 (Chg.grow gz)
    have HB9 := Lib.hid (HM.out.grow (chg_none AZ)).below
    go_wp2_with fail
    go_ret
    exact ⟨rfl, HB9.out⟩
  · have BK := Lib.hid (show Blk W (wn1.heap.size + 1 + 1 + 1 + 1 + 1 + 1 + 1) ((([2, 0, 0, 0, 6, 1, 114, 1, 97, 9, 1, 0, 1, 116, 100] : List Int).map (Value.int .u8)).toArray) 5 from HM.out.blk (i := 7) rfl)
    go_wp2_with (first | (refine Mem.load1 20 (t := 41) rfl rfl rfl Tryz.underlying41 rfl HM.out rfl rfl ?_))
    refine (show Calls Tryz.prog 19 #[.slice (some ⟨wn1.heap.size + 1 + 1 + 1 + 1 + 1 + 1 + 1, 0, none⟩) 15 15] W fun x w' => ParseR [2, 0, 0, 0, 6, 1, 114, 1, 97, 9, 1, 0, 1, 116, 100] W x w' from eparse_any (wn1.heap.size + 1 + 1 + 1 + 1 + 1 + 1 + 1) _ 15 [2, 0, 0, 0, 6, 1, 114, 1, 97, 9, 1, 0, 1, 116, 100] W (by_blk BK.out).2 (by intro x hx; first | (cases hx; done) | (simp at hx; omega))).mono ?_
    rintro e wn2 ⟨a2, c2, rfl, ht2, hg2⟩
    rw [kn_7] at ht2 ⊢
    dsimp only at ht2 ⊢
    have hm := HM.out.grow hg2
    replace HM := Lib.hid hm
    have HT2 := Lib.hid ht2
    have BK2 := Lib.hid (BK.out.grow hg2)
    clear hm ht2 hg2 BK
    go_wp2_with (refine Mem.storeAll 24 (t := 28) rfl rfl rfl rfl CE (Mem.alloc' HM.out _ _ rfl) rfl rfl rfl rfl ?_; intro wn3 HM3 C3)
    have HT3 := Lib.hid (HT2.out.past (Grow.G.alloc (Grow.G.refl _) _) C3 (Nat.le_refl _))
    simp only [K0, K1, L1, L2, K2, K3, K4, K5, K6, K7, Nat.reduceAdd, Nat.reduceSub] at HM3
    replace HM := Lib.hid HM3
    have BK3 := Lib.hid (show Blk wn3 (wn1.heap.size + 1 + 1 + 1 + 1 + 1 + 1 + 1) ((([2, 0, 0, 0, 6, 1, 114, 1, 97, 9, 1, 0, 1, 116, 100] : List Int).map (Value.int .u8)).toArray) 5 from HM3.blk (i := 7) rfl)
    have BX := Lib.hid (HM3.blk (i := 24) rfl)
    clear HM3 C3 HT2 BK2
    refine Stay.go ?_
    have H21 : ∀ w' (h : Chg (fun _ => False) wn3 w'), Blk w' (wn1.heap.size + 1 + 1 + 1 + 1 + 1 + 1 + 1 + 1 + 1 + 1 + 1 + 1 + 1 + 1 + 1 + 1 + 1 + 1 + 1 + 1 + 1) #[.string ⟨#[]⟩, .string ⟨#[116]⟩, .int .i64 100] 39 := fun w' h => (HM.out.blk (i := 21) rfl).chg h id
    have TK := Lib.hid (fun (w' : World) (h : Chg (fun _ => False) wn3 w') => (show TgtSl w' (some ⟨wn1.heap.size + 1 + 1 + 1 + 1 + 1 + 1 + 1 + 1 + 1 + 1 + 1 + 1 + 1 + 1 + 1 + 1 + 1 + 1 + 1 + 1 + 1, 0, none⟩) (⟨2, ⟨#[]⟩, ⟨#[]⟩, 6, 0, ⟨⟨#[]⟩, 0, 0, 0, 0, 0⟩, ⟨#[114]⟩, ⟨#[97]⟩, [⟨⟨#[]⟩, ⟨#[116]⟩, 100⟩], 9⟩ : EvD).ts from (.inr ⟨_, 0, rfl, fun i hi => (match i, hi with | 0, _ => ⟨(H21 w' h).at rfl, (H21 w' h).at rfl, (H21 w' h).at rfl⟩ | i + 1, hi => absurd (Nat.lt_of_succ_lt_succ hi) (Nat.not_lt_zero _))⟩)))
    have EBX := Lib.hid (fun w (h : TgtSl w (some ⟨wn1.heap.size + 1 + 1 + 1 + 1 + 1 + 1 + 1 + 1 + 1 + 1 + 1 + 1 + 1 + 1 + 1 + 1 + 1 + 1 + 1 + 1 + 1, 0, none⟩) (⟨2, ⟨#[]⟩, ⟨#[]⟩, 6, 0, ⟨⟨#[]⟩, 0, 0, 0, 0, 0⟩, ⟨#[114]⟩, ⟨#[97]⟩, [⟨⟨#[]⟩, ⟨#[116]⟩, 100⟩], 9⟩ : EvD).ts) => (show Calls Tryz.prog 18 #[.agg #[.int .i64 2, .string ⟨#[]⟩, .string ⟨#[]⟩, .int .i64 6, .int .i64 0, .string ⟨#[]⟩, .int .i64 0, .int .i64 0, .int .i64 0, .int .i64 0, .int .i64 0, .string ⟨#[114]⟩, .string ⟨#[97]⟩, .slice (some ⟨wn1.heap.size + 1 + 1 + 1 + 1 + 1 + 1 + 1 + 1 + 1 + 1 + 1 + 1 + 1 + 1 + 1 + 1 + 1 + 1 + 1 + 1 + 1, 0, none⟩) 1 1, .int .i64 9]] w fun x w' => ∃ v, x = .returned v ∧ OwnB w' w.heap.size v [2, 0, 0, 0, 6, 1, 114, 1, 97, 9, 1, 0, 1, 116, 100] ∧ Grow.G w w' from by
      have := ebytes_any (⟨2, ⟨#[]⟩, ⟨#[]⟩, 6, 0, ⟨⟨#[]⟩, 0, 0, 0, 0, 0⟩, ⟨#[114]⟩, ⟨#[97]⟩, [⟨⟨#[]⟩, ⟨#[116]⟩, 100⟩], 9⟩ : EvD) (some ⟨wn1.heap.size + 1 + 1 + 1 + 1 + 1 + 1 + 1 + 1 + 1 + 1 + 1 + 1 + 1 + 1 + 1 + 1 + 1 + 1 + 1 + 1 + 1, 0, none⟩) 1 w knb_7.2 h
      rw [knb_7.1] at this
      exact this))
    have SMX := Lib.hid (fun w (h : TgtSl w a2 (⟨2, ⟨#[]⟩, ⟨#[]⟩, 6, 0, ⟨⟨#[]⟩, 0, 0, 0, 0, 0⟩, ⟨#[114]⟩, ⟨#[97]⟩, [⟨⟨#[]⟩, ⟨#[116]⟩, 100⟩], 9⟩ : EvD).ts) (h' : TgtSl w (some ⟨wn1.heap.size + 1 + 1 + 1 + 1 + 1 + 1 + 1 + 1 + 1 + 1 + 1 + 1 + 1 + 1 + 1 + 1 + 1 + 1 + 1 + 1 + 1, 0, none⟩) (⟨2, ⟨#[]⟩, ⟨#[]⟩, 6, 0, ⟨⟨#[]⟩, 0, 0, 0, 0, 0⟩, ⟨#[114]⟩, ⟨#[97]⟩, [⟨⟨#[]⟩, ⟨#[116]⟩, 100⟩], 9⟩ : EvD).ts) => (show Calls Tryz.prog 21 #[.agg #[.int .i64 2, .string ⟨#[]⟩, .string ⟨#[]⟩, .int .i64 6, .int .i64 0, .string ⟨#[]⟩, .int .i64 0, .int .i64 0, .int .i64 0, .int .i64 0, .int .i64 0, .string ⟨#[114]⟩, .string ⟨#[97]⟩, .slice a2 1 c2, .int .i64 9], .agg #[.int .i64 2, .string ⟨#[]⟩, .string ⟨#[]⟩, .int .i64 6, .int .i64 0, .string ⟨#[]⟩, .int .i64 0, .int .i64 0, .int .i64 0, .int .i64 0, .int .i64 0, .string ⟨#[114]⟩, .string ⟨#[97]⟩, .slice (some ⟨wn1.heap.size + 1 + 1 + 1 + 1 + 1 + 1 + 1 + 1 + 1 + 1 + 1 + 1 + 1 + 1 + 1 + 1 + 1 + 1 + 1 + 1 + 1, 0, none⟩) 1 1, .int .i64 9]] w fun x w' => x = .returned (.bool true) ∧ Below w.heap.size w w' from by
      have := rsame3_any (⟨2, ⟨#[]⟩, ⟨#[]⟩, 6, 0, ⟨⟨#[]⟩, 0, 0, 0, 0, 0⟩, ⟨#[114]⟩, ⟨#[97]⟩, [⟨⟨#[]⟩, ⟨#[116]⟩, 100⟩], 9⟩ : EvD) (⟨2, ⟨#[]⟩, ⟨#[]⟩, 6, 0, ⟨⟨#[]⟩, 0, 0, 0, 0, 0⟩, ⟨#[114]⟩, ⟨#[97]⟩, [⟨⟨#[]⟩, ⟨#[116]⟩, 100⟩], 9⟩ : EvD) a2 c2 (some ⟨wn1.heap.size + 1 + 1 + 1 + 1 + 1 + 1 + 1 + 1 + 1 + 1 + 1 + 1 + 1 + 1 + 1 + 1 + 1 + 1 + 1 + 1 + 1, 0, none⟩) 1 w h h' (by decide)
      rw [evB_iff.2 rfl] at this
      exact this))
    have B22 := Lib.hid (HM.out.blk (i := 22) rfl)
    have B20 := Lib.hid (HM.out.blk (i := 20) rfl)
    clear H21
    go_wp2_with fail
    have KC := Lib.hid (fun (w' : World) (h : Chg (fun _ => False) wn3 w') => (⟨cv_bytes (by_blk (BK3.out.chg h id)).1, trivial⟩ : (convert 41 9 (.slice (some ⟨wn1.heap.size + 1 + 1 + 1 + 1 + 1 + 1 + 1, 0, none⟩) 15 15)).run Tryz.prog w' = .ok (.string (strOfNums [2, 0, 0, 0, 6, 1, 114, 1, 97, 9, 1, 0, 1, 116, 100])) w' ∧ True))
    refine Evo2.start' (ℓ := none) (S := Chg (fun _ => False)) (E := Grow.G) (by kernel_rfl) ⟨Chg.pre _, by decide +kernel, (by intro c a d v w h; cases d <;> exact h), by decide +kernel⟩ (fun ok => ?_)
    first | (refine Evo2.val ok 0 ?_ ?_ ?_; rotate_left; (intro w' hg; go_simp <;> with_reducible rfl); simp only [Act.put, L0, L1, L2])
    first | (refine Evo2.val ok 1 ?_ ?_ ?_; rotate_left; (intro w' hg; go_simp <;> with_reducible rfl); simp only [Act.put, L0, L1, L2])
    first | (refine Evo2.val ok 2 ?_ ?_ ?_; rotate_left; (intro w' hg; go_simp <;> with_reducible rfl); simp only [Act.put, L0, L1, L2])
    first | (refine Evo2.val ok 3 ?_ ?_ ?_; rotate_left; (focus (intro w' hg; refine Box.exec_loadAll ?_ Tryz.underlying28 CE (BX.out.chg (Chg.trans (Chg.refl (fun _ => False) _) hg) id) ?_; (all_goals (first | exact ⟨rfl, rfl⟩ | rfl)))); simp only [Act.put, L0, L1, L2]) | (refine Evo2.val ok 3 ?_ ?_ ?_; rotate_left; (focus (intro w' hg; refine Box.exec_load (off := 105) ?_ Tryz.underlying28 CE (B22.out.chg (Chg.trans (Chg.refl (fun _ => False) _) hg) id) (vs := [.int .i64 2, .string ⟨#[]⟩, .string ⟨#[]⟩, .int .i64 6, .int .i64 0, .string ⟨#[]⟩, .int .i64 0, .int .i64 0, .int .i64 0, .int .i64 0, .int .i64 0, .string ⟨#[114]⟩, .string ⟨#[97]⟩, .slice (some ⟨wn1.heap.size + 1 + 1 + 1 + 1 + 1 + 1 + 1 + 1 + 1 + 1 + 1 + 1 + 1 + 1 + 1 + 1 + 1 + 1 + 1 + 1 + 1, 0, none⟩) 1 1, .int .i64 9]) ?_ ?_; (all_goals (first | exact ⟨rfl, rfl⟩ | rfl)))); simp only [Act.put, L0, L1, L2]) | (refine Evo2.val ok 3 ?_ ?_ ?_; rotate_left; (focus (intro w' hg; refine Box.exec_load1 (off := 7) ?_ Tryz.underlying41 rfl (B20.out.chg (Chg.trans (Chg.refl (fun _ => False) _) hg) id) ?_; (all_goals (first | exact ⟨rfl, rfl⟩ | rfl)))); simp only [Act.put, L0, L1, L2]) | (refine Evo2.val ok 3 ?_ ?_ ?_; rotate_left; (intro w' hg; obtain ⟨q1, q2⟩ := KC.out w' (Chg.trans (Chg.refl (fun _ => False) _) hg); go_simp <;> with_reducible rfl); simp only [Act.put, L0, L1, L2]) | (refine Evo2.val ok 3 ?_ ?_ ?_; rotate_left; (intro w' hg; go_simp <;> with_reducible rfl); simp only [Act.put, L0, L1, L2]) | (refine Evo2.idl ok 3 ?_; simp only [Act.put, L0, L1, L2])
    first | (refine Evo2.val ok 4 ?_ ?_ ?_; rotate_left; (intro w' hg; go_simp <;> with_reducible rfl); simp only [Act.put, L0, L1, L2]) | (refine Evo2.idl ok 4 ?_; simp only [Act.put, L0, L1, L2])
    first | (refine Evo2.val ok 5 ?_ ?_ ?_; rotate_left; (intro w' hg; go_simp <;> with_reducible rfl); simp only [Act.put, L0, L1, L2]) | (refine Evo2.idl ok 5 ?_; simp only [Act.put, L0, L1, L2])
    first | (refine Evo2.val ok 6 ?_ ?_ ?_; rotate_left; (intro w' hg; go_simp <;> with_reducible rfl); simp only [Act.put, L0, L1, L2]) | (refine Evo2.idl ok 6 ?_; simp only [Act.put, L0, L1, L2])
    first | (refine Evo2.val ok 7 ?_ ?_ ?_; rotate_left; (focus (intro w' hg; refine Box.exec_loadAll ?_ Tryz.underlying28 CE (BX.out.chg (Chg.trans (Chg.refl (fun _ => False) _) hg) id) ?_; (all_goals (first | exact ⟨rfl, rfl⟩ | rfl)))); simp only [Act.put, L0, L1, L2]) | (refine Evo2.val ok 7 ?_ ?_ ?_; rotate_left; (focus (intro w' hg; refine Box.exec_load (off := 105) ?_ Tryz.underlying28 CE (B22.out.chg (Chg.trans (Chg.refl (fun _ => False) _) hg) id) (vs := [.int .i64 2, .string ⟨#[]⟩, .string ⟨#[]⟩, .int .i64 6, .int .i64 0, .string ⟨#[]⟩, .int .i64 0, .int .i64 0, .int .i64 0, .int .i64 0, .int .i64 0, .string ⟨#[114]⟩, .string ⟨#[97]⟩, .slice (some ⟨wn1.heap.size + 1 + 1 + 1 + 1 + 1 + 1 + 1 + 1 + 1 + 1 + 1 + 1 + 1 + 1 + 1 + 1 + 1 + 1 + 1 + 1 + 1, 0, none⟩) 1 1, .int .i64 9]) ?_ ?_; (all_goals (first | exact ⟨rfl, rfl⟩ | rfl)))); simp only [Act.put, L0, L1, L2]) | (refine Evo2.val ok 7 ?_ ?_ ?_; rotate_left; (focus (intro w' hg; refine Box.exec_load1 (off := 7) ?_ Tryz.underlying41 rfl (B20.out.chg (Chg.trans (Chg.refl (fun _ => False) _) hg) id) ?_; (all_goals (first | exact ⟨rfl, rfl⟩ | rfl)))); simp only [Act.put, L0, L1, L2]) | (refine Evo2.val ok 7 ?_ ?_ ?_; rotate_left; (intro w' hg; obtain ⟨q1, q2⟩ := KC.out w' (Chg.trans (Chg.refl (fun _ => False) _) hg); go_simp <;> with_reducible rfl); simp only [Act.put, L0, L1, L2]) | (refine Evo2.val ok 7 ?_ ?_ ?_; rotate_left; (intro w' hg; go_simp <;> with_reducible rfl); simp only [Act.put, L0, L1, L2]) | (refine Evo2.idl ok 7 ?_; simp only [Act.put, L0, L1, L2])
    first | (refine Evo2.cal ok 8 ?_ 21 ?_ ?_ ?_ ?_; rotate_left 2; (focus (intro w'; go_simp <;> with_reducible rfl)); (focus (intro w' g'; with_reducible exact SMX.out w' (HT3.out.chg (Chg.trans (Chg.refl (fun _ => False) _) g') (fun _ _ _ => id)) (TK.out w' (Chg.trans (Chg.refl (fun _ => False) _) g')))); simp only [Act.put, L0, L1, L2]) | (refine Evo2.idl ok 8 ?_; simp only [Act.put, L0, L1, L2])
    first | (refine Evo2.val ok 9 ?_ ?_ ?_; rotate_left; (intro w' hg; go_simp <;> with_reducible rfl); simp only [Act.put, L0, L1, L2])
    first | (refine Evo2.val ok 10 ?_ ?_ ?_; rotate_left; (intro w' hg; go_simp <;> with_reducible rfl); simp only [Act.put, L0, L1, L2])
    first | (refine Evo2.val ok 11 ?_ ?_ ?_; rotate_left; (intro w' hg; go_simp <;> with_reducible rfl); simp only [Act.put, L0, L1, L2]) | (refine Evo2.idl ok 11 ?_; simp only [Act.put, L0, L1, L2])
    first | (refine Evo2.val ok 12 ?_ ?_ ?_; rotate_left; (intro w' hg; go_simp <;> with_reducible rfl); simp only [Act.put, L0, L1, L2]) | (refine Evo2.idl ok 12 ?_; simp only [Act.put, L0, L1, L2])
    first | (refine Evo2.val ok 13 ?_ ?_ ?_; rotate_left; (intro w' hg; go_simp <;> with_reducible rfl); simp only [Act.put, L0, L1, L2]) | (refine Evo2.idl ok 13 ?_; simp only [Act.put, L0, L1, L2])
    first | (refine Evo2.val ok 14 ?_ ?_ ?_; rotate_left; (focus (intro w' hg; refine Box.exec_loadAll ?_ Tryz.underlying28 CE (BX.out.chg (Chg.trans (Chg.refl (fun _ => False) _) hg) id) ?_; (all_goals (first | exact ⟨rfl, rfl⟩ | rfl)))); simp only [Act.put, L0, L1, L2]) | (refine Evo2.val ok 14 ?_ ?_ ?_; rotate_left; (focus (intro w' hg; refine Box.exec_load (off := 105) ?_ Tryz.underlying28 CE (B22.out.chg (Chg.trans (Chg.refl (fun _ => False) _) hg) id) (vs := [.int .i64 2, .string ⟨#[]⟩, .string ⟨#[]⟩, .int .i64 6, .int .i64 0, .string ⟨#[]⟩, .int .i64 0, .int .i64 0, .int .i64 0, .int .i64 0, .int .i64 0, .string ⟨#[114]⟩, .string ⟨#[97]⟩, .slice (some ⟨wn1.heap.size + 1 + 1 + 1 + 1 + 1 + 1 + 1 + 1 + 1 + 1 + 1 + 1 + 1 + 1 + 1 + 1 + 1 + 1 + 1 + 1 + 1, 0, none⟩) 1 1, .int .i64 9]) ?_ ?_; (all_goals (first | exact ⟨rfl, rfl⟩ | rfl)))); simp only [Act.put, L0, L1, L2]) | (refine Evo2.val ok 14 ?_ ?_ ?_; rotate_left; (focus (intro w' hg; refine Box.exec_load1 (off := 7) ?_ Tryz.underlying41 rfl (B20.out.chg (Chg.trans (Chg.refl (fun _ => False) _) hg) id) ?_; (all_goals (first | exact ⟨rfl, rfl⟩ | rfl)))); simp only [Act.put, L0, L1, L2]) | (refine Evo2.val ok 14 ?_ ?_ ?_; rotate_left; (intro w' hg; obtain ⟨q1, q2⟩ := KC.out w' (Chg.trans (Chg.refl (fun _ => False) _) hg); go_simp <;> with_reducible rfl); simp only [Act.put, L0, L1, L2]) | (refine Evo2.val ok 14 ?_ ?_ ?_; rotate_left; (intro w' hg; go_simp <;> with_reducible rfl); simp only [Act.put, L0, L1, L2]) | (refine Evo2.idl ok 14 ?_; simp only [Act.put, L0, L1, L2])
    first | (refine Evo2.val ok 17 ?_ ?_ ?_; rotate_left; (intro w' hg; go_simp <;> with_reducible rfl); simp only [Act.put, L0, L1, L2]) | (refine Evo2.idl ok 17 ?_; simp only [Act.put, L0, L1, L2])
    first | (refine Evo2.val ok 18 ?_ ?_ ?_; rotate_left; (intro w' hg; go_simp <;> with_reducible rfl); simp only [Act.put, L0, L1, L2]) | (refine Evo2.idl ok 18 ?_; simp only [Act.put, L0, L1, L2])
    first | (refine Evo2.val ok 19 ?_ ?_ ?_; rotate_left; (intro w' hg; go_simp <;> with_reducible rfl); simp only [Act.put, L0, L1, L2]) | (refine Evo2.idl ok 19 ?_; simp only [Act.put, L0, L1, L2])
    first | (refine Evo2.val ok 20 ?_ ?_ ?_; rotate_left; (focus (intro w' hg; refine Box.exec_loadAll ?_ Tryz.underlying28 CE (BX.out.chg (Chg.trans (Chg.refl (fun _ => False) _) hg) id) ?_; (all_goals (first | exact ⟨rfl, rfl⟩ | rfl)))); simp only [Act.put, L0, L1, L2]) | (refine Evo2.val ok 20 ?_ ?_ ?_; rotate_left; (focus (intro w' hg; refine Box.exec_load (off := 105) ?_ Tryz.underlying28 CE (B22.out.chg (Chg.trans (Chg.refl (fun _ => False) _) hg) id) (vs := [.int .i64 2, .string ⟨#[]⟩, .string ⟨#[]⟩, .int .i64 6, .int .i64 0, .string ⟨#[]⟩, .int .i64 0, .int .i64 0, .int .i64 0, .int .i64 0, .int .i64 0, .string ⟨#[114]⟩, .string ⟨#[97]⟩, .slice (some ⟨wn1.heap.size + 1 + 1 + 1 + 1 + 1 + 1 + 1 + 1 + 1 + 1 + 1 + 1 + 1 + 1 + 1 + 1 + 1 + 1 + 1 + 1 + 1, 0, none⟩) 1 1, .int .i64 9]) ?_ ?_; (all_goals (first | exact ⟨rfl, rfl⟩ | rfl)))); simp only [Act.put, L0, L1, L2]) | (refine Evo2.val ok 20 ?_ ?_ ?_; rotate_left; (focus (intro w' hg; refine Box.exec_load1 (off := 7) ?_ Tryz.underlying41 rfl (B20.out.chg (Chg.trans (Chg.refl (fun _ => False) _) hg) id) ?_; (all_goals (first | exact ⟨rfl, rfl⟩ | rfl)))); simp only [Act.put, L0, L1, L2]) | (refine Evo2.val ok 20 ?_ ?_ ?_; rotate_left; (intro w' hg; obtain ⟨q1, q2⟩ := KC.out w' (Chg.trans (Chg.refl (fun _ => False) _) hg); go_simp <;> with_reducible rfl); simp only [Act.put, L0, L1, L2]) | (refine Evo2.val ok 20 ?_ ?_ ?_; rotate_left; (intro w' hg; go_simp <;> with_reducible rfl); simp only [Act.put, L0, L1, L2]) | (refine Evo2.idl ok 20 ?_; simp only [Act.put, L0, L1, L2])
    first | (refine Evo2.val ok 21 ?_ ?_ ?_; rotate_left; (intro w' hg; obtain ⟨q1, q2⟩ := KC.out w' (Chg.trans (Chg.refl (fun _ => False) _) hg); go_simp <;> with_reducible rfl); simp only [Act.put, L0, L1, L2]) | (refine Evo2.val ok 21 ?_ ?_ ?_; rotate_left; (intro w' hg; go_simp <;> with_reducible rfl); simp only [Act.put, L0, L1, L2]) | (refine Evo2.idl ok 21 ?_; simp only [Act.put, L0, L1, L2])
    refine Evo2.all [15] (by decide +kernel) rfl ?_
    intro wp1 gp1 iq hq
    simp only [List.mem_cons, List.mem_nil_iff, or_false] at hq
    have AP1 := Chg.trans (Chg.refl (fun _ => False) _) (Chg.grow gp1)
    subst hq
    refine Evo2.enters 18 _ (by rfl) (by rfl) (by go_simp; exact ⟨rfl, rfl⟩) ?_
    refine (EBX.out _ (TK.out _ AP1)).mono ?_
    rintro e wc1 ⟨v9, rfl, ho9, hg9⟩; obtain ⟨s9, c9, rfl⟩ := own_shape ho9; have CH1 := Chg.grow (G := fun _ => False) hg9; have QK1 := (fun (w' : World) (h : Chg (fun _ => False) wc1 w') => (show (convert 41 9 (.slice s9 15 c9)).run Tryz.prog w' = .ok (.string (strOfNums [2, 0, 0, 0, 6, 1, 114, 1, 97, 9, 1, 0, 1, 116, 100])) w' from cv_own (h.own ho9 (fun _ _ => id))))
    refine ⟨_, rfl, .inr CH1, ?_⟩
    have AC1 := Chg.trans AP1 CH1
    simp only [Act.put, L0, L1, L2]
    first | (refine Evo2.val ok 16 ?_ ?_ ?_; rotate_left; (intro w' hg; have nq := QK1 w' hg; go_simp <;> with_reducible rfl); simp only [Act.put, L0, L1, L2]) | (refine Evo2.val ok 16 ?_ ?_ ?_; rotate_left; (intro w' hg; obtain ⟨q1, q2⟩ := KC.out w' (Chg.trans AC1 hg); go_simp <;> with_reducible rfl); simp only [Act.put, L0, L1, L2]) | (refine Evo2.val ok 16 ?_ ?_ ?_; rotate_left; (intro w' hg; go_simp <;> with_reducible rfl); simp only [Act.put, L0, L1, L2]) | (refine Evo2.idl ok 16 ?_; simp only [Act.put, L0, L1, L2])
    first | (refine Evo2.val ok 22 ?_ ?_ ?_; rotate_left; (intro w' hg; go_simp <;> with_reducible rfl); simp only [Act.put, L0, L1, L2]) | (refine Evo2.idl ok 22 ?_; simp only [Act.put, L0, L1, L2])
    first | (refine Evo2.val ok 23 ?_ ?_ ?_; rotate_left; (intro w' hg; go_simp <;> with_reducible rfl); simp only [Act.put, L0, L1, L2])
    first | (refine Evo2.val ok 24 ?_ ?_ ?_; rotate_left; (intro w' hg; go_simp <;> with_reducible rfl); simp only [Act.put, L0, L1, L2])
    refine Evo2.done (by decide +kernel) (fun wz gz => ?_)
    have AZ := Chg.trans AC1 (Chg.grow gz)
    have HB9 := Lib.hid (HM.out.grow (chg_none AZ)).below
    go_wp2_with fail
    go_ret
    exact ⟨rfl, HB9.out⟩
end Go.Proofs.YtnkekdmikopdgaaGreat
