
/- RollKnown: these are just these. -/
import Derived.Test.YtbfoponlofkocaaZ53
import Derived.Test.YtbfoponlofkocaaZ38
import Derived.Test.YtbfoponlofkocaaZ47
namespace Go.Proofs.Ytbfoponlofkocaa
set_option maxRecDepth 100000
set_option linter.unusedVariables false
set_option linter.unusedSimpArgs false
set_option linter.unnecessarySimpa false
open Go.RowKit Go.Args

def kA3 : ByteArray := ⟨#[97, 45, 51]⟩
def kC : List Shr := [⟨kA1, 60⟩, ⟨kA2, 40⟩]
def kD : List Shr := [⟨kA2, 10⟩, ⟨kA3, 90⟩]
theorem kC_sd : Sd kC := ⟨by decide +kernel, by decide +kernel, fun s hs => by simp [kC] at hs; rcases hs with rfl | rfl <;> decide, by decide⟩
theorem kD_sd : Sd kD := ⟨by decide +kernel, by decide +kernel, fun s hs => by simp [kD] at hs; rcases hs with rfl | rfl <;> decide, by decide⟩
theorem kd9 : digS 9 = ⟨#[57]⟩ := by
  rw [digS_small (n := 9) (by decide)]
  rfl
theorem kd10 : digS 10 = ⟨#[49, 48]⟩ := by
  rw [digS_big (by decide), show (10 : Nat) / 10 = 1 from rfl, show (10 : Nat) % 10 = 0 from rfl, digS_small (n := 1) (by decide), digS_small (n := 0) (by decide)]
  rfl
theorem kd15 : digS 15 = ⟨#[49, 53]⟩ := by
  rw [digS_big (by decide), show (15 : Nat) / 10 = 1 from rfl, show (15 : Nat) % 10 = 5 from rfl, digS_small (n := 1) (by decide), digS_small (n := 5) (by decide)]
  rfl
theorem kd19 : digS 19 = ⟨#[49, 57]⟩ := by
  rw [digS_big (by decide), show (19 : Nat) / 10 = 1 from rfl, show (19 : Nat) % 10 = 9 from rfl, digS_small (n := 1) (by decide), digS_small (n := 9) (by decide)]
  rfl
theorem kd27 : digS 27 = ⟨#[50, 55]⟩ := by
  rw [digS_big (by decide), show (27 : Nat) / 10 = 2 from rfl, show (27 : Nat) % 10 = 7 from rfl, digS_small (n := 2) (by decide), digS_small (n := 7) (by decide)]
  rfl
theorem kd33 : digS 33 = ⟨#[51, 51]⟩ := by
  rw [digS_big (by decide), show (33 : Nat) / 10 = 3 from rfl, show (33 : Nat) % 10 = 3 from rfl, digS_small (n := 3) (by decide)]
  rfl
theorem kd37 : digS 37 = ⟨#[51, 55]⟩ := by
  rw [digS_big (by decide), show (37 : Nat) / 10 = 3 from rfl, show (37 : Nat) % 10 = 7 from rfl, digS_small (n := 3) (by decide), digS_small (n := 7) (by decide)]
  rfl
theorem kd40 : digS 40 = ⟨#[52, 48]⟩ := by
  rw [digS_big (by decide), show (40 : Nat) / 10 = 4 from rfl, show (40 : Nat) % 10 = 0 from rfl, digS_small (n := 4) (by decide), digS_small (n := 0) (by decide)]
  rfl
theorem kd45 : digS 45 = ⟨#[52, 53]⟩ := by
  rw [digS_big (by decide), show (45 : Nat) / 10 = 4 from rfl, show (45 : Nat) % 10 = 5 from rfl, digS_small (n := 4) (by decide), digS_small (n := 5) (by decide)]
  rfl
theorem kd51 : digS 51 = ⟨#[53, 49]⟩ := by
  rw [digS_big (by decide), show (51 : Nat) / 10 = 5 from rfl, show (51 : Nat) % 10 = 1 from rfl, digS_small (n := 5) (by decide), digS_small (n := 1) (by decide)]
  rfl
theorem kd60 : digS 60 = ⟨#[54, 48]⟩ := by
  rw [digS_big (by decide), show (60 : Nat) / 10 = 6 from rfl, show (60 : Nat) % 10 = 0 from rfl, digS_small (n := 6) (by decide), digS_small (n := 0) (by decide)]
  rfl
theorem kd63 : digS 63 = ⟨#[54, 51]⟩ := by
  rw [digS_big (by decide), show (63 : Nat) / 10 = 6 from rfl, show (63 : Nat) % 10 = 3 from rfl, digS_small (n := 6) (by decide), digS_small (n := 3) (by decide)]
  rfl
theorem kd81 : digS 81 = ⟨#[56, 49]⟩ := by
  rw [digS_big (by decide), show (81 : Nat) / 10 = 8 from rfl, show (81 : Nat) % 10 = 1 from rfl, digS_small (n := 8) (by decide), digS_small (n := 1) (by decide)]
  rfl
theorem kd90 : digS 90 = ⟨#[57, 48]⟩ := by
  rw [digS_big (by decide), show (90 : Nat) / 10 = 9 from rfl, show (90 : Nat) % 10 = 0 from rfl, digS_small (n := 9) (by decide), digS_small (n := 0) (by decide)]
  rfl
theorem kl0 : rollL kC kD 0 10 = [⟨kA1, 60⟩, ⟨kA2, 40⟩] := by kernel_rfl
theorem kt0 : textB [⟨kA1, 60⟩, ⟨kA2, 40⟩] [] = ⟨#[97, 45, 49, 58, 54, 48, 32, 97, 45, 50, 58, 52, 48]⟩ := by
  have h : wordsL [⟨kA1, 60⟩, ⟨kA2, 40⟩] [] = [⟨#[97, 45, 49, 58, 54, 48]⟩, ⟨#[97, 45, 50, 58, 52, 48]⟩] := by
    show [R3.t ⟨kA1, ⟨#[58]⟩, digS 60⟩, R3.t ⟨kA2, ⟨#[58]⟩, digS 40⟩] = _
    rw [kd60, kd40]; rfl
  unfold textB
  rw [h]; rfl
theorem kl1 : rollL kC kD 1 10 = [⟨kA1, 51⟩, ⟨kA2, 40⟩, ⟨kA3, 9⟩] := by kernel_rfl
theorem kt1 : textB [⟨kA1, 51⟩, ⟨kA2, 40⟩, ⟨kA3, 9⟩] [] = ⟨#[97, 45, 49, 58, 53, 49, 32, 97, 45, 50, 58, 52, 48, 32, 97, 45, 51, 58, 57]⟩ := by
  have h : wordsL [⟨kA1, 51⟩, ⟨kA2, 40⟩, ⟨kA3, 9⟩] [] = [⟨#[97, 45, 49, 58, 53, 49]⟩, ⟨#[97, 45, 50, 58, 52, 48]⟩, ⟨#[97, 45, 51, 58, 57]⟩] := by
    show [R3.t ⟨kA1, ⟨#[58]⟩, digS 51⟩, R3.t ⟨kA2, ⟨#[58]⟩, digS 40⟩, R3.t ⟨kA3, ⟨#[58]⟩, digS 9⟩] = _
    rw [kd51, kd40, kd9]; rfl
  unfold textB
  rw [h]; rfl
theorem kl2 : rollL kC kD 3 10 = [⟨kA1, 33⟩, ⟨kA2, 40⟩, ⟨kA3, 27⟩] := by kernel_rfl
theorem kt2 : textB [⟨kA1, 33⟩, ⟨kA2, 40⟩, ⟨kA3, 27⟩] [] = ⟨#[97, 45, 49, 58, 51, 51, 32, 97, 45, 50, 58, 52, 48, 32, 97, 45, 51, 58, 50, 55]⟩ := by
  have h : wordsL [⟨kA1, 33⟩, ⟨kA2, 40⟩, ⟨kA3, 27⟩] [] = [⟨#[97, 45, 49, 58, 51, 51]⟩, ⟨#[97, 45, 50, 58, 52, 48]⟩, ⟨#[97, 45, 51, 58, 50, 55]⟩] := by
    show [R3.t ⟨kA1, ⟨#[58]⟩, digS 33⟩, R3.t ⟨kA2, ⟨#[58]⟩, digS 40⟩, R3.t ⟨kA3, ⟨#[58]⟩, digS 27⟩] = _
    rw [kd33, kd40, kd27]; rfl
  unfold textB
  rw [h]; rfl
theorem kl3 : rollL kC kD 5 10 = [⟨kA1, 15⟩, ⟨kA2, 40⟩, ⟨kA3, 45⟩] := by kernel_rfl
theorem kt3 : textB [⟨kA1, 15⟩, ⟨kA2, 40⟩, ⟨kA3, 45⟩] [] = ⟨#[97, 45, 49, 58, 49, 53, 32, 97, 45, 50, 58, 52, 48, 32, 97, 45, 51, 58, 52, 53]⟩ := by
  have h : wordsL [⟨kA1, 15⟩, ⟨kA2, 40⟩, ⟨kA3, 45⟩] [] = [⟨#[97, 45, 49, 58, 49, 53]⟩, ⟨#[97, 45, 50, 58, 52, 48]⟩, ⟨#[97, 45, 51, 58, 52, 53]⟩] := by
    show [R3.t ⟨kA1, ⟨#[58]⟩, digS 15⟩, R3.t ⟨kA2, ⟨#[58]⟩, digS 40⟩, R3.t ⟨kA3, ⟨#[58]⟩, digS 45⟩] = _
    rw [kd15, kd40, kd45]; rfl
  unfold textB
  rw [h]; rfl
theorem kl4 : rollL kC kD 7 10 = [⟨kA2, 37⟩, ⟨kA3, 63⟩] := by kernel_rfl
theorem kt4 : textB [⟨kA2, 37⟩, ⟨kA3, 63⟩] [] = ⟨#[97, 45, 50, 58, 51, 55, 32, 97, 45, 51, 58, 54, 51]⟩ := by
  have h : wordsL [⟨kA2, 37⟩, ⟨kA3, 63⟩] [] = [⟨#[97, 45, 50, 58, 51, 55]⟩, ⟨#[97, 45, 51, 58, 54, 51]⟩] := by
    show [R3.t ⟨kA2, ⟨#[58]⟩, digS 37⟩, R3.t ⟨kA3, ⟨#[58]⟩, digS 63⟩] = _
    rw [kd37, kd63]; rfl
  unfold textB
  rw [h]; rfl
theorem kl5 : rollL kC kD 9 10 = [⟨kA2, 19⟩, ⟨kA3, 81⟩] := by kernel_rfl
theorem kt5 : textB [⟨kA2, 19⟩, ⟨kA3, 81⟩] [] = ⟨#[97, 45, 50, 58, 49, 57, 32, 97, 45, 51, 58, 56, 49]⟩ := by
  have h : wordsL [⟨kA2, 19⟩, ⟨kA3, 81⟩] [] = [⟨#[97, 45, 50, 58, 49, 57]⟩, ⟨#[97, 45, 51, 58, 56, 49]⟩] := by
    show [R3.t ⟨kA2, ⟨#[58]⟩, digS 19⟩, R3.t ⟨kA3, ⟨#[58]⟩, digS 81⟩] = _
    rw [kd19, kd81]; rfl
  unfold textB
  rw [h]; rfl
theorem kl6 : rollL kC kD 10 10 = [⟨kA2, 10⟩, ⟨kA3, 90⟩] := by kernel_rfl
theorem kt6 : textB [⟨kA2, 10⟩, ⟨kA3, 90⟩] [] = ⟨#[97, 45, 50, 58, 49, 48, 32, 97, 45, 51, 58, 57, 48]⟩ := by
  have h : wordsL [⟨kA2, 10⟩, ⟨kA3, 90⟩] [] = [⟨#[97, 45, 50, 58, 49, 48]⟩, ⟨#[97, 45, 51, 58, 57, 48]⟩] := by
    show [R3.t ⟨kA2, ⟨#[58]⟩, digS 10⟩, R3.t ⟨kA3, ⟨#[58]⟩, digS 90⟩] = _
    rw [kd10, kd90]; rfl
  unfold textB
  rw [h]; rfl
def tmK : List Int := [0, 1, 3, 5, 7, 9, 10]
def wtK : List ByteArray := [⟨#[97, 45, 49, 58, 54, 48, 32, 97, 45, 50, 58, 52, 48]⟩, ⟨#[97, 45, 49, 58, 53, 49, 32, 97, 45, 50, 58, 52, 48, 32, 97, 45, 51, 58, 57]⟩, ⟨#[97, 45, 49, 58, 51, 51, 32, 97, 45, 50, 58, 52, 48, 32, 97, 45, 51, 58, 50, 55]⟩, ⟨#[97, 45, 49, 58, 49, 53, 32, 97, 45, 50, 58, 52, 48, 32, 97, 45, 51, 58, 52, 53]⟩, ⟨#[97, 45, 50, 58, 51, 55, 32, 97, 45, 51, 58, 54, 51]⟩, ⟨#[97, 45, 50, 58, 49, 57, 32, 97, 45, 51, 58, 56, 49]⟩, ⟨#[97, 45, 50, 58, 49, 48, 32, 97, 45, 51, 58, 57, 48]⟩]
theorem kn_text : ∀ k : Nat, k < 7 → ∃ t s, tmK[k]? = some t ∧ wtK[k]? = some s ∧ 0 ≤ t ∧ t ≤ 10 ∧ textB (rollL kC kD t 10) [] = s
  | 0, _ => ⟨0, _, rfl, rfl, by decide, by decide, by rw [kl0, kt0]⟩
  | 1, _ => ⟨1, _, rfl, rfl, by decide, by decide, by rw [kl1, kt1]⟩
  | 2, _ => ⟨3, _, rfl, rfl, by decide, by decide, by rw [kl2, kt2]⟩
  | 3, _ => ⟨5, _, rfl, rfl, by decide, by decide, by rw [kl3, kt3]⟩
  | 4, _ => ⟨7, _, rfl, rfl, by decide, by decide, by rw [kl4, kt4]⟩
  | 5, _ => ⟨9, _, rfl, rfl, by decide, by decide, by rw [kl5, kt5]⟩
  | 6, _ => ⟨10, _, rfl, rfl, by decide, by decide, by rw [kl6, kt6]⟩
  | n + 7, h => absurd h (by omega)
set_option maxHeartbeats 8000000 in
theorem walkRollKnown (w : World) (a : Int) (ha : wf64 a) :
    Calls Try.prog 8 #[.int .i64 a] w fun e w' => e = .returned (.bool true) ∧ Below w.heap.size w w' := by
  have WT := Lib.hid (fun w => within6w_any a 7 w (by omega) (by omega) ha.1 ha.2)
  have RT := withinI_range a 7 (by omega)
  generalize withinI a 7 = k0 at *
  obtain ⟨k, hk⟩ : ∃ k : Nat, k0 = (k : Int) := ⟨k0.toNat, by omega⟩
  subst hk
  obtain ⟨t, s, ht, hs, t0, t1, hx⟩ := kn_text k (by omega)
  have HT := Lib.hid ht
  have HS := Lib.hid hs
  have HX := Lib.hid hx
  have SD := roll_sd (t := t) (n := 10) kC_sd kD_sd (by decide +kernel)
  have SM := Lib.hid SD.small
  clear ha ht hs hx SD
  go_enter Try.func8, Try.ntmps8
  go_wp2_with fail
  refine (known6_any w).mono ?_
  rintro e w0 ⟨rfl, gk0⟩
  have G0 := Lib.hid gk0
  clear gk0
  generalize w0 = W at *
  go_wp2_with fail
  have HM := ((((Mem.nil W).alloc' [.string ⟨#[97, 45, 49]⟩, .int .i64 60, .string ⟨#[97, 45, 50]⟩, .int .i64 40] 39 (g := W.heap.size) rfl).alloc' [.string ⟨#[97, 45, 50]⟩, .int .i64 10, .string ⟨#[97, 45, 51]⟩, .int .i64 90] 39 (g := W.heap.size + 1) (by simp)).alloc' [.int .i64 0, .int .i64 1, .int .i64 3, .int .i64 5, .int .i64 7, .int .i64 9, .int .i64 10] 3 (g := W.heap.size + 1 + 1) (by simp)).alloc' [.string ⟨#[97, 45, 49, 58, 54, 48, 32, 97, 45, 50, 58, 52, 48]⟩, .string ⟨#[97, 45, 49, 58, 53, 49, 32, 97, 45, 50, 58, 52, 48, 32, 97, 45, 51, 58, 57]⟩, .string ⟨#[97, 45, 49, 58, 51, 51, 32, 97, 45, 50, 58, 52, 48, 32, 97, 45, 51, 58, 50, 55]⟩, .string ⟨#[97, 45, 49, 58, 49, 53, 32, 97, 45, 50, 58, 52, 48, 32, 97, 45, 51, 58, 52, 53]⟩, .string ⟨#[97, 45, 50, 58, 51, 55, 32, 97, 45, 51, 58, 54, 51]⟩, .string ⟨#[97, 45, 50, 58, 49, 57, 32, 97, 45, 51, 58, 56, 49]⟩, .string ⟨#[97, 45, 50, 58, 49, 48, 32, 97, 45, 51, 58, 57, 48]⟩] 9 (g := W.heap.size + 1 + 1 + 1) (by simp)
  simp only [List.nil_append, List.cons_append] at HM
  have A4 := sh2 (HM.blk (i := 0) rfl)
  have B4 := sh2 (HM.blk (i := 1) rfl)
  have T4 := HM.blk (i := 2) rfl
  have W4' := HM.blk (i := 3) rfl
  have G4 := Lib.hid (G0.out.trans HM.below)
  clear HM
  refine (WT.out _).mono ?_
  rintro e w4 ⟨rfl, rfl⟩
  generalize W.heap.size = gb at *
  have cT : _ = _ := Blk.at (cs := [.int .i64 0, .int .i64 1, .int .i64 3, .int .i64 5, .int .i64 7, .int .i64 9, .int .i64 10]) (k := k) (v := .int .i64 t) T4 (by rw [show ([.int .i64 0, .int .i64 1, .int .i64 3, .int .i64 5, .int .i64 7, .int .i64 9, .int .i64 10] : List Value) = tmK.map (Value.int .i64) from rfl, List.getElem?_map, HT.out]; rfl)
  have cW : _ = _ := Blk.at (cs := [.string ⟨#[97, 45, 49, 58, 54, 48, 32, 97, 45, 50, 58, 52, 48]⟩, .string ⟨#[97, 45, 49, 58, 53, 49, 32, 97, 45, 50, 58, 52, 48, 32, 97, 45, 51, 58, 57]⟩, .string ⟨#[97, 45, 49, 58, 51, 51, 32, 97, 45, 50, 58, 52, 48, 32, 97, 45, 51, 58, 50, 55]⟩, .string ⟨#[97, 45, 49, 58, 49, 53, 32, 97, 45, 50, 58, 52, 48, 32, 97, 45, 51, 58, 52, 53]⟩, .string ⟨#[97, 45, 50, 58, 51, 55, 32, 97, 45, 51, 58, 54, 51]⟩, .string ⟨#[97, 45, 50, 58, 49, 57, 32, 97, 45, 51, 58, 56, 49]⟩, .string ⟨#[97, 45, 50, 58, 49, 48, 32, 97, 45, 51, 58, 57, 48]⟩]) (k := k) (v := .string s) W4' (by rw [show ([.string ⟨#[97, 45, 49, 58, 54, 48, 32, 97, 45, 50, 58, 52, 48]⟩, .string ⟨#[97, 45, 49, 58, 53, 49, 32, 97, 45, 50, 58, 52, 48, 32, 97, 45, 51, 58, 57]⟩, .string ⟨#[97, 45, 49, 58, 51, 51, 32, 97, 45, 50, 58, 52, 48, 32, 97, 45, 51, 58, 50, 55]⟩, .string ⟨#[97, 45, 49, 58, 49, 53, 32, 97, 45, 50, 58, 52, 48, 32, 97, 45, 51, 58, 52, 53]⟩, .string ⟨#[97, 45, 50, 58, 51, 55, 32, 97, 45, 51, 58, 54, 51]⟩, .string ⟨#[97, 45, 50, 58, 49, 57, 32, 97, 45, 51, 58, 56, 49]⟩, .string ⟨#[97, 45, 50, 58, 49, 48, 32, 97, 45, 51, 58, 57, 48]⟩] : List Value) = wtK.map Value.string from rfl, List.getElem?_map, HS.out]; rfl)
  clear T4 W4'
  generalize World.alloc (World.alloc (World.alloc (World.alloc W _) _) _) _ = W4 at *
  have AB := Lib.hid (And.intro A4 B4)
  clear A4 B4
  have KC := Lib.hid (fun (w' : World) (h : Chg (fun _ => False) W4 w') => (⟨h.cell cT id, h.cell cW id, trivial⟩ : w'.cell? ⟨gb + 1 + 1, k, none⟩ = some (.int .i64 t) ∧ w'.cell? ⟨gb + 1 + 1 + 1, k, none⟩ = some (.string s) ∧ True))
  have C1 := Lib.hid (fun (w' : World) (h : Chg (fun _ => False) W4 w') => rollAt (l := kC) (m := kD) 2 2 t 10 w' kC_sd kD_sd rfl (SlOf.later AB.out.1 (g0 h)) (SlOf.later AB.out.2 (g0 h)) (by omega) (by omega))
  have k1 : (0 : Int) ≤ (k : Int) := by omega
  have k2 : (k : Int) < 7 := by omega
  have TX := Lib.hid (fun (xa : Option Addr) (xc : Nat) (w' : World) (h : ShSl w' xa (rollL kC kD t 10)) => (show Calls Try.prog 22 #[.agg #[.slice xa (rollL kC kD t 10).length xc, .slice none 0 0]] w' fun e w'' => e = .returned (.string s) ∧ Grow.G w' w'' from by
    have := rtext_any xa (rollL kC kD t 10) xc none [] 0 w' h (.inl rfl) SM.out nil_small
    rw [HX.out] at this; exact this))
  clear cT cW AB
  have EQ : (s.toList == s.toList) = true := by simp
  generalize rollL kC kD t 10 = r at *
  go_wp2_with fail
  refine Evo2.start' (ℓ := none) (S := Chg (fun _ => False)) (E := Grow.G) (by kernel_rfl) ⟨Chg.pre _, by decide +kernel, (by intro c a d v w h; cases d <;> exact h), by decide +kernel⟩ (fun ok => ?_)
  refine Evo2.va ok 0 _ _ ?_
  refine Evo2.va ok 1 _ _ ?_
  refine Evo2.va ok 2 _ _ ?_
  refine Evo2.va ok 3 _ _ ?_
  refine Evo2.va ok 4 _ _ ?_
  first | (refine Evo2.vl ok 5 KC.out (Chg.refl (fun _ => False) _) _ _ ?_) | (refine Evo2.va ok 5 _ _ ?_)
  refine Evo2.va ok 9 _ _ ?_
  refine Evo2.va ok 10 _ _ ?_
  refine Evo2.va ok 11 _ _ ?_
  first | (refine Evo2.vl ok 12 KC.out (Chg.refl (fun _ => False) _) _ _ ?_) | (refine Evo2.va ok 12 _ _ ?_)
  refine Evo2.all [6] (by decide +kernel) rfl ?_
  intro wp1 gp1 iq hq
  simp only [List.mem_cons, List.mem_nil_iff, or_false] at hq
  have AP1 := Chg.trans (Chg.refl (fun _ => False) _) (Chg.grow gp1)
  (try replace X4 := SlOf.later X4 gp1)
  subst hq
  refine Evo2.enters 16 _ (by rfl) (by rfl) (by go_simp; exact ⟨rfl, rfl⟩) ?_
  refine (C1.out _ AP1).mono ?_
  rintro e wc1 ⟨xa, xc, rfl, X4, hg⟩; have CH1 := Chg.grow (G := fun _ => False) hg
  refine ⟨_, rfl, .inr CH1, ?_⟩
  have AC1 := Chg.trans AP1 CH1
  simp only [Act.put, L0, L1, L2]
  refine Evo2.va ok 7 _ _ ?_
  refine Evo2.all [8] (by decide +kernel) rfl ?_
  intro wp2 gp2 iq hq
  simp only [List.mem_cons, List.mem_nil_iff, or_false] at hq
  have AP2 := Chg.trans AC1 (Chg.grow gp2)
  (try replace X4 := SlOf.later X4 gp2)
  subst hq
  refine Evo2.enters 22 _ (by rfl) (by rfl) (by go_simp; exact ⟨rfl, rfl⟩) ?_
  refine (TX.out _ _ _ X4).mono ?_
  rintro e wc2 ⟨rfl, hg⟩; have CH2 := Chg.grow (G := fun _ => False) hg
  refine ⟨_, rfl, .inr CH2, ?_⟩
  have AC2 := Chg.trans AP2 CH2
  simp only [Act.put, L0, L1, L2]
  refine Evo2.va ok 13 _ _ ?_
  refine Evo2.va ok 14 _ _ ?_
  refine Evo2.done (by decide +kernel) (fun wz gz => ?_)
  have AZ := Chg.trans AC2 (Chg.grow gz)
  (try replace X4 := SlOf.later X4 gz)
  have G6 := Lib.hid (G4.out.trans (g0 AZ))
  go_wp2_with fail
  go_ret
  exact ⟨by first | rfl | (simp; done), G6.out⟩
end Go.Proofs.Ytbfoponlofkocaa
