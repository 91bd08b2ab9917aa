
/- RollOne: from one revision to another one the new one has as much as of the time is gone, rounded down. -/
import Derived.Test.YtbfoponlofkocaaZ53
import Derived.Test.YtbfoponlofkocaaZ38
namespace Go.Proofs.Ytbfoponlofkocaa
set_option maxRecDepth 100000
set_option linter.unusedVariables false
set_option linter.unusedSimpArgs false
set_option linter.unnecessarySimpa false
open Go.RowKit Go.Args

def kP (p : Int) : List Shr := if p = 100 then [⟨kA2, p⟩] else [⟨kA1, 100 - p⟩, ⟨kA2, p⟩]
theorem kA1_ok : revB kA1 = true := (kA_sd.ok _ (List.mem_singleton.2 rfl)).1
theorem kA2_ok : revB kA2 = true := (kB_sd.ok _ (List.mem_singleton.2 rfl)).1
theorem kP_sd {p : Int} (h1 : 1 ≤ p) (h2 : p ≤ 100) : Sd (kP p) := by
  unfold kP
  by_cases h : p = 100
  · subst h; exact kB_sd
  · rw [if_neg h]
    refine ⟨?_, by simp only [sumW]; omega, fun s hs => ?_, by simp⟩
    · have e1 : shOk ⟨kA1, 100 - p⟩ = true := shOk_iff.2 ⟨kA1_ok, by dsimp only; omega, by dsimp only; omega⟩
      have e2 : shOk ⟨kA2, p⟩ = true := shOk_iff.2 ⟨kA2_ok, by dsimp only; omega, by dsimp only; omega⟩
      rw [ascF, ascF, e1, e2, show ltS ⟨#[]⟩ kA1 = true by decide +kernel, show ltS kA1 kA2 = true by decide +kernel]; rfl
    · simp at hs
      rcases hs with rfl | rfl
      · exact (show kA1.size ≤ 100000 by decide)
      · exact (show kA2.size ≤ 100000 by decide)
theorem kP_names (p : Int) : namesL kA (kP p) = [kA1, kA2] := by
  unfold kP
  split
  · show insN (insN [] kA1) kA2 = _
    decide +kernel
  · show insN (insN (insN [] kA1) kA1) kA2 = _
    decide +kernel
theorem kP_wt {p : Int} : wtL (kP p) kA2 = p := by
  unfold kP
  split
  · rw [wtL, if_pos rfl]
  · rw [wtL, if_neg (show ¬ kA1 = kA2 by decide), wtL, if_pos rfl]
theorem one_wt {p t n : Int} (h1 : 1 ≤ p) (h2 : p ≤ 100) (ht : 0 ≤ t) (hn : t ≤ n) (hn0 : 0 < n) : wtL (rollL kA (kP p) t n) kA2 = p * t / n ∧ wtL (rollL kA (kP p) t n) kA1 = 100 - p * t / n ∧ (rollL kA (kP p) t n).length ≤ 2 ∧ Sd (rollL kA (kP p) t n) := by
  have e0 : wtL kA kA2 = 0 := by decide +kernel
  have sp := kP_sd h1 h2
  have e2 : wtL (rollL kA (kP p) t n) kA2 = p * t / n := by
    by_cases h : t < n
    · rw [roll_gains kA_sd sp ht h (by rw [e0, kP_wt]; omega), e0, kP_wt]; simp
    · have : t = n := by omega
      subst this
      rw [roll_to (by omega), kP_wt, Int.mul_ediv_cancel _ (by omega)]
  have sd := roll_sd (t := t) (n := n) kA_sd sp (by rw [kP_names]; decide)
  have hm : ∀ s, s ∈ rollL kA (kP p) t n → s.rev ∈ namesL kA (kP p) := fun s hs => by
    unfold rollL at hs
    split at hs
    · exact (namesL_mem _ _ _).2 (.inr ⟨s, hs, rfl⟩)
    · split at hs
      · exact (namesL_mem _ _ _).2 (.inl ⟨s, hs, rfl⟩)
      · exact out_mem hs
  have sm := sumN_wt (namesL_asc kA (kP p)) sd.revs hm
  rw [kP_names, sd.sum] at sm
  simp only [sumN] at sm
  refine ⟨e2, by omega, ?_, sd⟩
  unfold rollL
  split
  · unfold kP; split <;> simp
  · split
    · simp [kA]
    · have := outN_len (wtL kA) (wtL (kP p)) t n (namesL kA (kP p)) (gsum (wtL kA) (wtL (kP p)) t n (namesL kA (kP p)))
      rw [kP_names] at this ⊢
      simpa using this
set_option maxHeartbeats 8000000 in
theorem walkRollOne (w : World) (a : Int) (ha : wf64 a) (b : Int) (hb : wf64 b) (d : Int) (hd : wf64 d) :
    Calls Try.prog 6 #[.int .i64 a, .int .i64 b, .int .i64 d] w fun e w' => e = .returned (.bool true) ∧ Below w.heap.size w w' := by
  have WN := Lib.hid (fun w => within6w_any b 60 w (by omega) (by omega) hb.1 hb.2)
  have RN := withinI_range b 60 (by omega)
  generalize hn0 : withinI b 60 = n0 at *
  clear hn0
  have hwn : IntKind.i64.wrap (1 + n0) = 1 + n0 := IntWalk.i64_in _ ⟨by omega, by omega⟩
  have hwt : IntKind.i64.wrap (1 + n0 + 1) = 1 + n0 + 1 := IntWalk.i64_in _ ⟨by omega, by omega⟩
  have WT := Lib.hid (fun w => within6w_any a (1 + n0 + 1) w (by omega) (by omega) ha.1 ha.2)
  have RT := withinI_range a (1 + n0 + 1) (by omega)
  generalize withinI a (1 + n0 + 1) = t at *
  have WK := Lib.hid (fun w => within6w_any d 100 w (by omega) (by omega) hd.1 hd.2)
  have RK := withinI_range d 100 (by omega)
  generalize withinI d 100 = p0 at *
  have hwp : IntKind.i64.wrap (1 + p0) = 1 + p0 := IntWalk.i64_in _ ⟨by omega, by omega⟩
  have hwq : IntKind.i64.wrap (100 - (1 + p0)) = 100 - (1 + p0) := IntWalk.i64_in _ ⟨by omega, by omega⟩
  have KS := Lib.hid (kP_sd (p := 1 + p0) (by omega) (by omega))
  obtain ⟨o1, o2, O3, o4⟩ := one_wt (p := 1 + p0) (t := t) (n := 1 + n0) (by omega) (by omega) (by omega) (by omega) (by omega)
  have O1 := Lib.hid o1
  have O2 := Lib.hid o2
  have O4 := Lib.hid o4
  clear ha hb hd o1 o2 o4
  go_enter Try.func6, Try.ntmps6
  go_wp2_with fail
  refine (known6_any w).mono ?_
  rintro e w0 ⟨rfl, g0⟩
  have G0 := Lib.hid g0
  generalize w0 = W at *
  go_wp2_with fail
  refine (WN.out _).mono ?_
  rintro e wx ⟨rfl, rfl⟩
  go_wp2_with fail
  refine (WT.out _).mono ?_
  rintro e wx ⟨rfl, rfl⟩
  go_wp2_with fail
  refine (WK.out _).mono ?_
  rintro e wx ⟨rfl, rfl⟩
  have cEq : (1 + p0 == 100) = true ∨ (1 + p0 == 100) = false := by cases (1 + p0 == 100) <;> simp
  have HM := (((Mem.nil W).alloc' [.string ⟨#[97, 45, 49]⟩, .int .i64 100] 39 (g := W.heap.size) rfl).alloc' [.string ⟨#[97, 45, 49]⟩, .int .i64 (100 - (1 + p0)), .string ⟨#[97, 45, 50]⟩, .int .i64 (1 + p0)] 39 (g := W.heap.size + 1) (by simp))
  simp only [List.nil_append, List.cons_append] at HM
  have A4 := sh1 (HM.blk (i := 0) rfl)
  have B4 := sh2 (HM.blk (i := 1) rfl)
  have G4 := Lib.hid (G0.out.trans HM.below)
  clear HM
  rcases cEq with cEq | cEq
  case inl =>
    have HC : Hid (1 + p0 = 100) := Lib.hid (by simpa using cEq)
    go_wp2_with fail
    generalize W.heap.size = gb at *
    generalize World.alloc (World.alloc W _) _ = W4 at *
    have HB : Hid (ShSl W4 (some ⟨gb + 1, 2, none⟩) (kP (1 + p0))) := Lib.hid (by unfold kP; rw [if_pos HC.out]; exact SlOf.tail B4)
    have LB : Hid ((kP (1 + p0)).length = 1) := Lib.hid (by unfold kP; rw [if_pos HC.out]; rfl)
    have C1 := Lib.hid (fun (w' : World) (h : Grow.G W4 w') => rollAt (l := kA) (m := kP (1 + p0)) 1 1 t (1 + n0) w' kA_sd KS.out rfl (SlOf.later A4 h) (SlOf.later HB.out h) (by omega) (by omega))
    rw [LB.out] at C1
    generalize rollL kA (kP (1 + p0)) t (1 + n0) = r at *
    have hm0 : 0 ≤ (1 + p0) * t := Int.mul_nonneg (by omega) (by omega)
    have hm1 : (1 + p0) * t ≤ 1000 * 1000 := Int.mul_le_mul (by omega) (by omega) (by omega) (by omega)
    have htd : ((1 + p0) * t).tdiv (1 + n0) = (1 + p0) * t / (1 + n0) := Int.tdiv_eq_ediv_of_nonneg hm0
    have hn0 : (1 + n0 == 0) = false := by simp; omega
    have hq0 : 0 ≤ (1 + p0) * t / (1 + n0) := Int.ediv_nonneg hm0 (by omega)
    have hq1 : (1 + p0) * t / (1 + n0) ≤ 1000 * 1000 := Int.le_trans (Int.ediv_le_self _ hm0) hm1
    have hw6 : IntKind.i64.wrap ((1 + p0) * t) = (1 + p0) * t := IntWalk.i64_in _ ⟨by omega, by omega⟩
    have hw7 : IntKind.i64.wrap ((1 + p0) * t / (1 + n0)) = (1 + p0) * t / (1 + n0) := IntWalk.i64_in _ ⟨by omega, by omega⟩
    have hw8 : IntKind.i64.wrap (100 - (1 + p0) * t / (1 + n0)) = 100 - (1 + p0) * t / (1 + n0) := IntWalk.i64_in _ ⟨by omega, by omega⟩
    clear hm0 hm1 hq0 hq1
    go_wp2_with fail
    refine (C1.out _ (Grow.G.refl _)).mono ?_
    rintro e w5 ⟨xa, xc, rfl, X5, g5⟩
    have V2 := Lib.hid (rweight_any xa r xc ⟨#[97, 45, 50]⟩ w5 (by omega) X5)
    have V1 := Lib.hid (rweight_any xa r xc ⟨#[97, 45, 49]⟩ w5 (by omega) X5)
    rw [show wtL r ⟨#[97, 45, 50]⟩ = (1 + p0) * t / (1 + n0) from O1.out] at V2
    rw [show wtL r ⟨#[97, 45, 49]⟩ = 100 - (1 + p0) * t / (1 + n0) from O2.out] at V1
    have SN := Lib.hid (soundAt xc w5 O4.out X5)
    have G5 := Lib.hid (G4.out.trans g5)
    clear X5 g5 C1
    go_wp2_with fail
    refine V2.out.mono ?_
    rintro e w6 ⟨rfl, rfl⟩
    go_wp2_with fail
    refine V1.out.mono ?_
    rintro e w6 ⟨rfl, rfl⟩
    have d7 : decide ((r.length : Int) ≤ 2) = true := decide_eq_true (by omega)
    have d8 : decide (r.length ≤ 2) = true := decide_eq_true O3
    go_wp2_with fail
    refine SN.out.mono ?_
    rintro e w6 ⟨rfl, g6⟩
    go_wp2_with fail
    go_ret
    exact ⟨by first | rfl | (simp; done), G5.out.trans g6⟩
  case inr =>
    have HC : Hid (¬ 1 + p0 = 100) := Lib.hid (by simpa using cEq)
    go_wp2_with fail
    generalize W.heap.size = gb at *
    generalize World.alloc (World.alloc W _) _ = W4 at *
    have HB : Hid (ShSl W4 (some ⟨gb + 1, 0, none⟩) (kP (1 + p0))) := Lib.hid (by unfold kP; rw [if_neg HC.out]; exact B4)
    have LB : Hid ((kP (1 + p0)).length = 2) := Lib.hid (by unfold kP; rw [if_neg HC.out]; rfl)
    have C1 := Lib.hid (fun (w' : World) (h : Grow.G W4 w') => rollAt (l := kA) (m := kP (1 + p0)) 1 2 t (1 + n0) w' kA_sd KS.out rfl (SlOf.later A4 h) (SlOf.later HB.out h) (by omega) (by omega))
    rw [LB.out] at C1
    generalize rollL kA (kP (1 + p0)) t (1 + n0) = r at *
    have hm0 : 0 ≤ (1 + p0) * t := Int.mul_nonneg (by omega) (by omega)
    have hm1 : (1 + p0) * t ≤ 1000 * 1000 := Int.mul_le_mul (by omega) (by omega) (by omega) (by omega)
    have htd : ((1 + p0) * t).tdiv (1 + n0) = (1 + p0) * t / (1 + n0) := Int.tdiv_eq_ediv_of_nonneg hm0
    have hn0 : (1 + n0 == 0) = false := by simp; omega
    have hq0 : 0 ≤ (1 + p0) * t / (1 + n0) := Int.ediv_nonneg hm0 (by omega)
    have hq1 : (1 + p0) * t / (1 + n0) ≤ 1000 * 1000 := Int.le_trans (Int.ediv_le_self _ hm0) hm1
    have hw6 : IntKind.i64.wrap ((1 + p0) * t) = (1 + p0) * t := IntWalk.i64_in _ ⟨by omega, by omega⟩
    have hw7 : IntKind.i64.wrap ((1 + p0) * t / (1 + n0)) = (1 + p0) * t / (1 + n0) := IntWalk.i64_in _ ⟨by omega, by omega⟩
    have hw8 : IntKind.i64.wrap (100 - (1 + p0) * t / (1 + n0)) = 100 - (1 + p0) * t / (1 + n0) := IntWalk.i64_in _ ⟨by omega, by omega⟩
    clear hm0 hm1 hq0 hq1
    go_wp2_with fail
    refine (C1.out _ (Grow.G.refl _)).mono ?_
    rintro e w5 ⟨xa, xc, rfl, X5, g5⟩
    have V2 := Lib.hid (rweight_any xa r xc ⟨#[97, 45, 50]⟩ w5 (by omega) X5)
    have V1 := Lib.hid (rweight_any xa r xc ⟨#[97, 45, 49]⟩ w5 (by omega) X5)
    rw [show wtL r ⟨#[97, 45, 50]⟩ = (1 + p0) * t / (1 + n0) from O1.out] at V2
    rw [show wtL r ⟨#[97, 45, 49]⟩ = 100 - (1 + p0) * t / (1 + n0) from O2.out] at V1
    have SN := Lib.hid (soundAt xc w5 O4.out X5)
    have G5 := Lib.hid (G4.out.trans g5)
    clear X5 g5 C1
    go_wp2_with fail
    refine V2.out.mono ?_
    rintro e w6 ⟨rfl, rfl⟩
    go_wp2_with fail
    refine V1.out.mono ?_
    rintro e w6 ⟨rfl, rfl⟩
    have d7 : decide ((r.length : Int) ≤ 2) = true := decide_eq_true (by omega)
    have d8 : decide (r.length ≤ 2) = true := decide_eq_true O3
    go_wp2_with fail
    refine SN.out.mono ?_
    rintro e w6 ⟨rfl, g6⟩
    go_wp2_with fail
    go_ret
    exact ⟨by first | rfl | (simp; done), G5.out.trans g6⟩
end Go.Proofs.Ytbfoponlofkocaa
