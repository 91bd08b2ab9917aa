/- My own texts ZeroD, laid in one file. -/
import Derived.Test.YtnkekdmikopdgaaGreatZ12
import Derived.Test.YtnkekdmikopdgaaGreatZ17
/- Events that may be, with one thing turned: plain. -/
namespace Go.Proofs.YtnkekdmikopdgaaGreat
set_option maxRecDepth 100000
set_option linter.unusedVariables false
set_option linter.unusedSimpArgs false
set_option linter.unnecessarySimpa false
open Go.RowKit

theorem cfg_ok (nm : ByteArray) (im co mn mx gr : Int) (hn : nameB 16 nm = true) (h1 : 0 ≤ im ∧ im ≤ 255) (h2 : 1 ≤ co ∧ co ≤ 8) (h3 : 1 ≤ mx ∧ mx ≤ 10) (h4 : 0 ≤ mn ∧ mn ≤ mx) (h5 : 0 ≤ gr ∧ gr ≤ 30) : Cfg.err ⟨nm, im, co, mn, mx, gr⟩ = 0 := by
  unfold Cfg.err Cfg.num inB
  simp only [hn, if_true]
  simp [h1, h2, h3, h4, h5]
theorem chk_no {e : EvD} (h : 1 ≤ e.k ∧ e.k ≤ 13) (hn : e ≠ e.kept) : e.chk = 2 := by
  unfold EvD.chk
  rw [if_neg (by omega), if_pos hn]
theorem chk_yes {e : EvD} (h : 1 ≤ e.k ∧ e.k ≤ 13) (hn : e = e.kept) (he : ∀ p ∈ PT.specs e.k, PT.err e p = 0) : e.chk = 0 := by
  rw [chk_parts, if_neg (by omega), if_neg (fun q => q ((rest_iff e).2 hn))]
  refine fst0_none _ fun j hj => ?_
  rw [List.length_map] at hj
  have := he ((PT.specs e.k)[j]) (List.getElem_mem hj)
  simpa [List.getD, hj] using this
theorem errs_mem {e : EvD} (h : e.chk = 0) : ∀ p ∈ PT.specs e.k, PT.err e p = 0 := by
  intro p hp
  obtain ⟨i, hi⟩ := List.getElem?_of_mem hp
  exact (errs_ok h).2.2 i p hi
theorem dr_bd {e : EvD} (h : e.chk = 0) : 0 ≤ e.dr ∧ e.dr ≤ 2147483647 := by
  obtain ⟨h1, h2, hk, hkept, h3⟩ := chk_ok h
  by_cases e3 : e.k = 3
  · rw [if_neg (by omega), if_neg (by omega), if_pos e3] at h3; exact h3.2.2
  by_cases e4 : e.k = 4
  · rw [if_neg (by omega), if_neg (by omega), if_neg (by omega), if_pos e4] at h3; exact h3.2.2.2
  · have q := congrArg EvD.dr hkept
    have : e.kept.dr = 0 := by
      unfold EvD.kept
      repeat' split
      all_goals first | rfl | (exfalso; omega)
    omega
def zEv (e : EvD) (q : Int) : EvD :=
  if q = 0 then { e with dr := e.dr + 1 }
  else if q = 1 then { e with tg := ⟨#[116]⟩ }
  else if q = 2 then { e with c := { e.c with im := 1 } }
  else if q = 3 then { e with rr := 5 }
  else { e with n := 1 }
theorem z0 {e : EvD} (h : e.chk = 0) (hk : ¬ (e.k = 3 ∨ e.k = 4)) : ({ e with dr := e.dr + 1 } : EvD).chk = 2 := by
  have hb := dr_bd h
  obtain ⟨h1, h2, _⟩ := chk_ok h
  refine chk_no ⟨h1, h2⟩ fun q => ?_
  have q := congrArg EvD.dr q
  have : ({ e with dr := e.dr + 1 } : EvD).kept.dr = 0 := by
    unfold EvD.kept
    dsimp only
    repeat' split
    all_goals first | rfl | (exfalso; omega)
  rw [this] at q
  dsimp only at q
  omega
theorem z1 {e : EvD} (h : e.chk = 0) : ({ e with tg := ⟨#[116]⟩ } : EvD).chk = if e.k = 4 then 0 else 2 := by
  obtain ⟨h1, h2, hk, hkept, _⟩ := chk_ok h
  have he := errs_mem h
  by_cases h4 : e.k = 4
  · rw [if_pos h4]
    refine chk_yes ⟨h1, h2⟩ ?_ ?_
    · obtain ⟨k, nm, tg, n, dr, c, rn, rc, ts, rr⟩ := e
      dsimp only at h4
      subst h4
      simp only [EvD.kept, Int.reduceEq, if_true, if_false, ev0, EvD.mk.injEq, true_and] at hkept ⊢
      simpa using hkept
    · dsimp only
      have hs : PT.specs e.k = [.n 1 2147483647, .nm false, .tg, .d 0 2147483647] := by rw [h4]; rfl
      rw [hs] at he ⊢
      intro p hp
      have := he p hp
      simp only [List.mem_cons, List.mem_nil_iff, or_false] at hp
      rcases hp with rfl | rfl | rfl | rfl
      · exact this
      · exact this
      · show nmdE (strE ⟨#[116]⟩ || nameB 8 ⟨#[116]⟩) = 0
        decide +kernel
      · exact this
  · rw [if_neg h4]
    refine chk_no ⟨h1, h2⟩ fun q => ?_
    have q := congrArg EvD.tg q
    have : ({ e with tg := ⟨#[116]⟩ } : EvD).kept.tg = ε := by
      unfold EvD.kept
      dsimp only
      repeat' split
      all_goals first | rfl | (exfalso; omega)
    rw [this] at q
    dsimp only at q
    exact absurd q (by decide)
theorem z2 {e : EvD} (h : e.chk = 0) : ({ e with c := { e.c with im := 1 } } : EvD).chk = if e.k = 1 then 0 else 2 := by
  obtain ⟨h1, h2, hk, hkept, _⟩ := chk_ok h
  have he := errs_mem h
  by_cases h4 : e.k = 1
  · rw [if_pos h4]
    refine chk_yes ⟨h1, h2⟩ ?_ ?_
    · obtain ⟨k, nm, tg, n, dr, c, rn, rc, ts, rr⟩ := e
      dsimp only at h4
      subst h4
      simp only [EvD.kept, Int.reduceEq, if_true, if_false, ev0, EvD.mk.injEq, true_and] at hkept ⊢
      simpa using hkept
    · dsimp only
      have hs : PT.specs e.k = [.n 0 2147483647, .c] := by rw [h4]; rfl
      rw [hs] at he ⊢
      intro p hp
      have := he p hp
      simp only [List.mem_cons, List.mem_nil_iff, or_false] at hp
      rcases hp with rfl | rfl
      · exact this
      · have hc : e.c.err = 0 := this
        obtain ⟨a1, a2, a3, a4, a5, a6⟩ := cfgerr_zero hc
        have a7 := cfgerr_zero hc
        exact cfg_ok e.c.nm 1 e.c.co e.c.mn e.c.mx e.c.gr a1 (by omega) (by omega) (by omega) (by omega) (by omega)
  · rw [if_neg h4]
    refine chk_no ⟨h1, h2⟩ fun q => ?_
    have q := congrArg (fun x => x.c.im) q
    have : ({ e with c := { e.c with im := 1 } } : EvD).kept.c.im = 0 := by
      unfold EvD.kept
      dsimp only
      repeat' split
      all_goals first | rfl | (exfalso; omega)
    dsimp only at q
    rw [this] at q
    exact absurd q (by decide)
theorem z3 {e : EvD} (h : e.chk = 0) : ({ e with rr := 5 } : EvD).chk = if e.k = 2 then 0 else 2 := by
  obtain ⟨h1, h2, hk, hkept, _⟩ := chk_ok h
  have he := errs_mem h
  by_cases h4 : e.k = 2
  · rw [if_pos h4]
    refine chk_yes ⟨h1, h2⟩ ?_ ?_
    · obtain ⟨k, nm, tg, n, dr, c, rn, rc, ts, rr⟩ := e
      dsimp only at h4
      subst h4
      simp only [EvD.kept, Int.reduceEq, if_true, if_false, ev0, EvD.mk.injEq, true_and] at hkept ⊢
      simpa using hkept
    · dsimp only
      have hs : PT.specs e.k = [.n 0 2147483647, .r] := by rw [h4]; rfl
      rw [hs] at he ⊢
      intro p hp
      have := he p hp
      simp only [List.mem_cons, List.mem_nil_iff, or_false] at hp
      rcases hp with rfl | rfl
      · exact this
      · have hc : routeE e.rn e.rc e.ts e.rr = 0 := this
        obtain ⟨a1, a2, a3, a4, a5, a6, a7⟩ := routeE_parts' hc
        show routeE e.rn e.rc e.ts 5 = 0
        rw [routeE_each a1 a2 (by decide) a4, if_pos a5]
        rw [routeE_each a1 a2 a3 a4, if_pos a5] at hc
        exact hc
  · rw [if_neg h4]
    refine chk_no ⟨h1, h2⟩ fun q => ?_
    have q := congrArg EvD.rr q
    have : ({ e with rr := 5 } : EvD).kept.rr = 0 := by
      unfold EvD.kept
      dsimp only
      repeat' split
      all_goals first | rfl | (exfalso; omega)
    rw [this] at q
    have q : (5 : Int) = 0 := q
    exact absurd q (by decide)
theorem z4 {e : EvD} (h : e.chk = 0) : ({ e with n := 1 } : EvD).chk = if e.k ≤ 8 then 0 else 2 := by
  obtain ⟨h1, h2, hk, hkept, _⟩ := chk_ok h
  have he := errs_mem h
  by_cases h4 : e.k ≤ 8
  · rw [if_pos h4]
    refine chk_yes ⟨h1, h2⟩ ?_ ?_
    · obtain ⟨k, nm, tg, n, dr, c, rn, rc, ts, rr⟩ := e
      dsimp only at h4 h1 h2
      have hk : k = 1 ∨ k = 2 ∨ k = 3 ∨ k = 4 ∨ k = 5 ∨ k = 6 ∨ k = 7 ∨ k = 8 := by omega
      rcases hk with rfl | rfl | rfl | rfl | rfl | rfl | rfl | rfl
      all_goals
        simp [EvD.kept, ev0] at hkept ⊢
        simpa using hkept
    · dsimp only
      intro p hp
      have hs := he p hp
      match p, hp, hs with
      | .n lo hi, hp, _ =>
        have : lo ≤ 1 ∧ 1 ≤ hi := by
          unfold PT.specs at hp
          repeat' split at hp
          all_goals simp at hp
          all_goals omega
        show inE 1 lo hi = 0
        unfold inE
        rw [if_pos this]
      | .d lo hi, _, hs => exact hs
      | .nm false, _, hs => exact hs
      | .nm true, _, hs => exact hs
      | .tg, _, hs => exact hs
      | .c, _, hs => exact hs
      | .r, _, hs => exact hs
  · rw [if_neg h4]
    refine chk_no ⟨h1, h2⟩ fun q => ?_
    have q := congrArg EvD.n q
    have : ({ e with n := 1 } : EvD).kept.n = 0 := by
      unfold EvD.kept
      dsimp only
      repeat' split
      all_goals first | rfl | (exfalso; omega)
    rw [this] at q
    have q : (1 : Int) = 0 := q
    exact absurd q (by decide)
end Go.Proofs.YtnkekdmikopdgaaGreat
