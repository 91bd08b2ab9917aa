
/- The walk of PodWays. -/
import Derived.Test.YtkjcofgdilfdkaaZ58
namespace Go.Proofs.Ytkjcofgdilfdkaa
set_option maxRecDepth 100000
set_option linter.unusedVariables false
set_option linter.unusedSimpArgs false
set_option linter.unnecessarySimpa false
open Go.RowKit Go.MapV Go.Maps

theorem pstate_P (g : Nat) (s : Pd) (w : World) (F : Nat → Prop) (h : PdP g s w F) :
    Calls Try.prog 24 #[pz g] w fun e w' => e = .returned (.int .i64 s.st) ∧ Grow.G w w' := by
  obtain ⟨m, hI, _⟩ := h
  refine (pstate_any g s m w hI).mono ?_
  rintro e w' ⟨rfl, rfl⟩
  exact ⟨rfl, Grow.G.refl _⟩
set_option maxHeartbeats 32000000 in
theorem walkPodWays (w : World) (a : Int) (ha : wf64 a) (n : Int) (hn : wf64 n) :
    Calls Try.prog 7 #[.int .i64 a, .int .i64 n] w fun e w' => e = .returned (.bool true) ∧ Below w.heap.size w w' := by
  have KN := Lib.hid (fun w => known7_any w)
  have FE := Lib.hid Emp.foot
  have FP := Lib.hid (fun g s => (PdP.foot g s).sep Emp.foot)
  have r1 := withinI_range a 4 (by omega)
  have r2 := withinI_range n 5 (by omega)
  have WI := Lib.hid (fun w => within7_any a 4 w (by omega) (by omega) ha.1 ha.2)
  have WJ := Lib.hid (fun w => within7_any n 5 w (by omega) (by omega) hn.1 hn.2)
  have hr : withinI a 4 = 0 ∨ withinI a 4 = 1 ∨ withinI a 4 = 2 ∨ withinI a 4 = 3 := by omega
  have hq : withinI n 5 = 0 ∨ withinI n 5 = 1 ∨ withinI n 5 = 2 ∨ withinI n 5 = 3 ∨ withinI n 5 = 4 := by omega
  clear ha hn r1 r2
  generalize withinI a 4 = r at *
  generalize withinI n 5 = q at *
  go_enter Try.func7, Try.ntmps7
  go_wp2_with fail
  refine (KN.out _).mono ?_
  rintro e w1 ⟨rfl, hg⟩
  have H := Lib.hid ((Hold.nil w).grow Emp.foot hg)
  clear hg
  go_wp2_with fail
  refine (hold_pnew H.out Emp.foot 2 (by decide)).mono ?_
  rintro e w3 ⟨g, rfl, hh⟩
  replace H := Lib.hid hh
  clear hh
  go_wp2_with fail
  refine (WI.out _).mono ?_
  rintro e w2 ⟨rfl, rfl⟩
  clear WI
  rcases hr with rfl | rfl | rfl | rfl
  · go_wp2_with fail
    have H : Hid (Hold w _ [] (Sep (PdP g ⟨2, 1, []⟩) Emp)) := H
    have SS := Lib.hid (fun w' (g' : Grow.G _ w') => by
      have h2 := H.out.grow (FP.out g ⟨2, 1, []⟩) g'
      obtain ⟨F, ⟨F1, F2, hP, _⟩, _⟩ := h2.st
      exact pstate_P g ⟨2, 1, []⟩ w' F1 hP)
    refine wp_spec (fun a0 A W => ∃ x32 x33 x34 x35 x36 x37 : Value, A = (((((((a0.put (some 32) x32).put (some 33) x33).put (some 34) x34).put (some 35) x35).put (some 36) x36).put (some 37) x37).put (some 38) (.bool false)) ∧ Hid (Hold w W [] (Sep (PdP g ⟨2, 1, []⟩) Emp))) ?_ ?_
    all_goals simp only [Act.put, L0, L1, L2]
    ·
      refine Evo2.start' (ℓ := none) (S := Chg (fun _ => False)) (E := Grow.G) (by kernel_rfl) ⟨Chg.pre _, by decide +kernel, (by intro c a d v w h; cases d <;> exact h), by decide +kernel⟩ (fun ok => ?_)
      refine Evo2.va ok 0 _ _ ?_
      (refine Evo2.cal ok 1 ?_ 24 ?_ ?_ ?_ ?_; rotate_left 2; (focus (intro w'; go_simp <;> with_reducible rfl)); (focus (intro w' g'; with_reducible exact SS.out _ (Chg.toGrow (Chg.trans (Chg.refl (fun _ => False) _) g') (fun _ _ => id)))); simp only [Act.put, L0, L1, L2])
      refine Evo2.va ok 3 _ _ ?_
      refine Evo2.all [2] (by decide +kernel) rfl ?_
      intro wp1 gp1 iq hq
      simp only [List.mem_cons, List.mem_nil_iff, or_false] at hq
      have AP1 := Chg.trans (Chg.refl (fun _ => False) _) (Chg.grow gp1)
      subst hq
      refine Evo2.runs (by rfl) (by rfl) (fun K' hK' => ?_)
      go_simp
      (try (simp only [Evo.after_value, Evo.after_skip]))
      refine hK'.out _ _ ?_
      clear hK'
      simp only [Act.put, L0, L1, L2]
      refine ⟨.inr (Chg.alloc (Chg.refl _ _) _), ?_⟩
      generalize hG1 : World.alloc wp1 _ = wg1
      have GG1 : Grow.G wp1 wg1 := hG1 ▸ Grow.G.alloc (Grow.G.refl _) _
      have NC1 := (congrArg (fun W : World => W.heap[wp1.heap.size]?) hG1).symm.trans (MapKept.heap_alloc wp1 _).1
      have NL1 : wp1.heap.size < wg1.heap.size := by rw [← hG1]; simp
      clear hG1
      refine Evo2.va ok 4 _ _ ?_
      first | (refine Evo2.va ok 5 _ _ ?_) | (refine Evo2.val ok 5 ?_ ?_ ?_; rotate_left; (intro w' hg; have nq := fun j => Blk.cell (w := w') (hg.blk NC1 (by intro q; first | exact q | (have h1 := AP1.size; have h2 := NL1; (try dsimp only at q); omega))) j; go_simp <;> with_reducible rfl); simp only [Act.put, L0, L1, L2])
      refine Evo2.va ok 6 _ _ ?_
      refine Evo2.done (by decide +kernel) (fun wz gz => ?_)
      have AZ := Chg.trans (Chg.trans AP1 (Chg.grow GG1)) (Chg.grow gz)
      have NC1 := (gz.block _ NL1).trans NC1
      dsimp only [PostN] 
      (repeat apply Exists.intro) 
      exact ⟨rfl, Lib.hid (H.out.grow (FP.out _ _) (AZ.toGrow (fun _ _ => id)))⟩
    ·
      rintro A W4 ⟨x32, x33, x34, x35, x36, x37, rfl, H4⟩
      clear SS
      replace H := H4
      clear H4
      go_wp2_with fail
      refine (WJ.out _).mono ?_
      rintro e wx ⟨rfl, rfl⟩
      clear WJ KN
      rcases hq with rfl | rfl | rfl | rfl | rfl
      · go_wp2_with fail
        refine (hold_pup (er := 0) (s' := ⟨2, 2, []⟩) H.out FE.out).mono ?_
        rintro e ws1 ⟨rfl, hst⟩
        replace H := Lib.hid hst
        clear hst
        go_wp2_with fail
        refine (hold_pstate (er := 2) H.out).mono ?_
        rintro e ws2 ⟨rfl, hst⟩
        replace H := Lib.hid hst
        clear hst
        go_wp2_with fail
        go_ret
        exact ⟨rfl, H.out.below⟩
      · go_wp2_with fail
        obtain ⟨F, ⟨F1, F2, hP, _, _, hF⟩, hb, _⟩ := H.out.st
        have HP := Lib.hid hP
        have HB := Lib.hid (fun k (hk : F1 k) => hb k ((hF k).2 (.inl hk)))
        have HL := Lib.hid (fun k (hk : F1 k) => (PdP.foot _ _).lt hP k hk)
        have HW := Lib.hid H.out.below
        clear hP hF hb
        refine wp_spec (fun a0 A W => ∃ x59 x60 x61 x62 x63 x64 x65 x66 x67 x68 x69 x70 x71 x72 x73 : Value, A = ((((((((((((((((a0.put (some 4) (.bool true)).put (some 59) x59).put (some 60) x60).put (some 61) x61).put (some 62) x62).put (some 63) x63).put (some 64) x64).put (some 65) x65).put (some 66) x66).put (some 67) x67).put (some 68) x68).put (some 69) x69).put (some 70) x70).put (some 71) x71).put (some 72) x72).put (some 73) x73) ∧ Hid (Grow.G w W)) ?_ ?_
        all_goals simp only [Act.put, L0, L1, L2]
        ·
          refine Evo2.start' (ℓ := none) (S := Chg (fun j => F1 j ∧ j < W4.heap.size)) (E := Grow.G) (by kernel_rfl) ⟨Chg.pre _, by decide +kernel, (by intro c a d v w h; cases d <;> exact h), by decide +kernel⟩ (fun ok => ?_)
          refine Evo2.va ok 0 _ _ ?_
          refine Evo2.va ok 3 _ _ ?_
          refine Evo2.va ok 4 _ _ ?_
          refine Evo2.all [1] (by decide +kernel) rfl ?_
          intro wp1 gp1 iq hq
          simp only [List.mem_cons, List.mem_nil_iff, or_false] at hq
          have AP1 := Chg.trans (Chg.refl (fun j => F1 j ∧ j < W4.heap.size) _) (Chg.grow gp1)
          (try replace V1 := Lib.hid ((PdP.foot _ _).grow V1.out gp1))
          subst hq
          refine Evo2.enters 15 _ (by rfl) (by rfl) (by go_simp; exact ⟨rfl, rfl⟩) ?_
          refine (pdrain_any g ⟨2, 1, []⟩ wp1 F1 ((PdP.foot _ _).grow HP.out gp1)).mono ?_
          rintro e wc1 ⟨rfl, F', hP', hC, hFr⟩; have CH1 : Chg (fun j => F1 j ∧ j < W4.heap.size) _ _ := hC.mono (fun i _ hi => ⟨hi, HL.out i hi⟩); have V1 := Lib.hid (show PdP g ⟨2, 4, []⟩ wc1 F' from hP'); clear hP' hFr hC; rw [show (⟨2, 1, []⟩ : Pd).drain = 0 from rfl]
          refine ⟨_, rfl, .inr CH1, ?_⟩
          have AC1 := Chg.trans AP1 CH1
          simp only [Act.put, L0, L1, L2]
          refine Evo2.va ok 2 _ _ ?_
          refine Evo2.va ok 5 _ _ ?_
          refine Evo2.va ok 6 _ _ ?_
          first | (refine Evo2.va ok 7 _ _ ?_) | (refine Evo2.vi ok 7 _ ?_)
          first | (refine Evo2.va ok 10 _ _ ?_) | (refine Evo2.vi ok 10 _ ?_)
          refine Evo2.all [8, 9] (by decide +kernel) rfl ?_
          intro wp2 gp2 iq hq
          simp only [List.mem_cons, List.mem_nil_iff, or_false] at hq
          have AP2 := Chg.trans AC1 (Chg.grow gp2)
          (try replace V1 := Lib.hid ((PdP.foot _ _).grow V1.out gp2))
          rcases hq with rfl | rfl
          ·
            refine Evo2.enters 24 _ (by rfl) (by rfl) (by go_simp; exact ⟨rfl, rfl⟩) ?_
            refine (pstate_P g ⟨2, 4, []⟩ wp2 F' V1.out).mono ?_
            rintro e wc2 ⟨rfl, hg2⟩; have CH2 : Chg (fun j => F1 j ∧ j < W4.heap.size) _ _ := Chg.grow hg2; replace V1 := Lib.hid ((PdP.foot _ _).grow V1.out hg2)
            refine ⟨_, rfl, .inr CH2, ?_⟩
            have AC2 := Chg.trans AP2 CH2
            simp only [Act.put, L0, L1, L2]
            refine Evo2.all [9] (by decide +kernel) rfl ?_
            intro wp3 gp3 iq hq
            simp only [List.mem_cons, List.mem_nil_iff, or_false] at hq
            have AP3 := Chg.trans AC2 (Chg.grow gp3)
            (try replace V1 := Lib.hid ((PdP.foot _ _).grow V1.out gp3))
            subst hq
            refine Evo2.runs (by rfl) (by rfl) (fun K' hK' => ?_)
            go_simp
            (try (simp only [Evo.after_value, Evo.after_skip]))
            refine hK'.out _ _ ?_
            clear hK'
            simp only [Act.put, L0, L1, L2]
            refine ⟨.inr (Chg.alloc (Chg.refl _ _) _), ?_⟩
            generalize hG3 : World.alloc wp3 _ = wg3
            have GG3 : Grow.G wp3 wg3 := hG3 ▸ Grow.G.alloc (Grow.G.refl _) _
            have NC3 := (congrArg (fun W : World => W.heap[wp3.heap.size]?) hG3).symm.trans (MapKept.heap_alloc wp3 _).1
            have NL3 : wp3.heap.size < wg3.heap.size := by rw [← hG3]; simp
            clear hG3
            replace V1 := Lib.hid ((PdP.foot _ _).grow V1.out GG3)
            first | (refine Evo2.va ok 11 _ _ ?_) | (refine Evo2.vi ok 11 _ ?_)
            first | (refine Evo2.va ok 12 _ _ ?_) | (refine Evo2.val ok 12 ?_ ?_ ?_; rotate_left; (intro w' hg; have nq := fun j => Blk.cell (w := w') (hg.blk NC3 (by intro q; first | exact q | (have h1 := AP3.size; have h2 := NL3; (try dsimp only at q); omega))) j; go_simp <;> with_reducible rfl); simp only [Act.put, L0, L1, L2]) | (refine Evo2.vi ok 12 _ ?_)
            first | (refine Evo2.va ok 13 _ _ ?_) | (refine Evo2.vi ok 13 _ ?_)
            refine Evo2.va ok 14 _ _ ?_
            refine Evo2.va ok 15 _ _ ?_
            refine Evo2.done (by decide +kernel) (fun wz gz => ?_)
            have AZ := Chg.trans (Chg.trans AP3 (Chg.grow GG3)) (Chg.grow gz)
            have NC3 := (gz.block _ NL3).trans NC3
            (try replace V1 := Lib.hid ((PdP.foot _ _).grow V1.out gz))
            dsimp only [PostN] 
            (repeat apply Exists.intro) 
            exact ⟨rfl, Lib.hid (Below.trans HW.out (AZ.below (B := w.heap.size) HW.out.size (fun k hk q => by have := HB.out k q.1; omega)))⟩
          ·
            refine Evo2.runs (by rfl) (by rfl) (fun K' hK' => ?_)
            go_simp
            (try (simp only [Evo.after_value, Evo.after_skip]))
            refine hK'.out _ _ ?_
            clear hK'
            simp only [Act.put, L0, L1, L2]
            refine ⟨.inr (Chg.alloc (Chg.refl _ _) _), ?_⟩
            generalize hG2 : World.alloc wp2 _ = wg2
            have GG2 : Grow.G wp2 wg2 := hG2 ▸ Grow.G.alloc (Grow.G.refl _) _
            have NC2 := (congrArg (fun W : World => W.heap[wp2.heap.size]?) hG2).symm.trans (MapKept.heap_alloc wp2 _).1
            have NL2 : wp2.heap.size < wg2.heap.size := by rw [← hG2]; simp
            clear hG2
            replace V1 := Lib.hid ((PdP.foot _ _).grow V1.out GG2)
            first | (refine Evo2.va ok 11 _ _ ?_) | (refine Evo2.vi ok 11 _ ?_)
            first | (refine Evo2.va ok 12 _ _ ?_) | (refine Evo2.val ok 12 ?_ ?_ ?_; rotate_left; (intro w' hg; have nq := fun j => Blk.cell (w := w') (hg.blk NC2 (by intro q; first | exact q | (have h1 := AP2.size; have h2 := NL2; (try dsimp only at q); omega))) j; go_simp <;> with_reducible rfl); simp only [Act.put, L0, L1, L2]) | (refine Evo2.vi ok 12 _ ?_)
            refine Evo2.all [8] (by decide +kernel) rfl ?_
            intro wp3 gp3 iq hq
            simp only [List.mem_cons, List.mem_nil_iff, or_false] at hq
            have AP3 := Chg.trans (Chg.trans AP2 (Chg.grow GG2)) (Chg.grow gp3)
            (try replace V1 := Lib.hid ((PdP.foot _ _).grow V1.out gp3))
            have NC2 := (gp3.block _ NL2).trans NC2
            have NL2 := Nat.lt_of_lt_of_le NL2 gp3.size
            subst hq
            refine Evo2.enters 24 _ (by rfl) (by rfl) (by go_simp; exact ⟨rfl, rfl⟩) ?_
            refine (pstate_P g ⟨2, 4, []⟩ wp3 F' V1.out).mono ?_
            rintro e wc3 ⟨rfl, hg3⟩; have CH3 : Chg (fun j => F1 j ∧ j < W4.heap.size) _ _ := Chg.grow hg3; replace V1 := Lib.hid ((PdP.foot _ _).grow V1.out hg3)
            refine ⟨_, rfl, .inr CH3, ?_⟩
            have AC3 := Chg.trans AP3 CH3
            simp only [Act.put, L0, L1, L2]
            first | (refine Evo2.va ok 13 _ _ ?_) | (refine Evo2.vi ok 13 _ ?_)
            refine Evo2.va ok 14 _ _ ?_
            refine Evo2.va ok 15 _ _ ?_
            refine Evo2.done (by decide +kernel) (fun wz gz => ?_)
            have AZ := Chg.trans AC3 (Chg.grow gz)
            (try replace V1 := Lib.hid ((PdP.foot _ _).grow V1.out gz))
            dsimp only [PostN] 
            (repeat apply Exists.intro) 
            exact ⟨rfl, Lib.hid (Below.trans HW.out (AZ.below (B := w.heap.size) HW.out.size (fun k hk q => by have := HB.out k q.1; omega)))⟩
        ·
          rintro A W5 ⟨x59, x60, x61, x62, x63, x64, x65, x66, x67, x68, x69, x70, x71, x72, x73, rfl, HG⟩
          go_wp2_with fail
          go_ret
          exact ⟨rfl, HG.out⟩
      · go_wp2_with fail
        refine (hold_pkill (er := 0) (s' := ⟨2, 4, []⟩) H.out FE.out).mono ?_
        rintro e w9 ⟨u, rfl, hst⟩
        replace H := Lib.hid hst.rot.drop1
        clear hst
        go_wp2_with fail
        refine (hold_pstate (er := 4) H.out).mono ?_
        rintro e ws3 ⟨rfl, hst⟩
        replace H := Lib.hid hst
        clear hst
        go_wp2_with fail
        go_ret
        exact ⟨rfl, H.out.below⟩
      · go_wp2_with fail
        refine (hold_ptake (er := 9) (s' := ⟨2, 1, []⟩) H.out FE.out 5 (by unfold wf64; omega)).mono ?_
        rintro e ws4 ⟨rfl, hst⟩
        replace H := Lib.hid hst
        clear hst
        go_wp2_with fail
        go_ret
        exact ⟨rfl, H.out.below⟩
      · go_wp2_with fail
        refine (hold_pgive (er := 6) (s' := ⟨2, 1, []⟩) H.out FE.out 1 (by unfold wf64; omega)).mono ?_
        rintro e ws5 ⟨rfl, hst⟩
        replace H := Lib.hid hst
        clear hst
        go_wp2_with fail
        refine (hold_pstate (er := 1) H.out).mono ?_
        rintro e ws6 ⟨rfl, hst⟩
        replace H := Lib.hid hst
        clear hst
        go_wp2_with fail
        go_ret
        exact ⟨rfl, H.out.below⟩
  · go_wp2_with fail
    refine (hold_pup (er := 0) (s' := ⟨2, 2, []⟩) H.out FE.out).mono ?_
    rintro e ws7 ⟨rfl, hst⟩
    replace H := Lib.hid hst
    clear hst
    go_wp2_with fail
    have SS := Lib.hid (fun w' (g' : Grow.G _ w') => by
      have h2 := H.out.grow (FP.out g ⟨2, 2, []⟩) g'
      obtain ⟨F, ⟨F1, F2, hP, _⟩, _⟩ := h2.st
      exact pstate_P g ⟨2, 2, []⟩ w' F1 hP)
    refine wp_spec (fun a0 A W => ∃ x32 x33 x34 x35 x36 x37 : Value, A = (((((((a0.put (some 32) x32).put (some 33) x33).put (some 34) x34).put (some 35) x35).put (some 36) x36).put (some 37) x37).put (some 38) (.bool false)) ∧ Hid (Hold w W [] (Sep (PdP g ⟨2, 2, []⟩) Emp))) ?_ ?_
    all_goals simp only [Act.put, L0, L1, L2]
    ·
      refine Evo2.start' (ℓ := none) (S := Chg (fun _ => False)) (E := Grow.G) (by kernel_rfl) ⟨Chg.pre _, by decide +kernel, (by intro c a d v w h; cases d <;> exact h), by decide +kernel⟩ (fun ok => ?_)
      refine Evo2.va ok 0 _ _ ?_
      (refine Evo2.cal ok 1 ?_ 24 ?_ ?_ ?_ ?_; rotate_left 2; (focus (intro w'; go_simp <;> with_reducible rfl)); (focus (intro w' g'; with_reducible exact SS.out _ (Chg.toGrow (Chg.trans (Chg.refl (fun _ => False) _) g') (fun _ _ => id)))); simp only [Act.put, L0, L1, L2])
      refine Evo2.va ok 3 _ _ ?_
      refine Evo2.all [2] (by decide +kernel) rfl ?_
      intro wp1 gp1 iq hq
      simp only [List.mem_cons, List.mem_nil_iff, or_false] at hq
      have AP1 := Chg.trans (Chg.refl (fun _ => False) _) (Chg.grow gp1)
      subst hq
      refine Evo2.runs (by rfl) (by rfl) (fun K' hK' => ?_)
      go_simp
      (try (simp only [Evo.after_value, Evo.after_skip]))
      refine hK'.out _ _ ?_
      clear hK'
      simp only [Act.put, L0, L1, L2]
      refine ⟨.inr (Chg.alloc (Chg.refl _ _) _), ?_⟩
      generalize hG1 : World.alloc wp1 _ = wg1
      have GG1 : Grow.G wp1 wg1 := hG1 ▸ Grow.G.alloc (Grow.G.refl _) _
      have NC1 := (congrArg (fun W : World => W.heap[wp1.heap.size]?) hG1).symm.trans (MapKept.heap_alloc wp1 _).1
      have NL1 : wp1.heap.size < wg1.heap.size := by rw [← hG1]; simp
      clear hG1
      refine Evo2.va ok 4 _ _ ?_
      first | (refine Evo2.va ok 5 _ _ ?_) | (refine Evo2.val ok 5 ?_ ?_ ?_; rotate_left; (intro w' hg; have nq := fun j => Blk.cell (w := w') (hg.blk NC1 (by intro q; first | exact q | (have h1 := AP1.size; have h2 := NL1; (try dsimp only at q); omega))) j; go_simp <;> with_reducible rfl); simp only [Act.put, L0, L1, L2])
      refine Evo2.va ok 6 _ _ ?_
      refine Evo2.done (by decide +kernel) (fun wz gz => ?_)
      have AZ := Chg.trans (Chg.trans AP1 (Chg.grow GG1)) (Chg.grow gz)
      have NC1 := (gz.block _ NL1).trans NC1
      dsimp only [PostN] 
      (repeat apply Exists.intro) 
      exact ⟨rfl, Lib.hid (H.out.grow (FP.out _ _) (AZ.toGrow (fun _ _ => id)))⟩
    ·
      rintro A W4 ⟨x32, x33, x34, x35, x36, x37, rfl, H4⟩
      clear SS
      replace H := H4
      clear H4
      go_wp2_with fail
      refine (WJ.out _).mono ?_
      rintro e wx ⟨rfl, rfl⟩
      clear WJ KN
      rcases hq with rfl | rfl | rfl | rfl | rfl
      · go_wp2_with fail
        refine (hold_pup (er := 9) (s' := ⟨2, 2, []⟩) H.out FE.out).mono ?_
        rintro e ws8 ⟨rfl, hst⟩
        replace H := Lib.hid hst
        clear hst
        go_wp2_with fail
        refine (hold_pstate (er := 2) H.out).mono ?_
        rintro e ws9 ⟨rfl, hst⟩
        replace H := Lib.hid hst
        clear hst
        go_wp2_with fail
        go_ret
        exact ⟨rfl, H.out.below⟩
      · go_wp2_with fail
        obtain ⟨F, ⟨F1, F2, hP, _, _, hF⟩, hb, _⟩ := H.out.st
        have HP := Lib.hid hP
        have HB := Lib.hid (fun k (hk : F1 k) => hb k ((hF k).2 (.inl hk)))
        have HL := Lib.hid (fun k (hk : F1 k) => (PdP.foot _ _).lt hP k hk)
        have HW := Lib.hid H.out.below
        clear hP hF hb
        refine wp_spec (fun a0 A W => ∃ x59 x60 x61 x62 x63 x64 x65 x66 x67 x68 x69 x70 x71 x72 x73 : Value, A = ((((((((((((((((a0.put (some 4) (.bool true)).put (some 59) x59).put (some 60) x60).put (some 61) x61).put (some 62) x62).put (some 63) x63).put (some 64) x64).put (some 65) x65).put (some 66) x66).put (some 67) x67).put (some 68) x68).put (some 69) x69).put (some 70) x70).put (some 71) x71).put (some 72) x72).put (some 73) x73) ∧ Hid (Grow.G w W)) ?_ ?_
        all_goals simp only [Act.put, L0, L1, L2]
        ·
          refine Evo2.start' (ℓ := none) (S := Chg (fun j => F1 j ∧ j < W4.heap.size)) (E := Grow.G) (by kernel_rfl) ⟨Chg.pre _, by decide +kernel, (by intro c a d v w h; cases d <;> exact h), by decide +kernel⟩ (fun ok => ?_)
          refine Evo2.va ok 0 _ _ ?_
          refine Evo2.va ok 3 _ _ ?_
          refine Evo2.va ok 4 _ _ ?_
          refine Evo2.all [1] (by decide +kernel) rfl ?_
          intro wp1 gp1 iq hq
          simp only [List.mem_cons, List.mem_nil_iff, or_false] at hq
          have AP1 := Chg.trans (Chg.refl (fun j => F1 j ∧ j < W4.heap.size) _) (Chg.grow gp1)
          (try replace V1 := Lib.hid ((PdP.foot _ _).grow V1.out gp1))
          subst hq
          refine Evo2.enters 15 _ (by rfl) (by rfl) (by go_simp; exact ⟨rfl, rfl⟩) ?_
          refine (pdrain_any g ⟨2, 2, []⟩ wp1 F1 ((PdP.foot _ _).grow HP.out gp1)).mono ?_
          rintro e wc1 ⟨rfl, F', hP', hC, hFr⟩; have CH1 : Chg (fun j => F1 j ∧ j < W4.heap.size) _ _ := hC.mono (fun i _ hi => ⟨hi, HL.out i hi⟩); have V1 := Lib.hid (show PdP g ⟨2, 4, []⟩ wc1 F' from hP'); clear hP' hFr hC; rw [show (⟨2, 2, []⟩ : Pd).drain = 0 from rfl]
          refine ⟨_, rfl, .inr CH1, ?_⟩
          have AC1 := Chg.trans AP1 CH1
          simp only [Act.put, L0, L1, L2]
          refine Evo2.va ok 2 _ _ ?_
          refine Evo2.va ok 5 _ _ ?_
          refine Evo2.va ok 6 _ _ ?_
          first | (refine Evo2.va ok 7 _ _ ?_) | (refine Evo2.vi ok 7 _ ?_)
          first | (refine Evo2.va ok 10 _ _ ?_) | (refine Evo2.vi ok 10 _ ?_)
          refine Evo2.all [8, 9] (by decide +kernel) rfl ?_
          intro wp2 gp2 iq hq
          simp only [List.mem_cons, List.mem_nil_iff, or_false] at hq
          have AP2 := Chg.trans AC1 (Chg.grow gp2)
          (try replace V1 := Lib.hid ((PdP.foot _ _).grow V1.out gp2))
          rcases hq with rfl | rfl
          ·
            refine Evo2.enters 24 _ (by rfl) (by rfl) (by go_simp; exact ⟨rfl, rfl⟩) ?_
            refine (pstate_P g ⟨2, 4, []⟩ wp2 F' V1.out).mono ?_
            rintro e wc2 ⟨rfl, hg2⟩; have CH2 : Chg (fun j => F1 j ∧ j < W4.heap.size) _ _ := Chg.grow hg2; replace V1 := Lib.hid ((PdP.foot _ _).grow V1.out hg2)
            refine ⟨_, rfl, .inr CH2, ?_⟩
            have AC2 := Chg.trans AP2 CH2
            simp only [Act.put, L0, L1, L2]
            refine Evo2.all [9] (by decide +kernel) rfl ?_
            intro wp3 gp3 iq hq
            simp only [List.mem_cons, List.mem_nil_iff, or_false] at hq
            have AP3 := Chg.trans AC2 (Chg.grow gp3)
            (try replace V1 := Lib.hid ((PdP.foot _ _).grow V1.out gp3))
            subst hq
            refine Evo2.runs (by rfl) (by rfl) (fun K' hK' => ?_)
            go_simp
            (try (simp only [Evo.after_value, Evo.after_skip]))
            refine hK'.out _ _ ?_
            clear hK'
            simp only [Act.put, L0, L1, L2]
            refine ⟨.inr (Chg.alloc (Chg.refl _ _) _), ?_⟩
            generalize hG3 : World.alloc wp3 _ = wg3
            have GG3 : Grow.G wp3 wg3 := hG3 ▸ Grow.G.alloc (Grow.G.refl _) _
            have NC3 := (congrArg (fun W : World => W.heap[wp3.heap.size]?) hG3).symm.trans (MapKept.heap_alloc wp3 _).1
            have NL3 : wp3.heap.size < wg3.heap.size := by rw [← hG3]; simp
            clear hG3
            replace V1 := Lib.hid ((PdP.foot _ _).grow V1.out GG3)
            first | (refine Evo2.va ok 11 _ _ ?_) | (refine Evo2.vi ok 11 _ ?_)
            first | (refine Evo2.va ok 12 _ _ ?_) | (refine Evo2.val ok 12 ?_ ?_ ?_; rotate_left; (intro w' hg; have nq := fun j => Blk.cell (w := w') (hg.blk NC3 (by intro q; first | exact q | (have h1 := AP3.size; have h2 := NL3; (try dsimp only at q); omega))) j; go_simp <;> with_reducible rfl); simp only [Act.put, L0, L1, L2]) | (refine Evo2.vi ok 12 _ ?_)
            first | (refine Evo2.va ok 13 _ _ ?_) | (refine Evo2.vi ok 13 _ ?_)
            refine Evo2.va ok 14 _ _ ?_
            refine Evo2.va ok 15 _ _ ?_
            refine Evo2.done (by decide +kernel) (fun wz gz => ?_)
            have AZ := Chg.trans (Chg.trans AP3 (Chg.grow GG3)) (Chg.grow gz)
            have NC3 := (gz.block _ NL3).trans NC3
            (try replace V1 := Lib.hid ((PdP.foot _ _).grow V1.out gz))
            dsimp only [PostN] 
            (repeat apply Exists.intro) 
            exact ⟨rfl, Lib.hid (Below.trans HW.out (AZ.below (B := w.heap.size) HW.out.size (fun k hk q => by have := HB.out k q.1; omega)))⟩
          ·
            refine Evo2.runs (by rfl) (by rfl) (fun K' hK' => ?_)
            go_simp
            (try (simp only [Evo.after_value, Evo.after_skip]))
            refine hK'.out _ _ ?_
            clear hK'
            simp only [Act.put, L0, L1, L2]
            refine ⟨.inr (Chg.alloc (Chg.refl _ _) _), ?_⟩
            generalize hG2 : World.alloc wp2 _ = wg2
            have GG2 : Grow.G wp2 wg2 := hG2 ▸ Grow.G.alloc (Grow.G.refl _) _
            have NC2 := (congrArg (fun W : World => W.heap[wp2.heap.size]?) hG2).symm.trans (MapKept.heap_alloc wp2 _).1
            have NL2 : wp2.heap.size < wg2.heap.size := by rw [← hG2]; simp
            clear hG2
            replace V1 := Lib.hid ((PdP.foot _ _).grow V1.out GG2)
            first | (refine Evo2.va ok 11 _ _ ?_) | (refine Evo2.vi ok 11 _ ?_)
            first | (refine Evo2.va ok 12 _ _ ?_) | (refine Evo2.val ok 12 ?_ ?_ ?_; rotate_left; (intro w' hg; have nq := fun j => Blk.cell (w := w') (hg.blk NC2 (by intro q; first | exact q | (have h1 := AP2.size; have h2 := NL2; (try dsimp only at q); omega))) j; go_simp <;> with_reducible rfl); simp only [Act.put, L0, L1, L2]) | (refine Evo2.vi ok 12 _ ?_)
            refine Evo2.all [8] (by decide +kernel) rfl ?_
            intro wp3 gp3 iq hq
            simp only [List.mem_cons, List.mem_nil_iff, or_false] at hq
            have AP3 := Chg.trans (Chg.trans AP2 (Chg.grow GG2)) (Chg.grow gp3)
            (try replace V1 := Lib.hid ((PdP.foot _ _).grow V1.out gp3))
            have NC2 := (gp3.block _ NL2).trans NC2
            have NL2 := Nat.lt_of_lt_of_le NL2 gp3.size
            subst hq
            refine Evo2.enters 24 _ (by rfl) (by rfl) (by go_simp; exact ⟨rfl, rfl⟩) ?_
            refine (pstate_P g ⟨2, 4, []⟩ wp3 F' V1.out).mono ?_
            rintro e wc3 ⟨rfl, hg3⟩; have CH3 : Chg (fun j => F1 j ∧ j < W4.heap.size) _ _ := Chg.grow hg3; replace V1 := Lib.hid ((PdP.foot _ _).grow V1.out hg3)
            refine ⟨_, rfl, .inr CH3, ?_⟩
            have AC3 := Chg.trans AP3 CH3
            simp only [Act.put, L0, L1, L2]
            first | (refine Evo2.va ok 13 _ _ ?_) | (refine Evo2.vi ok 13 _ ?_)
            refine Evo2.va ok 14 _ _ ?_
            refine Evo2.va ok 15 _ _ ?_
            refine Evo2.done (by decide +kernel) (fun wz gz => ?_)
            have AZ := Chg.trans AC3 (Chg.grow gz)
            (try replace V1 := Lib.hid ((PdP.foot _ _).grow V1.out gz))
            dsimp only [PostN] 
            (repeat apply Exists.intro) 
            exact ⟨rfl, Lib.hid (Below.trans HW.out (AZ.below (B := w.heap.size) HW.out.size (fun k hk q => by have := HB.out k q.1; omega)))⟩
        ·
          rintro A W5 ⟨x59, x60, x61, x62, x63, x64, x65, x66, x67, x68, x69, x70, x71, x72, x73, rfl, HG⟩
          go_wp2_with fail
          go_ret
          exact ⟨rfl, HG.out⟩
      · go_wp2_with fail
        refine (hold_pkill (er := 0) (s' := ⟨2, 4, []⟩) H.out FE.out).mono ?_
        rintro e w9 ⟨u, rfl, hst⟩
        replace H := Lib.hid hst.rot.drop1
        clear hst
        go_wp2_with fail
        refine (hold_pstate (er := 4) H.out).mono ?_
        rintro e ws10 ⟨rfl, hst⟩
        replace H := Lib.hid hst
        clear hst
        go_wp2_with fail
        go_ret
        exact ⟨rfl, H.out.below⟩
      · go_wp2_with fail
        refine (hold_ptake (er := 0) (s' := ⟨2, 2, [5]⟩) H.out FE.out 5 (by unfold wf64; omega)).mono ?_
        rintro e ws11 ⟨rfl, hst⟩
        replace H := Lib.hid hst
        clear hst
        go_wp2_with fail
        go_ret
        exact ⟨rfl, H.out.below⟩
      · go_wp2_with fail
        refine (hold_pgive (er := 6) (s' := ⟨2, 2, []⟩) H.out FE.out 1 (by unfold wf64; omega)).mono ?_
        rintro e ws12 ⟨rfl, hst⟩
        replace H := Lib.hid hst
        clear hst
        go_wp2_with fail
        refine (hold_pstate (er := 2) H.out).mono ?_
        rintro e ws13 ⟨rfl, hst⟩
        replace H := Lib.hid hst
        clear hst
        go_wp2_with fail
        go_ret
        exact ⟨rfl, H.out.below⟩
  · go_wp2_with fail
    refine (hold_pup (er := 0) (s' := ⟨2, 2, []⟩) H.out FE.out).mono ?_
    rintro e ws14 ⟨rfl, hst⟩
    replace H := Lib.hid hst
    clear hst
    go_wp2_with fail
    refine (hold_ptake (er := 0) (s' := ⟨2, 2, [1]⟩) H.out FE.out 1 (by unfold wf64; omega)).mono ?_
    rintro e ws15 ⟨rfl, hst⟩
    replace H := Lib.hid hst
    clear hst
    go_wp2_with fail
    refine (hold_pdrain (er := 0) (s' := ⟨2, 3, [1]⟩) H.out FE.out).mono ?_
    rintro e ws16 ⟨rfl, hst⟩
    replace H := Lib.hid hst
    clear hst
    go_wp2_with fail
    have SS := Lib.hid (fun w' (g' : Grow.G _ w') => by
      have h2 := H.out.grow (FP.out g ⟨2, 3, [1]⟩) g'
      obtain ⟨F, ⟨F1, F2, hP, _⟩, _⟩ := h2.st
      exact pstate_P g ⟨2, 3, [1]⟩ w' F1 hP)
    refine wp_spec (fun a0 A W => ∃ x32 x33 x34 x35 x36 x37 : Value, A = (((((((a0.put (some 32) x32).put (some 33) x33).put (some 34) x34).put (some 35) x35).put (some 36) x36).put (some 37) x37).put (some 38) (.bool false)) ∧ Hid (Hold w W [] (Sep (PdP g ⟨2, 3, [1]⟩) Emp))) ?_ ?_
    all_goals simp only [Act.put, L0, L1, L2]
    ·
      refine Evo2.start' (ℓ := none) (S := Chg (fun _ => False)) (E := Grow.G) (by kernel_rfl) ⟨Chg.pre _, by decide +kernel, (by intro c a d v w h; cases d <;> exact h), by decide +kernel⟩ (fun ok => ?_)
      refine Evo2.va ok 0 _ _ ?_
      (refine Evo2.cal ok 1 ?_ 24 ?_ ?_ ?_ ?_; rotate_left 2; (focus (intro w'; go_simp <;> with_reducible rfl)); (focus (intro w' g'; with_reducible exact SS.out _ (Chg.toGrow (Chg.trans (Chg.refl (fun _ => False) _) g') (fun _ _ => id)))); simp only [Act.put, L0, L1, L2])
      refine Evo2.va ok 3 _ _ ?_
      refine Evo2.all [2] (by decide +kernel) rfl ?_
      intro wp1 gp1 iq hq
      simp only [List.mem_cons, List.mem_nil_iff, or_false] at hq
      have AP1 := Chg.trans (Chg.refl (fun _ => False) _) (Chg.grow gp1)
      subst hq
      refine Evo2.runs (by rfl) (by rfl) (fun K' hK' => ?_)
      go_simp
      (try (simp only [Evo.after_value, Evo.after_skip]))
      refine hK'.out _ _ ?_
      clear hK'
      simp only [Act.put, L0, L1, L2]
      refine ⟨.inr (Chg.alloc (Chg.refl _ _) _), ?_⟩
      generalize hG1 : World.alloc wp1 _ = wg1
      have GG1 : Grow.G wp1 wg1 := hG1 ▸ Grow.G.alloc (Grow.G.refl _) _
      have NC1 := (congrArg (fun W : World => W.heap[wp1.heap.size]?) hG1).symm.trans (MapKept.heap_alloc wp1 _).1
      have NL1 : wp1.heap.size < wg1.heap.size := by rw [← hG1]; simp
      clear hG1
      refine Evo2.va ok 4 _ _ ?_
      first | (refine Evo2.va ok 5 _ _ ?_) | (refine Evo2.val ok 5 ?_ ?_ ?_; rotate_left; (intro w' hg; have nq := fun j => Blk.cell (w := w') (hg.blk NC1 (by intro q; first | exact q | (have h1 := AP1.size; have h2 := NL1; (try dsimp only at q); omega))) j; go_simp <;> with_reducible rfl); simp only [Act.put, L0, L1, L2])
      refine Evo2.va ok 6 _ _ ?_
      refine Evo2.done (by decide +kernel) (fun wz gz => ?_)
      have AZ := Chg.trans (Chg.trans AP1 (Chg.grow GG1)) (Chg.grow gz)
      have NC1 := (gz.block _ NL1).trans NC1
      dsimp only [PostN] 
      (repeat apply Exists.intro) 
      exact ⟨rfl, Lib.hid (H.out.grow (FP.out _ _) (AZ.toGrow (fun _ _ => id)))⟩
    ·
      rintro A W4 ⟨x32, x33, x34, x35, x36, x37, rfl, H4⟩
      clear SS
      replace H := H4
      clear H4
      go_wp2_with fail
      refine (WJ.out _).mono ?_
      rintro e wx ⟨rfl, rfl⟩
      clear WJ KN
      rcases hq with rfl | rfl | rfl | rfl | rfl
      · go_wp2_with fail
        refine (hold_pup (er := 9) (s' := ⟨2, 3, [1]⟩) H.out FE.out).mono ?_
        rintro e ws17 ⟨rfl, hst⟩
        replace H := Lib.hid hst
        clear hst
        go_wp2_with fail
        refine (hold_pstate (er := 3) H.out).mono ?_
        rintro e ws18 ⟨rfl, hst⟩
        replace H := Lib.hid hst
        clear hst
        go_wp2_with fail
        go_ret
        exact ⟨rfl, H.out.below⟩
      · go_wp2_with fail
        obtain ⟨F, ⟨F1, F2, hP, _, _, hF⟩, hb, _⟩ := H.out.st
        have HP := Lib.hid hP
        have HB := Lib.hid (fun k (hk : F1 k) => hb k ((hF k).2 (.inl hk)))
        have HL := Lib.hid (fun k (hk : F1 k) => (PdP.foot _ _).lt hP k hk)
        have HW := Lib.hid H.out.below
        clear hP hF hb
        refine wp_spec (fun a0 A W => ∃ x59 x60 x61 x62 x63 x64 x65 x66 x67 x68 x69 x70 x71 x72 x73 : Value, A = ((((((((((((((((a0.put (some 4) (.bool true)).put (some 59) x59).put (some 60) x60).put (some 61) x61).put (some 62) x62).put (some 63) x63).put (some 64) x64).put (some 65) x65).put (some 66) x66).put (some 67) x67).put (some 68) x68).put (some 69) x69).put (some 70) x70).put (some 71) x71).put (some 72) x72).put (some 73) x73) ∧ Hid (Grow.G w W)) ?_ ?_
        all_goals simp only [Act.put, L0, L1, L2]
        ·
          refine Evo2.start' (ℓ := none) (S := Chg (fun j => F1 j ∧ j < W4.heap.size)) (E := Grow.G) (by kernel_rfl) ⟨Chg.pre _, by decide +kernel, (by intro c a d v w h; cases d <;> exact h), by decide +kernel⟩ (fun ok => ?_)
          refine Evo2.va ok 0 _ _ ?_
          refine Evo2.va ok 3 _ _ ?_
          refine Evo2.va ok 4 _ _ ?_
          refine Evo2.all [1] (by decide +kernel) rfl ?_
          intro wp1 gp1 iq hq
          simp only [List.mem_cons, List.mem_nil_iff, or_false] at hq
          have AP1 := Chg.trans (Chg.refl (fun j => F1 j ∧ j < W4.heap.size) _) (Chg.grow gp1)
          (try replace V1 := Lib.hid ((PdP.foot _ _).grow V1.out gp1))
          subst hq
          refine Evo2.enters 15 _ (by rfl) (by rfl) (by go_simp; exact ⟨rfl, rfl⟩) ?_
          refine (pdrain_any g ⟨2, 3, [1]⟩ wp1 F1 ((PdP.foot _ _).grow HP.out gp1)).mono ?_
          rintro e wc1 ⟨rfl, F', hP', hC, hFr⟩; have CH1 : Chg (fun j => F1 j ∧ j < W4.heap.size) _ _ := hC.mono (fun i _ hi => ⟨hi, HL.out i hi⟩); have V1 := Lib.hid (show PdP g ⟨2, 3, [1]⟩ wc1 F' from hP'); clear hP' hFr hC; rw [show (⟨2, 3, [1]⟩ : Pd).drain = 9 from rfl]
          refine ⟨_, rfl, .inr CH1, ?_⟩
          have AC1 := Chg.trans AP1 CH1
          simp only [Act.put, L0, L1, L2]
          refine Evo2.va ok 2 _ _ ?_
          refine Evo2.va ok 5 _ _ ?_
          refine Evo2.va ok 6 _ _ ?_
          first | (refine Evo2.va ok 7 _ _ ?_) | (refine Evo2.vi ok 7 _ ?_)
          first | (refine Evo2.va ok 10 _ _ ?_) | (refine Evo2.vi ok 10 _ ?_)
          refine Evo2.all [8, 9] (by decide +kernel) rfl ?_
          intro wp2 gp2 iq hq
          simp only [List.mem_cons, List.mem_nil_iff, or_false] at hq
          have AP2 := Chg.trans AC1 (Chg.grow gp2)
          (try replace V1 := Lib.hid ((PdP.foot _ _).grow V1.out gp2))
          rcases hq with rfl | rfl
          ·
            refine Evo2.enters 24 _ (by rfl) (by rfl) (by go_simp; exact ⟨rfl, rfl⟩) ?_
            refine (pstate_P g ⟨2, 3, [1]⟩ wp2 F' V1.out).mono ?_
            rintro e wc2 ⟨rfl, hg2⟩; have CH2 : Chg (fun j => F1 j ∧ j < W4.heap.size) _ _ := Chg.grow hg2; replace V1 := Lib.hid ((PdP.foot _ _).grow V1.out hg2)
            refine ⟨_, rfl, .inr CH2, ?_⟩
            have AC2 := Chg.trans AP2 CH2
            simp only [Act.put, L0, L1, L2]
            refine Evo2.all [9] (by decide +kernel) rfl ?_
            intro wp3 gp3 iq hq
            simp only [List.mem_cons, List.mem_nil_iff, or_false] at hq
            have AP3 := Chg.trans AC2 (Chg.grow gp3)
            (try replace V1 := Lib.hid ((PdP.foot _ _).grow V1.out gp3))
            subst hq
            refine Evo2.runs (by rfl) (by rfl) (fun K' hK' => ?_)
            go_simp
            (try (simp only [Evo.after_value, Evo.after_skip]))
            refine hK'.out _ _ ?_
            clear hK'
            simp only [Act.put, L0, L1, L2]
            refine ⟨.inr (Chg.alloc (Chg.refl _ _) _), ?_⟩
            generalize hG3 : World.alloc wp3 _ = wg3
            have GG3 : Grow.G wp3 wg3 := hG3 ▸ Grow.G.alloc (Grow.G.refl _) _
            have NC3 := (congrArg (fun W : World => W.heap[wp3.heap.size]?) hG3).symm.trans (MapKept.heap_alloc wp3 _).1
            have NL3 : wp3.heap.size < wg3.heap.size := by rw [← hG3]; simp
            clear hG3
            replace V1 := Lib.hid ((PdP.foot _ _).grow V1.out GG3)
            first | (refine Evo2.va ok 11 _ _ ?_) | (refine Evo2.vi ok 11 _ ?_)
            first | (refine Evo2.va ok 12 _ _ ?_) | (refine Evo2.val ok 12 ?_ ?_ ?_; rotate_left; (intro w' hg; have nq := fun j => Blk.cell (w := w') (hg.blk NC3 (by intro q; first | exact q | (have h1 := AP3.size; have h2 := NL3; (try dsimp only at q); omega))) j; go_simp <;> with_reducible rfl); simp only [Act.put, L0, L1, L2]) | (refine Evo2.vi ok 12 _ ?_)
            first | (refine Evo2.va ok 13 _ _ ?_) | (refine Evo2.vi ok 13 _ ?_)
            refine Evo2.va ok 14 _ _ ?_
            refine Evo2.va ok 15 _ _ ?_
            refine Evo2.done (by decide +kernel) (fun wz gz => ?_)
            have AZ := Chg.trans (Chg.trans AP3 (Chg.grow GG3)) (Chg.grow gz)
            have NC3 := (gz.block _ NL3).trans NC3
            (try replace V1 := Lib.hid ((PdP.foot _ _).grow V1.out gz))
            dsimp only [PostN] 
            (repeat apply Exists.intro) 
            exact ⟨rfl, Lib.hid (Below.trans HW.out (AZ.below (B := w.heap.size) HW.out.size (fun k hk q => by have := HB.out k q.1; omega)))⟩
          ·
            refine Evo2.runs (by rfl) (by rfl) (fun K' hK' => ?_)
            go_simp
            (try (simp only [Evo.after_value, Evo.after_skip]))
            refine hK'.out _ _ ?_
            clear hK'
            simp only [Act.put, L0, L1, L2]
            refine ⟨.inr (Chg.alloc (Chg.refl _ _) _), ?_⟩
            generalize hG2 : World.alloc wp2 _ = wg2
            have GG2 : Grow.G wp2 wg2 := hG2 ▸ Grow.G.alloc (Grow.G.refl _) _
            have NC2 := (congrArg (fun W : World => W.heap[wp2.heap.size]?) hG2).symm.trans (MapKept.heap_alloc wp2 _).1
            have NL2 : wp2.heap.size < wg2.heap.size := by rw [← hG2]; simp
            clear hG2
            replace V1 := Lib.hid ((PdP.foot _ _).grow V1.out GG2)
            first | (refine Evo2.va ok 11 _ _ ?_) | (refine Evo2.vi ok 11 _ ?_)
            first | (refine Evo2.va ok 12 _ _ ?_) | (refine Evo2.val ok 12 ?_ ?_ ?_; rotate_left; (intro w' hg; have nq := fun j => Blk.cell (w := w') (hg.blk NC2 (by intro q; first | exact q | (have h1 := AP2.size; have h2 := NL2; (try dsimp only at q); omega))) j; go_simp <;> with_reducible rfl); simp only [Act.put, L0, L1, L2]) | (refine Evo2.vi ok 12 _ ?_)
            refine Evo2.all [8] (by decide +kernel) rfl ?_
            intro wp3 gp3 iq hq
            simp only [List.mem_cons, List.mem_nil_iff, or_false] at hq
            have AP3 := Chg.trans (Chg.trans AP2 (Chg.grow GG2)) (Chg.grow gp3)
            (try replace V1 := Lib.hid ((PdP.foot _ _).grow V1.out gp3))
            have NC2 := (gp3.block _ NL2).trans NC2
            have NL2 := Nat.lt_of_lt_of_le NL2 gp3.size
            subst hq
            refine Evo2.enters 24 _ (by rfl) (by rfl) (by go_simp; exact ⟨rfl, rfl⟩) ?_
            refine (pstate_P g ⟨2, 3, [1]⟩ wp3 F' V1.out).mono ?_
            rintro e wc3 ⟨rfl, hg3⟩; have CH3 : Chg (fun j => F1 j ∧ j < W4.heap.size) _ _ := Chg.grow hg3; replace V1 := Lib.hid ((PdP.foot _ _).grow V1.out hg3)
            refine ⟨_, rfl, .inr CH3, ?_⟩
            have AC3 := Chg.trans AP3 CH3
            simp only [Act.put, L0, L1, L2]
            first | (refine Evo2.va ok 13 _ _ ?_) | (refine Evo2.vi ok 13 _ ?_)
            refine Evo2.va ok 14 _ _ ?_
            refine Evo2.va ok 15 _ _ ?_
            refine Evo2.done (by decide +kernel) (fun wz gz => ?_)
            have AZ := Chg.trans AC3 (Chg.grow gz)
            (try replace V1 := Lib.hid ((PdP.foot _ _).grow V1.out gz))
            dsimp only [PostN] 
            (repeat apply Exists.intro) 
            exact ⟨rfl, Lib.hid (Below.trans HW.out (AZ.below (B := w.heap.size) HW.out.size (fun k hk q => by have := HB.out k q.1; omega)))⟩
        ·
          rintro A W5 ⟨x59, x60, x61, x62, x63, x64, x65, x66, x67, x68, x69, x70, x71, x72, x73, rfl, HG⟩
          go_wp2_with fail
          go_ret
          exact ⟨rfl, HG.out⟩
      · go_wp2_with fail
        refine (hold_pkill (er := 0) (s' := ⟨2, 4, []⟩) H.out FE.out).mono ?_
        rintro e w9 ⟨u, rfl, hst⟩
        replace H := Lib.hid hst.rot.drop1
        clear hst
        go_wp2_with fail
        refine (hold_pstate (er := 4) H.out).mono ?_
        rintro e ws19 ⟨rfl, hst⟩
        replace H := Lib.hid hst
        clear hst
        go_wp2_with fail
        go_ret
        exact ⟨rfl, H.out.below⟩
      · go_wp2_with fail
        refine (hold_ptake (er := 9) (s' := ⟨2, 3, [1]⟩) H.out FE.out 5 (by unfold wf64; omega)).mono ?_
        rintro e ws20 ⟨rfl, hst⟩
        replace H := Lib.hid hst
        clear hst
        go_wp2_with fail
        go_ret
        exact ⟨rfl, H.out.below⟩
      · go_wp2_with fail
        refine (hold_pgive (er := 0) (s' := ⟨2, 4, []⟩) H.out FE.out 1 (by unfold wf64; omega)).mono ?_
        rintro e ws21 ⟨rfl, hst⟩
        replace H := Lib.hid hst
        clear hst
        go_wp2_with fail
        refine (hold_pstate (er := 4) H.out).mono ?_
        rintro e ws22 ⟨rfl, hst⟩
        replace H := Lib.hid hst
        clear hst
        go_wp2_with fail
        go_ret
        exact ⟨rfl, H.out.below⟩
  · go_wp2_with fail
    refine (hold_pup (er := 0) (s' := ⟨2, 2, []⟩) H.out FE.out).mono ?_
    rintro e ws23 ⟨rfl, hst⟩
    replace H := Lib.hid hst
    clear hst
    go_wp2_with fail
    refine (hold_pdrain (er := 0) (s' := ⟨2, 4, []⟩) H.out FE.out).mono ?_
    rintro e ws24 ⟨rfl, hst⟩
    replace H := Lib.hid hst
    clear hst
    go_wp2_with fail
    have SS := Lib.hid (fun w' (g' : Grow.G _ w') => by
      have h2 := H.out.grow (FP.out g ⟨2, 4, []⟩) g'
      obtain ⟨F, ⟨F1, F2, hP, _⟩, _⟩ := h2.st
      exact pstate_P g ⟨2, 4, []⟩ w' F1 hP)
    refine wp_spec (fun a0 A W => ∃ x32 x33 x34 x35 x36 x37 : Value, A = (((((((a0.put (some 32) x32).put (some 33) x33).put (some 34) x34).put (some 35) x35).put (some 36) x36).put (some 37) x37).put (some 38) (.bool false)) ∧ Hid (Hold w W [] (Sep (PdP g ⟨2, 4, []⟩) Emp))) ?_ ?_
    all_goals simp only [Act.put, L0, L1, L2]
    ·
      refine Evo2.start' (ℓ := none) (S := Chg (fun _ => False)) (E := Grow.G) (by kernel_rfl) ⟨Chg.pre _, by decide +kernel, (by intro c a d v w h; cases d <;> exact h), by decide +kernel⟩ (fun ok => ?_)
      refine Evo2.va ok 0 _ _ ?_
      (refine Evo2.cal ok 1 ?_ 24 ?_ ?_ ?_ ?_; rotate_left 2; (focus (intro w'; go_simp <;> with_reducible rfl)); (focus (intro w' g'; with_reducible exact SS.out _ (Chg.toGrow (Chg.trans (Chg.refl (fun _ => False) _) g') (fun _ _ => id)))); simp only [Act.put, L0, L1, L2])
      refine Evo2.va ok 3 _ _ ?_
      refine Evo2.all [2] (by decide +kernel) rfl ?_
      intro wp1 gp1 iq hq
      simp only [List.mem_cons, List.mem_nil_iff, or_false] at hq
      have AP1 := Chg.trans (Chg.refl (fun _ => False) _) (Chg.grow gp1)
      subst hq
      refine Evo2.runs (by rfl) (by rfl) (fun K' hK' => ?_)
      go_simp
      (try (simp only [Evo.after_value, Evo.after_skip]))
      refine hK'.out _ _ ?_
      clear hK'
      simp only [Act.put, L0, L1, L2]
      refine ⟨.inr (Chg.alloc (Chg.refl _ _) _), ?_⟩
      generalize hG1 : World.alloc wp1 _ = wg1
      have GG1 : Grow.G wp1 wg1 := hG1 ▸ Grow.G.alloc (Grow.G.refl _) _
      have NC1 := (congrArg (fun W : World => W.heap[wp1.heap.size]?) hG1).symm.trans (MapKept.heap_alloc wp1 _).1
      have NL1 : wp1.heap.size < wg1.heap.size := by rw [← hG1]; simp
      clear hG1
      refine Evo2.va ok 4 _ _ ?_
      first | (refine Evo2.va ok 5 _ _ ?_) | (refine Evo2.val ok 5 ?_ ?_ ?_; rotate_left; (intro w' hg; have nq := fun j => Blk.cell (w := w') (hg.blk NC1 (by intro q; first | exact q | (have h1 := AP1.size; have h2 := NL1; (try dsimp only at q); omega))) j; go_simp <;> with_reducible rfl); simp only [Act.put, L0, L1, L2])
      refine Evo2.va ok 6 _ _ ?_
      refine Evo2.done (by decide +kernel) (fun wz gz => ?_)
      have AZ := Chg.trans (Chg.trans AP1 (Chg.grow GG1)) (Chg.grow gz)
      have NC1 := (gz.block _ NL1).trans NC1
      dsimp only [PostN] 
      (repeat apply Exists.intro) 
      exact ⟨rfl, Lib.hid (H.out.grow (FP.out _ _) (AZ.toGrow (fun _ _ => id)))⟩
    ·
      rintro A W4 ⟨x32, x33, x34, x35, x36, x37, rfl, H4⟩
      clear SS
      replace H := H4
      clear H4
      go_wp2_with fail
      refine (WJ.out _).mono ?_
      rintro e wx ⟨rfl, rfl⟩
      clear WJ KN
      rcases hq with rfl | rfl | rfl | rfl | rfl
      · go_wp2_with fail
        refine (hold_pup (er := 9) (s' := ⟨2, 4, []⟩) H.out FE.out).mono ?_
        rintro e ws25 ⟨rfl, hst⟩
        replace H := Lib.hid hst
        clear hst
        go_wp2_with fail
        refine (hold_pstate (er := 4) H.out).mono ?_
        rintro e ws26 ⟨rfl, hst⟩
        replace H := Lib.hid hst
        clear hst
        go_wp2_with fail
        go_ret
        exact ⟨rfl, H.out.below⟩
      · go_wp2_with fail
        obtain ⟨F, ⟨F1, F2, hP, _, _, hF⟩, hb, _⟩ := H.out.st
        have HP := Lib.hid hP
        have HB := Lib.hid (fun k (hk : F1 k) => hb k ((hF k).2 (.inl hk)))
        have HL := Lib.hid (fun k (hk : F1 k) => (PdP.foot _ _).lt hP k hk)
        have HW := Lib.hid H.out.below
        clear hP hF hb
        refine wp_spec (fun a0 A W => ∃ x59 x60 x61 x62 x63 x64 x65 x66 x67 x68 x69 x70 x71 x72 x73 : Value, A = ((((((((((((((((a0.put (some 4) (.bool true)).put (some 59) x59).put (some 60) x60).put (some 61) x61).put (some 62) x62).put (some 63) x63).put (some 64) x64).put (some 65) x65).put (some 66) x66).put (some 67) x67).put (some 68) x68).put (some 69) x69).put (some 70) x70).put (some 71) x71).put (some 72) x72).put (some 73) x73) ∧ Hid (Grow.G w W)) ?_ ?_
        all_goals simp only [Act.put, L0, L1, L2]
        ·
          refine Evo2.start' (ℓ := none) (S := Chg (fun j => F1 j ∧ j < W4.heap.size)) (E := Grow.G) (by kernel_rfl) ⟨Chg.pre _, by decide +kernel, (by intro c a d v w h; cases d <;> exact h), by decide +kernel⟩ (fun ok => ?_)
          refine Evo2.va ok 0 _ _ ?_
          refine Evo2.va ok 3 _ _ ?_
          refine Evo2.va ok 4 _ _ ?_
          refine Evo2.all [1] (by decide +kernel) rfl ?_
          intro wp1 gp1 iq hq
          simp only [List.mem_cons, List.mem_nil_iff, or_false] at hq
          have AP1 := Chg.trans (Chg.refl (fun j => F1 j ∧ j < W4.heap.size) _) (Chg.grow gp1)
          (try replace V1 := Lib.hid ((PdP.foot _ _).grow V1.out gp1))
          subst hq
          refine Evo2.enters 15 _ (by rfl) (by rfl) (by go_simp; exact ⟨rfl, rfl⟩) ?_
          refine (pdrain_any g ⟨2, 4, []⟩ wp1 F1 ((PdP.foot _ _).grow HP.out gp1)).mono ?_
          rintro e wc1 ⟨rfl, F', hP', hC, hFr⟩; have CH1 : Chg (fun j => F1 j ∧ j < W4.heap.size) _ _ := hC.mono (fun i _ hi => ⟨hi, HL.out i hi⟩); have V1 := Lib.hid (show PdP g ⟨2, 4, []⟩ wc1 F' from hP'); clear hP' hFr hC; rw [show (⟨2, 4, []⟩ : Pd).drain = 9 from rfl]
          refine ⟨_, rfl, .inr CH1, ?_⟩
          have AC1 := Chg.trans AP1 CH1
          simp only [Act.put, L0, L1, L2]
          refine Evo2.va ok 2 _ _ ?_
          refine Evo2.va ok 5 _ _ ?_
          refine Evo2.va ok 6 _ _ ?_
          first | (refine Evo2.va ok 7 _ _ ?_) | (refine Evo2.vi ok 7 _ ?_)
          first | (refine Evo2.va ok 10 _ _ ?_) | (refine Evo2.vi ok 10 _ ?_)
          refine Evo2.all [8, 9] (by decide +kernel) rfl ?_
          intro wp2 gp2 iq hq
          simp only [List.mem_cons, List.mem_nil_iff, or_false] at hq
          have AP2 := Chg.trans AC1 (Chg.grow gp2)
          (try replace V1 := Lib.hid ((PdP.foot _ _).grow V1.out gp2))
          rcases hq with rfl | rfl
          ·
            refine Evo2.enters 24 _ (by rfl) (by rfl) (by go_simp; exact ⟨rfl, rfl⟩) ?_
            refine (pstate_P g ⟨2, 4, []⟩ wp2 F' V1.out).mono ?_
            rintro e wc2 ⟨rfl, hg2⟩; have CH2 : Chg (fun j => F1 j ∧ j < W4.heap.size) _ _ := Chg.grow hg2; replace V1 := Lib.hid ((PdP.foot _ _).grow V1.out hg2)
            refine ⟨_, rfl, .inr CH2, ?_⟩
            have AC2 := Chg.trans AP2 CH2
            simp only [Act.put, L0, L1, L2]
            refine Evo2.all [9] (by decide +kernel) rfl ?_
            intro wp3 gp3 iq hq
            simp only [List.mem_cons, List.mem_nil_iff, or_false] at hq
            have AP3 := Chg.trans AC2 (Chg.grow gp3)
            (try replace V1 := Lib.hid ((PdP.foot _ _).grow V1.out gp3))
            subst hq
            refine Evo2.runs (by rfl) (by rfl) (fun K' hK' => ?_)
            go_simp
            (try (simp only [Evo.after_value, Evo.after_skip]))
            refine hK'.out _ _ ?_
            clear hK'
            simp only [Act.put, L0, L1, L2]
            refine ⟨.inr (Chg.alloc (Chg.refl _ _) _), ?_⟩
            generalize hG3 : World.alloc wp3 _ = wg3
            have GG3 : Grow.G wp3 wg3 := hG3 ▸ Grow.G.alloc (Grow.G.refl _) _
            have NC3 := (congrArg (fun W : World => W.heap[wp3.heap.size]?) hG3).symm.trans (MapKept.heap_alloc wp3 _).1
            have NL3 : wp3.heap.size < wg3.heap.size := by rw [← hG3]; simp
            clear hG3
            replace V1 := Lib.hid ((PdP.foot _ _).grow V1.out GG3)
            first | (refine Evo2.va ok 11 _ _ ?_) | (refine Evo2.vi ok 11 _ ?_)
            first | (refine Evo2.va ok 12 _ _ ?_) | (refine Evo2.val ok 12 ?_ ?_ ?_; rotate_left; (intro w' hg; have nq := fun j => Blk.cell (w := w') (hg.blk NC3 (by intro q; first | exact q | (have h1 := AP3.size; have h2 := NL3; (try dsimp only at q); omega))) j; go_simp <;> with_reducible rfl); simp only [Act.put, L0, L1, L2]) | (refine Evo2.vi ok 12 _ ?_)
            first | (refine Evo2.va ok 13 _ _ ?_) | (refine Evo2.vi ok 13 _ ?_)
            refine Evo2.va ok 14 _ _ ?_
            refine Evo2.va ok 15 _ _ ?_
            refine Evo2.done (by decide +kernel) (fun wz gz => ?_)
            have AZ := Chg.trans (Chg.trans AP3 (Chg.grow GG3)) (Chg.grow gz)
            have NC3 := (gz.block _ NL3).trans NC3
            (try replace V1 := Lib.hid ((PdP.foot _ _).grow V1.out gz))
            dsimp only [PostN] 
            (repeat apply Exists.intro) 
            exact ⟨rfl, Lib.hid (Below.trans HW.out (AZ.below (B := w.heap.size) HW.out.size (fun k hk q => by have := HB.out k q.1; omega)))⟩
          ·
            refine Evo2.runs (by rfl) (by rfl) (fun K' hK' => ?_)
            go_simp
            (try (simp only [Evo.after_value, Evo.after_skip]))
            refine hK'.out _ _ ?_
            clear hK'
            simp only [Act.put, L0, L1, L2]
            refine ⟨.inr (Chg.alloc (Chg.refl _ _) _), ?_⟩
            generalize hG2 : World.alloc wp2 _ = wg2
            have GG2 : Grow.G wp2 wg2 := hG2 ▸ Grow.G.alloc (Grow.G.refl _) _
            have NC2 := (congrArg (fun W : World => W.heap[wp2.heap.size]?) hG2).symm.trans (MapKept.heap_alloc wp2 _).1
            have NL2 : wp2.heap.size < wg2.heap.size := by rw [← hG2]; simp
            clear hG2
            replace V1 := Lib.hid ((PdP.foot _ _).grow V1.out GG2)
            first | (refine Evo2.va ok 11 _ _ ?_) | (refine Evo2.vi ok 11 _ ?_)
            first | (refine Evo2.va ok 12 _ _ ?_) | (refine Evo2.val ok 12 ?_ ?_ ?_; rotate_left; (intro w' hg; have nq := fun j => Blk.cell (w := w') (hg.blk NC2 (by intro q; first | exact q | (have h1 := AP2.size; have h2 := NL2; (try dsimp only at q); omega))) j; go_simp <;> with_reducible rfl); simp only [Act.put, L0, L1, L2]) | (refine Evo2.vi ok 12 _ ?_)
            refine Evo2.all [8] (by decide +kernel) rfl ?_
            intro wp3 gp3 iq hq
            simp only [List.mem_cons, List.mem_nil_iff, or_false] at hq
            have AP3 := Chg.trans (Chg.trans AP2 (Chg.grow GG2)) (Chg.grow gp3)
            (try replace V1 := Lib.hid ((PdP.foot _ _).grow V1.out gp3))
            have NC2 := (gp3.block _ NL2).trans NC2
            have NL2 := Nat.lt_of_lt_of_le NL2 gp3.size
            subst hq
            refine Evo2.enters 24 _ (by rfl) (by rfl) (by go_simp; exact ⟨rfl, rfl⟩) ?_
            refine (pstate_P g ⟨2, 4, []⟩ wp3 F' V1.out).mono ?_
            rintro e wc3 ⟨rfl, hg3⟩; have CH3 : Chg (fun j => F1 j ∧ j < W4.heap.size) _ _ := Chg.grow hg3; replace V1 := Lib.hid ((PdP.foot _ _).grow V1.out hg3)
            refine ⟨_, rfl, .inr CH3, ?_⟩
            have AC3 := Chg.trans AP3 CH3
            simp only [Act.put, L0, L1, L2]
            first | (refine Evo2.va ok 13 _ _ ?_) | (refine Evo2.vi ok 13 _ ?_)
            refine Evo2.va ok 14 _ _ ?_
            refine Evo2.va ok 15 _ _ ?_
            refine Evo2.done (by decide +kernel) (fun wz gz => ?_)
            have AZ := Chg.trans AC3 (Chg.grow gz)
            (try replace V1 := Lib.hid ((PdP.foot _ _).grow V1.out gz))
            dsimp only [PostN] 
            (repeat apply Exists.intro) 
            exact ⟨rfl, Lib.hid (Below.trans HW.out (AZ.below (B := w.heap.size) HW.out.size (fun k hk q => by have := HB.out k q.1; omega)))⟩
        ·
          rintro A W5 ⟨x59, x60, x61, x62, x63, x64, x65, x66, x67, x68, x69, x70, x71, x72, x73, rfl, HG⟩
          go_wp2_with fail
          go_ret
          exact ⟨rfl, HG.out⟩
      · go_wp2_with fail
        refine (hold_pkill (er := 9) (s' := ⟨2, 4, []⟩) H.out FE.out).mono ?_
        rintro e w9 ⟨u, rfl, hst⟩
        replace H := Lib.hid hst.rot.drop1
        clear hst
        go_wp2_with fail
        refine (hold_pstate (er := 4) H.out).mono ?_
        rintro e ws27 ⟨rfl, hst⟩
        replace H := Lib.hid hst
        clear hst
        go_wp2_with fail
        go_ret
        exact ⟨rfl, H.out.below⟩
      · go_wp2_with fail
        refine (hold_ptake (er := 9) (s' := ⟨2, 4, []⟩) H.out FE.out 5 (by unfold wf64; omega)).mono ?_
        rintro e ws28 ⟨rfl, hst⟩
        replace H := Lib.hid hst
        clear hst
        go_wp2_with fail
        go_ret
        exact ⟨rfl, H.out.below⟩
      · go_wp2_with fail
        refine (hold_pgive (er := 6) (s' := ⟨2, 4, []⟩) H.out FE.out 1 (by unfold wf64; omega)).mono ?_
        rintro e ws29 ⟨rfl, hst⟩
        replace H := Lib.hid hst
        clear hst
        go_wp2_with fail
        refine (hold_pstate (er := 4) H.out).mono ?_
        rintro e ws30 ⟨rfl, hst⟩
        replace H := Lib.hid hst
        clear hst
        go_wp2_with fail
        go_ret
        exact ⟨rfl, H.out.below⟩
end Go.Proofs.Ytkjcofgdilfdkaa
