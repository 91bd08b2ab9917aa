
/- The walk of FleetDown. -/
import Derived.Test.YtfnpghekkhnjkaaZ78
import Derived.Test.YtfnpghekkhnjkaaZ75
import Derived.Test.YtfnpghekkhnjkaaZ67
namespace Go.Proofs.Ytfnpghekkhnjkaa
set_option maxRecDepth 100000
set_option linter.unusedVariables false
set_option linter.unusedSimpArgs false
set_option linter.unnecessarySimpa false
open Go.RowKit Go.Args

set_option maxHeartbeats 64000000 in
theorem walkFleetDown (w : World) (n : Int) (hn : wf64 n) (ua : Option Addr) (us : List Bool) (uc : Nat) (hu : BoolsIn w ua us) (v : Value) (zs : List Int) (hz : IntSlice w v zs) (want : Int) (hwant : wf64 want) :
    Calls Try.prog 9 #[.int .i64 n, .slice ua us.length uc, v, .int .i64 want] w fun e w' => e = .returned (.bool true) ∧ Below w.heap.size w w' := by
  have KN := Lib.hid (fun w => known11_any w)
  have FE0 := Lib.hid Emp.foot
  have HU := Lib.hid hu
  have hul := hu.le
  obtain ⟨va, vc, rfl, hat⟩ := hz.open
  clear hat hz hu
  have WN := Lib.hid (fun w => within11_any n 9 w (by omega) (by omega) hn.1 hn.2)
  have r9 := withinI_range n 9 (by omega)
  obtain ⟨N, hN⟩ : ∃ N : Nat, 1 + withinI n 9 = (N : Int) := ⟨(1 + withinI n 9).toNat, by omega⟩
  have w1 : IntKind.i64.wrap (1 + withinI n 9) = (N : Int) := by rw [hN]; exact IntWalk.i64_in _ ⟨by omega, by omega⟩
  have hN9 : 1 ≤ N ∧ N ≤ 9 := by omega
  have wN1 : IntKind.i64.wrap ((N : Int) + 1) = (N : Int) + 1 := IntWalk.i64_in _ ⟨by omega, by omega⟩
  have rw_ := withinI_range want ((N : Int) + 1) (by omega)
  have WW := Lib.hid (fun w => within11_any want ((N : Int) + 1) w (by omega) (by omega) hwant.1 hwant.2)
  obtain ⟨Wt, hWt⟩ : ∃ Wt : Nat, withinI want ((N : Int) + 1) = (Wt : Int) := ⟨(withinI want ((N : Int) + 1)).toNat, by omega⟩
  rw [hWt] at WW rw_
  have hWN : Wt ≤ N := by omega
  generalize withinI n 9 = n0 at *
  clear hn hN r9 hwant hWt rw_
  have PS := Lib.hid (pick_start (c := 3) (n := N) (by decide) (by omega))
  go_enter Try.func9, Try.ntmps9
  go_wp2_with fail
  refine (KN.out _).mono ?_
  rintro e w3 ⟨rfl, hg⟩
  have H := Lib.hid ((Hold.nil w).grow Emp.foot hg)
  clear hg
  go_wp2_with fail
  refine (hold_fnew H.out FE0.out 10 (by decide)).mono ?_
  rintro e w4 ⟨g, rfl, hh⟩
  replace H := Lib.hid hh
  clear hh
  go_wp2_with fail
  refine (WN.out _).mono ?_
  rintro e wx ⟨rfl, rfl⟩
  clear WN
  go_wp2_with fail
  clear w1
  obtain ⟨f0, hf0⟩ : ∃ f0, (Fl.new 10).scale rvA1 3 N = f0 := ⟨_, rfl⟩
  rw [hf0] at PS
  refine (hold_fscale (f' := f0) H.out FE0.out rvA1 3 N (by decide) (by decide) ⟨by omega, by omega⟩ (by decide) PS.out.1 PS.out.2.1 hf0).mono ?_
  rintro e w5 ⟨v5, u5, rfl, hh⟩
  replace H := Lib.hid (drop2 (drop2 hh))
  clear hh hf0
  have FB := Lib.hid (fun f => (FlP.foot g f))
  have FT := Lib.hid (fun f => (FlP.foot g f).sep FE0.out)
  obtain ⟨ld0, hld0⟩ : ∃ ld0 : List Int, List.replicate N 0 = ld0 := ⟨_, rfl⟩
  obtain ⟨rd0, hrd0⟩ : ∃ rd0 : List Bool, List.replicate N false = rd0 := ⟨_, rfl⟩
  have MZ : ∀ w, (Instr.makeSlice 22 (.int .i64 ((N : Int) + 1)) (.int .i64 ((N : Int) + 1))).run Try.prog w = .ok (.slice (some ⟨w.heap.size, 0, none⟩) (N + 1) (N + 1)) (w.alloc (.cells (intsV (0 :: ld0)).toArray 3)) := by rw [← hld0]; exact fun w => make_ints (N + 1) (by omega) w
  have MB : ∀ w, (Instr.makeSlice 36 (.int .i64 ((N : Int) + 1)) (.int .i64 ((N : Int) + 1))).run Try.prog w = .ok (.slice (some ⟨w.heap.size, 0, none⟩) (N + 1) (N + 1)) (w.alloc (.cells (boolsV (false :: rd0)).toArray 4)) := by rw [← hrd0]; exact fun w => make_bools (N + 1) (by omega) w
  have P0 := Lib.hid PS.out.2.2.1
  rw [hld0, hrd0] at P0
  have HN0 := Lib.hid PS.out.2.2.2.2
  clear PS
  go_wp2_with fail
  have HK := H
  refine wp_spec (fun a0 A W => ∃ x35 x36 x37 x38 x39 x40 : Value, ∃ (gl gr : Nat), A = ((((((((a0.put (some 10) (.slice (some ⟨gl, 0, none⟩) (N + 1) (N + 1))).put (some 11) (.slice (some ⟨gr, 0, none⟩) (N + 1) (N + 1))).put (some 35) x35).put (some 36) x36).put (some 37) x37).put (some 38) x38).put (some 39) x39).put (some 40) x40) ∧ Hid (Hold w W [(gl, intsV (0 :: ld0), 3), (gr, boolsV (false :: rd0), 4)] (Sep (FlP g f0) Emp))) ?_ ?_
  all_goals simp only [Act.put, L0, L1, L2]
  ·
    refine Evo2.start' (ℓ := none) (S := Chg (fun _ => False)) (E := Grow.G) (by kernel_rfl) ⟨Chg.pre _, by decide +kernel, (by intro c a d v w h; cases d <;> exact h), by decide +kernel⟩ (fun ok => ?_)
    refine Evo2.va ok 0 _ _ ?_
    refine Evo2.va ok 1 _ _ ?_
    refine Evo2.va ok 3 _ _ ?_
    refine Evo2.va ok 4 _ _ ?_
    refine Evo2.all [2, 5] (by decide +kernel) rfl ?_
    intro wp1 gp1 iq hq
    simp only [List.mem_cons, List.mem_nil_iff, or_false] at hq
    have AP1 := Chg.trans (Chg.refl (fun _ => False) _) (Chg.grow gp1)
    replace HK := Lib.hid (HK.out.grow (FT.out f0) gp1)
    rcases hq with rfl | rfl
    ·
      refine Evo2.runs (by rfl) (by rfl) (fun K' hK' => ?_)
      go_simp
      (try (simp only [Evo.after_value, Evo.after_skip]))
      refine hK'.out _ _ ?_
      clear hK'
      simp only [Act.put, L0, L1, L2]
      refine ⟨.inr (Chg.alloc (Chg.refl _ _) _), ?_⟩
      generalize hG1 : World.alloc wp1 _ = wg1
      have GG1 : Grow.G wp1 wg1 := hG1 ▸ Grow.G.alloc (Grow.G.refl _) _
      have NC1 := (congrArg (fun W : World => W.heap[wp1.heap.size]?) hG1).symm.trans (MapKept.heap_alloc wp1 _).1
      have NL1 : wp1.heap.size < wg1.heap.size := by rw [← hG1]; simp
      clear hG1
      replace HK := Lib.hid (HK.out.add (FT.out f0) GG1 (b := wp1.heap.size) (cs := intsV (0 :: ld0)) NC1 (Nat.le_refl _))
      refine Evo2.va ok 6 _ _ ?_
      refine Evo2.all [5] (by decide +kernel) rfl ?_
      intro wp2 gp2 iq hq
      simp only [List.mem_cons, List.mem_nil_iff, or_false] at hq
      have AP2 := Chg.trans (Chg.trans AP1 (Chg.grow GG1)) (Chg.grow gp2)
      replace HK := Lib.hid (HK.out.grow (FT.out f0) gp2)
      have NC1 := (gp2.block _ NL1).trans NC1
      have NL1 := Nat.lt_of_lt_of_le NL1 gp2.size
      subst hq
      refine Evo2.runs (by rfl) (by rfl) (fun K' hK' => ?_)
      go_simp
      (try (simp only [Evo.after_value, Evo.after_skip]))
      refine hK'.out _ _ ?_
      clear hK'
      simp only [Act.put, L0, L1, L2]
      refine ⟨.inr (Chg.alloc (Chg.refl _ _) _), ?_⟩
      generalize hG2 : World.alloc wp2 _ = wg2
      have GG2 : Grow.G wp2 wg2 := hG2 ▸ Grow.G.alloc (Grow.G.refl _) _
      have NC1 := (GG2.block _ NL1).trans NC1
      have NL1 := Nat.lt_of_lt_of_le NL1 GG2.size
      have NC2 := (congrArg (fun W : World => W.heap[wp2.heap.size]?) hG2).symm.trans (MapKept.heap_alloc wp2 _).1
      have NL2 : wp2.heap.size < wg2.heap.size := by rw [← hG2]; simp
      clear hG2
      replace HK := Lib.hid (HK.out.add (FT.out f0) GG2 (b := wp2.heap.size) (cs := boolsV (false :: rd0)) NC2 (Nat.le_refl _))
      refine Evo2.va ok 7 _ _ ?_
      refine Evo2.done (by decide +kernel) (fun wz gz => ?_)
      have AZ := Chg.trans (Chg.trans AP2 (Chg.grow GG2)) (Chg.grow gz)
      have NC1 := (gz.block _ NL1).trans NC1
      have NC2 := (gz.block _ NL2).trans NC2
      replace HK := Lib.hid (HK.out.grow (FT.out f0) gz)
      dsimp only [PostN] 
      (repeat apply Exists.intro) 
      refine ⟨rfl, Lib.hid ?_⟩ 
      have HL := HK.out 
      simp only [List.nil_append, List.cons_append] at HL 
      first | exact HL | exact HL.perm (List.Perm.swap _ _ [])
    ·
      refine Evo2.runs (by rfl) (by rfl) (fun K' hK' => ?_)
      go_simp
      (try (simp only [Evo.after_value, Evo.after_skip]))
      refine hK'.out _ _ ?_
      clear hK'
      simp only [Act.put, L0, L1, L2]
      refine ⟨.inr (Chg.alloc (Chg.refl _ _) _), ?_⟩
      generalize hG1 : World.alloc wp1 _ = wg1
      have GG1 : Grow.G wp1 wg1 := hG1 ▸ Grow.G.alloc (Grow.G.refl _) _
      have NC1 := (congrArg (fun W : World => W.heap[wp1.heap.size]?) hG1).symm.trans (MapKept.heap_alloc wp1 _).1
      have NL1 : wp1.heap.size < wg1.heap.size := by rw [← hG1]; simp
      clear hG1
      replace HK := Lib.hid (HK.out.add (FT.out f0) GG1 (b := wp1.heap.size) (cs := boolsV (false :: rd0)) NC1 (Nat.le_refl _))
      refine Evo2.all [2] (by decide +kernel) rfl ?_
      intro wp2 gp2 iq hq
      simp only [List.mem_cons, List.mem_nil_iff, or_false] at hq
      have AP2 := Chg.trans (Chg.trans AP1 (Chg.grow GG1)) (Chg.grow gp2)
      replace HK := Lib.hid (HK.out.grow (FT.out f0) gp2)
      have NC1 := (gp2.block _ NL1).trans NC1
      have NL1 := Nat.lt_of_lt_of_le NL1 gp2.size
      subst hq
      refine Evo2.runs (by rfl) (by rfl) (fun K' hK' => ?_)
      go_simp
      (try (simp only [Evo.after_value, Evo.after_skip]))
      refine hK'.out _ _ ?_
      clear hK'
      simp only [Act.put, L0, L1, L2]
      refine ⟨.inr (Chg.alloc (Chg.refl _ _) _), ?_⟩
      generalize hG2 : World.alloc wp2 _ = wg2
      have GG2 : Grow.G wp2 wg2 := hG2 ▸ Grow.G.alloc (Grow.G.refl _) _
      have NC1 := (GG2.block _ NL1).trans NC1
      have NL1 := Nat.lt_of_lt_of_le NL1 GG2.size
      have NC2 := (congrArg (fun W : World => W.heap[wp2.heap.size]?) hG2).symm.trans (MapKept.heap_alloc wp2 _).1
      have NL2 : wp2.heap.size < wg2.heap.size := by rw [← hG2]; simp
      clear hG2
      replace HK := Lib.hid (HK.out.add (FT.out f0) GG2 (b := wp2.heap.size) (cs := intsV (0 :: ld0)) NC2 (Nat.le_refl _))
      refine Evo2.va ok 6 _ _ ?_
      refine Evo2.va ok 7 _ _ ?_
      refine Evo2.done (by decide +kernel) (fun wz gz => ?_)
      have AZ := Chg.trans (Chg.trans AP2 (Chg.grow GG2)) (Chg.grow gz)
      have NC1 := (gz.block _ NL1).trans NC1
      have NC2 := (gz.block _ NL2).trans NC2
      replace HK := Lib.hid (HK.out.grow (FT.out f0) gz)
      dsimp only [PostN] 
      (repeat apply Exists.intro) 
      refine ⟨rfl, Lib.hid ?_⟩ 
      have HL := HK.out 
      simp only [List.nil_append, List.cons_append] at HL 
      first | exact HL | exact HL.perm (List.Perm.swap _ _ [])
  ·
    rintro A W8 ⟨x35, x36, x37, x38, x39, x40, gl, gr, rfl, H8⟩
    clear HK H MZ MB
    have H := H8
    clear H8
    go_wp2_with fail
    have R0 : Hid (∀ j, 0 ≤ j → j < N → rd0[j]? = some false) := Lib.hid (fun j _ hj => by rw [← hrd0, List.getElem?_replicate, if_pos hj])
    have hz1 := zs.length
    go_loopw [13] (fun i W => ∃ (k : Nat) (f : Fl) (rd : List Bool), k ≤ N ∧ i = .int .i64 ((k : Int) + 1) ∧ Hid (PickI f 3 N ld0 rd) ∧ Hid (f.n = N) ∧ Hid (∀ j, k ≤ j → j < N → rd[j]? = some false) ∧ Hid (Hold w W [(gl, intsV (0 :: ld0), 3), (gr, boolsV (false :: rd), 4)] (Sep (FlP g f) Emp))) (fun i _ => N + 1 - (_root_.Go.RowKit.intOf i).toNat)
    case atStart => exact ⟨0, f0, rd0, by omega, rfl, P0, HN0, R0, H⟩
    case round =>
      clear H P0 R0 HN0
      obtain ⟨k, f, rd, hk, rfl, PI, HFN, RI, H⟩ := hrel
      have hk1 : IntKind.i64.wrap ((k : Int) + 1 + 1) = (k : Int) + 1 + 1 := IntWalk.i64_in _ ⟨by omega, by omega⟩
      by_cases hlt : k < N
      · have b0 : decide ((k : Int) + 1 ≤ (N : Int)) = true := decide_eq_true (by omega)
        have hk0 : IntKind.i64.wrap (k : Int) = (k : Int) := IntWalk.i64_in _ ⟨by omega, by omega⟩
        have k2 : (0 : Int) ≤ (k : Int) := by omega
        have k3 : (0 : Int) ≤ (k : Int) + 1 := by omega
        have k4 : ((k : Int) + 1).toNat = k + 1 := by omega
        have k5 : (k : Int) + 1 < (N : Int) + 1 := by omega
        have UP := Lib.hid (PI.out.up hlt (RI.out k (Nat.le_refl _) hlt))
        have hrl := PI.out.rl
        have hcase : (us.length ≤ k) ∨ (k < us.length ∧ us[k]? = some true) ∨ (k < us.length ∧ us[k]? = some false) := by
          rcases Nat.lt_or_ge k us.length with q | q
          · have := List.getElem?_eq_getElem q
            cases e : us[k] with
            | true => exact .inr (.inl ⟨q, by rw [this, e]⟩)
            | false => exact .inr (.inr ⟨q, by rw [this, e]⟩)
          · exact .inl q
        rcases hcase with q1 | ⟨q1, q2⟩ | ⟨q1, q2⟩
        case' inl =>
          have q3 : ¬ k < us.length := by omega
          have d1 : decide (k < us.length) = false := decide_eq_false q3
        case' inr.inr =>
          have d1 : decide (k < us.length) = true := decide_eq_true q1
          obtain ⟨b2, o2, rfl, c2⟩ := (HU.out.later H.out.below).at q2
          have lc2 := lt_of_cellO c2
        case inr.inl =>
          have d1 : decide (k < us.length) = true := decide_eq_true q1
          obtain ⟨b2, o2, rfl, c2⟩ := (HU.out.later H.out.below).at q2
          have lc2 := lt_of_cellO c2
          obtain ⟨f2, hf2⟩ : ∃ f2, f.aftUp ((k : Int) + 1) = f2 := ⟨_, rfl⟩
          have U1 := Lib.hid (And.intro UP.out.1 hf2)
          have U2 := Lib.hid UP.out.2.1
          have U3 := Lib.hid UP.out.2.2.1
          rw [hf2] at U2 U3
          clear UP hf2
          go_wp2_with fail
          refine (hold_fup (er := 0) (f' := f2) H.out FE0.out ((k : Int) + 1) ⟨by omega, by omega⟩ U1.out.1 U1.out.2).mono ?_
          rintro e w6 ⟨rfl, hst⟩
          replace H := Lib.hid hst
          clear hst U1 c2 lc2
          go_wp2_with (refine Hold.store 1 (t := 4) ((FB.out f2).sep FE0.out) rfl rfl rfl rfl (vs := [.bool true]) rfl (n := 1) (by kernel_rfl) H.out rfl rfl (by simp [hrl]; omega) rfl ?_; intro W8 HMm CW8)
          replace H := Lib.hid HMm
          clear HMm CW8
          refine Stay.go ?_
          go_wp2_with fail
          go_roundw
          case rel => exact ⟨k + 1, f2, rd.set k true, by omega, by go_num, U2, Lib.hid (by rw [U3.out]; exact HFN.out), Lib.hid (fun j h1 h2 => by rw [List.getElem?_set_ne (by omega)]; exact RI.out j (by omega) h2), Lib.hid (by have := H.out; rw [← List.set_cons_succ, ← bool_set (false :: rd) (k + 1) true (by simp; omega)]; exact this)⟩
          case measure => simp [_root_.Go.RowKit.intOf]; omega
        all_goals
          clear UP
          go_wp2_with fail
          go_roundw
          case rel => exact ⟨k + 1, f, rd, by omega, by go_num, PI, HFN, Lib.hid (fun j h1 h2 => RI.out j (by omega) h2), H⟩
          case measure => simp [_root_.Go.RowKit.intOf]; omega
      · have hnk : ¬ ((k : Int) + 1 ≤ (N : Int)) := by omega
        have b0 : decide ((k : Int) + 1 ≤ (N : Int)) = false := decide_eq_false hnk
        have W0 : Hid (∀ y, whoL f.l y ≠ 0 → 1 ≤ y ∧ y ≤ ((0 : Nat) : Int)) := Lib.hid (fun y hy => absurd ((by rw [← hld0] at PI; exact PI.out.who0 y : whoL f.l y = 0)) hy)
        have Z0 : Hid (∀ i : Nat, rd[i]? = some false → ld0[i]? = some 0) := Lib.hid (fun i hi => by rw [← hld0, List.getElem?_replicate, if_pos (by rw [← PI.out.rl]; exact (List.getElem?_eq_some_iff.1 hi).1)])
        have hrl := PI.out.rl
        clear RI
        go_wp2_with fail
        clear b0 hnk hlt
        go_loopw [12, 14] (fun qv i W => ∃ (m : Nat) (f : Fl) (ld : List Int), m ≤ 20 ∧ qv = .int .i64 ((m : Int) + 1) ∧ i = .int .i64 (m : Int) ∧ Hid (PickI f 3 N ld rd) ∧ Hid (f.n = N) ∧ Hid (∀ y, whoL f.l y ≠ 0 → 1 ≤ y ∧ y ≤ (m : Int)) ∧ Hid (∀ i : Nat, rd[i]? = some false → ld[i]? = some 0) ∧ Hid (Hold w W [(gl, intsV (0 :: ld), 3), (gr, boolsV (false :: rd), 4)] (Sep (FlP g f) Emp))) (fun _ i _ => 20 - (_root_.Go.RowKit.intOf i).toNat)
        case atStart => exact ⟨0, f, ld0, by omega, rfl, rfl, PI, HFN, W0, Z0, H⟩
        case round =>
          clear H PI W0 Z0 HFN
          obtain ⟨m, f3, ld, hm, rfl, rfl, PI, HFN, WI, ZI, H⟩ := hrel
          have hm1 : IntKind.i64.wrap ((m : Int) + 1) = (m : Int) + 1 := IntWalk.i64_in _ ⟨by omega, by omega⟩
          have hm2 : IntKind.i64.wrap ((m : Int) + 1 + 1) = (m : Int) + 1 + 1 := IntWalk.i64_in _ ⟨by omega, by omega⟩
          have hll := PI.out.ll
          by_cases h12 : m < zs.length ∧ m < 20
          · obtain ⟨h1, h2⟩ := h12
            have d1 : decide ((m : Int) < (zs.length : Int)) = true := decide_eq_true (by omega)
            have d2 : decide ((m : Int) < 20) = true := decide_eq_true (by omega)
            have hfresh : whoL f3.l ((m : Int) + 1) = 0 := by
              rcases Int.lt_trichotomy (whoL f3.l ((m : Int) + 1)) 0 with e | e | e
              · have := WI.out ((m : Int) + 1) (by omega); omega
              · exact e
              · have := WI.out ((m : Int) + 1) (by omega); omega
            rcases PI.out.take (x := (m : Int) + 1) ⟨by omega, by omega⟩ hfresh with ⟨e1, e2, e3, e4⟩ | ⟨i, h, e1, hin, hid, e2, e3, e5, e6, e6', e7, e8, e9, e10⟩
            · have TN := Lib.hid (And.intro e3 (And.intro e2 e4))
              clear e1 e2 e3 e4 hfresh
              go_wp2_with fail
              refine (hold_ftake (er := 0) (bo := false) (f' := f3) H.out FE0.out rvA1 ((m : Int) + 1) (by decide) ⟨by omega, by omega⟩ TN.out.1 TN.out.2.1 TN.out.2.2).mono ?_
              rintro e w9 ⟨rfl, hst⟩
              replace H := Lib.hid hst
              clear hst
              go_wp2_with fail
              go_roundw
              case rel => exact ⟨m + 1, f3, ld, by omega, by go_num, by go_num, PI, HFN, Lib.hid (fun y hy => by have := WI.out y hy; omega), ZI, H⟩
              case measure => simp [_root_.Go.RowKit.intOf]; omega
            · obtain ⟨f4, hf4⟩ : ∃ f4, f3.aftTake rvA1 ((m : Int) + 1) = f4 := ⟨_, rfl⟩
              rw [hf4] at e7 e8 e9 e10
              obtain ⟨M, hM⟩ : ∃ M : Int, (h.load : Int) = M := ⟨_, rfl⟩
              have hM0 : 0 ≤ M := by omega
              rw [hM] at e5 e6 e7
              have P2 := Lib.hid e7
              have W2 : Hid (∀ y, whoL f4.l y ≠ 0 → 1 ≤ y ∧ y ≤ ((m + 1 : Nat) : Int)) := Lib.hid (fun y hy => by
                by_cases q : y = (m : Int) + 1
                · omega
                · rw [e9 y q] at hy; have := WI.out y hy; omega)
              have Z2 : Hid (∀ j : Nat, rd[j]? = some false → (ld.set i (M + 1))[j]? = some 0) := Lib.hid (fun j hj => by
                rw [List.getElem?_set_ne (fun q => by subst q; rw [e6'] at hj; cases hj)]
                exact ZI.out j hj)
              have N2 := Lib.hid (e10.trans HFN.out)
              have TN := Lib.hid (And.intro e3 (And.intro e2 hf4))
              have HL5 := Lib.hid e5
              have wM : IntKind.i64.wrap (M + 1) = M + 1 := IntWalk.i64_in _ ⟨by omega, by omega⟩
              have i0 : (0 : Int) ≤ (i : Int) + 1 := by omega
              have i1 : ¬ ((i : Int) + 1 < 1) := by omega
              have dI1 : decide ((i : Int) + 1 < 1) = false := decide_eq_false i1
              have i2 : ¬ ((N : Int) < (i : Int) + 1) := by omega
              have dI2 : decide ((N : Int) < (i : Int) + 1) = false := decide_eq_false i2
              have i3 : (i : Int) + 1 < (N : Int) + 1 := by omega
              have i4 : ((i : Int) + 1).toNat = i + 1 := by omega
              have hild : i < ld.length := by omega
              clear e1 e2 e3 e5 e7 e8 e9 e10 hf4 hid hM hfresh
              go_wp2_with fail
              refine (hold_ftake (er := (i : Int) + 1) (bo := true) (f' := f4) H.out FE0.out rvA1 ((m : Int) + 1) (by decide) ⟨by omega, by omega⟩ TN.out.1 TN.out.2.1 TN.out.2.2).mono ?_
              rintro e w9 ⟨rfl, hst⟩
              replace H := Lib.hid hst
              have cL := H.out.mem.cell (i := 0) (o := i + 1) rfl (show (intsV (0 :: ld))[i + 1]? = some (.int .i64 M) by show (intsV ld)[i]? = _; rw [List.getElem?_map, HL5.out]; rfl)
              have lL := lt_of_cellO cL
              clear hst
              go_wp2_with (refine Hold.store 0 (t := 3) ((FB.out f4).sep FE0.out) rfl rfl rfl rfl (vs := [.int .i64 (M + 1)]) rfl (n := 1) (by kernel_rfl) H.out rfl rfl (by simp; omega) rfl ?_; intro W8 HMm CW8)
              have H8 := Lib.hid HMm
              clear HMm CW8 cL lL
              refine Stay.go ?_
              go_wp2_with fail
              go_roundw
              case rel => exact ⟨m + 1, f4, ld.set i (M + 1), by omega, by go_num, by go_num, P2, N2, W2, Z2, Lib.hid (by have := H8.out; rw [← List.set_cons_succ, ← int_set (0 :: ld) (i + 1) (M + 1) (by simp; omega)]; exact this)⟩
              case measure => simp [_root_.Go.RowKit.intOf]; omega
          · refine wp_seq ?_
            (repeat refine wp_seq ?_)
            refine wp_spec (fun a0 A W => ∃ x65 x66 x67 x68 x69 x70 x71 : Value, A = ((((((((a0.put (some 65) x65).put (some 66) x66).put (some 67) x67).put (some 68) x68).put (some 69) x69).put (some 70) x70).put (some 71) x71).put (some 72) (.bool false)) ∧ W = wr) ?_ ?_
            all_goals simp only [Act.put, L0, L1, L2]
            ·
              rcases Classical.em (m < zs.length) with q1 | q1
              case' inl =>
                have d1 : decide ((m : Int) < (zs.length : Int)) = true := decide_eq_true (by omega)
                have q2 : ¬ ((m : Int) < 20) := by omega
                have d2 : decide ((m : Int) < 20) = false := decide_eq_false q2
              case' inr =>
                have d1 : decide (m < zs.length) = false := decide_eq_false q1
              all_goals
                go_wp2_with fail
                dsimp only [PostN]
                first | ((repeat apply Exists.intro); exact ⟨rfl, rfl⟩) | (refine ⟨?_, rfl⟩; (repeat apply Exists.intro); rfl)
            ·
              rintro A W9 ⟨x65, x66, x67, x68, x69, x70, x71, rfl, rfl⟩
              clear h12 hm1 hm2
              obtain ⟨K, hK⟩ : ∃ K : Nat, N - Wt = K := ⟨_, rfl⟩
              have wK : IntKind.i64.wrap ((N : Int) - (Wt : Int)) = (K : Int) := by rw [show (N : Int) - (Wt : Int) = (K : Int) by omega]; exact IntWalk.i64_in _ ⟨by omega, by omega⟩
              have DN := Lib.hid (PI.out.down hWN)
              obtain ⟨GL, hGL⟩ : ∃ GL, goneM rvA1 (N - Wt) f3.l = GL := ⟨_, rfl⟩
              have HGL : Hid (GL = goneM rvA1 K f3.l) := Lib.hid (by rw [← hGL, hK])
              rw [hGL, hK] at DN
              have hNn : f3.n ≤ 99000 := by have := HFN.out; omega
              obtain ⟨S, hS⟩ : ∃ S, f3.scale rvA1 3 (Wt : Int) = S := ⟨_, rfl⟩
              have HS := Lib.hid hS
              have hK9 : K ≤ 9 := by omega
              clear hGL hK hS
              go_wp2_with fail
              refine (WW.out _).mono ?_
              rintro e wx ⟨rfl, rfl⟩
              clear WW
              go_wp2_with fail
              refine (hold_fscale (f' := S) H.out FE0.out rvA1 3 (Wt : Int) (by decide) (by decide) ⟨by omega, by omega⟩ hNn DN.out.1 DN.out.2.1 HS.out).mono ?_
              rintro e w9 ⟨v9, u9, rfl, hh⟩
              obtain ⟨a9, d9, rfl, -⟩ := hold_row hh
              obtain ⟨a10, d10, hv, -⟩ := hold_row3 hh
              rw [DN.out.2.2] at hv
              subst hv
              have HH : Hid (Hold w w9 [(gl, intsV (0 :: ld), 3), (gr, boolsV (false :: rd), 4)] (Sep (FlP g S) (Sep (IntO (.slice a10 K d10) GL) Emp))) := Lib.hid (drop2 hh)
              have hGK := Lib.hid DN.out.2.2
              clear hh H DN HS hNn
              obtain ⟨ou0, hou0⟩ : ∃ ou0 : List Bool, List.replicate N false = ou0 := ⟨_, rfl⟩
              have MB : ∀ w, (Instr.makeSlice 36 (.int .i64 ((N : Int) + 1)) (.int .i64 ((N : Int) + 1))).run Try.prog w = .ok (.slice (some ⟨w.heap.size, 0, none⟩) (N + 1) (N + 1)) (w.alloc (.cells (boolsV (false :: ou0)).toArray 4)) := by rw [← hou0]; exact fun w => make_bools (N + 1) (by omega) w
              have F7 := Lib.hid ((IntO.foot (.slice a10 K d10) GL).sep FE0.out)
              have F8 := Lib.hid ((FB.out S).sep F7.out)
              have HA := Lib.hid (HH.out.alloc' F8.out (boolsV (false :: ou0)) 4 rfl)
              obtain ⟨go, hgo⟩ : ∃ go, w9.heap.size = go := ⟨_, rfl⟩
              rw [hgo] at HA
              have O0 : Hid (ou0.length = N ∧ GL.drop 0 = goneM rvA1 (K - 0) (f3.l.filter (notOut ou0))) := Lib.hid ⟨by rw [← hou0]; simp, by rw [List.drop_zero, Nat.sub_zero, ← hou0, PI.out.out_none]; exact HGL.out⟩
              clear HGL hou0
              go_wp2_with fail
              clear MB hgo wK HH
              have H := HA
              clear HA
              simp only [List.cons_append, List.nil_append] at H
              go_loopw [21] (fun i W => ∃ (i9 : Nat) (ou : List Bool), i9 ≤ K ∧ i = .int .i64 (i9 : Int) ∧ Hid (ou.length = N ∧ GL.drop i9 = goneM rvA1 (K - i9) (f3.l.filter (notOut ou))) ∧ Hid (Hold w W [(gl, intsV (0 :: ld), 3), (gr, boolsV (false :: rd), 4), (go, boolsV (false :: ou), 4)] (Sep (FlP g S) (Sep (IntO (.slice a10 K d10) GL) Emp)))) (fun i _ => K - (_root_.Go.RowKit.intOf i).toNat)
              case atStart => exact ⟨0, ou0, by omega, rfl, O0, H⟩
              case round =>
                clear H O0
                obtain ⟨i9, ou, hi9, rfl, HO, H⟩ := hrel
                have hi1 : IntKind.i64.wrap ((i9 : Int) + 1) = (i9 : Int) + 1 := IntWalk.i64_in _ ⟨by omega, by omega⟩
                by_cases hlt : i9 < K
                · have b0 : decide ((i9 : Int) < (K : Int)) = true := decide_eq_true (by omega)
                  obtain ⟨k9, hk9⟩ : ∃ k9, K - i9 = k9 + 1 := ⟨K - i9 - 1, by omega⟩
                  have hdl : (GL.drop i9).length = k9 + 1 := by rw [List.length_drop, hGK.out]; omega
                  have hgn : (goneM rvA1 (k9 + 1) (f3.l.filter (notOut ou))).length = k9 + 1 := by rw [← hk9, ← HO.out.2, hdl]; omega
                  obtain ⟨h, hl, hnx⟩ := goneM_next hgn
                  have hdr : GL.drop i9 = h.id :: goneM rvA1 k9 ((f3.l.filter (notOut ou)).filter fun b => decide (b.id ≠ h.id)) := by rw [HO.out.2, hk9]; exact hnx
                  have hG9 : GL[i9]? = some h.id := by
                    have := congrArg (fun l : List Int => l[0]?) hdr
                    simpa using this
                  have hd2 : GL.drop (i9 + 1) = goneM rvA1 k9 ((f3.l.filter (notOut ou)).filter fun b => decide (b.id ≠ h.id)) := by
                    have := congrArg (List.drop 1) hdr
                    rwa [List.drop_drop, List.drop_one, List.tail_cons] at this
                  have holen := HO.out.1
                  have HLS := Lib.hid hl
                  have HG9 := Lib.hid hG9
                  have HD2 := Lib.hid hd2
                  have hk9' : K - (i9 + 1) = k9 := by omega
                  obtain ⟨hid9, hhid⟩ : ∃ x, h.id = x := ⟨_, rfl⟩
                  have HID := Lib.hid hhid
                  rw [hhid] at HG9 HD2
                  clear hl hnx hdr hG9 hd2 hgn hdl hk9
                  go_wp2_with fail
                  go_loopw [22, 23] (fun bv kv W => ∃ (j : Nat) (B : Int), j ≤ N ∧ kv = .int .i64 ((j : Int) + 1) ∧ bv = .int .i64 B ∧ Hid (bd (lastP ((f3.l.take j).filter (notOut ou)) rvA1) = B) ∧ (0 ≤ B ∧ B ≤ (j : Int)) ∧ Hid (Hold w W [(gl, intsV (0 :: ld), 3), (gr, boolsV (false :: rd), 4), (go, boolsV (false :: ou), 4)] (Sep (FlP g S) (Sep (IntO (.slice a10 K d10) GL) Emp)))) (fun _ kv _ => N + 1 - (_root_.Go.RowKit.intOf kv).toNat)
                  case atStart => exact ⟨0, 0, by omega, rfl, rfl, Lib.hid rfl, ⟨by decide, by decide⟩, H⟩
                  case round =>
                    clear H
                    obtain ⟨j, B, hj, rfl, rfl, HB, hB, H⟩ := hrel
                    have hj1 : IntKind.i64.wrap ((j : Int) + 1 + 1) = (j : Int) + 1 + 1 := IntWalk.i64_in _ ⟨by omega, by omega⟩
                    by_cases hlj : j < N
                    · have b1 : decide ((j : Int) + 1 ≤ (N : Int)) = true := decide_eq_true (by omega)
                      obtain ⟨rk, hrk⟩ : ∃ rk, rd[j]? = some rk := ⟨_, List.getElem?_eq_getElem (by omega)⟩
                      obtain ⟨xk, hxk⟩ : ∃ xk, ld[j]? = some xk := ⟨_, List.getElem?_eq_getElem (by omega)⟩
                      obtain ⟨o, ho⟩ : ∃ o, ou[j]? = some o := ⟨_, List.getElem?_eq_getElem (by omega)⟩
                      have DS := PI.out.down_step ZI.out ou hlj hrk hxk ho
                      rw [HB.out] at DS
                      have cO := H.out.mem.cell (i := 2) (o := j + 1) rfl (show (boolsV (false :: ou))[j + 1]? = some (.bool o) by show (boolsV ou)[j]? = _; rw [List.getElem?_map, ho]; rfl)
                      have cR := H.out.mem.cell (i := 1) (o := j + 1) rfl (show (boolsV (false :: rd))[j + 1]? = some (.bool rk) by show (boolsV rd)[j]? = _; rw [List.getElem?_map, hrk]; rfl)
                      have cL := H.out.mem.cell (i := 0) (o := j + 1) rfl (show (intsV (0 :: ld))[j + 1]? = some (.int .i64 xk) by show (intsV ld)[j]? = _; rw [List.getElem?_map, hxk]; rfl)
                      have lO := lt_of_cellO cO
                      have j0 : (0 : Int) ≤ (j : Int) + 1 := by omega
                      have jN : (j : Int) + 1 < (N : Int) + 1 := by omega
                      have jT : ((j : Int) + 1).toNat = j + 1 := by omega
                      rcases DS with ⟨rfl, e1⟩ | ⟨rfl, e0, e1⟩ | ⟨rfl, jj, rb, xb, hjj, e0, hrb, hxb, hc3⟩
                      · have HB2 := Lib.hid e1
                        clear e1 cR cL
                        go_wp2_with fail
                        go_roundw
                        case rel => exact ⟨j + 1, B, by omega, by go_num, rfl, HB2, ⟨by omega, by omega⟩, H⟩
                        case measure => simp [_root_.Go.RowKit.intOf]; omega
                      · have HB2 := Lib.hid e1
                        clear e1
                        subst e0
                        have KC := Lib.hid (fun (w' : World) (h : Chg (fun _ => False) wr w') => (⟨h.cell cR id, h.cell cR id, h.cell cL id, h.cell cL id, trivial⟩ : w'.cell? ⟨gr, j + 1, none⟩ = some (.bool rk) ∧ w'.cell? ⟨gr, j + 1, none⟩ = some (.bool rk) ∧ w'.cell? ⟨gl, j + 1, none⟩ = some (.int .i64 xk) ∧ w'.cell? ⟨gl, j + 1, none⟩ = some (.int .i64 xk) ∧ True))
                        clear cR cL
                        go_wp2_with fail
                        refine Evo2.start' (ℓ := none) (S := Chg (fun _ => False)) (E := Grow.G) (by kernel_rfl) ⟨Chg.pre _, by decide +kernel, (by intro c a d v w h; cases d <;> exact h), by decide +kernel⟩ (fun ok => ?_)
                        refine Evo2.va ok 0 _ _ ?_
                        refine Evo2.va ok 1 _ _ ?_
                        refine Evo2.va ok 2 _ _ ?_
                        first | (refine Evo2.va ok 3 _ _ ?_) | (refine Evo2.vi ok 3 _ ?_)
                        first | (refine Evo2.va ok 4 _ _ ?_) | (refine Evo2.vi ok 4 _ ?_)
                        first | (refine Evo2.va ok 5 _ _ ?_) | (refine Evo2.vi ok 5 _ ?_)
                        first | (refine Evo2.vl ok 6 KC.out (Chg.refl (fun _ => False) _) _ _ ?_) | (refine Evo2.va ok 6 _ _ ?_) | (refine Evo2.vi ok 6 _ ?_)
                        first | (refine Evo2.va ok 7 _ _ ?_) | (refine Evo2.vi ok 7 _ ?_)
                        first | (refine Evo2.va ok 8 _ _ ?_) | (refine Evo2.vi ok 8 _ ?_)
                        first | (refine Evo2.va ok 9 _ _ ?_) | (refine Evo2.vi ok 9 _ ?_)
                        first | (refine Evo2.va ok 10 _ _ ?_) | (refine Evo2.vi ok 10 _ ?_)
                        first | (refine Evo2.va ok 11 _ _ ?_) | (refine Evo2.vi ok 11 _ ?_)
                        first | (refine Evo2.vl ok 12 KC.out (Chg.refl (fun _ => False) _) _ _ ?_) | (refine Evo2.va ok 12 _ _ ?_) | (refine Evo2.vi ok 12 _ ?_)
                        first | (refine Evo2.va ok 13 _ _ ?_) | (refine Evo2.vi ok 13 _ ?_)
                        refine Evo2.va ok 14 _ _ ?_
                        refine Evo2.va ok 15 _ _ ?_
                        first | (refine Evo2.va ok 16 _ _ ?_) | (refine Evo2.vi ok 16 _ ?_)
                        first | (refine Evo2.va ok 17 _ _ ?_) | (refine Evo2.vi ok 17 _ ?_)
                        first | (refine Evo2.va ok 18 _ _ ?_) | (refine Evo2.vi ok 18 _ ?_)
                        first | (refine Evo2.vl ok 19 KC.out (Chg.refl (fun _ => False) _) _ _ ?_) | (refine Evo2.va ok 19 _ _ ?_) | (refine Evo2.vi ok 19 _ ?_)
                        first | (refine Evo2.va ok 20 _ _ ?_) | (refine Evo2.vi ok 20 _ ?_)
                        first | (refine Evo2.va ok 21 _ _ ?_) | (refine Evo2.vi ok 21 _ ?_)
                        first | (refine Evo2.va ok 22 _ _ ?_) | (refine Evo2.vi ok 22 _ ?_)
                        first | (refine Evo2.vl ok 23 KC.out (Chg.refl (fun _ => False) _) _ _ ?_) | (refine Evo2.va ok 23 _ _ ?_) | (refine Evo2.vi ok 23 _ ?_)
                        first | (refine Evo2.va ok 24 _ _ ?_) | (refine Evo2.vi ok 24 _ ?_)
                        first | (refine Evo2.va ok 25 _ _ ?_) | (refine Evo2.vi ok 25 _ ?_)
                        first | (refine Evo2.va ok 26 _ _ ?_) | (refine Evo2.vi ok 26 _ ?_)
                        first | (refine Evo2.va ok 27 _ _ ?_) | (refine Evo2.vi ok 27 _ ?_)
                        first | (refine Evo2.va ok 28 _ _ ?_) | (refine Evo2.vi ok 28 _ ?_)
                        first | (refine Evo2.vl ok 29 KC.out (Chg.refl (fun _ => False) _) _ _ ?_) | (refine Evo2.va ok 29 _ _ ?_) | (refine Evo2.vi ok 29 _ ?_)
                        first | (refine Evo2.va ok 30 _ _ ?_) | (refine Evo2.vi ok 30 _ ?_)
                        first | (refine Evo2.va ok 31 _ _ ?_) | (refine Evo2.vi ok 31 _ ?_)
                        first | (refine Evo2.va ok 32 _ _ ?_) | (refine Evo2.vi ok 32 _ ?_)
                        first | (refine Evo2.va ok 33 _ _ ?_) | (refine Evo2.vi ok 33 _ ?_)
                        first | (refine Evo2.va ok 34 _ _ ?_) | (refine Evo2.vi ok 34 _ ?_)
                        first | (refine Evo2.vl ok 35 KC.out (Chg.refl (fun _ => False) _) _ _ ?_) | (refine Evo2.va ok 35 _ _ ?_) | (refine Evo2.vi ok 35 _ ?_)
                        first | (refine Evo2.va ok 36 _ _ ?_) | (refine Evo2.vi ok 36 _ ?_)
                        first | (refine Evo2.va ok 37 _ _ ?_) | (refine Evo2.vi ok 37 _ ?_)
                        first | (refine Evo2.va ok 38 _ _ ?_) | (refine Evo2.vi ok 38 _ ?_)
                        first | (refine Evo2.vl ok 39 KC.out (Chg.refl (fun _ => False) _) _ _ ?_) | (refine Evo2.va ok 39 _ _ ?_) | (refine Evo2.vi ok 39 _ ?_)
                        first | (refine Evo2.va ok 40 _ _ ?_) | (refine Evo2.vi ok 40 _ ?_)
                        first | (refine Evo2.va ok 41 _ _ ?_) | (refine Evo2.vi ok 41 _ ?_)
                        first | (refine Evo2.va ok 42 _ _ ?_) | (refine Evo2.vi ok 42 _ ?_)
                        refine Evo2.va ok 43 _ _ ?_
                        refine Evo2.done (by decide +kernel) (fun wz gz => ?_)
                        have AZ := Chg.trans (Chg.refl (fun _ => False) _) (Chg.grow gz)
                        have H2 := Lib.hid (H.out.grow F8.out (AZ.toGrow (fun _ _ => id)))
                        clear AZ gz KC
                        go_wp2_with fail
                        go_roundw
                        case rel => exact ⟨j + 1, (j : Int) + 1, by omega, by go_num, rfl, HB2, ⟨by omega, by omega⟩, H2⟩
                        case measure => simp [_root_.Go.RowKit.intOf]; omega
                      · subst e0
                        have jj1 : ¬ ((jj : Int) + 1 = 0) := by omega
                        have djj : ((jj : Int) + 1 == 0) = false := by simpa using jj1
                        have jj0 : (0 : Int) ≤ (jj : Int) + 1 := by omega
                        have jjN : (jj : Int) + 1 < (N : Int) + 1 := by omega
                        have jjT : ((jj : Int) + 1).toNat = jj + 1 := by omega
                        have cRb := H.out.mem.cell (i := 1) (o := jj + 1) rfl (show (boolsV (false :: rd))[jj + 1]? = some (.bool rb) by show (boolsV rd)[jj]? = _; rw [List.getElem?_map, hrb]; rfl)
                        have cLb := H.out.mem.cell (i := 0) (o := jj + 1) rfl (show (intsV (0 :: ld))[jj + 1]? = some (.int .i64 xb) by show (intsV ld)[jj]? = _; rw [List.getElem?_map, hxb]; rfl)
                        rcases hc3 with ⟨rfl, e1⟩ | ⟨rfl, rfl, e1⟩ | ⟨rfl, rfl, hc4⟩
                        · have HB2 := Lib.hid e1
                          clear e1
                          cases hb : rb with
                          | false =>
                            subst hb
                            have KC := Lib.hid (fun (w' : World) (h : Chg (fun _ => False) wr w') => (⟨h.cell cR id, h.cell cRb id, h.cell cL id, h.cell cLb id, trivial⟩ : w'.cell? ⟨gr, j + 1, none⟩ = some (.bool false) ∧ w'.cell? ⟨gr, jj + 1, none⟩ = some (.bool false) ∧ w'.cell? ⟨gl, j + 1, none⟩ = some (.int .i64 xk) ∧ w'.cell? ⟨gl, jj + 1, none⟩ = some (.int .i64 xb) ∧ True))
                            clear cR cL
                            go_wp2_with fail
                            refine Evo2.start' (ℓ := none) (S := Chg (fun _ => False)) (E := Grow.G) (by kernel_rfl) ⟨Chg.pre _, by decide +kernel, (by intro c a d v w h; cases d <;> exact h), by decide +kernel⟩ (fun ok => ?_)
                            refine Evo2.va ok 0 _ _ ?_
                            refine Evo2.va ok 1 _ _ ?_
                            refine Evo2.va ok 2 _ _ ?_
                            first | (refine Evo2.va ok 3 _ _ ?_) | (refine Evo2.vi ok 3 _ ?_)
                            first | (refine Evo2.va ok 4 _ _ ?_) | (refine Evo2.vi ok 4 _ ?_)
                            first | (refine Evo2.va ok 5 _ _ ?_) | (refine Evo2.vi ok 5 _ ?_)
                            first | (refine Evo2.vl ok 6 KC.out (Chg.refl (fun _ => False) _) _ _ ?_) | (refine Evo2.va ok 6 _ _ ?_) | (refine Evo2.vi ok 6 _ ?_)
                            first | (refine Evo2.va ok 7 _ _ ?_) | (refine Evo2.vi ok 7 _ ?_)
                            first | (refine Evo2.va ok 8 _ _ ?_) | (refine Evo2.vi ok 8 _ ?_)
                            first | (refine Evo2.va ok 9 _ _ ?_) | (refine Evo2.vi ok 9 _ ?_)
                            first | (refine Evo2.va ok 10 _ _ ?_) | (refine Evo2.vi ok 10 _ ?_)
                            first | (refine Evo2.va ok 11 _ _ ?_) | (refine Evo2.vi ok 11 _ ?_)
                            first | (refine Evo2.vl ok 12 KC.out (Chg.refl (fun _ => False) _) _ _ ?_) | (refine Evo2.va ok 12 _ _ ?_) | (refine Evo2.vi ok 12 _ ?_)
                            first | (refine Evo2.va ok 13 _ _ ?_) | (refine Evo2.vi ok 13 _ ?_)
                            refine Evo2.va ok 14 _ _ ?_
                            refine Evo2.va ok 15 _ _ ?_
                            first | (refine Evo2.va ok 16 _ _ ?_) | (refine Evo2.vi ok 16 _ ?_)
                            first | (refine Evo2.va ok 17 _ _ ?_) | (refine Evo2.vi ok 17 _ ?_)
                            first | (refine Evo2.va ok 18 _ _ ?_) | (refine Evo2.vi ok 18 _ ?_)
                            first | (refine Evo2.vl ok 19 KC.out (Chg.refl (fun _ => False) _) _ _ ?_) | (refine Evo2.va ok 19 _ _ ?_) | (refine Evo2.vi ok 19 _ ?_)
                            first | (refine Evo2.va ok 20 _ _ ?_) | (refine Evo2.vi ok 20 _ ?_)
                            first | (refine Evo2.va ok 21 _ _ ?_) | (refine Evo2.vi ok 21 _ ?_)
                            first | (refine Evo2.va ok 22 _ _ ?_) | (refine Evo2.vi ok 22 _ ?_)
                            first | (refine Evo2.vl ok 23 KC.out (Chg.refl (fun _ => False) _) _ _ ?_) | (refine Evo2.va ok 23 _ _ ?_) | (refine Evo2.vi ok 23 _ ?_)
                            first | (refine Evo2.va ok 24 _ _ ?_) | (refine Evo2.vi ok 24 _ ?_)
                            first | (refine Evo2.va ok 25 _ _ ?_) | (refine Evo2.vi ok 25 _ ?_)
                            first | (refine Evo2.va ok 26 _ _ ?_) | (refine Evo2.vi ok 26 _ ?_)
                            first | (refine Evo2.va ok 27 _ _ ?_) | (refine Evo2.vi ok 27 _ ?_)
                            first | (refine Evo2.va ok 28 _ _ ?_) | (refine Evo2.vi ok 28 _ ?_)
                            first | (refine Evo2.vl ok 29 KC.out (Chg.refl (fun _ => False) _) _ _ ?_) | (refine Evo2.va ok 29 _ _ ?_) | (refine Evo2.vi ok 29 _ ?_)
                            first | (refine Evo2.va ok 30 _ _ ?_) | (refine Evo2.vi ok 30 _ ?_)
                            first | (refine Evo2.va ok 31 _ _ ?_) | (refine Evo2.vi ok 31 _ ?_)
                            first | (refine Evo2.va ok 32 _ _ ?_) | (refine Evo2.vi ok 32 _ ?_)
                            first | (refine Evo2.va ok 33 _ _ ?_) | (refine Evo2.vi ok 33 _ ?_)
                            first | (refine Evo2.va ok 34 _ _ ?_) | (refine Evo2.vi ok 34 _ ?_)
                            first | (refine Evo2.vl ok 35 KC.out (Chg.refl (fun _ => False) _) _ _ ?_) | (refine Evo2.va ok 35 _ _ ?_) | (refine Evo2.vi ok 35 _ ?_)
                            first | (refine Evo2.va ok 36 _ _ ?_) | (refine Evo2.vi ok 36 _ ?_)
                            first | (refine Evo2.va ok 37 _ _ ?_) | (refine Evo2.vi ok 37 _ ?_)
                            first | (refine Evo2.va ok 38 _ _ ?_) | (refine Evo2.vi ok 38 _ ?_)
                            first | (refine Evo2.vl ok 39 KC.out (Chg.refl (fun _ => False) _) _ _ ?_) | (refine Evo2.va ok 39 _ _ ?_) | (refine Evo2.vi ok 39 _ ?_)
                            first | (refine Evo2.va ok 40 _ _ ?_) | (refine Evo2.vi ok 40 _ ?_)
                            first | (refine Evo2.va ok 41 _ _ ?_) | (refine Evo2.vi ok 41 _ ?_)
                            first | (refine Evo2.va ok 42 _ _ ?_) | (refine Evo2.vi ok 42 _ ?_)
                            refine Evo2.va ok 43 _ _ ?_
                            refine Evo2.done (by decide +kernel) (fun wz gz => ?_)
                            have AZ := Chg.trans (Chg.refl (fun _ => False) _) (Chg.grow gz)
                            have H2 := Lib.hid (H.out.grow F8.out (AZ.toGrow (fun _ _ => id)))
                            clear AZ gz KC
                            go_wp2_with fail
                            go_roundw
                            case rel => exact ⟨j + 1, (j : Int) + 1, by omega, by go_num, rfl, HB2, ⟨by omega, by omega⟩, H2⟩
                            case measure => simp [_root_.Go.RowKit.intOf]; omega
                          | true =>
                            subst hb
                            have KC := Lib.hid (fun (w' : World) (h : Chg (fun _ => False) wr w') => (⟨h.cell cR id, h.cell cRb id, h.cell cL id, h.cell cLb id, trivial⟩ : w'.cell? ⟨gr, j + 1, none⟩ = some (.bool false) ∧ w'.cell? ⟨gr, jj + 1, none⟩ = some (.bool true) ∧ w'.cell? ⟨gl, j + 1, none⟩ = some (.int .i64 xk) ∧ w'.cell? ⟨gl, jj + 1, none⟩ = some (.int .i64 xb) ∧ True))
                            clear cR cL
                            go_wp2_with fail
                            refine Evo2.start' (ℓ := none) (S := Chg (fun _ => False)) (E := Grow.G) (by kernel_rfl) ⟨Chg.pre _, by decide +kernel, (by intro c a d v w h; cases d <;> exact h), by decide +kernel⟩ (fun ok => ?_)
                            refine Evo2.va ok 0 _ _ ?_
                            refine Evo2.va ok 1 _ _ ?_
                            refine Evo2.va ok 2 _ _ ?_
                            first | (refine Evo2.va ok 3 _ _ ?_) | (refine Evo2.vi ok 3 _ ?_)
                            first | (refine Evo2.va ok 4 _ _ ?_) | (refine Evo2.vi ok 4 _ ?_)
                            first | (refine Evo2.va ok 5 _ _ ?_) | (refine Evo2.vi ok 5 _ ?_)
                            first | (refine Evo2.vl ok 6 KC.out (Chg.refl (fun _ => False) _) _ _ ?_) | (refine Evo2.va ok 6 _ _ ?_) | (refine Evo2.vi ok 6 _ ?_)
                            first | (refine Evo2.va ok 7 _ _ ?_) | (refine Evo2.vi ok 7 _ ?_)
                            first | (refine Evo2.va ok 8 _ _ ?_) | (refine Evo2.vi ok 8 _ ?_)
                            first | (refine Evo2.va ok 9 _ _ ?_) | (refine Evo2.vi ok 9 _ ?_)
                            first | (refine Evo2.va ok 10 _ _ ?_) | (refine Evo2.vi ok 10 _ ?_)
                            first | (refine Evo2.va ok 11 _ _ ?_) | (refine Evo2.vi ok 11 _ ?_)
                            first | (refine Evo2.vl ok 12 KC.out (Chg.refl (fun _ => False) _) _ _ ?_) | (refine Evo2.va ok 12 _ _ ?_) | (refine Evo2.vi ok 12 _ ?_)
                            first | (refine Evo2.va ok 13 _ _ ?_) | (refine Evo2.vi ok 13 _ ?_)
                            refine Evo2.va ok 14 _ _ ?_
                            refine Evo2.va ok 15 _ _ ?_
                            first | (refine Evo2.va ok 16 _ _ ?_) | (refine Evo2.vi ok 16 _ ?_)
                            first | (refine Evo2.va ok 17 _ _ ?_) | (refine Evo2.vi ok 17 _ ?_)
                            first | (refine Evo2.va ok 18 _ _ ?_) | (refine Evo2.vi ok 18 _ ?_)
                            first | (refine Evo2.vl ok 19 KC.out (Chg.refl (fun _ => False) _) _ _ ?_) | (refine Evo2.va ok 19 _ _ ?_) | (refine Evo2.vi ok 19 _ ?_)
                            first | (refine Evo2.va ok 20 _ _ ?_) | (refine Evo2.vi ok 20 _ ?_)
                            first | (refine Evo2.va ok 21 _ _ ?_) | (refine Evo2.vi ok 21 _ ?_)
                            first | (refine Evo2.va ok 22 _ _ ?_) | (refine Evo2.vi ok 22 _ ?_)
                            first | (refine Evo2.vl ok 23 KC.out (Chg.refl (fun _ => False) _) _ _ ?_) | (refine Evo2.va ok 23 _ _ ?_) | (refine Evo2.vi ok 23 _ ?_)
                            first | (refine Evo2.va ok 24 _ _ ?_) | (refine Evo2.vi ok 24 _ ?_)
                            first | (refine Evo2.va ok 25 _ _ ?_) | (refine Evo2.vi ok 25 _ ?_)
                            first | (refine Evo2.va ok 26 _ _ ?_) | (refine Evo2.vi ok 26 _ ?_)
                            first | (refine Evo2.va ok 27 _ _ ?_) | (refine Evo2.vi ok 27 _ ?_)
                            first | (refine Evo2.va ok 28 _ _ ?_) | (refine Evo2.vi ok 28 _ ?_)
                            first | (refine Evo2.vl ok 29 KC.out (Chg.refl (fun _ => False) _) _ _ ?_) | (refine Evo2.va ok 29 _ _ ?_) | (refine Evo2.vi ok 29 _ ?_)
                            first | (refine Evo2.va ok 30 _ _ ?_) | (refine Evo2.vi ok 30 _ ?_)
                            first | (refine Evo2.va ok 31 _ _ ?_) | (refine Evo2.vi ok 31 _ ?_)
                            first | (refine Evo2.va ok 32 _ _ ?_) | (refine Evo2.vi ok 32 _ ?_)
                            first | (refine Evo2.va ok 33 _ _ ?_) | (refine Evo2.vi ok 33 _ ?_)
                            first | (refine Evo2.va ok 34 _ _ ?_) | (refine Evo2.vi ok 34 _ ?_)
                            first | (refine Evo2.vl ok 35 KC.out (Chg.refl (fun _ => False) _) _ _ ?_) | (refine Evo2.va ok 35 _ _ ?_) | (refine Evo2.vi ok 35 _ ?_)
                            first | (refine Evo2.va ok 36 _ _ ?_) | (refine Evo2.vi ok 36 _ ?_)
                            first | (refine Evo2.va ok 37 _ _ ?_) | (refine Evo2.vi ok 37 _ ?_)
                            first | (refine Evo2.va ok 38 _ _ ?_) | (refine Evo2.vi ok 38 _ ?_)
                            first | (refine Evo2.vl ok 39 KC.out (Chg.refl (fun _ => False) _) _ _ ?_) | (refine Evo2.va ok 39 _ _ ?_) | (refine Evo2.vi ok 39 _ ?_)
                            first | (refine Evo2.va ok 40 _ _ ?_) | (refine Evo2.vi ok 40 _ ?_)
                            first | (refine Evo2.va ok 41 _ _ ?_) | (refine Evo2.vi ok 41 _ ?_)
                            first | (refine Evo2.va ok 42 _ _ ?_) | (refine Evo2.vi ok 42 _ ?_)
                            refine Evo2.va ok 43 _ _ ?_
                            refine Evo2.done (by decide +kernel) (fun wz gz => ?_)
                            have AZ := Chg.trans (Chg.refl (fun _ => False) _) (Chg.grow gz)
                            have H2 := Lib.hid (H.out.grow F8.out (AZ.toGrow (fun _ _ => id)))
                            clear AZ gz KC
                            go_wp2_with fail
                            go_roundw
                            case rel => exact ⟨j + 1, (j : Int) + 1, by omega, by go_num, rfl, HB2, ⟨by omega, by omega⟩, H2⟩
                            case measure => simp [_root_.Go.RowKit.intOf]; omega
                        · have HB2 := Lib.hid e1
                          clear e1
                          have KC := Lib.hid (fun (w' : World) (h : Chg (fun _ => False) wr w') => (⟨h.cell cR id, h.cell cRb id, h.cell cL id, h.cell cLb id, trivial⟩ : w'.cell? ⟨gr, j + 1, none⟩ = some (.bool true) ∧ w'.cell? ⟨gr, jj + 1, none⟩ = some (.bool false) ∧ w'.cell? ⟨gl, j + 1, none⟩ = some (.int .i64 xk) ∧ w'.cell? ⟨gl, jj + 1, none⟩ = some (.int .i64 xb) ∧ True))
                          clear cR cL
                          go_wp2_with fail
                          refine Evo2.start' (ℓ := none) (S := Chg (fun _ => False)) (E := Grow.G) (by kernel_rfl) ⟨Chg.pre _, by decide +kernel, (by intro c a d v w h; cases d <;> exact h), by decide +kernel⟩ (fun ok => ?_)
                          refine Evo2.va ok 0 _ _ ?_
                          refine Evo2.va ok 1 _ _ ?_
                          refine Evo2.va ok 2 _ _ ?_
                          first | (refine Evo2.va ok 3 _ _ ?_) | (refine Evo2.vi ok 3 _ ?_)
                          first | (refine Evo2.va ok 4 _ _ ?_) | (refine Evo2.vi ok 4 _ ?_)
                          first | (refine Evo2.va ok 5 _ _ ?_) | (refine Evo2.vi ok 5 _ ?_)
                          first | (refine Evo2.vl ok 6 KC.out (Chg.refl (fun _ => False) _) _ _ ?_) | (refine Evo2.va ok 6 _ _ ?_) | (refine Evo2.vi ok 6 _ ?_)
                          first | (refine Evo2.va ok 7 _ _ ?_) | (refine Evo2.vi ok 7 _ ?_)
                          first | (refine Evo2.va ok 8 _ _ ?_) | (refine Evo2.vi ok 8 _ ?_)
                          first | (refine Evo2.va ok 9 _ _ ?_) | (refine Evo2.vi ok 9 _ ?_)
                          first | (refine Evo2.va ok 10 _ _ ?_) | (refine Evo2.vi ok 10 _ ?_)
                          first | (refine Evo2.va ok 11 _ _ ?_) | (refine Evo2.vi ok 11 _ ?_)
                          first | (refine Evo2.vl ok 12 KC.out (Chg.refl (fun _ => False) _) _ _ ?_) | (refine Evo2.va ok 12 _ _ ?_) | (refine Evo2.vi ok 12 _ ?_)
                          first | (refine Evo2.va ok 13 _ _ ?_) | (refine Evo2.vi ok 13 _ ?_)
                          refine Evo2.va ok 14 _ _ ?_
                          refine Evo2.va ok 15 _ _ ?_
                          first | (refine Evo2.va ok 16 _ _ ?_) | (refine Evo2.vi ok 16 _ ?_)
                          first | (refine Evo2.va ok 17 _ _ ?_) | (refine Evo2.vi ok 17 _ ?_)
                          first | (refine Evo2.va ok 18 _ _ ?_) | (refine Evo2.vi ok 18 _ ?_)
                          first | (refine Evo2.vl ok 19 KC.out (Chg.refl (fun _ => False) _) _ _ ?_) | (refine Evo2.va ok 19 _ _ ?_) | (refine Evo2.vi ok 19 _ ?_)
                          first | (refine Evo2.va ok 20 _ _ ?_) | (refine Evo2.vi ok 20 _ ?_)
                          first | (refine Evo2.va ok 21 _ _ ?_) | (refine Evo2.vi ok 21 _ ?_)
                          first | (refine Evo2.va ok 22 _ _ ?_) | (refine Evo2.vi ok 22 _ ?_)
                          first | (refine Evo2.vl ok 23 KC.out (Chg.refl (fun _ => False) _) _ _ ?_) | (refine Evo2.va ok 23 _ _ ?_) | (refine Evo2.vi ok 23 _ ?_)
                          first | (refine Evo2.va ok 24 _ _ ?_) | (refine Evo2.vi ok 24 _ ?_)
                          first | (refine Evo2.va ok 25 _ _ ?_) | (refine Evo2.vi ok 25 _ ?_)
                          first | (refine Evo2.va ok 26 _ _ ?_) | (refine Evo2.vi ok 26 _ ?_)
                          first | (refine Evo2.va ok 27 _ _ ?_) | (refine Evo2.vi ok 27 _ ?_)
                          first | (refine Evo2.va ok 28 _ _ ?_) | (refine Evo2.vi ok 28 _ ?_)
                          first | (refine Evo2.vl ok 29 KC.out (Chg.refl (fun _ => False) _) _ _ ?_) | (refine Evo2.va ok 29 _ _ ?_) | (refine Evo2.vi ok 29 _ ?_)
                          first | (refine Evo2.va ok 30 _ _ ?_) | (refine Evo2.vi ok 30 _ ?_)
                          first | (refine Evo2.va ok 31 _ _ ?_) | (refine Evo2.vi ok 31 _ ?_)
                          first | (refine Evo2.va ok 32 _ _ ?_) | (refine Evo2.vi ok 32 _ ?_)
                          first | (refine Evo2.va ok 33 _ _ ?_) | (refine Evo2.vi ok 33 _ ?_)
                          first | (refine Evo2.va ok 34 _ _ ?_) | (refine Evo2.vi ok 34 _ ?_)
                          first | (refine Evo2.vl ok 35 KC.out (Chg.refl (fun _ => False) _) _ _ ?_) | (refine Evo2.va ok 35 _ _ ?_) | (refine Evo2.vi ok 35 _ ?_)
                          first | (refine Evo2.va ok 36 _ _ ?_) | (refine Evo2.vi ok 36 _ ?_)
                          first | (refine Evo2.va ok 37 _ _ ?_) | (refine Evo2.vi ok 37 _ ?_)
                          first | (refine Evo2.va ok 38 _ _ ?_) | (refine Evo2.vi ok 38 _ ?_)
                          first | (refine Evo2.vl ok 39 KC.out (Chg.refl (fun _ => False) _) _ _ ?_) | (refine Evo2.va ok 39 _ _ ?_) | (refine Evo2.vi ok 39 _ ?_)
                          first | (refine Evo2.va ok 40 _ _ ?_) | (refine Evo2.vi ok 40 _ ?_)
                          first | (refine Evo2.va ok 41 _ _ ?_) | (refine Evo2.vi ok 41 _ ?_)
                          first | (refine Evo2.va ok 42 _ _ ?_) | (refine Evo2.vi ok 42 _ ?_)
                          refine Evo2.va ok 43 _ _ ?_
                          refine Evo2.done (by decide +kernel) (fun wz gz => ?_)
                          have AZ := Chg.trans (Chg.refl (fun _ => False) _) (Chg.grow gz)
                          have H2 := Lib.hid (H.out.grow F8.out (AZ.toGrow (fun _ _ => id)))
                          clear AZ gz KC
                          go_wp2_with fail
                          go_roundw
                          case rel => exact ⟨j + 1, (jj : Int) + 1, by omega, by go_num, rfl, HB2, ⟨by omega, by omega⟩, H2⟩
                          case measure => simp [_root_.Go.RowKit.intOf]; omega
                        · rcases hc4 with ⟨hxx, e1⟩ | ⟨hxx, e1⟩
                          · have HB2 := Lib.hid e1
                            clear e1
                            have dx : decide (xk ≤ xb) = true := decide_eq_true hxx
                            have KC := Lib.hid (fun (w' : World) (h : Chg (fun _ => False) wr w') => (⟨h.cell cR id, h.cell cRb id, h.cell cL id, h.cell cLb id, trivial⟩ : w'.cell? ⟨gr, j + 1, none⟩ = some (.bool true) ∧ w'.cell? ⟨gr, jj + 1, none⟩ = some (.bool true) ∧ w'.cell? ⟨gl, j + 1, none⟩ = some (.int .i64 xk) ∧ w'.cell? ⟨gl, jj + 1, none⟩ = some (.int .i64 xb) ∧ True))
                            clear cR cL
                            go_wp2_with fail
                            refine Evo2.start' (ℓ := none) (S := Chg (fun _ => False)) (E := Grow.G) (by kernel_rfl) ⟨Chg.pre _, by decide +kernel, (by intro c a d v w h; cases d <;> exact h), by decide +kernel⟩ (fun ok => ?_)
                            refine Evo2.va ok 0 _ _ ?_
                            refine Evo2.va ok 1 _ _ ?_
                            refine Evo2.va ok 2 _ _ ?_
                            first | (refine Evo2.va ok 3 _ _ ?_) | (refine Evo2.vi ok 3 _ ?_)
                            first | (refine Evo2.va ok 4 _ _ ?_) | (refine Evo2.vi ok 4 _ ?_)
                            first | (refine Evo2.va ok 5 _ _ ?_) | (refine Evo2.vi ok 5 _ ?_)
                            first | (refine Evo2.vl ok 6 KC.out (Chg.refl (fun _ => False) _) _ _ ?_) | (refine Evo2.va ok 6 _ _ ?_) | (refine Evo2.vi ok 6 _ ?_)
                            first | (refine Evo2.va ok 7 _ _ ?_) | (refine Evo2.vi ok 7 _ ?_)
                            first | (refine Evo2.va ok 8 _ _ ?_) | (refine Evo2.vi ok 8 _ ?_)
                            first | (refine Evo2.va ok 9 _ _ ?_) | (refine Evo2.vi ok 9 _ ?_)
                            first | (refine Evo2.va ok 10 _ _ ?_) | (refine Evo2.vi ok 10 _ ?_)
                            first | (refine Evo2.va ok 11 _ _ ?_) | (refine Evo2.vi ok 11 _ ?_)
                            first | (refine Evo2.vl ok 12 KC.out (Chg.refl (fun _ => False) _) _ _ ?_) | (refine Evo2.va ok 12 _ _ ?_) | (refine Evo2.vi ok 12 _ ?_)
                            first | (refine Evo2.va ok 13 _ _ ?_) | (refine Evo2.vi ok 13 _ ?_)
                            refine Evo2.va ok 14 _ _ ?_
                            refine Evo2.va ok 15 _ _ ?_
                            first | (refine Evo2.va ok 16 _ _ ?_) | (refine Evo2.vi ok 16 _ ?_)
                            first | (refine Evo2.va ok 17 _ _ ?_) | (refine Evo2.vi ok 17 _ ?_)
                            first | (refine Evo2.va ok 18 _ _ ?_) | (refine Evo2.vi ok 18 _ ?_)
                            first | (refine Evo2.vl ok 19 KC.out (Chg.refl (fun _ => False) _) _ _ ?_) | (refine Evo2.va ok 19 _ _ ?_) | (refine Evo2.vi ok 19 _ ?_)
                            first | (refine Evo2.va ok 20 _ _ ?_) | (refine Evo2.vi ok 20 _ ?_)
                            first | (refine Evo2.va ok 21 _ _ ?_) | (refine Evo2.vi ok 21 _ ?_)
                            first | (refine Evo2.va ok 22 _ _ ?_) | (refine Evo2.vi ok 22 _ ?_)
                            first | (refine Evo2.vl ok 23 KC.out (Chg.refl (fun _ => False) _) _ _ ?_) | (refine Evo2.va ok 23 _ _ ?_) | (refine Evo2.vi ok 23 _ ?_)
                            first | (refine Evo2.va ok 24 _ _ ?_) | (refine Evo2.vi ok 24 _ ?_)
                            first | (refine Evo2.va ok 25 _ _ ?_) | (refine Evo2.vi ok 25 _ ?_)
                            first | (refine Evo2.va ok 26 _ _ ?_) | (refine Evo2.vi ok 26 _ ?_)
                            first | (refine Evo2.va ok 27 _ _ ?_) | (refine Evo2.vi ok 27 _ ?_)
                            first | (refine Evo2.va ok 28 _ _ ?_) | (refine Evo2.vi ok 28 _ ?_)
                            first | (refine Evo2.vl ok 29 KC.out (Chg.refl (fun _ => False) _) _ _ ?_) | (refine Evo2.va ok 29 _ _ ?_) | (refine Evo2.vi ok 29 _ ?_)
                            first | (refine Evo2.va ok 30 _ _ ?_) | (refine Evo2.vi ok 30 _ ?_)
                            first | (refine Evo2.va ok 31 _ _ ?_) | (refine Evo2.vi ok 31 _ ?_)
                            first | (refine Evo2.va ok 32 _ _ ?_) | (refine Evo2.vi ok 32 _ ?_)
                            first | (refine Evo2.va ok 33 _ _ ?_) | (refine Evo2.vi ok 33 _ ?_)
                            first | (refine Evo2.va ok 34 _ _ ?_) | (refine Evo2.vi ok 34 _ ?_)
                            first | (refine Evo2.vl ok 35 KC.out (Chg.refl (fun _ => False) _) _ _ ?_) | (refine Evo2.va ok 35 _ _ ?_) | (refine Evo2.vi ok 35 _ ?_)
                            first | (refine Evo2.va ok 36 _ _ ?_) | (refine Evo2.vi ok 36 _ ?_)
                            first | (refine Evo2.va ok 37 _ _ ?_) | (refine Evo2.vi ok 37 _ ?_)
                            first | (refine Evo2.va ok 38 _ _ ?_) | (refine Evo2.vi ok 38 _ ?_)
                            first | (refine Evo2.vl ok 39 KC.out (Chg.refl (fun _ => False) _) _ _ ?_) | (refine Evo2.va ok 39 _ _ ?_) | (refine Evo2.vi ok 39 _ ?_)
                            first | (refine Evo2.va ok 40 _ _ ?_) | (refine Evo2.vi ok 40 _ ?_)
                            first | (refine Evo2.va ok 41 _ _ ?_) | (refine Evo2.vi ok 41 _ ?_)
                            first | (refine Evo2.va ok 42 _ _ ?_) | (refine Evo2.vi ok 42 _ ?_)
                            refine Evo2.va ok 43 _ _ ?_
                            refine Evo2.done (by decide +kernel) (fun wz gz => ?_)
                            have AZ := Chg.trans (Chg.refl (fun _ => False) _) (Chg.grow gz)
                            have H2 := Lib.hid (H.out.grow F8.out (AZ.toGrow (fun _ _ => id)))
                            clear AZ gz KC
                            go_wp2_with fail
                            go_roundw
                            case rel => exact ⟨j + 1, (j : Int) + 1, by omega, by go_num, rfl, HB2, ⟨by omega, by omega⟩, H2⟩
                            case measure => simp [_root_.Go.RowKit.intOf]; omega
                          · have HB2 := Lib.hid e1
                            clear e1
                            have dx : decide (xk ≤ xb) = false := decide_eq_false hxx
                            have KC := Lib.hid (fun (w' : World) (h : Chg (fun _ => False) wr w') => (⟨h.cell cR id, h.cell cRb id, h.cell cL id, h.cell cLb id, trivial⟩ : w'.cell? ⟨gr, j + 1, none⟩ = some (.bool true) ∧ w'.cell? ⟨gr, jj + 1, none⟩ = some (.bool true) ∧ w'.cell? ⟨gl, j + 1, none⟩ = some (.int .i64 xk) ∧ w'.cell? ⟨gl, jj + 1, none⟩ = some (.int .i64 xb) ∧ True))
                            clear cR cL
                            go_wp2_with fail
                            refine Evo2.start' (ℓ := none) (S := Chg (fun _ => False)) (E := Grow.G) (by kernel_rfl) ⟨Chg.pre _, by decide +kernel, (by intro c a d v w h; cases d <;> exact h), by decide +kernel⟩ (fun ok => ?_)
                            refine Evo2.va ok 0 _ _ ?_
                            refine Evo2.va ok 1 _ _ ?_
                            refine Evo2.va ok 2 _ _ ?_
                            first | (refine Evo2.va ok 3 _ _ ?_) | (refine Evo2.vi ok 3 _ ?_)
                            first | (refine Evo2.va ok 4 _ _ ?_) | (refine Evo2.vi ok 4 _ ?_)
                            first | (refine Evo2.va ok 5 _ _ ?_) | (refine Evo2.vi ok 5 _ ?_)
                            first | (refine Evo2.vl ok 6 KC.out (Chg.refl (fun _ => False) _) _ _ ?_) | (refine Evo2.va ok 6 _ _ ?_) | (refine Evo2.vi ok 6 _ ?_)
                            first | (refine Evo2.va ok 7 _ _ ?_) | (refine Evo2.vi ok 7 _ ?_)
                            first | (refine Evo2.va ok 8 _ _ ?_) | (refine Evo2.vi ok 8 _ ?_)
                            first | (refine Evo2.va ok 9 _ _ ?_) | (refine Evo2.vi ok 9 _ ?_)
                            first | (refine Evo2.va ok 10 _ _ ?_) | (refine Evo2.vi ok 10 _ ?_)
                            first | (refine Evo2.va ok 11 _ _ ?_) | (refine Evo2.vi ok 11 _ ?_)
                            first | (refine Evo2.vl ok 12 KC.out (Chg.refl (fun _ => False) _) _ _ ?_) | (refine Evo2.va ok 12 _ _ ?_) | (refine Evo2.vi ok 12 _ ?_)
                            first | (refine Evo2.va ok 13 _ _ ?_) | (refine Evo2.vi ok 13 _ ?_)
                            refine Evo2.va ok 14 _ _ ?_
                            refine Evo2.va ok 15 _ _ ?_
                            first | (refine Evo2.va ok 16 _ _ ?_) | (refine Evo2.vi ok 16 _ ?_)
                            first | (refine Evo2.va ok 17 _ _ ?_) | (refine Evo2.vi ok 17 _ ?_)
                            first | (refine Evo2.va ok 18 _ _ ?_) | (refine Evo2.vi ok 18 _ ?_)
                            first | (refine Evo2.vl ok 19 KC.out (Chg.refl (fun _ => False) _) _ _ ?_) | (refine Evo2.va ok 19 _ _ ?_) | (refine Evo2.vi ok 19 _ ?_)
                            first | (refine Evo2.va ok 20 _ _ ?_) | (refine Evo2.vi ok 20 _ ?_)
                            first | (refine Evo2.va ok 21 _ _ ?_) | (refine Evo2.vi ok 21 _ ?_)
                            first | (refine Evo2.va ok 22 _ _ ?_) | (refine Evo2.vi ok 22 _ ?_)
                            first | (refine Evo2.vl ok 23 KC.out (Chg.refl (fun _ => False) _) _ _ ?_) | (refine Evo2.va ok 23 _ _ ?_) | (refine Evo2.vi ok 23 _ ?_)
                            first | (refine Evo2.va ok 24 _ _ ?_) | (refine Evo2.vi ok 24 _ ?_)
                            first | (refine Evo2.va ok 25 _ _ ?_) | (refine Evo2.vi ok 25 _ ?_)
                            first | (refine Evo2.va ok 26 _ _ ?_) | (refine Evo2.vi ok 26 _ ?_)
                            first | (refine Evo2.va ok 27 _ _ ?_) | (refine Evo2.vi ok 27 _ ?_)
                            first | (refine Evo2.va ok 28 _ _ ?_) | (refine Evo2.vi ok 28 _ ?_)
                            first | (refine Evo2.vl ok 29 KC.out (Chg.refl (fun _ => False) _) _ _ ?_) | (refine Evo2.va ok 29 _ _ ?_) | (refine Evo2.vi ok 29 _ ?_)
                            first | (refine Evo2.va ok 30 _ _ ?_) | (refine Evo2.vi ok 30 _ ?_)
                            first | (refine Evo2.va ok 31 _ _ ?_) | (refine Evo2.vi ok 31 _ ?_)
                            first | (refine Evo2.va ok 32 _ _ ?_) | (refine Evo2.vi ok 32 _ ?_)
                            first | (refine Evo2.va ok 33 _ _ ?_) | (refine Evo2.vi ok 33 _ ?_)
                            first | (refine Evo2.va ok 34 _ _ ?_) | (refine Evo2.vi ok 34 _ ?_)
                            first | (refine Evo2.vl ok 35 KC.out (Chg.refl (fun _ => False) _) _ _ ?_) | (refine Evo2.va ok 35 _ _ ?_) | (refine Evo2.vi ok 35 _ ?_)
                            first | (refine Evo2.va ok 36 _ _ ?_) | (refine Evo2.vi ok 36 _ ?_)
                            first | (refine Evo2.va ok 37 _ _ ?_) | (refine Evo2.vi ok 37 _ ?_)
                            first | (refine Evo2.va ok 38 _ _ ?_) | (refine Evo2.vi ok 38 _ ?_)
                            first | (refine Evo2.vl ok 39 KC.out (Chg.refl (fun _ => False) _) _ _ ?_) | (refine Evo2.va ok 39 _ _ ?_) | (refine Evo2.vi ok 39 _ ?_)
                            first | (refine Evo2.va ok 40 _ _ ?_) | (refine Evo2.vi ok 40 _ ?_)
                            first | (refine Evo2.va ok 41 _ _ ?_) | (refine Evo2.vi ok 41 _ ?_)
                            first | (refine Evo2.va ok 42 _ _ ?_) | (refine Evo2.vi ok 42 _ ?_)
                            refine Evo2.va ok 43 _ _ ?_
                            refine Evo2.done (by decide +kernel) (fun wz gz => ?_)
                            have AZ := Chg.trans (Chg.refl (fun _ => False) _) (Chg.grow gz)
                            have H2 := Lib.hid (H.out.grow F8.out (AZ.toGrow (fun _ _ => id)))
                            clear AZ gz KC
                            go_wp2_with fail
                            go_roundw
                            case rel => exact ⟨j + 1, (jj : Int) + 1, by omega, by go_num, rfl, HB2, ⟨by omega, by omega⟩, H2⟩
                            case measure => simp [_root_.Go.RowKit.intOf]; omega
                    · have hjn : ¬ ((j : Int) + 1 ≤ (N : Int)) := by omega
                      have b1 : decide ((j : Int) + 1 ≤ (N : Int)) = false := decide_eq_false hjn
                      have hBe : B = hid9 := by
                        have h1 := HB.out
                        rw [show j = N by omega, PI.out.best_all, HLS.out] at h1
                        rw [← h1]; exact HID.out
                      subst hBe
                      obtain ⟨b7, o7, rfl, hc7⟩ := (off_intR2 (hold_reads8 H.out)).resolve_left (fun e => by have := HG9.out; rw [e] at this; cases this)
                      have c7 := hc7 i9 _ HG9.out
                      have l7 := lt_of_cellO c7
                      obtain ⟨jj, hjj⟩ : ∃ jj : Nat, B = (jj : Int) + 1 ∧ jj < N := by
                        have hm := (lastP_mem HLS.out).1
                        have hm := (List.mem_filter.1 hm).1
                        obtain ⟨i, hi⟩ := mem_at hm
                        have hin : i < N := by rw [← PI.out.len]; exact (List.getElem?_eq_some_iff.1 hi).1
                        obtain ⟨h', q1, q2⟩ := PI.out.at_ hin
                        rw [hi] at q1; cases q1
                        exact ⟨i, by rw [← HID.out]; exact q2, hin⟩
                      obtain ⟨rfl, hjjN⟩ := hjj
                      have HO2 : Hid ((ou.set jj true).length = N ∧ GL.drop (i9 + 1) = goneM rvA1 (K - (i9 + 1)) (f3.l.filter (notOut (ou.set jj true)))) := Lib.hid ⟨by rw [List.length_set]; exact holen, by rw [HD2.out, hk9', PI.out.out_set ou holen hjjN]⟩
                      have k0 : (0 : Int) ≤ (i9 : Int) := by omega
                      have jj0 : (0 : Int) ≤ (jj : Int) + 1 := by omega
                      have jjN : (jj : Int) + 1 < (N : Int) + 1 := by omega
                      have jjT : ((jj : Int) + 1).toNat = jj + 1 := by omega
                      clear hc7 HB HLS HID HG9 HD2 HO
                      go_wp2_with (refine Hold.store 2 (t := 4) F8.out rfl rfl rfl rfl (vs := [.bool true]) rfl (n := 1) (by kernel_rfl) H.out rfl rfl (by simp [holen]; omega) rfl ?_; intro W8 HMm CW8)
                      have H8 := Lib.hid HMm
                      clear HMm CW8
                      refine Stay.go ?_
                      go_wp2_with fail
                      go_roundw
                      case rel => exact ⟨i9 + 1, ou.set jj true, by omega, by go_num, HO2, Lib.hid (by have := H8.out; rw [← List.set_cons_succ, ← bool_set (false :: ou) (jj + 1) true (by simp; omega)]; exact this)⟩
                      case measure => simp [_root_.Go.RowKit.intOf]; omega
                · have hin : ¬ ((i9 : Int) < (K : Int)) := by omega
                  have b0 : decide (i9 < K) = false := decide_eq_false hlt
                  go_wp2_with fail
                  go_ret
                  exact ⟨rfl, H.out.below⟩
end Go.Proofs.Ytfnpghekkhnjkaa
