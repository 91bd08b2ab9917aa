
/- The walk of PodRoom. -/
import Derived.Test.YtkjcofgdilfdkaaZ58
namespace Go.Proofs.Ytkjcofgdilfdkaa
set_option maxRecDepth 100000
set_option linter.unusedVariables false
set_option linter.unusedSimpArgs false
set_option linter.unnecessarySimpa false
open Go.RowKit Go.MapV Go.Maps

/-- How far the numbers up to x go. -/
theorem room_at {l : List Int} (h : l.Pairwise (· < ·)) {x : Int} {k : Nat} (hk : k ≤ l.length) (h1 : ∀ y, y ∈ l.take k → y ≤ x) (h2 : ∀ y, l[k]? = some y → x < y) : (x ∈ l.take k ↔ x ∈ l) ∧ (x ∉ l → insZ l x = l.take k ++ x :: l.drop k) := by
  have hd : ∀ y, y ∈ l.drop k → x < y := by
    intro y hy
    by_cases hlt : k < l.length
    · have e := List.drop_eq_getElem_cons hlt
      have hp := h.sublist (List.drop_sublist k l)
      rw [e, List.pairwise_cons] at hp
      have h3 := h2 _ (List.getElem?_eq_getElem hlt)
      rw [e] at hy
      rcases List.mem_cons.1 hy with rfl | hy
      · exact h3
      · have := hp.1 y hy; omega
    · rw [List.drop_eq_nil_of_le (by omega)] at hy; cases hy
  refine ⟨⟨fun q => List.mem_of_mem_take q, fun q => ?_⟩, fun q => ?_⟩
  · rw [← List.take_append_drop k l] at q
    rcases List.mem_append.1 q with q | q
    · exact q
    · have := hd x q; omega
  · refine insZ_at (fun y hy => ?_) (fun y hy => ?_)
    · have h3 := h1 y hy
      have h4 : y ≠ x := fun e => q (e ▸ List.mem_of_mem_take hy)
      omega
    · have h3 := hd y (List.mem_of_mem_head? hy); omega
/-- A row kept beside a pod is another one. -/
theorem room_new {w0 w w' : World} {L : List MBox} {A : Hp} {u : Value} {l l' : List Int} {zs : List Value} {sa : Option Addr} {ca n : Nat} (h : Hold w0 w L (Sep A (Sep (IntF u l) Emp))) (hA : Foot A) (g : Grow.G w w') (ho : w'.ownsRow w.heap.size 3 1 (.slice sa zs.length ca) zs.length zs) (hz : zs = intsV l') (hn : zs.length = n) : n = l'.length ∧ Hold w0 w' L (Sep A (Sep (IntF (.slice sa l'.length ca) l') Emp)) := by
  have hl : zs.length = l'.length := by rw [hz]; simp
  rw [hl, hz] at ho
  have h2 := h.beside2 hA ((RowF.foot _ _ _ _ _ _).sep Emp.foot) (C := IntF (.slice sa l'.length ca) l') (F₁ := fun k => (Value.slice sa l'.length ca).ownBlock = some k) g ⟨own_base ho (Nat.zero_le _), fun k => Iff.rfl⟩ (fun k hk => (ho.lt k hk).1)
  exact ⟨by omega, h2.weak fun F q => q.weakR fun F q => q.weakR fun F q => q.dropL⟩
set_option maxHeartbeats 16000000 in
theorem walkPodRoom (w : World) (c : Int) (hc : wf64 c) (v : Value) (zs : List Int) (hz : IntSlice w v zs) :
    Calls Try.prog 4 #[.int .i64 c, v] w fun e w' => e = .returned (.bool true) ∧ Below w.heap.size w w' := by
  have KN := Lib.hid (fun w => known7_any w)
  have FE := Lib.hid Emp.foot
  have FP := Lib.hid PdP.foot
  have FI := Lib.hid (fun u l => ((RowF.foot 0 3 1 u (List.length l) (intsV l)).sep Emp.foot))
  obtain ⟨va, vc, rfl, hat⟩ := hz.open
  have HZ := Lib.hid hat
  clear hat hz
  have r1 := withinI_range c 8 (by omega)
  have WI := Lib.hid (fun w => within7_any c 8 w (by omega) (by omega) hc.1 hc.2)
  obtain ⟨K, hK⟩ : ∃ K : Nat, 1 + withinI c 8 = K := ⟨(1 + withinI c 8).toNat, by omega⟩
  have hK1 : 1 ≤ K := by omega
  have hK8 : K ≤ 8 := by omega
  have hw1 : IntKind.i64.wrap (1 + withinI c 8) = (K : Int) := by rw [hK]; exact IntWalk.i64_in _ ⟨by omega, by omega⟩
  obtain ⟨i0, hi, ha0, ha1, ha2⟩ := info_parts infoInt7
  have HI := Lib.hid (And.intro hi (And.intro ha0 (And.intro ha1 ha2)))
  clear hc r1 hi ha0 ha1 ha2
  generalize withinI c 8 = y at *
  go_enter Try.func4, Try.ntmps4
  go_wp2_with fail
  refine (KN.out _).mono ?_
  rintro e w1 ⟨rfl, hg⟩
  have H := Lib.hid ((Hold.nil w).grow Emp.foot hg)
  clear hg
  go_wp2_with fail
  refine (WI.out _).mono ?_
  rintro e w2 ⟨rfl, rfl⟩
  go_wp2_with fail
  refine (hold_pnew H.out Emp.foot K (by omega)).mono ?_
  rintro e w3 ⟨g, rfl, hh⟩
  replace H := Lib.hid hh
  clear hh hw1 hK WI
  go_wp2_with fail
  refine (hold_pup (er := 0) (s' := ⟨K, 2, []⟩) H.out Emp.foot).mono ?_
  rintro e ws1 ⟨rfl, hst⟩
  replace H := Lib.hid hst
  clear hst
  go_wp2_with fail
  replace H := Lib.hid (H.out.beside2 (C := IntF (.slice none 0 0) []) (F₁ := fun _ => False) (PdP.foot _ _) Emp.foot (Grow.G.refl _) (IntF.nil _) (fun _ q => q.elim))
  go_loopw [7, 8] (fun r i wr => ∃ (j : Nat) (l : List Int) (sa : Option Addr) (sc : Nat), j ≤ 40 ∧ i = .int .i64 (j : Int) ∧ r = .slice sa l.length sc ∧ Hid (Hold w wr [] (Sep (PdP g ⟨K, 2, l⟩) (Sep (IntF (.slice sa l.length sc) l) Emp)))) (fun _ i _ => 40 - (intOf i).toNat)
  case atStart => exact ⟨0, [], none, 0, by omega, rfl, rfl, H⟩
  case round =>
    clear H
    obtain ⟨j, l, sa, sc, hj, rfl, rfl, H⟩ := hrel
    have hok : (⟨K, 2, l⟩ : Pd).ok := H.out.see fun F hF => by
      obtain ⟨F1, F2, hP, _⟩ := hF
      exact hP.ok
    have hll : l.length ≤ K := by have := hok.len; exact Int.ofNat_le.1 this
    have LT := Lib.hid hok.lt
    clear hok
    by_cases h12 : j < zs.length ∧ j < 40
    rotate_left
    · have hjj : (¬ j < zs.length) ∨ (j < zs.length ∧ ¬ j < 40) := by omega
      rcases hjj with h1 | ⟨h1, h2⟩
      case' inl => have d1 : decide ((j : Int) < (zs.length : Int)) = false := decide_eq_false (by omega)
      case' inr =>
        have d1 : decide ((j : Int) < (zs.length : Int)) = true := decide_eq_true (by omega)
        have d2 : decide ((j : Int) < 40) = false := decide_eq_false (by omega)
      all_goals
        clear h12
        go_wp2_with fail
        refine (hold_pkill (er := 0) (s' := ⟨K, 4, []⟩) H.out (FI.out _ _)).mono ?_
        rintro e w6 ⟨u, rfl, hst⟩
        replace H := Lib.hid hst
        clear hst
        go_wp2_with fail
        refine (told_room H.out (show l.length ≤ 100000 by omega) (FP.out _ _) FE.out).mono ?_
        rintro e ws2 ⟨rfl, hst⟩
        replace H := Lib.hid hst
        clear hst
        go_wp2_with fail
        refine (hold_pload (er := 0) H.out).mono ?_
        rintro e ws3 ⟨rfl, hst⟩
        replace H := Lib.hid hst
        clear hst
        go_wp2_with fail
        refine (hold_pstate (er := 4) H.out).mono ?_
        rintro e ws4 ⟨rfl, hst⟩
        replace H := Lib.hid hst
        clear hst
        go_wp2_with fail
        go_ret
        exact ⟨rfl, H.out.below⟩
    obtain ⟨h1, h2⟩ := h12
    have d1 : decide ((j : Int) < (zs.length : Int)) = true := decide_eq_true (by omega)
    have d2 : decide ((j : Int) < 40) = true := decide_eq_true (by omega)
    obtain ⟨b, off, rfl, hcz, hw⟩ := HZ.out.at H.out.below h1
    generalize zs.getD j 0 = z at *
    have r3 := withinI_range z 30 (by omega)
    have WA := Lib.hid (fun w => within7_any z 30 w (by omega) (by omega) hw.1 hw.2)
    obtain ⟨x, hx⟩ : ∃ x : Int, 1 + withinI z 30 = x := ⟨_, rfl⟩
    have hwx : IntKind.i64.wrap (1 + withinI z 30) = x := by rw [hx]; exact IntWalk.i64_in _ ⟨by omega, by omega⟩
    have hxw : wf64 x := ⟨by omega, by omega⟩
    have hj1 : IntKind.i64.wrap ((j : Int) + 1) = (j : Int) + 1 := IntWalk.i64_in _ ⟨by omega, by omega⟩
    have HO : Hid (wr.ownsRow 0 3 1 (.slice sa l.length sc) l.length (intsV l)) := Lib.hid (H.out.see fun F hF => by
      obtain ⟨F1, F2, _, ⟨F3, F4, hi, _⟩, _⟩ := hF
      exact hi.1)
    have HR := Lib.hid (own_ints HO.out)
    clear hw r3 hx
    generalize withinI z 30 = ya at *
    go_wp2_with fail
    refine (WA.out _).mono ?_
    rintro e wx ⟨rfl, rfl⟩
    clear WA
    have hj40 : j + 1 ≤ 40 := by omega
    clear hcz d1 d2 h1 h2
    go_wp2_with fail
    refine wp_specE ?id (fun a0 A W => ∃ x45 x46 x47 x48 x49 x50 x51 x52 x53 x54 x55 x56 x57 x58 x59 x60 x61 x62 x63 x64 x65 x66 x67 : Value, ∃ (k : Nat), A = (((((((((((((((((((((((((a0.put (some 10) (.int .i64 k)).put (some 11) (.bool (decide (x ∈ l)))).put (some 45) x45).put (some 46) x46).put (some 47) x47).put (some 48) x48).put (some 49) x49).put (some 50) x50).put (some 51) x51).put (some 52) x52).put (some 53) x53).put (some 54) x54).put (some 55) x55).put (some 56) x56).put (some 57) x57).put (some 58) x58).put (some 59) x59).put (some 60) x60).put (some 61) x61).put (some 62) x62).put (some 63) x63).put (some 64) x64).put (some 65) x65).put (some 66) x66).put (some 67) x67) ∧ k ≤ l.length ∧ W = wr ∧ Hid (x ∉ l → insZ l x = l.take k ++ x :: l.drop k)) ?_ ?_
    all_goals simp only [Act.put, L0, L1, L2]
    · go_loopw [10, 11] (fun i d W => ∃ k : Nat, k ≤ l.length ∧ i = .int .i64 k ∧ d = .bool (decide (x ∈ l.take k)) ∧ W = wr ∧ Hid (∀ y, y ∈ l.take k → y ≤ x)) (fun i _ _ => l.length - (intOf i).toNat)
      case atStart => exact ⟨0, by omega, rfl, by simp, rfl, Lib.hid (fun y hy => by simp at hy)⟩
      case round =>
        obtain ⟨k, hk, rfl, rfl, rfl, HX⟩ := hrel
        by_cases hlt : k < l.length
        · obtain ⟨y, hy⟩ : ∃ y, l[k]? = some y := ⟨_, List.getElem?_eq_getElem hlt⟩
          obtain ⟨g3, rfl, hcc, hg2, hcl⟩ := HR.out.resolve_left (fun e => by rw [e.2.2] at hlt; simp at hlt)
          have cy := hcl k y hy
          have d0 : decide ((k : Int) < (l.length : Int)) = true := decide_eq_true (by omega)
          have hk1 : IntKind.i64.wrap ((k : Int) + 1) = (k : Int) + 1 := IntWalk.i64_in _ ⟨by omega, by omega⟩
          have k1 : (0 : Int) ≤ (k : Int) := by omega
          have k2 : (k : Int) < (l.length : Int) := by omega
          by_cases e : y ≤ x
          · have d3 : decide (y ≤ x) = true := decide_eq_true e
            have HX2 : Hid (∀ z, z ∈ l.take (k + 1) → z ≤ x) := Lib.hid (by
              rw [List.take_add_one, hy]
              intro z q
              rcases List.mem_append.1 q with q | q
              · exact HX.out z q
              · have q : z = y := by simpa using q
                rw [q]; exact e)
            have HM : Hid (decide (x ∈ l.take (k + 1)) = (decide (x ∈ l.take k) || (y == x))) := Lib.hid (by
              rw [List.take_add_one, hy]
              by_cases q : x ∈ l.take k
              · rw [decide_eq_true q, decide_eq_true (List.mem_append_left _ q)]; rfl
              · rw [decide_eq_false q, Bool.false_or]
                by_cases q2 : y = x
                · subst q2
                  rw [decide_eq_true (by simp)]; simp
                · rw [decide_eq_false (by
                    intro q3
                    rcases List.mem_append.1 q3 with q3 | q3
                    · exact q q3
                    · have q3 : x = y := by simpa using q3
                      exact q2 q3.symm)]
                  simpa using q2)
            generalize decide (x ∈ l.take k) = D1 at *
            clear hcl hy e HX
            cases D1 with
            | true =>
              go_wp2_with fail
              go_roundw
              case rel => exact ⟨k + 1, by omega, by go_num, by rw [HM.out]; rfl, trivial, HX2⟩
              case measure => simp [intOf]; omega
            | false =>
              go_wp2_with fail
              go_roundw
              case rel => exact ⟨k + 1, by omega, by go_num, by rw [HM.out]; rfl, trivial, HX2⟩
              case measure => simp [intOf]; omega
          · have d3 : decide (y ≤ x) = false := decide_eq_false e
            obtain ⟨e1, e2⟩ := room_at LT.out hk HX.out (fun z hz => by rw [hy] at hz; cases hz; omega)
            have RES := Lib.hid e2
            have HM : Hid (decide (x ∈ l.take k) = decide (x ∈ l)) := Lib.hid (decide_eq_decide.2 e1)
            clear hcl hy e HX e1 e2
            go_wp2_with fail
            dsimp only [PostE]
            refine ⟨rfl, ?_⟩
            rw [HM.out]
            (repeat apply Exists.intro)
            exact ⟨rfl, by omega, rfl, RES⟩
        · obtain rfl : k = l.length := by omega
          have d0 : decide ((l.length : Int) < (l.length : Int)) = false := decide_eq_false (by omega)
          obtain ⟨e1, e2⟩ := room_at LT.out hk HX.out (fun z hz => by simp at hz)
          have RES := Lib.hid e2
          have HM : Hid (decide (x ∈ l.take l.length) = decide (x ∈ l)) := Lib.hid (decide_eq_decide.2 e1)
          clear HX e1 e2
          go_wp2_with fail
          dsimp only [PostE]
          refine ⟨rfl, ?_⟩
          rw [HM.out]
          (repeat apply Exists.intro)
          exact ⟨rfl, by omega, rfl, RES⟩
    ·
      rintro A W3 ⟨x45, x46, x47, x48, x49, x50, x51, x52, x53, x54, x55, x56, x57, x58, x59, x60, x61, x62, x63, x64, x65, x66, x67, k, rfl, hk, rfl, RES⟩
      by_cases hm : x ∈ l
      · have t1 : (⟨K, 2, l⟩ : Pd).take x = 5 := by unfold Pd.take; rw [if_pos rfl, if_pos hm]
        have t2 : (⟨K, 2, l⟩ : Pd).aftTake x = ⟨K, 2, l⟩ := by unfold Pd.aftTake; rw [t1, if_neg (by decide)]
        have T1 := Lib.hid t1
        have T2 := Lib.hid t2
        rw [decide_eq_true hm]
        clear hm RES t1 t2
        go_wp2_with fail
        refine (hold_ptake H.out (FI.out _ _) x hxw T1.out T2.out).mono ?_
        rintro e ws5 ⟨rfl, hst⟩
        replace H := Lib.hid hst
        clear hst
        go_wp2_with fail
        refine (hold_pload (er := (l.length : Int)) H.out).mono ?_
        rintro e ws6 ⟨rfl, hst⟩
        replace H := Lib.hid hst
        clear hst
        go_wp2_with fail
        go_roundw
        case rel => exact ⟨j + 1, l, sa, sc, by omega, by go_num, rfl, H⟩
        case measure => simp [intOf]; omega
      rw [decide_eq_false hm]
      by_cases hf : K ≤ l.length
      · have d4 : decide ((K : Int) ≤ (l.length : Int)) = true := decide_eq_true (by omega)
        have t1 : (⟨K, 2, l⟩ : Pd).take x = 8 := by unfold Pd.take; rw [if_pos rfl, if_neg hm, if_pos (by show (K : Int) ≤ l.length; omega)]
        have t2 : (⟨K, 2, l⟩ : Pd).aftTake x = ⟨K, 2, l⟩ := by unfold Pd.aftTake; rw [t1, if_neg (by decide)]
        have T1 := Lib.hid t1
        have T2 := Lib.hid t2
        clear hm RES t1 t2
        go_wp2_with fail
        refine (hold_ptake H.out (FI.out _ _) x hxw T1.out T2.out).mono ?_
        rintro e ws7 ⟨rfl, hst⟩
        replace H := Lib.hid hst
        clear hst
        go_wp2_with fail
        refine (hold_pload (er := (l.length : Int)) H.out).mono ?_
        rintro e ws8 ⟨rfl, hst⟩
        replace H := Lib.hid hst
        clear hst
        go_wp2_with fail
        go_roundw
        case rel => exact ⟨j + 1, l, sa, sc, by omega, by go_num, rfl, H⟩
        case measure => simp [intOf]; omega
      have d4 : decide ((K : Int) ≤ (l.length : Int)) = false := decide_eq_false (by omega)
      have t1 : (⟨K, 2, l⟩ : Pd).take x = 0 := by unfold Pd.take; rw [if_pos rfl, if_neg hm, if_neg (by show ¬ (K : Int) ≤ l.length; omega)]
      have t2 : (⟨K, 2, l⟩ : Pd).aftTake x = ⟨K, 2, insZ l x⟩ := by unfold Pd.aftTake; rw [if_pos t1]
      have T1 := Lib.hid t1
      have T2 := Lib.hid t2
      have LA : Hid (((l.take k).map (Value.int .i64)).length = k) := Lib.hid (by rw [List.length_map, List.length_take]; omega)
      have LB : Hid (((l.drop k).map (Value.int .i64)).length = l.length - k) := Lib.hid (by rw [List.length_map, List.length_drop])
      have hs1 : (k : Int) ≤ (l.length : Int) := by omega
      have EZ : Hid (((l.take k).map (Value.int .i64) ++ [Value.int .i64 x]) ++ (l.drop k).map (Value.int .i64) = intsV (insZ l x)) := Lib.hid (by rw [RES.out hm]; simp [intsV])
      have IL : Hid ((insZ l x).length = l.length + 1) := Lib.hid (insZ_len x l)
      clear t1 t2 hm RES
      rcases HR.out with ⟨rfl, rfl, hnil⟩ | ⟨g3, rfl, hcc, hg3, hcl⟩
      · have hln : l.length = 0 := by rw [hnil]; rfl
        obtain rfl : k = 0 := by omega
        have SA : Hid (Fr.Src W3 none ((l.take 0).map (Value.int .i64))) := Lib.hid (.inl ⟨rfl, by rw [hnil]; rfl⟩)
        have SB : Hid (Fr.Src W3 none ((l.drop 0).map (Value.int .i64))) := Lib.hid (.inl ⟨rfl, by rw [hnil]; rfl⟩)
        clear HR
        subst hnil
        go_wp2_with fail
        have TW := Lib.hid (TwoV.none (T := 3) W3)
        refine wp_spec (fun a0 A W => ∃ x68 x69 x70 x71 x72 x73 x74 x75 x76 x77 x78 x79 : Value, ∃ (na : Option Addr) (nc : Nat), A = (((((((((((((a0.put (some 7) (.slice na (insZ [] x).length nc)).put (some 68) x68).put (some 69) x69).put (some 70) x70).put (some 71) x71).put (some 72) x72).put (some 73) x73).put (some 74) x74).put (some 75) x75).put (some 76) x76).put (some 77) x77).put (some 78) x78).put (some 79) x79) ∧ Hid (Hold w W [] (Sep (PdP g ⟨K, 2, []⟩) (Sep (IntF (.slice na (insZ [] x).length nc) (insZ [] x)) Emp)))) ?_ ?_
        all_goals simp only [Act.put, L0, L1, L2]
        ·
          refine Evo2.start' (ℓ := none) (S := Chg (fun j => W3.heap.size ≤ j)) (E := Grow.G) (by kernel_rfl) ⟨Chg.pre _, by decide +kernel, (by intro c a d v w h; cases d <;> exact h), by decide +kernel⟩ (fun ok => ?_)
          refine Evo2.va ok 1 _ _ ?_
          refine Evo2.va ok 2 _ _ ?_
          refine Evo2.va ok 3 _ _ ?_
          refine Evo2.va ok 5 _ _ ?_
          refine Evo2.va ok 8 _ _ ?_
          refine Evo2.va ok 9 _ _ ?_
          refine Evo2.va ok 10 _ _ ?_
          refine Evo2.all [0, 6] (by decide +kernel) rfl ?_
          intro wp1 gp1 iq hq
          simp only [List.mem_cons, List.mem_nil_iff, or_false] at hq
          have AP1 := Chg.trans (Chg.refl (fun j => W3.heap.size ≤ j) _) (Chg.grow gp1)
          have TW := Lib.hid (TW.out.grow gp1)
          rcases hq with rfl | rfl
          ·
            refine Evo2.runs (by rfl) (by rfl) (fun K' hK' => ?_)
            go_simp
            (try (simp only [Evo.after_value, Evo.after_skip]))
            refine hK'.out _ _ ?_
            clear hK'
            simp only [Act.put, L0, L1, L2]
            refine ⟨.inr (Chg.alloc (Chg.refl _ _) _), ?_⟩
            generalize hG1 : World.alloc wp1 _ = wg1
            have GG1 : Grow.G wp1 wg1 := hG1 ▸ Grow.G.alloc (Grow.G.refl _) _
            have NC1 := (congrArg (fun W : World => W.heap[wp1.heap.size]?) hG1).symm.trans (MapKept.heap_alloc wp1 _).1
            have NL1 : wp1.heap.size < wg1.heap.size := by rw [← hG1]; simp
            clear hG1
            have TW := Lib.hid (TW.out.newL (xs := []) (n := 0) GG1 NC1 rfl (by decide))
            refine Evo2.all [4, 6] (by decide +kernel) rfl ?_
            intro wp2 gp2 iq hq
            simp only [List.mem_cons, List.mem_nil_iff, or_false] at hq
            have AP2 := Chg.trans (Chg.trans AP1 (Chg.grow GG1)) (Chg.grow gp2)
            have TW := Lib.hid (TW.out.grow gp2)
            have NC1 := (gp2.block _ NL1).trans NC1
            have NL1 := Nat.lt_of_lt_of_le NL1 gp2.size
            rcases hq with rfl | rfl
            ·
              refine Fr.own_src (by rfl) (by rfl) (Operand.tmp 68) (Operand.tmp 71) 22 (by rfl) W3.heap.size 3 i0 (.int .i64 0) 1 8 Try.underlying22 HI.out.1 HI.out.2.1 HI.out.2.2.1 HI.out.2.2.2 rfl (by decide) _ _ _ (by rfl) TW.out.l _ _ _ ((([] : List Int).take 0).map (Value.int .i64)) (by rfl) (by rw [Nat.mul_one]; exact LA.out) (SA.out.grow (AP2.toGrow (fun j hj q => by have q : W3.heap.size ≤ j := q; omega))) ?_ ?_ ?_ TW.out.b ?_ 
              · intro u hu; first | (obtain ⟨z, _, rfl⟩ := List.mem_map.1 hu; rfl) | (rw [List.mem_singleton] at hu; subst hu; rfl) 
              · (unfold maxLen; first | (simp; done) | (simp; omega)) 
              · (first | (simp; done) | (simp; omega))
              intro vw2 wc2 OW2 fr2
              have OX2 := own_app2 (zs := (([] : List Int).take 0).map (Value.int .i64)) rfl (LA.out) OW2; obtain ⟨sa2, ca2, rfl⟩ := own_shape OX2; have CH2 := TW.out.chgL fr2; have TW := Lib.hid (TW.out.left fr2 OX2)
              refine ⟨.inr CH2, ?_⟩
              have AC2 := Chg.trans AP2 CH2
              simp only [Act.put, L0, L1, L2]
              refine Evo2.all [6] (by decide +kernel) rfl ?_
              intro wp3 gp3 iq hq
              simp only [List.mem_cons, List.mem_nil_iff, or_false] at hq
              have AP3 := Chg.trans AC2 (Chg.grow gp3)
              have TW := Lib.hid (TW.out.grow gp3)
              subst hq
              refine Evo2.runs (by rfl) (by rfl) (fun K' hK' => ?_)
              go_simp
              (try (simp only [Evo.after_value, Evo.after_skip]))
              refine hK'.out _ _ ?_
              clear hK'
              simp only [Act.put, L0, L1, L2]
              refine ⟨.inr (Chg.alloc (Chg.refl _ _) _), ?_⟩
              generalize hG3 : World.alloc wp3 _ = wg3
              have GG3 : Grow.G wp3 wg3 := hG3 ▸ Grow.G.alloc (Grow.G.refl _) _
              have NC3 := (congrArg (fun W : World => W.heap[wp3.heap.size]?) hG3).symm.trans (MapKept.heap_alloc wp3 _).1
              have NL3 : wp3.heap.size < wg3.heap.size := by rw [← hG3]; simp
              clear hG3
              have TW := Lib.hid (TW.out.newR (ys := [.int .i64 x]) (n := 1) GG3 NC3 rfl (by decide))
              refine Evo2.all [7] (by decide +kernel) rfl ?_
              intro wp4 gp4 iq hq
              simp only [List.mem_cons, List.mem_nil_iff, or_false] at hq
              have AP4 := Chg.trans (Chg.trans AP3 (Chg.grow GG3)) (Chg.grow gp4)
              have TW := Lib.hid (TW.out.grow gp4)
              have NC3 := (gp4.block _ NL3).trans NC3
              have NL3 := Nat.lt_of_lt_of_le NL3 gp4.size
              subst hq
              refine Fr.own_src (by rfl) (by rfl) (Operand.tmp 72) (Operand.tmp 74) 22 (by rfl) W3.heap.size 3 i0 (.int .i64 0) 1 8 Try.underlying22 HI.out.1 HI.out.2.1 HI.out.2.2.1 HI.out.2.2.2 rfl (by decide) _ _ _ (by rfl) TW.out.l _ _ _ ([Value.int .i64 x]) (by rfl) (rfl) (own_src0 TW.out.r) ?_ ?_ ?_ TW.out.b ?_ 
              · intro u hu; first | (obtain ⟨z, _, rfl⟩ := List.mem_map.1 hu; rfl) | (rw [List.mem_singleton] at hu; subst hu; rfl) 
              · (unfold maxLen; first | (simp; done) | (simp; omega)) 
              · (first | (simp; done) | (simp; omega))
              intro vw4 wc4 OW4 fr4
              have OX4 := own_app2 (zs := (([] : List Int).take 0).map (Value.int .i64) ++ [Value.int .i64 x]) rfl (rfl) OW4; obtain ⟨sa4, ca4, rfl⟩ := own_shape OX4; have CH4 := TW.out.chgL fr4; have TW := Lib.hid (TW.out.left fr4 OX4)
              refine ⟨.inr CH4, ?_⟩
              have AC4 := Chg.trans AP4 CH4
              simp only [Act.put, L0, L1, L2]
              refine Evo2.all [11] (by decide +kernel) rfl ?_
              intro wp5 gp5 iq hq
              simp only [List.mem_cons, List.mem_nil_iff, or_false] at hq
              have AP5 := Chg.trans AC4 (Chg.grow gp5)
              have TW := Lib.hid (TW.out.grow gp5)
              subst hq
              refine Fr.own_src (by rfl) (by rfl) (Operand.tmp 75) (Operand.tmp 78) 22 (by rfl) W3.heap.size 3 i0 (.int .i64 0) 1 8 Try.underlying22 HI.out.1 HI.out.2.1 HI.out.2.2.1 HI.out.2.2.2 rfl (by decide) _ _ _ (by rfl) TW.out.l _ _ _ ((([] : List Int).drop 0).map (Value.int .i64)) (by rfl) (by rw [Nat.mul_one]; exact LB.out) (SB.out.grow (AP5.toGrow (fun j hj q => by have q : W3.heap.size ≤ j := q; omega))) ?_ ?_ ?_ TW.out.b ?_ 
              · intro u hu; first | (obtain ⟨z, _, rfl⟩ := List.mem_map.1 hu; rfl) | (rw [List.mem_singleton] at hu; subst hu; rfl) 
              · (unfold maxLen; first | (simp; done) | (simp; omega)) 
              · (first | (simp; done) | (simp; omega))
              intro vw5 wc5 OW5 fr5
              have OX5 := own_app2 (zs := ((([] : List Int).take 0).map (Value.int .i64) ++ [Value.int .i64 x]) ++ (([] : List Int).drop 0).map (Value.int .i64)) rfl (LB.out) OW5; obtain ⟨sa5, ca5, rfl⟩ := own_shape OX5; have CH5 := TW.out.chgL fr5; have TW := Lib.hid (TW.out.left fr5 OX5)
              refine ⟨.inr CH5, ?_⟩
              have AC5 := Chg.trans AP5 CH5
              simp only [Act.put, L0, L1, L2]
              refine Evo2.va ok 12 _ _ ?_
              refine Evo2.done (by decide +kernel) (fun wz gz => ?_)
              have AZ := Chg.trans AC5 (Chg.grow gz)
              have TW := Lib.hid (TW.out.grow gz)
              dsimp only [PostN] 
              obtain ⟨hn, hH⟩ := room_new H.out (FP.out _ _) (AZ.toGrow (fun j hj q => by have q : W3.heap.size ≤ j := q; omega)) TW.out.l EZ.out rfl 
              have eN : 1 = (insZ ([] : List Int) x).length := (by rw [IL.out]; first | rfl | (simp; done) | omega | (simp; omega)) 
              rw [eN] 
              (repeat apply Exists.intro) 
              exact ⟨rfl, Lib.hid hH⟩
            ·
              refine Evo2.runs (by rfl) (by rfl) (fun K' hK' => ?_)
              go_simp
              (try (simp only [Evo.after_value, Evo.after_skip]))
              refine hK'.out _ _ ?_
              clear hK'
              simp only [Act.put, L0, L1, L2]
              refine ⟨.inr (Chg.alloc (Chg.refl _ _) _), ?_⟩
              generalize hG2 : World.alloc wp2 _ = wg2
              have GG2 : Grow.G wp2 wg2 := hG2 ▸ Grow.G.alloc (Grow.G.refl _) _
              have NC1 := (GG2.block _ NL1).trans NC1
              have NL1 := Nat.lt_of_lt_of_le NL1 GG2.size
              have NC2 := (congrArg (fun W : World => W.heap[wp2.heap.size]?) hG2).symm.trans (MapKept.heap_alloc wp2 _).1
              have NL2 : wp2.heap.size < wg2.heap.size := by rw [← hG2]; simp
              clear hG2
              have TW := Lib.hid (TW.out.newR (ys := [.int .i64 x]) (n := 1) GG2 NC2 rfl (by decide))
              refine Evo2.all [4] (by decide +kernel) rfl ?_
              intro wp3 gp3 iq hq
              simp only [List.mem_cons, List.mem_nil_iff, or_false] at hq
              have AP3 := Chg.trans (Chg.trans AP2 (Chg.grow GG2)) (Chg.grow gp3)
              have TW := Lib.hid (TW.out.grow gp3)
              have NC1 := (gp3.block _ NL1).trans NC1
              have NL1 := Nat.lt_of_lt_of_le NL1 gp3.size
              have NC2 := (gp3.block _ NL2).trans NC2
              have NL2 := Nat.lt_of_lt_of_le NL2 gp3.size
              subst hq
              refine Fr.own_src (by rfl) (by rfl) (Operand.tmp 68) (Operand.tmp 71) 22 (by rfl) W3.heap.size 3 i0 (.int .i64 0) 1 8 Try.underlying22 HI.out.1 HI.out.2.1 HI.out.2.2.1 HI.out.2.2.2 rfl (by decide) _ _ _ (by rfl) TW.out.l _ _ _ ((([] : List Int).take 0).map (Value.int .i64)) (by rfl) (by rw [Nat.mul_one]; exact LA.out) (SA.out.grow (AP3.toGrow (fun j hj q => by have q : W3.heap.size ≤ j := q; omega))) ?_ ?_ ?_ TW.out.b ?_ 
              · intro u hu; first | (obtain ⟨z, _, rfl⟩ := List.mem_map.1 hu; rfl) | (rw [List.mem_singleton] at hu; subst hu; rfl) 
              · (unfold maxLen; first | (simp; done) | (simp; omega)) 
              · (first | (simp; done) | (simp; omega))
              intro vw3 wc3 OW3 fr3
              have OX3 := own_app2 (zs := (([] : List Int).take 0).map (Value.int .i64)) rfl (LA.out) OW3; obtain ⟨sa3, ca3, rfl⟩ := own_shape OX3; have CH3 := TW.out.chgL fr3; have TW := Lib.hid (TW.out.left fr3 OX3)
              refine ⟨.inr CH3, ?_⟩
              have AC3 := Chg.trans AP3 CH3
              simp only [Act.put, L0, L1, L2]
              refine Evo2.all [7] (by decide +kernel) rfl ?_
              intro wp4 gp4 iq hq
              simp only [List.mem_cons, List.mem_nil_iff, or_false] at hq
              have AP4 := Chg.trans AC3 (Chg.grow gp4)
              have TW := Lib.hid (TW.out.grow gp4)
              subst hq
              refine Fr.own_src (by rfl) (by rfl) (Operand.tmp 72) (Operand.tmp 74) 22 (by rfl) W3.heap.size 3 i0 (.int .i64 0) 1 8 Try.underlying22 HI.out.1 HI.out.2.1 HI.out.2.2.1 HI.out.2.2.2 rfl (by decide) _ _ _ (by rfl) TW.out.l _ _ _ ([Value.int .i64 x]) (by rfl) (rfl) (own_src0 TW.out.r) ?_ ?_ ?_ TW.out.b ?_ 
              · intro u hu; first | (obtain ⟨z, _, rfl⟩ := List.mem_map.1 hu; rfl) | (rw [List.mem_singleton] at hu; subst hu; rfl) 
              · (unfold maxLen; first | (simp; done) | (simp; omega)) 
              · (first | (simp; done) | (simp; omega))
              intro vw4 wc4 OW4 fr4
              have OX4 := own_app2 (zs := (([] : List Int).take 0).map (Value.int .i64) ++ [Value.int .i64 x]) rfl (rfl) OW4; obtain ⟨sa4, ca4, rfl⟩ := own_shape OX4; have CH4 := TW.out.chgL fr4; have TW := Lib.hid (TW.out.left fr4 OX4)
              refine ⟨.inr CH4, ?_⟩
              have AC4 := Chg.trans AP4 CH4
              simp only [Act.put, L0, L1, L2]
              refine Evo2.all [11] (by decide +kernel) rfl ?_
              intro wp5 gp5 iq hq
              simp only [List.mem_cons, List.mem_nil_iff, or_false] at hq
              have AP5 := Chg.trans AC4 (Chg.grow gp5)
              have TW := Lib.hid (TW.out.grow gp5)
              subst hq
              refine Fr.own_src (by rfl) (by rfl) (Operand.tmp 75) (Operand.tmp 78) 22 (by rfl) W3.heap.size 3 i0 (.int .i64 0) 1 8 Try.underlying22 HI.out.1 HI.out.2.1 HI.out.2.2.1 HI.out.2.2.2 rfl (by decide) _ _ _ (by rfl) TW.out.l _ _ _ ((([] : List Int).drop 0).map (Value.int .i64)) (by rfl) (by rw [Nat.mul_one]; exact LB.out) (SB.out.grow (AP5.toGrow (fun j hj q => by have q : W3.heap.size ≤ j := q; omega))) ?_ ?_ ?_ TW.out.b ?_ 
              · intro u hu; first | (obtain ⟨z, _, rfl⟩ := List.mem_map.1 hu; rfl) | (rw [List.mem_singleton] at hu; subst hu; rfl) 
              · (unfold maxLen; first | (simp; done) | (simp; omega)) 
              · (first | (simp; done) | (simp; omega))
              intro vw5 wc5 OW5 fr5
              have OX5 := own_app2 (zs := ((([] : List Int).take 0).map (Value.int .i64) ++ [Value.int .i64 x]) ++ (([] : List Int).drop 0).map (Value.int .i64)) rfl (LB.out) OW5; obtain ⟨sa5, ca5, rfl⟩ := own_shape OX5; have CH5 := TW.out.chgL fr5; have TW := Lib.hid (TW.out.left fr5 OX5)
              refine ⟨.inr CH5, ?_⟩
              have AC5 := Chg.trans AP5 CH5
              simp only [Act.put, L0, L1, L2]
              refine Evo2.va ok 12 _ _ ?_
              refine Evo2.done (by decide +kernel) (fun wz gz => ?_)
              have AZ := Chg.trans AC5 (Chg.grow gz)
              have TW := Lib.hid (TW.out.grow gz)
              dsimp only [PostN] 
              obtain ⟨hn, hH⟩ := room_new H.out (FP.out _ _) (AZ.toGrow (fun j hj q => by have q : W3.heap.size ≤ j := q; omega)) TW.out.l EZ.out rfl 
              have eN : 1 = (insZ ([] : List Int) x).length := (by rw [IL.out]; first | rfl | (simp; done) | omega | (simp; omega)) 
              rw [eN] 
              (repeat apply Exists.intro) 
              exact ⟨rfl, Lib.hid hH⟩
          ·
            refine Evo2.runs (by rfl) (by rfl) (fun K' hK' => ?_)
            go_simp
            (try (simp only [Evo.after_value, Evo.after_skip]))
            refine hK'.out _ _ ?_
            clear hK'
            simp only [Act.put, L0, L1, L2]
            refine ⟨.inr (Chg.alloc (Chg.refl _ _) _), ?_⟩
            generalize hG1 : World.alloc wp1 _ = wg1
            have GG1 : Grow.G wp1 wg1 := hG1 ▸ Grow.G.alloc (Grow.G.refl _) _
            have NC1 := (congrArg (fun W : World => W.heap[wp1.heap.size]?) hG1).symm.trans (MapKept.heap_alloc wp1 _).1
            have NL1 : wp1.heap.size < wg1.heap.size := by rw [← hG1]; simp
            clear hG1
            have TW := Lib.hid (TW.out.newR (ys := [.int .i64 x]) (n := 1) GG1 NC1 rfl (by decide))
            refine Evo2.all [0] (by decide +kernel) rfl ?_
            intro wp2 gp2 iq hq
            simp only [List.mem_cons, List.mem_nil_iff, or_false] at hq
            have AP2 := Chg.trans (Chg.trans AP1 (Chg.grow GG1)) (Chg.grow gp2)
            have TW := Lib.hid (TW.out.grow gp2)
            have NC1 := (gp2.block _ NL1).trans NC1
            have NL1 := Nat.lt_of_lt_of_le NL1 gp2.size
            subst hq
            refine Evo2.runs (by rfl) (by rfl) (fun K' hK' => ?_)
            go_simp
            (try (simp only [Evo.after_value, Evo.after_skip]))
            refine hK'.out _ _ ?_
            clear hK'
            simp only [Act.put, L0, L1, L2]
            refine ⟨.inr (Chg.alloc (Chg.refl _ _) _), ?_⟩
            generalize hG2 : World.alloc wp2 _ = wg2
            have GG2 : Grow.G wp2 wg2 := hG2 ▸ Grow.G.alloc (Grow.G.refl _) _
            have NC1 := (GG2.block _ NL1).trans NC1
            have NL1 := Nat.lt_of_lt_of_le NL1 GG2.size
            have NC2 := (congrArg (fun W : World => W.heap[wp2.heap.size]?) hG2).symm.trans (MapKept.heap_alloc wp2 _).1
            have NL2 : wp2.heap.size < wg2.heap.size := by rw [← hG2]; simp
            clear hG2
            have TW := Lib.hid (TW.out.newL (xs := []) (n := 0) GG2 NC2 rfl (by decide))
            refine Evo2.all [4] (by decide +kernel) rfl ?_
            intro wp3 gp3 iq hq
            simp only [List.mem_cons, List.mem_nil_iff, or_false] at hq
            have AP3 := Chg.trans (Chg.trans AP2 (Chg.grow GG2)) (Chg.grow gp3)
            have TW := Lib.hid (TW.out.grow gp3)
            have NC1 := (gp3.block _ NL1).trans NC1
            have NL1 := Nat.lt_of_lt_of_le NL1 gp3.size
            have NC2 := (gp3.block _ NL2).trans NC2
            have NL2 := Nat.lt_of_lt_of_le NL2 gp3.size
            subst hq
            refine Fr.own_src (by rfl) (by rfl) (Operand.tmp 68) (Operand.tmp 71) 22 (by rfl) W3.heap.size 3 i0 (.int .i64 0) 1 8 Try.underlying22 HI.out.1 HI.out.2.1 HI.out.2.2.1 HI.out.2.2.2 rfl (by decide) _ _ _ (by rfl) TW.out.l _ _ _ ((([] : List Int).take 0).map (Value.int .i64)) (by rfl) (by rw [Nat.mul_one]; exact LA.out) (SA.out.grow (AP3.toGrow (fun j hj q => by have q : W3.heap.size ≤ j := q; omega))) ?_ ?_ ?_ TW.out.b ?_ 
            · intro u hu; first | (obtain ⟨z, _, rfl⟩ := List.mem_map.1 hu; rfl) | (rw [List.mem_singleton] at hu; subst hu; rfl) 
            · (unfold maxLen; first | (simp; done) | (simp; omega)) 
            · (first | (simp; done) | (simp; omega))
            intro vw3 wc3 OW3 fr3
            have OX3 := own_app2 (zs := (([] : List Int).take 0).map (Value.int .i64)) rfl (LA.out) OW3; obtain ⟨sa3, ca3, rfl⟩ := own_shape OX3; have CH3 := TW.out.chgL fr3; have TW := Lib.hid (TW.out.left fr3 OX3)
            refine ⟨.inr CH3, ?_⟩
            have AC3 := Chg.trans AP3 CH3
            simp only [Act.put, L0, L1, L2]
            refine Evo2.all [7] (by decide +kernel) rfl ?_
            intro wp4 gp4 iq hq
            simp only [List.mem_cons, List.mem_nil_iff, or_false] at hq
            have AP4 := Chg.trans AC3 (Chg.grow gp4)
            have TW := Lib.hid (TW.out.grow gp4)
            subst hq
            refine Fr.own_src (by rfl) (by rfl) (Operand.tmp 72) (Operand.tmp 74) 22 (by rfl) W3.heap.size 3 i0 (.int .i64 0) 1 8 Try.underlying22 HI.out.1 HI.out.2.1 HI.out.2.2.1 HI.out.2.2.2 rfl (by decide) _ _ _ (by rfl) TW.out.l _ _ _ ([Value.int .i64 x]) (by rfl) (rfl) (own_src0 TW.out.r) ?_ ?_ ?_ TW.out.b ?_ 
            · intro u hu; first | (obtain ⟨z, _, rfl⟩ := List.mem_map.1 hu; rfl) | (rw [List.mem_singleton] at hu; subst hu; rfl) 
            · (unfold maxLen; first | (simp; done) | (simp; omega)) 
            · (first | (simp; done) | (simp; omega))
            intro vw4 wc4 OW4 fr4
            have OX4 := own_app2 (zs := (([] : List Int).take 0).map (Value.int .i64) ++ [Value.int .i64 x]) rfl (rfl) OW4; obtain ⟨sa4, ca4, rfl⟩ := own_shape OX4; have CH4 := TW.out.chgL fr4; have TW := Lib.hid (TW.out.left fr4 OX4)
            refine ⟨.inr CH4, ?_⟩
            have AC4 := Chg.trans AP4 CH4
            simp only [Act.put, L0, L1, L2]
            refine Evo2.all [11] (by decide +kernel) rfl ?_
            intro wp5 gp5 iq hq
            simp only [List.mem_cons, List.mem_nil_iff, or_false] at hq
            have AP5 := Chg.trans AC4 (Chg.grow gp5)
            have TW := Lib.hid (TW.out.grow gp5)
            subst hq
            refine Fr.own_src (by rfl) (by rfl) (Operand.tmp 75) (Operand.tmp 78) 22 (by rfl) W3.heap.size 3 i0 (.int .i64 0) 1 8 Try.underlying22 HI.out.1 HI.out.2.1 HI.out.2.2.1 HI.out.2.2.2 rfl (by decide) _ _ _ (by rfl) TW.out.l _ _ _ ((([] : List Int).drop 0).map (Value.int .i64)) (by rfl) (by rw [Nat.mul_one]; exact LB.out) (SB.out.grow (AP5.toGrow (fun j hj q => by have q : W3.heap.size ≤ j := q; omega))) ?_ ?_ ?_ TW.out.b ?_ 
            · intro u hu; first | (obtain ⟨z, _, rfl⟩ := List.mem_map.1 hu; rfl) | (rw [List.mem_singleton] at hu; subst hu; rfl) 
            · (unfold maxLen; first | (simp; done) | (simp; omega)) 
            · (first | (simp; done) | (simp; omega))
            intro vw5 wc5 OW5 fr5
            have OX5 := own_app2 (zs := ((([] : List Int).take 0).map (Value.int .i64) ++ [Value.int .i64 x]) ++ (([] : List Int).drop 0).map (Value.int .i64)) rfl (LB.out) OW5; obtain ⟨sa5, ca5, rfl⟩ := own_shape OX5; have CH5 := TW.out.chgL fr5; have TW := Lib.hid (TW.out.left fr5 OX5)
            refine ⟨.inr CH5, ?_⟩
            have AC5 := Chg.trans AP5 CH5
            simp only [Act.put, L0, L1, L2]
            refine Evo2.va ok 12 _ _ ?_
            refine Evo2.done (by decide +kernel) (fun wz gz => ?_)
            have AZ := Chg.trans AC5 (Chg.grow gz)
            have TW := Lib.hid (TW.out.grow gz)
            dsimp only [PostN] 
            obtain ⟨hn, hH⟩ := room_new H.out (FP.out _ _) (AZ.toGrow (fun j hj q => by have q : W3.heap.size ≤ j := q; omega)) TW.out.l EZ.out rfl 
            have eN : 1 = (insZ ([] : List Int) x).length := (by rw [IL.out]; first | rfl | (simp; done) | omega | (simp; omega)) 
            rw [eN] 
            (repeat apply Exists.intro) 
            exact ⟨rfl, Lib.hid hH⟩
        ·
          rintro A W6 ⟨x68, x69, x70, x71, x72, x73, x74, x75, x76, x77, x78, x79, na, nc, rfl, H6⟩
          replace H := H6
          clear H6
          have HH : Hid (Hold w W6 [] (Sep (PdP g ⟨K, 2, []⟩) (Sep (IntF (.slice na (insZ [] x).length nc) (insZ [] x)) Emp))) := H
          replace H := HH
          clear HH
          go_wp2_with fail
          refine (hold_ptake H.out (FI.out _ _) x hxw T1.out T2.out).mono ?_
          rintro e ws9 ⟨rfl, hst⟩
          replace H := Lib.hid hst
          clear hst
          go_wp2_with fail
          refine (hold_pload (er := ((insZ [] x).length : Int)) H.out).mono ?_
          rintro e ws10 ⟨rfl, hst⟩
          replace H := Lib.hid hst
          clear hst
          go_wp2_with fail
          go_roundw
          case rel => exact ⟨j + 1, insZ [] x, na, nc, by omega, by go_num, rfl, H⟩
          case measure => simp [intOf]; omega
      · clear hcl
        have SD := (own_srcd HO.out (k := k) hk).resolve_left (fun e => by cases e.1)
        obtain ⟨g', eg, SB, SA⟩ := SD
        cases eg
        rw [← List.map_drop] at SB
        rw [← List.map_take] at SA
        have SA := Lib.hid SA
        have SB : Hid (Fr.Src W3 (if sc = k then some ⟨g3, 0, none⟩ else some ⟨g3, k, none⟩) ((l.drop k).map (Value.int .i64))) := Lib.hid (by
          split
          · have : l.drop k = [] := List.drop_eq_nil_of_le (by omega)
            rw [this]
            exact .inr ⟨_, rfl, fun j u h => by simp at h⟩
          · exact SB)
        have hs2 : (k : Int) ≤ (sc : Int) := by omega
        have hs3 : (l.length : Int) ≤ (sc : Int) := by omega
        clear HR
        go_wp2_with fail
        have TW := Lib.hid (TwoV.none (T := 3) W3)
        refine wp_spec (fun a0 A W => ∃ x68 x69 x70 x71 x72 x73 x74 x75 x76 x77 x78 x79 : Value, ∃ (na : Option Addr) (nc : Nat), A = (((((((((((((a0.put (some 7) (.slice na (insZ l x).length nc)).put (some 68) x68).put (some 69) x69).put (some 70) x70).put (some 71) x71).put (some 72) x72).put (some 73) x73).put (some 74) x74).put (some 75) x75).put (some 76) x76).put (some 77) x77).put (some 78) x78).put (some 79) x79) ∧ Hid (Hold w W [] (Sep (PdP g ⟨K, 2, l⟩) (Sep (IntF (.slice na (insZ l x).length nc) (insZ l x)) Emp)))) ?_ ?_
        all_goals simp only [Act.put, L0, L1, L2]
        ·
          refine Evo2.start' (ℓ := none) (S := Chg (fun j => W3.heap.size ≤ j)) (E := Grow.G) (by kernel_rfl) ⟨Chg.pre _, by decide +kernel, (by intro c a d v w h; cases d <;> exact h), by decide +kernel⟩ (fun ok => ?_)
          refine Evo2.va ok 1 _ _ ?_
          refine Evo2.va ok 2 _ _ ?_
          refine Evo2.va ok 3 _ _ ?_
          refine Evo2.va ok 5 _ _ ?_
          refine Evo2.va ok 8 _ _ ?_
          refine Evo2.va ok 9 _ _ ?_
          refine Evo2.va ok 10 _ _ ?_
          refine Evo2.all [0, 6] (by decide +kernel) rfl ?_
          intro wp1 gp1 iq hq
          simp only [List.mem_cons, List.mem_nil_iff, or_false] at hq
          have AP1 := Chg.trans (Chg.refl (fun j => W3.heap.size ≤ j) _) (Chg.grow gp1)
          have TW := Lib.hid (TW.out.grow gp1)
          rcases hq with rfl | rfl
          ·
            refine Evo2.runs (by rfl) (by rfl) (fun K' hK' => ?_)
            go_simp
            (try (simp only [Evo.after_value, Evo.after_skip]))
            refine hK'.out _ _ ?_
            clear hK'
            simp only [Act.put, L0, L1, L2]
            refine ⟨.inr (Chg.alloc (Chg.refl _ _) _), ?_⟩
            generalize hG1 : World.alloc wp1 _ = wg1
            have GG1 : Grow.G wp1 wg1 := hG1 ▸ Grow.G.alloc (Grow.G.refl _) _
            have NC1 := (congrArg (fun W : World => W.heap[wp1.heap.size]?) hG1).symm.trans (MapKept.heap_alloc wp1 _).1
            have NL1 : wp1.heap.size < wg1.heap.size := by rw [← hG1]; simp
            clear hG1
            have TW := Lib.hid (TW.out.newL (xs := []) (n := 0) GG1 NC1 rfl (by decide))
            refine Evo2.all [4, 6] (by decide +kernel) rfl ?_
            intro wp2 gp2 iq hq
            simp only [List.mem_cons, List.mem_nil_iff, or_false] at hq
            have AP2 := Chg.trans (Chg.trans AP1 (Chg.grow GG1)) (Chg.grow gp2)
            have TW := Lib.hid (TW.out.grow gp2)
            have NC1 := (gp2.block _ NL1).trans NC1
            have NL1 := Nat.lt_of_lt_of_le NL1 gp2.size
            rcases hq with rfl | rfl
            ·
              refine Fr.own_src (by rfl) (by rfl) (Operand.tmp 68) (Operand.tmp 71) 22 (by rfl) W3.heap.size 3 i0 (.int .i64 0) 1 8 Try.underlying22 HI.out.1 HI.out.2.1 HI.out.2.2.1 HI.out.2.2.2 rfl (by decide) _ _ _ (by rfl) TW.out.l _ _ _ ((l.take k).map (Value.int .i64)) (by rfl) (by rw [Nat.mul_one]; exact LA.out) (SA.out.grow (AP2.toGrow (fun j hj q => by have q : W3.heap.size ≤ j := q; omega))) ?_ ?_ ?_ TW.out.b ?_ 
              · intro u hu; first | (obtain ⟨z, _, rfl⟩ := List.mem_map.1 hu; rfl) | (rw [List.mem_singleton] at hu; subst hu; rfl) 
              · (unfold maxLen; first | (simp; done) | (simp; omega)) 
              · (first | (simp; done) | (simp; omega))
              intro vw2 wc2 OW2 fr2
              have OX2 := own_app2 (zs := (l.take k).map (Value.int .i64)) rfl (LA.out) OW2; obtain ⟨sa2, ca2, rfl⟩ := own_shape OX2; have CH2 := TW.out.chgL fr2; have TW := Lib.hid (TW.out.left fr2 OX2)
              refine ⟨.inr CH2, ?_⟩
              have AC2 := Chg.trans AP2 CH2
              simp only [Act.put, L0, L1, L2]
              refine Evo2.all [6] (by decide +kernel) rfl ?_
              intro wp3 gp3 iq hq
              simp only [List.mem_cons, List.mem_nil_iff, or_false] at hq
              have AP3 := Chg.trans AC2 (Chg.grow gp3)
              have TW := Lib.hid (TW.out.grow gp3)
              subst hq
              refine Evo2.runs (by rfl) (by rfl) (fun K' hK' => ?_)
              go_simp
              (try (simp only [Evo.after_value, Evo.after_skip]))
              refine hK'.out _ _ ?_
              clear hK'
              simp only [Act.put, L0, L1, L2]
              refine ⟨.inr (Chg.alloc (Chg.refl _ _) _), ?_⟩
              generalize hG3 : World.alloc wp3 _ = wg3
              have GG3 : Grow.G wp3 wg3 := hG3 ▸ Grow.G.alloc (Grow.G.refl _) _
              have NC3 := (congrArg (fun W : World => W.heap[wp3.heap.size]?) hG3).symm.trans (MapKept.heap_alloc wp3 _).1
              have NL3 : wp3.heap.size < wg3.heap.size := by rw [← hG3]; simp
              clear hG3
              have TW := Lib.hid (TW.out.newR (ys := [.int .i64 x]) (n := 1) GG3 NC3 rfl (by decide))
              refine Evo2.all [7] (by decide +kernel) rfl ?_
              intro wp4 gp4 iq hq
              simp only [List.mem_cons, List.mem_nil_iff, or_false] at hq
              have AP4 := Chg.trans (Chg.trans AP3 (Chg.grow GG3)) (Chg.grow gp4)
              have TW := Lib.hid (TW.out.grow gp4)
              have NC3 := (gp4.block _ NL3).trans NC3
              have NL3 := Nat.lt_of_lt_of_le NL3 gp4.size
              subst hq
              refine Fr.own_src (by rfl) (by rfl) (Operand.tmp 72) (Operand.tmp 74) 22 (by rfl) W3.heap.size 3 i0 (.int .i64 0) 1 8 Try.underlying22 HI.out.1 HI.out.2.1 HI.out.2.2.1 HI.out.2.2.2 rfl (by decide) _ _ _ (by rfl) TW.out.l _ _ _ ([Value.int .i64 x]) (by rfl) (rfl) (own_src0 TW.out.r) ?_ ?_ ?_ TW.out.b ?_ 
              · intro u hu; first | (obtain ⟨z, _, rfl⟩ := List.mem_map.1 hu; rfl) | (rw [List.mem_singleton] at hu; subst hu; rfl) 
              · (unfold maxLen; first | (simp; done) | (simp; omega)) 
              · (first | (simp; done) | (simp; omega))
              intro vw4 wc4 OW4 fr4
              have OX4 := own_app2 (zs := (l.take k).map (Value.int .i64) ++ [Value.int .i64 x]) rfl (rfl) OW4; obtain ⟨sa4, ca4, rfl⟩ := own_shape OX4; have CH4 := TW.out.chgL fr4; have TW := Lib.hid (TW.out.left fr4 OX4)
              refine ⟨.inr CH4, ?_⟩
              have AC4 := Chg.trans AP4 CH4
              simp only [Act.put, L0, L1, L2]
              refine Evo2.all [11] (by decide +kernel) rfl ?_
              intro wp5 gp5 iq hq
              simp only [List.mem_cons, List.mem_nil_iff, or_false] at hq
              have AP5 := Chg.trans AC4 (Chg.grow gp5)
              have TW := Lib.hid (TW.out.grow gp5)
              subst hq
              refine Fr.own_src (by rfl) (by rfl) (Operand.tmp 75) (Operand.tmp 78) 22 (by rfl) W3.heap.size 3 i0 (.int .i64 0) 1 8 Try.underlying22 HI.out.1 HI.out.2.1 HI.out.2.2.1 HI.out.2.2.2 rfl (by decide) _ _ _ (by rfl) TW.out.l _ _ _ ((l.drop k).map (Value.int .i64)) (by rfl) (by rw [Nat.mul_one]; exact LB.out) (SB.out.grow (AP5.toGrow (fun j hj q => by have q : W3.heap.size ≤ j := q; omega))) ?_ ?_ ?_ TW.out.b ?_ 
              · intro u hu; first | (obtain ⟨z, _, rfl⟩ := List.mem_map.1 hu; rfl) | (rw [List.mem_singleton] at hu; subst hu; rfl) 
              · (unfold maxLen; first | (simp; done) | (simp; omega)) 
              · (first | (simp; done) | (simp; omega))
              intro vw5 wc5 OW5 fr5
              have OX5 := own_app2 (zs := ((l.take k).map (Value.int .i64) ++ [Value.int .i64 x]) ++ (l.drop k).map (Value.int .i64)) rfl (LB.out) OW5; obtain ⟨sa5, ca5, rfl⟩ := own_shape OX5; have CH5 := TW.out.chgL fr5; have TW := Lib.hid (TW.out.left fr5 OX5)
              refine ⟨.inr CH5, ?_⟩
              have AC5 := Chg.trans AP5 CH5
              simp only [Act.put, L0, L1, L2]
              refine Evo2.va ok 12 _ _ ?_
              refine Evo2.done (by decide +kernel) (fun wz gz => ?_)
              have AZ := Chg.trans AC5 (Chg.grow gz)
              have TW := Lib.hid (TW.out.grow gz)
              dsimp only [PostN] 
              obtain ⟨hn, hH⟩ := room_new H.out (FP.out _ _) (AZ.toGrow (fun j hj q => by have q : W3.heap.size ≤ j := q; omega)) TW.out.l EZ.out rfl 
              have eN : (k + (l.length - k + 1)) = (insZ l x).length := (by rw [IL.out]; first | rfl | (simp; done) | omega | (simp; omega)) 
              rw [eN] 
              (repeat apply Exists.intro) 
              exact ⟨rfl, Lib.hid hH⟩
            ·
              refine Evo2.runs (by rfl) (by rfl) (fun K' hK' => ?_)
              go_simp
              (try (simp only [Evo.after_value, Evo.after_skip]))
              refine hK'.out _ _ ?_
              clear hK'
              simp only [Act.put, L0, L1, L2]
              refine ⟨.inr (Chg.alloc (Chg.refl _ _) _), ?_⟩
              generalize hG2 : World.alloc wp2 _ = wg2
              have GG2 : Grow.G wp2 wg2 := hG2 ▸ Grow.G.alloc (Grow.G.refl _) _
              have NC1 := (GG2.block _ NL1).trans NC1
              have NL1 := Nat.lt_of_lt_of_le NL1 GG2.size
              have NC2 := (congrArg (fun W : World => W.heap[wp2.heap.size]?) hG2).symm.trans (MapKept.heap_alloc wp2 _).1
              have NL2 : wp2.heap.size < wg2.heap.size := by rw [← hG2]; simp
              clear hG2
              have TW := Lib.hid (TW.out.newR (ys := [.int .i64 x]) (n := 1) GG2 NC2 rfl (by decide))
              refine Evo2.all [4] (by decide +kernel) rfl ?_
              intro wp3 gp3 iq hq
              simp only [List.mem_cons, List.mem_nil_iff, or_false] at hq
              have AP3 := Chg.trans (Chg.trans AP2 (Chg.grow GG2)) (Chg.grow gp3)
              have TW := Lib.hid (TW.out.grow gp3)
              have NC1 := (gp3.block _ NL1).trans NC1
              have NL1 := Nat.lt_of_lt_of_le NL1 gp3.size
              have NC2 := (gp3.block _ NL2).trans NC2
              have NL2 := Nat.lt_of_lt_of_le NL2 gp3.size
              subst hq
              refine Fr.own_src (by rfl) (by rfl) (Operand.tmp 68) (Operand.tmp 71) 22 (by rfl) W3.heap.size 3 i0 (.int .i64 0) 1 8 Try.underlying22 HI.out.1 HI.out.2.1 HI.out.2.2.1 HI.out.2.2.2 rfl (by decide) _ _ _ (by rfl) TW.out.l _ _ _ ((l.take k).map (Value.int .i64)) (by rfl) (by rw [Nat.mul_one]; exact LA.out) (SA.out.grow (AP3.toGrow (fun j hj q => by have q : W3.heap.size ≤ j := q; omega))) ?_ ?_ ?_ TW.out.b ?_ 
              · intro u hu; first | (obtain ⟨z, _, rfl⟩ := List.mem_map.1 hu; rfl) | (rw [List.mem_singleton] at hu; subst hu; rfl) 
              · (unfold maxLen; first | (simp; done) | (simp; omega)) 
              · (first | (simp; done) | (simp; omega))
              intro vw3 wc3 OW3 fr3
              have OX3 := own_app2 (zs := (l.take k).map (Value.int .i64)) rfl (LA.out) OW3; obtain ⟨sa3, ca3, rfl⟩ := own_shape OX3; have CH3 := TW.out.chgL fr3; have TW := Lib.hid (TW.out.left fr3 OX3)
              refine ⟨.inr CH3, ?_⟩
              have AC3 := Chg.trans AP3 CH3
              simp only [Act.put, L0, L1, L2]
              refine Evo2.all [7] (by decide +kernel) rfl ?_
              intro wp4 gp4 iq hq
              simp only [List.mem_cons, List.mem_nil_iff, or_false] at hq
              have AP4 := Chg.trans AC3 (Chg.grow gp4)
              have TW := Lib.hid (TW.out.grow gp4)
              subst hq
              refine Fr.own_src (by rfl) (by rfl) (Operand.tmp 72) (Operand.tmp 74) 22 (by rfl) W3.heap.size 3 i0 (.int .i64 0) 1 8 Try.underlying22 HI.out.1 HI.out.2.1 HI.out.2.2.1 HI.out.2.2.2 rfl (by decide) _ _ _ (by rfl) TW.out.l _ _ _ ([Value.int .i64 x]) (by rfl) (rfl) (own_src0 TW.out.r) ?_ ?_ ?_ TW.out.b ?_ 
              · intro u hu; first | (obtain ⟨z, _, rfl⟩ := List.mem_map.1 hu; rfl) | (rw [List.mem_singleton] at hu; subst hu; rfl) 
              · (unfold maxLen; first | (simp; done) | (simp; omega)) 
              · (first | (simp; done) | (simp; omega))
              intro vw4 wc4 OW4 fr4
              have OX4 := own_app2 (zs := (l.take k).map (Value.int .i64) ++ [Value.int .i64 x]) rfl (rfl) OW4; obtain ⟨sa4, ca4, rfl⟩ := own_shape OX4; have CH4 := TW.out.chgL fr4; have TW := Lib.hid (TW.out.left fr4 OX4)
              refine ⟨.inr CH4, ?_⟩
              have AC4 := Chg.trans AP4 CH4
              simp only [Act.put, L0, L1, L2]
              refine Evo2.all [11] (by decide +kernel) rfl ?_
              intro wp5 gp5 iq hq
              simp only [List.mem_cons, List.mem_nil_iff, or_false] at hq
              have AP5 := Chg.trans AC4 (Chg.grow gp5)
              have TW := Lib.hid (TW.out.grow gp5)
              subst hq
              refine Fr.own_src (by rfl) (by rfl) (Operand.tmp 75) (Operand.tmp 78) 22 (by rfl) W3.heap.size 3 i0 (.int .i64 0) 1 8 Try.underlying22 HI.out.1 HI.out.2.1 HI.out.2.2.1 HI.out.2.2.2 rfl (by decide) _ _ _ (by rfl) TW.out.l _ _ _ ((l.drop k).map (Value.int .i64)) (by rfl) (by rw [Nat.mul_one]; exact LB.out) (SB.out.grow (AP5.toGrow (fun j hj q => by have q : W3.heap.size ≤ j := q; omega))) ?_ ?_ ?_ TW.out.b ?_ 
              · intro u hu; first | (obtain ⟨z, _, rfl⟩ := List.mem_map.1 hu; rfl) | (rw [List.mem_singleton] at hu; subst hu; rfl) 
              · (unfold maxLen; first | (simp; done) | (simp; omega)) 
              · (first | (simp; done) | (simp; omega))
              intro vw5 wc5 OW5 fr5
              have OX5 := own_app2 (zs := ((l.take k).map (Value.int .i64) ++ [Value.int .i64 x]) ++ (l.drop k).map (Value.int .i64)) rfl (LB.out) OW5; obtain ⟨sa5, ca5, rfl⟩ := own_shape OX5; have CH5 := TW.out.chgL fr5; have TW := Lib.hid (TW.out.left fr5 OX5)
              refine ⟨.inr CH5, ?_⟩
              have AC5 := Chg.trans AP5 CH5
              simp only [Act.put, L0, L1, L2]
              refine Evo2.va ok 12 _ _ ?_
              refine Evo2.done (by decide +kernel) (fun wz gz => ?_)
              have AZ := Chg.trans AC5 (Chg.grow gz)
              have TW := Lib.hid (TW.out.grow gz)
              dsimp only [PostN] 
              obtain ⟨hn, hH⟩ := room_new H.out (FP.out _ _) (AZ.toGrow (fun j hj q => by have q : W3.heap.size ≤ j := q; omega)) TW.out.l EZ.out rfl 
              have eN : (k + (l.length - k + 1)) = (insZ l x).length := (by rw [IL.out]; first | rfl | (simp; done) | omega | (simp; omega)) 
              rw [eN] 
              (repeat apply Exists.intro) 
              exact ⟨rfl, Lib.hid hH⟩
          ·
            refine Evo2.runs (by rfl) (by rfl) (fun K' hK' => ?_)
            go_simp
            (try (simp only [Evo.after_value, Evo.after_skip]))
            refine hK'.out _ _ ?_
            clear hK'
            simp only [Act.put, L0, L1, L2]
            refine ⟨.inr (Chg.alloc (Chg.refl _ _) _), ?_⟩
            generalize hG1 : World.alloc wp1 _ = wg1
            have GG1 : Grow.G wp1 wg1 := hG1 ▸ Grow.G.alloc (Grow.G.refl _) _
            have NC1 := (congrArg (fun W : World => W.heap[wp1.heap.size]?) hG1).symm.trans (MapKept.heap_alloc wp1 _).1
            have NL1 : wp1.heap.size < wg1.heap.size := by rw [← hG1]; simp
            clear hG1
            have TW := Lib.hid (TW.out.newR (ys := [.int .i64 x]) (n := 1) GG1 NC1 rfl (by decide))
            refine Evo2.all [0] (by decide +kernel) rfl ?_
            intro wp2 gp2 iq hq
            simp only [List.mem_cons, List.mem_nil_iff, or_false] at hq
            have AP2 := Chg.trans (Chg.trans AP1 (Chg.grow GG1)) (Chg.grow gp2)
            have TW := Lib.hid (TW.out.grow gp2)
            have NC1 := (gp2.block _ NL1).trans NC1
            have NL1 := Nat.lt_of_lt_of_le NL1 gp2.size
            subst hq
            refine Evo2.runs (by rfl) (by rfl) (fun K' hK' => ?_)
            go_simp
            (try (simp only [Evo.after_value, Evo.after_skip]))
            refine hK'.out _ _ ?_
            clear hK'
            simp only [Act.put, L0, L1, L2]
            refine ⟨.inr (Chg.alloc (Chg.refl _ _) _), ?_⟩
            generalize hG2 : World.alloc wp2 _ = wg2
            have GG2 : Grow.G wp2 wg2 := hG2 ▸ Grow.G.alloc (Grow.G.refl _) _
            have NC1 := (GG2.block _ NL1).trans NC1
            have NL1 := Nat.lt_of_lt_of_le NL1 GG2.size
            have NC2 := (congrArg (fun W : World => W.heap[wp2.heap.size]?) hG2).symm.trans (MapKept.heap_alloc wp2 _).1
            have NL2 : wp2.heap.size < wg2.heap.size := by rw [← hG2]; simp
            clear hG2
            have TW := Lib.hid (TW.out.newL (xs := []) (n := 0) GG2 NC2 rfl (by decide))
            refine Evo2.all [4] (by decide +kernel) rfl ?_
            intro wp3 gp3 iq hq
            simp only [List.mem_cons, List.mem_nil_iff, or_false] at hq
            have AP3 := Chg.trans (Chg.trans AP2 (Chg.grow GG2)) (Chg.grow gp3)
            have TW := Lib.hid (TW.out.grow gp3)
            have NC1 := (gp3.block _ NL1).trans NC1
            have NL1 := Nat.lt_of_lt_of_le NL1 gp3.size
            have NC2 := (gp3.block _ NL2).trans NC2
            have NL2 := Nat.lt_of_lt_of_le NL2 gp3.size
            subst hq
            refine Fr.own_src (by rfl) (by rfl) (Operand.tmp 68) (Operand.tmp 71) 22 (by rfl) W3.heap.size 3 i0 (.int .i64 0) 1 8 Try.underlying22 HI.out.1 HI.out.2.1 HI.out.2.2.1 HI.out.2.2.2 rfl (by decide) _ _ _ (by rfl) TW.out.l _ _ _ ((l.take k).map (Value.int .i64)) (by rfl) (by rw [Nat.mul_one]; exact LA.out) (SA.out.grow (AP3.toGrow (fun j hj q => by have q : W3.heap.size ≤ j := q; omega))) ?_ ?_ ?_ TW.out.b ?_ 
            · intro u hu; first | (obtain ⟨z, _, rfl⟩ := List.mem_map.1 hu; rfl) | (rw [List.mem_singleton] at hu; subst hu; rfl) 
            · (unfold maxLen; first | (simp; done) | (simp; omega)) 
            · (first | (simp; done) | (simp; omega))
            intro vw3 wc3 OW3 fr3
            have OX3 := own_app2 (zs := (l.take k).map (Value.int .i64)) rfl (LA.out) OW3; obtain ⟨sa3, ca3, rfl⟩ := own_shape OX3; have CH3 := TW.out.chgL fr3; have TW := Lib.hid (TW.out.left fr3 OX3)
            refine ⟨.inr CH3, ?_⟩
            have AC3 := Chg.trans AP3 CH3
            simp only [Act.put, L0, L1, L2]
            refine Evo2.all [7] (by decide +kernel) rfl ?_
            intro wp4 gp4 iq hq
            simp only [List.mem_cons, List.mem_nil_iff, or_false] at hq
            have AP4 := Chg.trans AC3 (Chg.grow gp4)
            have TW := Lib.hid (TW.out.grow gp4)
            subst hq
            refine Fr.own_src (by rfl) (by rfl) (Operand.tmp 72) (Operand.tmp 74) 22 (by rfl) W3.heap.size 3 i0 (.int .i64 0) 1 8 Try.underlying22 HI.out.1 HI.out.2.1 HI.out.2.2.1 HI.out.2.2.2 rfl (by decide) _ _ _ (by rfl) TW.out.l _ _ _ ([Value.int .i64 x]) (by rfl) (rfl) (own_src0 TW.out.r) ?_ ?_ ?_ TW.out.b ?_ 
            · intro u hu; first | (obtain ⟨z, _, rfl⟩ := List.mem_map.1 hu; rfl) | (rw [List.mem_singleton] at hu; subst hu; rfl) 
            · (unfold maxLen; first | (simp; done) | (simp; omega)) 
            · (first | (simp; done) | (simp; omega))
            intro vw4 wc4 OW4 fr4
            have OX4 := own_app2 (zs := (l.take k).map (Value.int .i64) ++ [Value.int .i64 x]) rfl (rfl) OW4; obtain ⟨sa4, ca4, rfl⟩ := own_shape OX4; have CH4 := TW.out.chgL fr4; have TW := Lib.hid (TW.out.left fr4 OX4)
            refine ⟨.inr CH4, ?_⟩
            have AC4 := Chg.trans AP4 CH4
            simp only [Act.put, L0, L1, L2]
            refine Evo2.all [11] (by decide +kernel) rfl ?_
            intro wp5 gp5 iq hq
            simp only [List.mem_cons, List.mem_nil_iff, or_false] at hq
            have AP5 := Chg.trans AC4 (Chg.grow gp5)
            have TW := Lib.hid (TW.out.grow gp5)
            subst hq
            refine Fr.own_src (by rfl) (by rfl) (Operand.tmp 75) (Operand.tmp 78) 22 (by rfl) W3.heap.size 3 i0 (.int .i64 0) 1 8 Try.underlying22 HI.out.1 HI.out.2.1 HI.out.2.2.1 HI.out.2.2.2 rfl (by decide) _ _ _ (by rfl) TW.out.l _ _ _ ((l.drop k).map (Value.int .i64)) (by rfl) (by rw [Nat.mul_one]; exact LB.out) (SB.out.grow (AP5.toGrow (fun j hj q => by have q : W3.heap.size ≤ j := q; omega))) ?_ ?_ ?_ TW.out.b ?_ 
            · intro u hu; first | (obtain ⟨z, _, rfl⟩ := List.mem_map.1 hu; rfl) | (rw [List.mem_singleton] at hu; subst hu; rfl) 
            · (unfold maxLen; first | (simp; done) | (simp; omega)) 
            · (first | (simp; done) | (simp; omega))
            intro vw5 wc5 OW5 fr5
            have OX5 := own_app2 (zs := ((l.take k).map (Value.int .i64) ++ [Value.int .i64 x]) ++ (l.drop k).map (Value.int .i64)) rfl (LB.out) OW5; obtain ⟨sa5, ca5, rfl⟩ := own_shape OX5; have CH5 := TW.out.chgL fr5; have TW := Lib.hid (TW.out.left fr5 OX5)
            refine ⟨.inr CH5, ?_⟩
            have AC5 := Chg.trans AP5 CH5
            simp only [Act.put, L0, L1, L2]
            refine Evo2.va ok 12 _ _ ?_
            refine Evo2.done (by decide +kernel) (fun wz gz => ?_)
            have AZ := Chg.trans AC5 (Chg.grow gz)
            have TW := Lib.hid (TW.out.grow gz)
            dsimp only [PostN] 
            obtain ⟨hn, hH⟩ := room_new H.out (FP.out _ _) (AZ.toGrow (fun j hj q => by have q : W3.heap.size ≤ j := q; omega)) TW.out.l EZ.out rfl 
            have eN : (k + (l.length - k + 1)) = (insZ l x).length := (by rw [IL.out]; first | rfl | (simp; done) | omega | (simp; omega)) 
            rw [eN] 
            (repeat apply Exists.intro) 
            exact ⟨rfl, Lib.hid hH⟩
        ·
          rintro A W6 ⟨x68, x69, x70, x71, x72, x73, x74, x75, x76, x77, x78, x79, na, nc, rfl, H6⟩
          replace H := H6
          clear H6
          have HH : Hid (Hold w W6 [] (Sep (PdP g ⟨K, 2, l⟩) (Sep (IntF (.slice na (insZ l x).length nc) (insZ l x)) Emp))) := H
          replace H := HH
          clear HH
          go_wp2_with fail
          refine (hold_ptake H.out (FI.out _ _) x hxw T1.out T2.out).mono ?_
          rintro e ws11 ⟨rfl, hst⟩
          replace H := Lib.hid hst
          clear hst
          go_wp2_with fail
          refine (hold_pload (er := ((insZ l x).length : Int)) H.out).mono ?_
          rintro e ws12 ⟨rfl, hst⟩
          replace H := Lib.hid hst
          clear hst
          go_wp2_with fail
          go_roundw
          case rel => exact ⟨j + 1, insZ l x, na, nc, by omega, by go_num, rfl, H⟩
          case measure => simp [intOf]; omega
end Go.Proofs.Ytkjcofgdilfdkaa
