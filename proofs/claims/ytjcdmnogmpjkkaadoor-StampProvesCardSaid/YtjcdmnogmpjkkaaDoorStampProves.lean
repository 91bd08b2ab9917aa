
/- The walk of StampProves. -/
import Derived.Test.YtjcdmnogmpjkkaaDoorZ92D
import Derived.Test.YtjcdmnogmpjkkaaDoorZ92
namespace Go.Proofs.YtjcdmnogmpjkkaaDoor
set_option maxRecDepth 100000
set_option linter.unusedVariables false
set_option linter.unusedSimpArgs false
set_option linter.unnecessarySimpa false
open Go.RowKit

theorem aC_wf : aC.wf := by unfold Cfg.wf wf64 aC; decide
/-- What has been stamped: a's first k. -/
structure AllA (l : List Rv) (k : Nat) : Prop where
  ok : BkOk l
  len : l.length = k
  has : ∀ g : Int, 1 ≤ g → g ≤ 999999 → (hasK l (revS aN g) = true ↔ g ≤ k)
theorem AllA.nil : AllA [] 0 := ⟨BkOk.nil, rfl, fun g h1 h2 => ⟨fun h => (by obtain ⟨r, hr, _⟩ := hasK_iff.1 h; cases hr), fun h => (by omega)⟩⟩
theorem AllA.put {l : List Rv} {k : Nat} (h : AllA l k) (hk : k ≤ 1000) : newK l aC ((k : Int) + 1) = true ∧ AllA (putK l aC ((k : Int) + 1)) (k + 1) ∧ ∀ r, r ∈ putK l aC ((k : Int) + 1) → r ∈ l ∨ r.pr = false := by
  have hr := a_rev (g := (k : Int) + 1) (by omega) (by omega)
  have hn : hasK l (revS aC.nm ((k : Int) + 1)) = false := by
    cases e : hasK l (revS aC.nm ((k : Int) + 1)) with
    | false => rfl
    | true => have := (h.has _ (by omega) (by omega)).1 e; omega
  refine ⟨by unfold newK; rw [hn]; rfl, ?_, fun r hm => ?_⟩
  · refine ⟨h.ok.put aC_wf hr, by rw [putK_new hn, List.length_append, h.len]; rfl, fun g h1 h2 => ?_⟩
    have ha := a_rev h1 h2
    rw [putK_new hn]
    constructor
    · intro e
      obtain ⟨r, hm, e2⟩ := hasK_iff.1 e
      rcases List.mem_append.1 hm with hm | hm
      · have := (h.has g h1 h2).1 (hasK_iff.2 ⟨r, hm, e2⟩); omega
      · rw [List.mem_singleton] at hm; subst hm
        have := (revS_injK hr ha e2).2
        omega
    · intro hg
      by_cases q : g ≤ k
      · obtain ⟨r, hm, e2⟩ := hasK_iff.1 ((h.has g h1 h2).2 q)
        exact hasK_iff.2 ⟨r, List.mem_append_left _ hm, e2⟩
      · have : g = (k : Int) + 1 := by omega
        subst this
        exact hasK_iff.2 ⟨newR aC ((k : Int) + 1), by simp, rfl⟩
  · rw [putK_new hn] at hm
    rcases List.mem_append.1 hm with hm | hm
    · exact .inl hm
    · rw [List.mem_singleton] at hm; subst hm; exact .inr rfl
theorem hasK_set (l : List Rv) (s t : ByteArray) : hasK (setK l s) t = hasK l t := by unfold hasK; rw [findK_set]; cases findK l t <;> rfl
theorem AllA.set {l : List Rv} {k : Nat} (h : AllA l k) (s : ByteArray) : AllA (setK l s) k := ⟨h.ok.set s, by rw [setK_len]; exact h.len, fun g h1 h2 => by rw [hasK_set]; exact h.has g h1 h2⟩
/-- Just one of them is proved. -/
def OneP (l : List Rv) (s : ByteArray) : Prop := ∀ t, prvK l t = true ↔ t = s ∧ hasK l t = true
theorem prvK_set {l : List Rv} {s t : ByteArray} : prvK (setK l s) t = true ↔ prvK l t = true ∨ (t = s ∧ hasK l t = true) := by
  unfold prvK hasK
  rw [findK_set]
  cases e : findK l t with
  | none => simp
  | some r =>
    have hn := (findK_mem e).2
    simp only [Option.map_some, Option.isSome_some, and_true]
    by_cases q : r.nm = s
    · rw [if_pos q]
      exact ⟨fun _ => .inr (hn.symm.trans q), fun _ => rfl⟩
    · rw [if_neg q]
      exact ⟨.inl, fun h => h.elim id (fun e => absurd (hn.trans e) q)⟩
theorem OneP.first {l : List Rv} {s : ByteArray} (h : ∀ t, prvK l t = false) : OneP (setK l s) s := fun t => by
  rw [prvK_set, hasK_set, h t]; simp
theorem OneP.again {l : List Rv} {s : ByteArray} (h : OneP l s) : OneP (setK l s) s := fun t => by
  rw [prvK_set, hasK_set, h t]; simp
theorem none_proved {l : List Rv} (h : ∀ r, r ∈ l → r.pr = false) (t : ByteArray) : prvK l t = false := by
  unfold prvK
  cases e : findK l t with
  | none => rfl
  | some r => exact h r (findK_mem e).1
set_option maxHeartbeats 64000000 in
theorem walkStampProves (w : World) (n : Int) (hn : wf64 n) (at_ : Int) (ha : wf64 at_) (ag : Int) (hag : wf64 ag) (ht : Tab w) :
    Calls Tryd.prog 6 #[.int .i64 n, .int .i64 at_, .int .i64 ag] w fun e w' => e = .returned (.bool true) ∧ Below w.heap.size w w' := by
  have KN := Lib.hid (known12_any w ht)
  have HT := Lib.hid ht
  have FP := Lib.hid (fun g l => (BkB.foot g l).sep Emp.foot)
  have FE := Lib.hid Emp.foot
  have WN := Lib.hid (fun w => within12_any n 9 w (by omega) (by omega) hn.1 hn.2)
  have rn := withinI_range n 9 (by omega)
  generalize withinI n 9 = n0 at *
  obtain ⟨N, hN⟩ : ∃ N : Nat, 1 + n0 = N := ⟨(1 + n0).toNat, by omega⟩
  have hN1 : 1 ≤ N ∧ N ≤ 9 := by omega
  have wn1 : IntKind.i64.wrap (1 + n0) = N := by rw [hN]; exact IntWalk.i64_in _ ⟨by omega, by omega⟩
  have WA := Lib.hid (fun w => within12_any at_ (N : Int) w (by omega) (by omega) ha.1 ha.2)
  have ra := withinI_range at_ (N : Int) (by omega)
  generalize withinI at_ (N : Int) = a0 at *
  obtain ⟨K, hK⟩ : ∃ K, 1 + a0 = K := ⟨_, rfl⟩
  have hK1 : 1 ≤ K ∧ K ≤ N := by omega
  have wa1 : IntKind.i64.wrap (1 + a0) = K := by rw [hK]; exact IntWalk.i64_in _ ⟨by omega, by omega⟩
  have WG := Lib.hid (fun w => within12_any ag 3 w (by omega) (by omega) hag.1 hag.2)
  have rg := withinI_range ag 3 (by omega)
  generalize withinI ag 3 = A0 at *
  obtain ⟨sk, hsk⟩ : ∃ sk, revS aN K = sk := ⟨_, rfl⟩
  have zk := revS_size aN K
  have RK := Lib.hid (fun w => rrev_any aN K w (by decide))
  rw [hsk] at RK zk
  have HSK := Lib.hid hsk
  clear ht hn ha hag rn hN ra hK hsk
  go_enter Tryd.func6, Tryd.ntmps6
  go_wp2_with fail
  refine KN.out.mono ?_
  rintro e w3 ⟨rfl, hg⟩
  have H := Lib.hid ((Hold.nil w).grow Emp.foot hg)
  clear hg
  go_wp2_with fail
  refine (hold_bknew H.out FE.out).mono ?_
  rintro e w4 ⟨g, rfl, hh⟩
  replace H := Lib.hid hh
  clear hh
  go_wp2_with fail
  refine (WN.out _).mono ?_
  rintro e wx ⟨rfl, rfl⟩
  clear WN
  go_wp2_with fail
  clear wn1
  go_loopw [8] (fun i wr => ∃ (k : Nat) (l : List Rv), k ≤ N ∧ i = .int .i64 ((k : Int) + 1) ∧ Hid (AllA l k) ∧ Hid (∀ r, r ∈ l → r.pr = false) ∧ Hid (Hold w wr [] (Sep (BkB g l) Emp))) (fun i _ => N + 1 - (_root_.Go.RowKit.intOf i).toNat)
  case atStart => exact ⟨0, [], by omega, rfl, Lib.hid AllA.nil, Lib.hid (fun r hr => by cases hr), H⟩
  case round =>
    clear H
    obtain ⟨k, l, hk, rfl, HA, HP, H⟩ := hrel
    have hk1 : IntKind.i64.wrap ((k : Int) + 1 + 1) = (k : Int) + 1 + 1 := IntWalk.i64_in _ ⟨by omega, by omega⟩
    by_cases hlt : k < N
    · have d1 : decide ((k : Int) + 1 ≤ (N : Int)) = true := decide_eq_true (by omega)
      obtain ⟨p1, p2, p3⟩ := HA.out.put (by omega)
      obtain ⟨l1, hl1⟩ : ∃ l1, putK l aC ((k : Int) + 1) = l1 := ⟨_, rfl⟩
      rw [hl1] at p2 p3
      have HA2 := Lib.hid p2
      have HP2 : Hid (∀ r, r ∈ l1 → r.pr = false) := Lib.hid (fun r hr => (p3 r hr).elim (HP.out r) id)
      have H1 := Lib.hid (And.intro p1 hl1)
      have hll := HA.out.len
      clear p1 p2 p3 hl1
      go_wp2_with fail
      refine (hold_bkstamp (bo := true) (l' := l1) H.out FE.out (tabG HT.out H.out.below) aC ((k : Int) + 1) (by decide +kernel) (by omega) (by omega) rfl H1.out.1 H1.out.2).mono ?_
      rintro e w6 ⟨rfl, hh⟩
      replace H := Lib.hid hh
      clear hh H1 HA HP hll
      go_wp2_with fail
      go_roundw
      case rel => exact ⟨k + 1, l1, by omega, by go_num, HA2, HP2, H⟩
      case measure => simp [_root_.Go.RowKit.intOf]; omega
    · obtain rfl : k = N := by omega
      have d1 : decide ((k : Int) + 1 ≤ (k : Int)) = false := decide_eq_false (by omega)
      have hlen := HA.out.len
      go_wp2_with fail
      clear hk1
      refine (WA.out _).mono ?_
      rintro e wx ⟨rfl, rfl⟩
      clear WA
      go_wp2_with fail
      clear wa1
      go_loopw [12] (fun i wr => ∃ (j : Nat) (l : List Rv), j ≤ 3 ∧ i = .int .i64 (j : Int) ∧ Hid (AllA l k) ∧ Hid ((j = 0 → ∀ r, r ∈ l → r.pr = false) ∧ (1 ≤ j → OneP l sk)) ∧ Hid (Hold w wr [] (Sep (BkB g l) Emp))) (fun i _ => 4 - (_root_.Go.RowKit.intOf i).toNat)
      case atStart => exact ⟨0, l, by omega, rfl, HA, Lib.hid ⟨fun _ => HP.out, fun h => by omega⟩, H⟩
      case round =>
        clear H HA HP hlen
        obtain ⟨j, l, hj, rfl, HA, HP, H⟩ := hrel
        have hj1 : IntKind.i64.wrap ((j : Int) + 1) = (j : Int) + 1 := IntWalk.i64_in _ ⟨by omega, by omega⟩
        have hll := HA.out.len
        go_wp2_with fail
        refine (WG.out _).mono ?_
        rintro e wx ⟨rfl, rfl⟩
        by_cases hja : (j : Int) ≤ A0
        · have d2 : decide ((j : Int) ≤ A0) = true := decide_eq_true hja
          have E0 : Hid (errK l sk = 0) := Lib.hid (by unfold errK; rw [← HSK.out, (HA.out.has K (by omega) (by omega)).2 (by omega)]; rfl)
          have HA2 := Lib.hid (HA.out.set sk)
          have HP2 : Hid (OneP (setK l sk) sk) := Lib.hid (by
            by_cases q : j = 0
            · exact OneP.first (none_proved (HP.out.1 q))
            · exact OneP.again (HP.out.2 (by omega)))
          obtain ⟨l1, hl1⟩ : ∃ l1, setK l sk = l1 := ⟨_, rfl⟩
          rw [hl1] at HA2 HP2
          have HL1 := Lib.hid hl1
          clear hl1 HP
          go_wp2_with fail
          refine (RK.out _).mono ?_
          rintro e w7 ⟨rfl, g7⟩
          replace H := Lib.hid (H.out.grow (FP.out _ _) g7)
          clear g7
          go_wp2_with fail
          refine (hold_bkprove (er := 0) (l' := l1) H.out FE.out sk (by omega) (by omega) E0.out HL1.out).mono ?_
          rintro e w8 ⟨rfl, hh⟩
          replace H := Lib.hid hh
          clear hh E0 HL1 HA
          go_wp2_with fail
          go_roundw
          case rel => exact ⟨j + 1, l1, by omega, by go_num, HA2, Lib.hid ⟨fun h => by omega, fun _ => HP2.out⟩, H⟩
          case measure => simp [_root_.Go.RowKit.intOf]; omega
        · have d2 : decide ((j : Int) ≤ A0) = false := decide_eq_false hja
          have HO := Lib.hid (HP.out.2 (by omega))
          clear HP
          go_wp2_with fail
          clear hj1
          go_loopw [13] (fun i wr => ∃ (q : Nat), q ≤ k ∧ i = .int .i64 ((q : Int) + 1) ∧ Hid (Hold w wr [] (Sep (BkB g l) Emp))) (fun i _ => k + 1 - (_root_.Go.RowKit.intOf i).toNat)
          case atStart => exact ⟨0, by omega, rfl, H⟩
          case round =>
            clear H
            obtain ⟨q, hq, rfl, H⟩ := hrel
            have hq1 : IntKind.i64.wrap ((q : Int) + 1 + 1) = (q : Int) + 1 + 1 := IntWalk.i64_in _ ⟨by omega, by omega⟩
            by_cases hlt : q < k
            · have d1 : decide ((q : Int) + 1 ≤ (k : Int)) = true := decide_eq_true (by omega)
              obtain ⟨sg, hsg⟩ : ∃ sg, revS aN ((q : Int) + 1) = sg := ⟨_, rfl⟩
              have zg := revS_size aN ((q : Int) + 1)
              have RG := Lib.hid (fun w => rrev_any aN ((q : Int) + 1) w (by decide))
              rw [hsg] at RG zg
              have hpv : Hid (prvK l sg = ((q : Int) + 1 == K)) := Lib.hid (by
                rw [Bool.eq_iff_iff, HO.out sg, beq_iff_eq, ← hsg, ← HSK.out]
                constructor
                · rintro ⟨e, _⟩
                  exact (revS_injK (a_rev (by omega) (by omega)) (a_rev (by omega) (by omega)) e).2
                · intro e
                  exact ⟨by rw [e], (HA.out.has _ (by omega) (by omega)).2 (by omega)⟩)
              obtain ⟨bb, hbb⟩ : ∃ bb, ((q : Int) + 1 == K) = bb := ⟨_, rfl⟩
              rw [hbb] at hpv
              clear hsg
              go_wp2_with fail
              refine (RG.out _).mono ?_
              rintro e w7 ⟨rfl, g7⟩
              replace H := Lib.hid (H.out.grow (FP.out _ _) g7)
              clear g7
              go_wp2_with fail
              refine (hold_bkproved (bo := bb) H.out FE.out sg (by omega) (by omega) hpv.out).mono ?_
              rintro e w8 ⟨rfl, -, hh⟩
              replace H := Lib.hid hh
              clear hh hpv RG
              have hb0 : (bb != bb) = false := by cases bb <;> rfl
              go_wp2_with fail
              go_roundw
              case rel => exact ⟨q + 1, by omega, by go_num, H⟩
              case measure => simp [_root_.Go.RowKit.intOf]; omega
            · obtain rfl : q = k := by omega
              have d1 : decide ((q : Int) + 1 ≤ (q : Int)) = false := decide_eq_false (by omega)
              have hc := (allK_count HA.out.ok).trans hll
              have HC := Lib.hid hc
              have hpv : Hid (prvK l ⟨#[97, 45, 57, 57]⟩ = false) := Lib.hid (by
                cases e : prvK l ⟨#[97, 45, 57, 57]⟩ with
                | false => rfl
                | true =>
                  have e1 := ((HO.out _).1 e).2
                  rw [show (⟨#[97, 45, 57, 57]⟩ : ByteArray) = revS aN 99 from by decide +kernel] at e1
                  have := (HA.out.has 99 (by omega) (by omega)).1 e1
                  omega)
              clear hc
              go_wp2_with fail
              refine (hold_bkall H.out FE.out (tabG HT.out H.out.below) (by omega)).mono ?_
              rintro e w14 ⟨u, rfl, ho, -, hh⟩
              obtain ⟨ua, uc, rfl⟩ := own_shape ho
              replace H := Lib.hid hh
              clear hh ho
              rw [HC.out]
              go_wp2_with fail
              refine (hold_bkproved (bo := false) H.out FE.out ⟨#[97, 45, 57, 57]⟩ (by decide) (by omega) hpv.out).mono ?_
              rintro e w8 ⟨rfl, -, hh⟩
              replace H := Lib.hid hh
              clear hh hpv
              go_wp2_with fail
              go_ret
              exact ⟨rfl, H.out.below⟩
end Go.Proofs.YtjcdmnogmpjkkaaDoor
