/- My own texts Pd7, laid in one file. -/
import Derived.Test.YtfnpghekkhnjkaaZ56
import Derived.Test.YtfnpghekkhnjkaaZ2

/- damperref7's Take. -/
namespace Go.Proofs.Ytfnpghekkhnjkaa
set_option maxRecDepth 100000
set_option linter.unusedVariables false
set_option linter.unusedSimpArgs false
set_option linter.unnecessarySimpa false
open Go.RowKit Go.MapV Go.Maps

theorem Pd.ok_insL {s : Pd} (h : s.ok) {x : Int} (hx : wf64 x) (h2 : x ∉ s.l) (h3 : (s.l.length : Int) < s.c) : Pd.ok ⟨s.c, s.st, insZ s.l x⟩ := by
  refine ⟨insZ_lt x s.l h.lt h2, fun y hy => ?_, ?_, h.c, h.st⟩
  · rcases (insZ_mem x y s.l).1 hy with rfl | hy
    · exact hx
    · exact h.wf y hy
  · show ((insZ s.l x).length : Int) ≤ s.c
    rw [insZ_len]; omega
/-- What Take leaves. -/
def RTook (w W : World) (g : Nat) (s : Pd) (x : Int) : Prop := ∃ u, RpIn W g ⟨s.c, s.st, insZ s.l x⟩ u ∧ Chg (fun k => k = g) w W ∧ ∀ b, u.ownBlock = some b → w.heap.size ≤ b
theorem RTook.mk {w w6 wz : World} {g : Nat} {s : Pd} {x : Int} {v : Value} {sa : Option Addr} {ca n : Nat} {zs : List Value} (h : RpIn w g s v) (hok : Pd.ok ⟨s.c, s.st, insZ s.l x⟩) (A : Chg (fun j => w.heap.size ≤ j) w w6) (ho : w6.ownsRow w.heap.size 3 1 (.slice sa zs.length ca) zs.length zs) (hz : zs = intsV (insZ s.l x)) (gz : Grow.G (w6.setCell ⟨g, 2, none⟩ (.slice sa n ca)) wz) (hn : zs.length = n) : RTook w wz g s x := by
  subst hn
  generalize hu : Value.slice sa zs.length ca = u at *
  clear hu
  have hl : zs.length = (insZ s.l x).length := by rw [hz]; simp
  rw [hl, hz] at ho
  have h6 := h.chg A (fun k hk q => by have := h.lt k hk; omega)
  obtain ⟨q1, q2⟩ := h6.setL (own_base ho (Nat.zero_le _)) hok
  exact ⟨u, q1.grow gz, ((Chg.grow (A.toGrow (fun k hk q => by have q : w.heap.size ≤ k := q; omega))).trans q2).trans (Chg.grow gz), fun b hb => (ho.lt b hb).1⟩
set_option maxHeartbeats 8000000 in
theorem rptake_any (g : Nat) (s : Pd) (x : Int) (w : World) (F : Nat → Prop) (h : RpP g s w F) (hx : wf64 x) :
    Calls Try.prog 51 #[pz g, .int .i64 x] w fun e w' => e = .returned (.int .i64 (s.take x)) ∧ EndS w w' F (RpP g (s.aftTake x)) := by
  have HP := Lib.hid h
  obtain ⟨v, hI, he⟩ := h
  have HE := Lib.hid he
  have c1 := hI.c1
  have hl := hI.hb.lt
  have HH := Lib.hid (rphas_any g s v x w hI)
  have HI0 := Lib.hid hI
  unfold Pd.aftTake
  by_cases h1 : s.st = 2
  rotate_left
  · have e : s.take x = 9 := if_neg h1
    rw [e, if_neg (by decide)]
    have d0 : (s.st != 2) = true := by simpa using h1
    clear h1 e hI he HH
    go_enter Try.func51, Try.ntmps51
    go_wp2_with fail
    go_returns
    exact ⟨rfl, RpP.same HP.out (Grow.G.refl _)⟩
  have d0 : (s.st != 2) = false := by rw [h1]; rfl
  by_cases h2 : x ∈ s.l
  · have e : s.take x = 5 := by unfold Pd.take; rw [if_pos h1, if_pos h2]
    rw [e, if_neg (by decide)]
    rw [decide_eq_true h2] at HH
    clear h1 e hI he h2
    go_enter Try.func51, Try.ntmps51
    go_wp2_with fail
    refine HH.out.mono ?_
    rintro e w1 ⟨rfl, rfl⟩
    go_wp2_with fail
    go_returns
    exact ⟨rfl, RpP.same HP.out (Grow.G.refl _)⟩
  rw [decide_eq_false h2] at HH
  obtain ⟨a, c, rfl⟩ := hI.sl
  have KC := Lib.hid (fun (w' : World) (h : Chg (fun _ => False) w w') => (⟨h.cell hI.c0 id, h.cell hI.c2 id, trivial⟩ : w'.cell? ⟨g, 0, none⟩ = some (.int .i64 s.c) ∧ w'.cell? ⟨g, 2, none⟩ = some (.slice a s.l.length c) ∧ True))
  by_cases h3 : s.c ≤ s.l.length
  · have e : s.take x = 8 := by unfold Pd.take; rw [if_pos h1, if_neg h2, if_pos h3]
    rw [e, if_neg (by decide)]
    have d1 : decide (s.c ≤ (s.l.length : Int)) = true := decide_eq_true h3
    clear h1 e hI he h2 h3
    go_enter Try.func51, Try.ntmps51
    go_wp2_with fail
    refine HH.out.mono ?_
    rintro e w1 ⟨rfl, rfl⟩
    go_wp2_with fail
    refine wp_spec (fun a0 A W => ∃ x17 x18 x19 x20 x21 x22 x23 x24 x25 x26 : Value, A = (((((((((((a0.put (some 16) (.bool true)).put (some 17) x17).put (some 18) x18).put (some 19) x19).put (some 20) x20).put (some 21) x21).put (some 22) x22).put (some 23) x23).put (some 24) x24).put (some 25) x25).put (some 26) x26) ∧ Grow.G w W) ?_ ?_
    all_goals simp only [Act.put, L0, L1, L2]
    ·
      refine Evo2.start' (ℓ := none) (S := Chg (fun _ => False)) (E := Grow.G) (by kernel_rfl) ⟨Chg.pre _, by decide +kernel, (by intro c a d v w h; cases d <;> exact h), by decide +kernel⟩ (fun ok => ?_)
      refine Evo2.va ok 0 _ _ ?_
      refine Evo2.va ok 1 _ _ ?_
      refine Evo2.va ok 2 _ _ ?_
      first | (refine Evo2.vl ok 3 KC.out (Chg.refl (fun _ => False) _) _ _ ?_) | (refine Evo2.va ok 3 _ _ ?_)
      refine Evo2.va ok 4 _ _ ?_
      refine Evo2.va ok 5 _ _ ?_
      refine Evo2.va ok 6 _ _ ?_
      refine Evo2.va ok 7 _ _ ?_
      first | (refine Evo2.vl ok 8 KC.out (Chg.refl (fun _ => False) _) _ _ ?_) | (refine Evo2.va ok 8 _ _ ?_)
      refine Evo2.va ok 9 _ _ ?_
      refine Evo2.va ok 10 _ _ ?_
      refine Evo2.done (by decide +kernel) (fun wz gz => ?_)
      have AZ := Chg.trans (Chg.refl (fun _ => False) _) (Chg.grow gz)
      dsimp only [PostN] 
      (repeat apply Exists.intro) 
      exact ⟨rfl, AZ.toGrow (fun _ _ => id)⟩
    ·
      rintro A W2 ⟨x17, x18, x19, x20, x21, x22, x23, x24, x25, x26, rfl, g2⟩
      go_wp2_with fail
      go_returns
      exact ⟨rfl, RpP.same HP.out g2⟩
  have e : s.take x = 0 := by unfold Pd.take; rw [if_pos h1, if_neg h2, if_neg h3]
  rw [e, if_pos rfl]
  have d1 : decide (s.c ≤ (s.l.length : Int)) = false := decide_eq_false h3
  have OK := Lib.hid (Pd.ok_insL hI.ok hx h2 (by omega))
  have hN : s.l.length ≤ 1000 := by have h1 := hI.ok.len; have h2 := hI.ok.c; omega
  obtain ⟨i0, hi, ha0, ha1, ha2⟩ := info_parts infoInt7
  have HI := Lib.hid (And.intro hi (And.intro ha0 (And.intro ha1 ha2)))
  clear h1 e hI he h2 h3 hi ha0 ha1 ha2
  go_enter Try.func51, Try.ntmps51
  go_wp2_with fail
  refine HH.out.mono ?_
  rintro e w1 ⟨rfl, rfl⟩
  clear HH
  go_wp2_with fail
  refine wp_spec (fun a0 A W => ∃ x17 x18 x19 x20 x21 x22 x23 x24 x25 x26 : Value, A = (((((((((((a0.put (some 16) (.bool false)).put (some 17) x17).put (some 18) x18).put (some 19) x19).put (some 20) x20).put (some 21) x21).put (some 22) x22).put (some 23) x23).put (some 24) x24).put (some 25) x25).put (some 26) x26) ∧ Grow.G w W) ?_ ?_
  all_goals simp only [Act.put, L0, L1, L2]
  ·
    refine Evo2.start' (ℓ := none) (S := Chg (fun _ => False)) (E := Grow.G) (by kernel_rfl) ⟨Chg.pre _, by decide +kernel, (by intro c a d v w h; cases d <;> exact h), by decide +kernel⟩ (fun ok => ?_)
    refine Evo2.va ok 0 _ _ ?_
    refine Evo2.va ok 1 _ _ ?_
    refine Evo2.va ok 2 _ _ ?_
    first | (refine Evo2.vl ok 3 KC.out (Chg.refl (fun _ => False) _) _ _ ?_) | (refine Evo2.va ok 3 _ _ ?_)
    refine Evo2.va ok 4 _ _ ?_
    refine Evo2.va ok 5 _ _ ?_
    refine Evo2.va ok 6 _ _ ?_
    refine Evo2.va ok 7 _ _ ?_
    first | (refine Evo2.vl ok 8 KC.out (Chg.refl (fun _ => False) _) _ _ ?_) | (refine Evo2.va ok 8 _ _ ?_)
    refine Evo2.va ok 9 _ _ ?_
    refine Evo2.va ok 10 _ _ ?_
    refine Evo2.done (by decide +kernel) (fun wz gz => ?_)
    have AZ := Chg.trans (Chg.refl (fun _ => False) _) (Chg.grow gz)
    dsimp only [PostN] 
    (repeat apply Exists.intro) 
    exact ⟨rfl, AZ.toGrow (fun _ _ => id)⟩
  ·
    rintro A W2 ⟨x17, x18, x19, x20, x21, x22, x23, x24, x25, x26, rfl, g2⟩
    have H2 := HI0.out.grow g2
    have hl2 := H2.hb.lt
    have c2 := H2.c2
    have HR := Lib.hid (own_ints H2.ho)
    have HO := Lib.hid H2.ho
    have H2 := Lib.hid H2
    have G2 := Lib.hid g2
    clear KC g2 c1 hl d0 d1
    go_wp2_with fail
    refine wp_specE ?id (fun a0 A W => ∃ x27 x28 x29 x30 x31 x32 x33 x34 x35 x36 x37 x38 x39 x40 x41 x42 x43 x44 x45 x46 : Value, ∃ (k : Nat), A = (((((((((((((((((((((a0.put (some 5) (.int .i64 k)).put (some 27) x27).put (some 28) x28).put (some 29) x29).put (some 30) x30).put (some 31) x31).put (some 32) x32).put (some 33) x33).put (some 34) x34).put (some 35) x35).put (some 36) x36).put (some 37) x37).put (some 38) x38).put (some 39) x39).put (some 40) x40).put (some 41) x41).put (some 42) x42).put (some 43) x43).put (some 44) x44).put (some 45) x45).put (some 46) x46) ∧ k ≤ s.l.length ∧ W = W2 ∧ Hid (insZ s.l x = s.l.take k ++ x :: s.l.drop k)) ?_ ?_
    all_goals simp only [Act.put, L0, L1, L2]
    · go_loopw [5] (fun i wr => ∃ k : Nat, k ≤ s.l.length ∧ i = .int .i64 k ∧ wr = W2 ∧ Hid (∀ y, y ∈ s.l.take k → y < x)) (fun i _ => s.l.length - (_root_.Go.RowKit.intOf i).toNat)
      case atStart => exact ⟨0, by omega, rfl, rfl, Lib.hid (fun y hy => by simp at hy)⟩
      case round =>
        obtain ⟨k, hk, rfl, rfl, HX⟩ := hrel
        by_cases hlt : k < s.l.length
        · obtain ⟨y, hy⟩ : ∃ y, s.l[k]? = some y := ⟨_, List.getElem?_eq_getElem hlt⟩
          obtain ⟨g3, rfl, hc, hg2, hcl⟩ := HR.out.resolve_left (fun e => by rw [e.2.2] at hlt; simp at hlt)
          have cy := hcl k y hy
          have d0 : decide ((k : Int) < (s.l.length : Int)) = true := decide_eq_true (by omega)
          have hk1 : IntKind.i64.wrap ((k : Int) + 1) = (k : Int) + 1 := IntWalk.i64_in _ ⟨by omega, by omega⟩
          have k1 : (0 : Int) ≤ (k : Int) := by omega
          have k2 : (k : Int) < (s.l.length : Int) := by omega
          by_cases e : y < x
          · have d1 : decide (y < x) = true := decide_eq_true e
            have HX2 : Hid (∀ z, z ∈ s.l.take (k + 1) → z < x) := Lib.hid (by
              rw [List.take_add_one, hy]
              intro z q
              rcases List.mem_append.1 q with q | q
              · exact HX.out z q
              · have q : z = y := by simpa using q
                rw [q]; exact e)
            clear hcl hy e HX
            go_wp2_with fail
            go_roundw
            case rel => exact ⟨k + 1, by omega, by go_num, trivial, HX2⟩
            case measure => simp [_root_.Go.RowKit.intOf]; omega
          · have d1 : decide (y < x) = false := decide_eq_false e
            have RES : Hid (insZ s.l x = s.l.take k ++ x :: s.l.drop k) := Lib.hid (insZ_at HX.out (fun z hz => by
              rw [List.head?_drop, hy] at hz
              cases hz
              exact e))
            clear hcl hy e HX
            go_wp2_with fail
            dsimp only [PostE]
            refine ⟨rfl, ?_⟩
            (repeat apply Exists.intro)
            exact ⟨rfl, by omega, rfl, RES⟩
        · obtain rfl : k = s.l.length := by omega
          have d0 : decide ((s.l.length : Int) < (s.l.length : Int)) = false := decide_eq_false (by omega)
          have RES : Hid (insZ s.l x = s.l.take s.l.length ++ x :: s.l.drop s.l.length) := Lib.hid (insZ_at HX.out (fun z hz => by
            rw [List.drop_length] at hz; cases hz))
          clear HX
          go_wp2_with fail
          dsimp only [PostE]
          refine ⟨rfl, ?_⟩
          (repeat apply Exists.intro)
          exact ⟨rfl, by omega, rfl, RES⟩
    ·
      rintro A W3 ⟨x27, x28, x29, x30, x31, x32, x33, x34, x35, x36, x37, x38, x39, x40, x41, x42, x43, x44, x45, x46, k, rfl, hk, rfl, RES⟩
      have KC := Lib.hid (fun (w' : World) (h : Chg (fun j => W3.heap.size ≤ j) W3 w') => (⟨h.cell H2.out.c2 (by omega), trivial⟩ : w'.cell? ⟨g, 2, none⟩ = some (.slice a s.l.length c) ∧ True))
      have BQH := Lib.hid (fun (w' : World) (h : Chg (fun j => W3.heap.size ≤ j) W3 w') => H2.out.hb.chg h (by omega))
      have LA : Hid (((s.l.take k).map (Value.int .i64)).length = k) := Lib.hid (by rw [List.length_map, List.length_take]; omega)
      have LB : Hid (((s.l.drop k).map (Value.int .i64)).length = s.l.length - k) := Lib.hid (by rw [List.length_map, List.length_drop])
      have hs1 : (k : Int) ≤ (s.l.length : Int) := by omega
      have EZ : Hid (((s.l.take k).map (Value.int .i64) ++ [Value.int .i64 x]) ++ (s.l.drop k).map (Value.int .i64) = intsV (insZ s.l x)) := Lib.hid (by rw [RES.out]; simp [intsV])
      have FIN : Hid (∀ W, RTook W3 W g s x → EndS w W F (RpP g ⟨s.c, s.st, insZ s.l x⟩)) := Lib.hid (by
        rintro W ⟨u, q1, q2, q3⟩
        exact RpP.fin HE.out q1 (((Chg.grow G2.out).trans q2).mono fun k _ e => .inl e) (fun b hb => .inr (Nat.le_trans G2.out.size (q3 b hb))))
      rcases HR.out with ⟨rfl, rfl, hnil⟩ | ⟨g3, rfl, hc, hg3, hcl⟩
      · have hln : s.l.length = 0 := by rw [hnil]; rfl
        obtain rfl : k = 0 := by omega
        have SA : Hid (Fr.Src W3 none ((s.l.take 0).map (Value.int .i64))) := Lib.hid (.inl ⟨rfl, by rw [hnil]; rfl⟩)
        have SB : Hid (Fr.Src W3 none ((s.l.drop 0).map (Value.int .i64))) := Lib.hid (.inl ⟨rfl, by rw [hnil]; rfl⟩)
        clear hnil HR c2
        rw [hln] at KC LB hs1 HO
        clear hln
        go_wp2_with fail
        have TW := Lib.hid (TwoV.none (T := 3) W3)
        refine wp_spec (fun a0 A W => ∃ x47 x48 x49 x50 x51 x52 x53 x54 x55 x56 x57 x58 x59 x60 x61 x62 x63 x64 x65 x66 x67 : Value, A = (((((((((((((((((((((a0.put (some 47) x47).put (some 48) x48).put (some 49) x49).put (some 50) x50).put (some 51) x51).put (some 52) x52).put (some 53) x53).put (some 54) x54).put (some 55) x55).put (some 56) x56).put (some 57) x57).put (some 58) x58).put (some 59) x59).put (some 60) x60).put (some 61) x61).put (some 62) x62).put (some 63) x63).put (some 64) x64).put (some 65) x65).put (some 66) x66).put (some 67) x67) ∧ Hid (RTook W3 W g s x)) ?_ ?_
        all_goals simp only [Act.put, L0, L1, L2]
        ·
          refine Evo2.start' (ℓ := some 21) (S := Chg (fun j => W3.heap.size ≤ j)) (E := Grow.G) (by kernel_rfl) ⟨Chg.pre _, by decide +kernel, (by intro c a d v w h; cases d <;> exact h), by decide +kernel⟩ (fun ok => ?_)
          refine Evo2.va ok 0 _ _ ?_
          refine Evo2.va ok 2 _ _ ?_
          refine Evo2.va ok 3 _ _ ?_
          refine Evo2.va ok 4 _ _ ?_
          first | (refine Evo2.vl ok 5 KC.out (Chg.refl (fun j => W3.heap.size ≤ j) _) _ _ ?_) | (refine Evo2.va ok 5 _ _ ?_)
          refine Evo2.va ok 6 _ _ ?_
          refine Evo2.va ok 7 _ _ ?_
          refine Evo2.va ok 9 _ _ ?_
          refine Evo2.va ok 12 _ _ ?_
          refine Evo2.va ok 13 _ _ ?_
          refine Evo2.va ok 14 _ _ ?_
          first | (refine Evo2.vl ok 15 KC.out (Chg.refl (fun j => W3.heap.size ≤ j) _) _ _ ?_) | (refine Evo2.va ok 15 _ _ ?_)
          refine Evo2.va ok 16 _ _ ?_
          refine Evo2.va ok 17 _ _ ?_
          refine Evo2.all [1, 10] (by decide +kernel) rfl ?_
          intro wp1 gp1 iq hq
          simp only [List.mem_cons, List.mem_nil_iff, or_false] at hq
          have AP1 := Chg.trans (Chg.refl (fun j => W3.heap.size ≤ j) _) (Chg.grow gp1)
          have TW := Lib.hid (TW.out.grow gp1)
          rcases hq with rfl | rfl
          ·
            refine Evo2.runs (by rfl) (by rfl) (fun K' hK' => ?_)
            (try obtain ⟨q1, q2⟩ := KC.out wp1 AP1)
            go_simp
            (try (simp only [Evo.after_value, Evo.after_skip]))
            refine hK'.out _ _ ?_
            clear hK'
            simp only [Act.put, L0, L1, L2]
            (try clear q1 q2)
            refine ⟨.inr (Chg.alloc (Chg.refl _ _) _), ?_⟩
            generalize hG1 : World.alloc wp1 _ = wg1
            have GG1 : Grow.G wp1 wg1 := hG1 ▸ Grow.G.alloc (Grow.G.refl _) _
            have NC1 := (congrArg (fun W : World => W.heap[wp1.heap.size]?) hG1).symm.trans (MapKept.heap_alloc wp1 _).1
            have NL1 : wp1.heap.size < wg1.heap.size := by rw [← hG1]; simp
            clear hG1
            have TW := Lib.hid (TW.out.newL (xs := []) (n := 0) GG1 NC1 rfl (by decide))
            refine Evo2.all [8, 10] (by decide +kernel) rfl ?_
            intro wp2 gp2 iq hq
            simp only [List.mem_cons, List.mem_nil_iff, or_false] at hq
            have AP2 := Chg.trans (Chg.trans AP1 (Chg.grow GG1)) (Chg.grow gp2)
            have TW := Lib.hid (TW.out.grow gp2)
            have NC1 := (gp2.block _ NL1).trans NC1
            have NL1 := Nat.lt_of_lt_of_le NL1 gp2.size
            rcases hq with rfl | rfl
            ·
              refine Fr.own_src (by rfl) (by rfl) (Operand.tmp 48) (Operand.tmp 54) 22 (by rfl) W3.heap.size 3 i0 (.int .i64 0) 1 8 Try.underlying22 HI.out.1 HI.out.2.1 HI.out.2.2.1 HI.out.2.2.2 rfl (by decide) _ _ _ (by rfl) TW.out.l _ _ _ ((s.l.take 0).map (Value.int .i64)) (by rfl) (by rw [Nat.mul_one]; exact LA.out) (SA.out.grow (AP2.toGrow (fun j hj q => by have q : W3.heap.size ≤ j := q; omega))) ?_ ?_ ?_ TW.out.b ?_ 
              · intro u hu; first | (obtain ⟨z, _, rfl⟩ := List.mem_map.1 hu; rfl) | (rw [List.mem_singleton] at hu; subst hu; rfl) 
              · (unfold maxLen; first | (simp; done) | (simp; omega)) 
              · (first | (simp; done) | (simp; omega))
              intro vw2 wc2 OW2 fr2
              have OX2 := own_app2 (zs := (s.l.take 0).map (Value.int .i64)) rfl (LA.out) OW2; obtain ⟨sa2, ca2, rfl⟩ := own_shape OX2; have CH2 := TW.out.chgL fr2; have TW := Lib.hid (TW.out.left fr2 OX2)
              refine ⟨.inr CH2, ?_⟩
              have AC2 := Chg.trans AP2 CH2
              simp only [Act.put, L0, L1, L2]
              refine Evo2.all [10] (by decide +kernel) rfl ?_
              intro wp3 gp3 iq hq
              simp only [List.mem_cons, List.mem_nil_iff, or_false] at hq
              have AP3 := Chg.trans AC2 (Chg.grow gp3)
              have TW := Lib.hid (TW.out.grow gp3)
              subst hq
              refine Evo2.runs (by rfl) (by rfl) (fun K' hK' => ?_)
              (try obtain ⟨q1, q2⟩ := KC.out wp3 AP3)
              go_simp
              (try (simp only [Evo.after_value, Evo.after_skip]))
              refine hK'.out _ _ ?_
              clear hK'
              simp only [Act.put, L0, L1, L2]
              (try clear q1 q2)
              refine ⟨.inr (Chg.alloc (Chg.refl _ _) _), ?_⟩
              generalize hG3 : World.alloc wp3 _ = wg3
              have GG3 : Grow.G wp3 wg3 := hG3 ▸ Grow.G.alloc (Grow.G.refl _) _
              have NC3 := (congrArg (fun W : World => W.heap[wp3.heap.size]?) hG3).symm.trans (MapKept.heap_alloc wp3 _).1
              have NL3 : wp3.heap.size < wg3.heap.size := by rw [← hG3]; simp
              clear hG3
              have TW := Lib.hid (TW.out.newR (ys := [.int .i64 x]) (n := 1) GG3 NC3 rfl (by decide))
              refine Evo2.all [11] (by decide +kernel) rfl ?_
              intro wp4 gp4 iq hq
              simp only [List.mem_cons, List.mem_nil_iff, or_false] at hq
              have AP4 := Chg.trans (Chg.trans AP3 (Chg.grow GG3)) (Chg.grow gp4)
              have TW := Lib.hid (TW.out.grow gp4)
              have NC3 := (gp4.block _ NL3).trans NC3
              have NL3 := Nat.lt_of_lt_of_le NL3 gp4.size
              subst hq
              refine Fr.own_src (by rfl) (by rfl) (Operand.tmp 55) (Operand.tmp 57) 22 (by rfl) W3.heap.size 3 i0 (.int .i64 0) 1 8 Try.underlying22 HI.out.1 HI.out.2.1 HI.out.2.2.1 HI.out.2.2.2 rfl (by decide) _ _ _ (by rfl) TW.out.l _ _ _ ([Value.int .i64 x]) (by rfl) (rfl) (own_src0 TW.out.r) ?_ ?_ ?_ TW.out.b ?_ 
              · intro u hu; first | (obtain ⟨z, _, rfl⟩ := List.mem_map.1 hu; rfl) | (rw [List.mem_singleton] at hu; subst hu; rfl) 
              · (unfold maxLen; first | (simp; done) | (simp; omega)) 
              · (first | (simp; done) | (simp; omega))
              intro vw4 wc4 OW4 fr4
              have OX4 := own_app2 (zs := (s.l.take 0).map (Value.int .i64) ++ [Value.int .i64 x]) rfl (rfl) OW4; obtain ⟨sa4, ca4, rfl⟩ := own_shape OX4; have CH4 := TW.out.chgL fr4; have TW := Lib.hid (TW.out.left fr4 OX4)
              refine ⟨.inr CH4, ?_⟩
              have AC4 := Chg.trans AP4 CH4
              simp only [Act.put, L0, L1, L2]
              refine Evo2.all [18] (by decide +kernel) rfl ?_
              intro wp5 gp5 iq hq
              simp only [List.mem_cons, List.mem_nil_iff, or_false] at hq
              have AP5 := Chg.trans AC4 (Chg.grow gp5)
              have TW := Lib.hid (TW.out.grow gp5)
              subst hq
              refine Fr.own_src (by rfl) (by rfl) (Operand.tmp 58) (Operand.tmp 64) 22 (by rfl) W3.heap.size 3 i0 (.int .i64 0) 1 8 Try.underlying22 HI.out.1 HI.out.2.1 HI.out.2.2.1 HI.out.2.2.2 rfl (by decide) _ _ _ (by rfl) TW.out.l _ _ _ ((s.l.drop 0).map (Value.int .i64)) (by rfl) (by rw [Nat.mul_one]; exact LB.out) (SB.out.grow (AP5.toGrow (fun j hj q => by have q : W3.heap.size ≤ j := q; omega))) ?_ ?_ ?_ TW.out.b ?_ 
              · intro u hu; first | (obtain ⟨z, _, rfl⟩ := List.mem_map.1 hu; rfl) | (rw [List.mem_singleton] at hu; subst hu; rfl) 
              · (unfold maxLen; first | (simp; done) | (simp; omega)) 
              · (first | (simp; done) | (simp; omega))
              intro vw5 wc5 OW5 fr5
              have OX5 := own_app2 (zs := ((s.l.take 0).map (Value.int .i64) ++ [Value.int .i64 x]) ++ (s.l.drop 0).map (Value.int .i64)) rfl (LB.out) OW5; obtain ⟨sa5, ca5, rfl⟩ := own_shape OX5; have CH5 := TW.out.chgL fr5; have TW := Lib.hid (TW.out.left fr5 OX5)
              refine ⟨.inr CH5, ?_⟩
              have AC5 := Chg.trans AP5 CH5
              simp only [Act.put, L0, L1, L2]
              refine Evo2.va ok 19 _ _ ?_
              refine Evo2.va ok 20 _ _ ?_
              refine Evo2.all [21] (by decide +kernel) rfl ?_
              intro wp6 gp6 iq hq
              simp only [List.mem_cons, List.mem_nil_iff, or_false] at hq
              have AP6 := Chg.trans AC5 (Chg.grow gp6)
              have TW := Lib.hid (TW.out.grow gp6)
              subst hq
              refine Evo2.runs (by rfl) (by rfl) (fun K' hK' => ?_)
              (try obtain ⟨q1, q2⟩ := KC.out wp6 AP6)
              have BQ := BQH.out _ AP6; have gl := BQ.lt; have f0 := BQ.free 2; clear BQ
              go_simp
              (try (simp only [Evo.after_value, Evo.after_skip]))
              refine hK'.out _ _ ?_
              clear hK'
              simp only [Act.put, L0, L1, L2]
              (try clear gl f0)
              (try clear q1 q2)
              refine ⟨.inl (by first | rfl | trivial), ?_⟩
              refine Evo2.done (by decide +kernel) (fun wz gz => ?_)
              dsimp only [PostN] 
              (repeat apply Exists.intro) 
              exact ⟨rfl, Lib.hid (RTook.mk H2.out OK.out AP6 TW.out.l EZ.out gz (by first | (simp; done) | (simp; omega)))⟩
            ·
              refine Evo2.runs (by rfl) (by rfl) (fun K' hK' => ?_)
              (try obtain ⟨q1, q2⟩ := KC.out wp2 AP2)
              go_simp
              (try (simp only [Evo.after_value, Evo.after_skip]))
              refine hK'.out _ _ ?_
              clear hK'
              simp only [Act.put, L0, L1, L2]
              (try clear q1 q2)
              refine ⟨.inr (Chg.alloc (Chg.refl _ _) _), ?_⟩
              generalize hG2 : World.alloc wp2 _ = wg2
              have GG2 : Grow.G wp2 wg2 := hG2 ▸ Grow.G.alloc (Grow.G.refl _) _
              have NC1 := (GG2.block _ NL1).trans NC1
              have NL1 := Nat.lt_of_lt_of_le NL1 GG2.size
              have NC2 := (congrArg (fun W : World => W.heap[wp2.heap.size]?) hG2).symm.trans (MapKept.heap_alloc wp2 _).1
              have NL2 : wp2.heap.size < wg2.heap.size := by rw [← hG2]; simp
              clear hG2
              have TW := Lib.hid (TW.out.newR (ys := [.int .i64 x]) (n := 1) GG2 NC2 rfl (by decide))
              refine Evo2.all [8] (by decide +kernel) rfl ?_
              intro wp3 gp3 iq hq
              simp only [List.mem_cons, List.mem_nil_iff, or_false] at hq
              have AP3 := Chg.trans (Chg.trans AP2 (Chg.grow GG2)) (Chg.grow gp3)
              have TW := Lib.hid (TW.out.grow gp3)
              have NC1 := (gp3.block _ NL1).trans NC1
              have NL1 := Nat.lt_of_lt_of_le NL1 gp3.size
              have NC2 := (gp3.block _ NL2).trans NC2
              have NL2 := Nat.lt_of_lt_of_le NL2 gp3.size
              subst hq
              refine Fr.own_src (by rfl) (by rfl) (Operand.tmp 48) (Operand.tmp 54) 22 (by rfl) W3.heap.size 3 i0 (.int .i64 0) 1 8 Try.underlying22 HI.out.1 HI.out.2.1 HI.out.2.2.1 HI.out.2.2.2 rfl (by decide) _ _ _ (by rfl) TW.out.l _ _ _ ((s.l.take 0).map (Value.int .i64)) (by rfl) (by rw [Nat.mul_one]; exact LA.out) (SA.out.grow (AP3.toGrow (fun j hj q => by have q : W3.heap.size ≤ j := q; omega))) ?_ ?_ ?_ TW.out.b ?_ 
              · intro u hu; first | (obtain ⟨z, _, rfl⟩ := List.mem_map.1 hu; rfl) | (rw [List.mem_singleton] at hu; subst hu; rfl) 
              · (unfold maxLen; first | (simp; done) | (simp; omega)) 
              · (first | (simp; done) | (simp; omega))
              intro vw3 wc3 OW3 fr3
              have OX3 := own_app2 (zs := (s.l.take 0).map (Value.int .i64)) rfl (LA.out) OW3; obtain ⟨sa3, ca3, rfl⟩ := own_shape OX3; have CH3 := TW.out.chgL fr3; have TW := Lib.hid (TW.out.left fr3 OX3)
              refine ⟨.inr CH3, ?_⟩
              have AC3 := Chg.trans AP3 CH3
              simp only [Act.put, L0, L1, L2]
              refine Evo2.all [11] (by decide +kernel) rfl ?_
              intro wp4 gp4 iq hq
              simp only [List.mem_cons, List.mem_nil_iff, or_false] at hq
              have AP4 := Chg.trans AC3 (Chg.grow gp4)
              have TW := Lib.hid (TW.out.grow gp4)
              subst hq
              refine Fr.own_src (by rfl) (by rfl) (Operand.tmp 55) (Operand.tmp 57) 22 (by rfl) W3.heap.size 3 i0 (.int .i64 0) 1 8 Try.underlying22 HI.out.1 HI.out.2.1 HI.out.2.2.1 HI.out.2.2.2 rfl (by decide) _ _ _ (by rfl) TW.out.l _ _ _ ([Value.int .i64 x]) (by rfl) (rfl) (own_src0 TW.out.r) ?_ ?_ ?_ TW.out.b ?_ 
              · intro u hu; first | (obtain ⟨z, _, rfl⟩ := List.mem_map.1 hu; rfl) | (rw [List.mem_singleton] at hu; subst hu; rfl) 
              · (unfold maxLen; first | (simp; done) | (simp; omega)) 
              · (first | (simp; done) | (simp; omega))
              intro vw4 wc4 OW4 fr4
              have OX4 := own_app2 (zs := (s.l.take 0).map (Value.int .i64) ++ [Value.int .i64 x]) rfl (rfl) OW4; obtain ⟨sa4, ca4, rfl⟩ := own_shape OX4; have CH4 := TW.out.chgL fr4; have TW := Lib.hid (TW.out.left fr4 OX4)
              refine ⟨.inr CH4, ?_⟩
              have AC4 := Chg.trans AP4 CH4
              simp only [Act.put, L0, L1, L2]
              refine Evo2.all [18] (by decide +kernel) rfl ?_
              intro wp5 gp5 iq hq
              simp only [List.mem_cons, List.mem_nil_iff, or_false] at hq
              have AP5 := Chg.trans AC4 (Chg.grow gp5)
              have TW := Lib.hid (TW.out.grow gp5)
              subst hq
              refine Fr.own_src (by rfl) (by rfl) (Operand.tmp 58) (Operand.tmp 64) 22 (by rfl) W3.heap.size 3 i0 (.int .i64 0) 1 8 Try.underlying22 HI.out.1 HI.out.2.1 HI.out.2.2.1 HI.out.2.2.2 rfl (by decide) _ _ _ (by rfl) TW.out.l _ _ _ ((s.l.drop 0).map (Value.int .i64)) (by rfl) (by rw [Nat.mul_one]; exact LB.out) (SB.out.grow (AP5.toGrow (fun j hj q => by have q : W3.heap.size ≤ j := q; omega))) ?_ ?_ ?_ TW.out.b ?_ 
              · intro u hu; first | (obtain ⟨z, _, rfl⟩ := List.mem_map.1 hu; rfl) | (rw [List.mem_singleton] at hu; subst hu; rfl) 
              · (unfold maxLen; first | (simp; done) | (simp; omega)) 
              · (first | (simp; done) | (simp; omega))
              intro vw5 wc5 OW5 fr5
              have OX5 := own_app2 (zs := ((s.l.take 0).map (Value.int .i64) ++ [Value.int .i64 x]) ++ (s.l.drop 0).map (Value.int .i64)) rfl (LB.out) OW5; obtain ⟨sa5, ca5, rfl⟩ := own_shape OX5; have CH5 := TW.out.chgL fr5; have TW := Lib.hid (TW.out.left fr5 OX5)
              refine ⟨.inr CH5, ?_⟩
              have AC5 := Chg.trans AP5 CH5
              simp only [Act.put, L0, L1, L2]
              refine Evo2.va ok 19 _ _ ?_
              refine Evo2.va ok 20 _ _ ?_
              refine Evo2.all [21] (by decide +kernel) rfl ?_
              intro wp6 gp6 iq hq
              simp only [List.mem_cons, List.mem_nil_iff, or_false] at hq
              have AP6 := Chg.trans AC5 (Chg.grow gp6)
              have TW := Lib.hid (TW.out.grow gp6)
              subst hq
              refine Evo2.runs (by rfl) (by rfl) (fun K' hK' => ?_)
              (try obtain ⟨q1, q2⟩ := KC.out wp6 AP6)
              have BQ := BQH.out _ AP6; have gl := BQ.lt; have f0 := BQ.free 2; clear BQ
              go_simp
              (try (simp only [Evo.after_value, Evo.after_skip]))
              refine hK'.out _ _ ?_
              clear hK'
              simp only [Act.put, L0, L1, L2]
              (try clear gl f0)
              (try clear q1 q2)
              refine ⟨.inl (by first | rfl | trivial), ?_⟩
              refine Evo2.done (by decide +kernel) (fun wz gz => ?_)
              dsimp only [PostN] 
              (repeat apply Exists.intro) 
              exact ⟨rfl, Lib.hid (RTook.mk H2.out OK.out AP6 TW.out.l EZ.out gz (by first | (simp; done) | (simp; omega)))⟩
          ·
            refine Evo2.runs (by rfl) (by rfl) (fun K' hK' => ?_)
            (try obtain ⟨q1, q2⟩ := KC.out wp1 AP1)
            go_simp
            (try (simp only [Evo.after_value, Evo.after_skip]))
            refine hK'.out _ _ ?_
            clear hK'
            simp only [Act.put, L0, L1, L2]
            (try clear q1 q2)
            refine ⟨.inr (Chg.alloc (Chg.refl _ _) _), ?_⟩
            generalize hG1 : World.alloc wp1 _ = wg1
            have GG1 : Grow.G wp1 wg1 := hG1 ▸ Grow.G.alloc (Grow.G.refl _) _
            have NC1 := (congrArg (fun W : World => W.heap[wp1.heap.size]?) hG1).symm.trans (MapKept.heap_alloc wp1 _).1
            have NL1 : wp1.heap.size < wg1.heap.size := by rw [← hG1]; simp
            clear hG1
            have TW := Lib.hid (TW.out.newR (ys := [.int .i64 x]) (n := 1) GG1 NC1 rfl (by decide))
            refine Evo2.all [1] (by decide +kernel) rfl ?_
            intro wp2 gp2 iq hq
            simp only [List.mem_cons, List.mem_nil_iff, or_false] at hq
            have AP2 := Chg.trans (Chg.trans AP1 (Chg.grow GG1)) (Chg.grow gp2)
            have TW := Lib.hid (TW.out.grow gp2)
            have NC1 := (gp2.block _ NL1).trans NC1
            have NL1 := Nat.lt_of_lt_of_le NL1 gp2.size
            subst hq
            refine Evo2.runs (by rfl) (by rfl) (fun K' hK' => ?_)
            (try obtain ⟨q1, q2⟩ := KC.out wp2 AP2)
            go_simp
            (try (simp only [Evo.after_value, Evo.after_skip]))
            refine hK'.out _ _ ?_
            clear hK'
            simp only [Act.put, L0, L1, L2]
            (try clear q1 q2)
            refine ⟨.inr (Chg.alloc (Chg.refl _ _) _), ?_⟩
            generalize hG2 : World.alloc wp2 _ = wg2
            have GG2 : Grow.G wp2 wg2 := hG2 ▸ Grow.G.alloc (Grow.G.refl _) _
            have NC1 := (GG2.block _ NL1).trans NC1
            have NL1 := Nat.lt_of_lt_of_le NL1 GG2.size
            have NC2 := (congrArg (fun W : World => W.heap[wp2.heap.size]?) hG2).symm.trans (MapKept.heap_alloc wp2 _).1
            have NL2 : wp2.heap.size < wg2.heap.size := by rw [← hG2]; simp
            clear hG2
            have TW := Lib.hid (TW.out.newL (xs := []) (n := 0) GG2 NC2 rfl (by decide))
            refine Evo2.all [8] (by decide +kernel) rfl ?_
            intro wp3 gp3 iq hq
            simp only [List.mem_cons, List.mem_nil_iff, or_false] at hq
            have AP3 := Chg.trans (Chg.trans AP2 (Chg.grow GG2)) (Chg.grow gp3)
            have TW := Lib.hid (TW.out.grow gp3)
            have NC1 := (gp3.block _ NL1).trans NC1
            have NL1 := Nat.lt_of_lt_of_le NL1 gp3.size
            have NC2 := (gp3.block _ NL2).trans NC2
            have NL2 := Nat.lt_of_lt_of_le NL2 gp3.size
            subst hq
            refine Fr.own_src (by rfl) (by rfl) (Operand.tmp 48) (Operand.tmp 54) 22 (by rfl) W3.heap.size 3 i0 (.int .i64 0) 1 8 Try.underlying22 HI.out.1 HI.out.2.1 HI.out.2.2.1 HI.out.2.2.2 rfl (by decide) _ _ _ (by rfl) TW.out.l _ _ _ ((s.l.take 0).map (Value.int .i64)) (by rfl) (by rw [Nat.mul_one]; exact LA.out) (SA.out.grow (AP3.toGrow (fun j hj q => by have q : W3.heap.size ≤ j := q; omega))) ?_ ?_ ?_ TW.out.b ?_ 
            · intro u hu; first | (obtain ⟨z, _, rfl⟩ := List.mem_map.1 hu; rfl) | (rw [List.mem_singleton] at hu; subst hu; rfl) 
            · (unfold maxLen; first | (simp; done) | (simp; omega)) 
            · (first | (simp; done) | (simp; omega))
            intro vw3 wc3 OW3 fr3
            have OX3 := own_app2 (zs := (s.l.take 0).map (Value.int .i64)) rfl (LA.out) OW3; obtain ⟨sa3, ca3, rfl⟩ := own_shape OX3; have CH3 := TW.out.chgL fr3; have TW := Lib.hid (TW.out.left fr3 OX3)
            refine ⟨.inr CH3, ?_⟩
            have AC3 := Chg.trans AP3 CH3
            simp only [Act.put, L0, L1, L2]
            refine Evo2.all [11] (by decide +kernel) rfl ?_
            intro wp4 gp4 iq hq
            simp only [List.mem_cons, List.mem_nil_iff, or_false] at hq
            have AP4 := Chg.trans AC3 (Chg.grow gp4)
            have TW := Lib.hid (TW.out.grow gp4)
            subst hq
            refine Fr.own_src (by rfl) (by rfl) (Operand.tmp 55) (Operand.tmp 57) 22 (by rfl) W3.heap.size 3 i0 (.int .i64 0) 1 8 Try.underlying22 HI.out.1 HI.out.2.1 HI.out.2.2.1 HI.out.2.2.2 rfl (by decide) _ _ _ (by rfl) TW.out.l _ _ _ ([Value.int .i64 x]) (by rfl) (rfl) (own_src0 TW.out.r) ?_ ?_ ?_ TW.out.b ?_ 
            · intro u hu; first | (obtain ⟨z, _, rfl⟩ := List.mem_map.1 hu; rfl) | (rw [List.mem_singleton] at hu; subst hu; rfl) 
            · (unfold maxLen; first | (simp; done) | (simp; omega)) 
            · (first | (simp; done) | (simp; omega))
            intro vw4 wc4 OW4 fr4
            have OX4 := own_app2 (zs := (s.l.take 0).map (Value.int .i64) ++ [Value.int .i64 x]) rfl (rfl) OW4; obtain ⟨sa4, ca4, rfl⟩ := own_shape OX4; have CH4 := TW.out.chgL fr4; have TW := Lib.hid (TW.out.left fr4 OX4)
            refine ⟨.inr CH4, ?_⟩
            have AC4 := Chg.trans AP4 CH4
            simp only [Act.put, L0, L1, L2]
            refine Evo2.all [18] (by decide +kernel) rfl ?_
            intro wp5 gp5 iq hq
            simp only [List.mem_cons, List.mem_nil_iff, or_false] at hq
            have AP5 := Chg.trans AC4 (Chg.grow gp5)
            have TW := Lib.hid (TW.out.grow gp5)
            subst hq
            refine Fr.own_src (by rfl) (by rfl) (Operand.tmp 58) (Operand.tmp 64) 22 (by rfl) W3.heap.size 3 i0 (.int .i64 0) 1 8 Try.underlying22 HI.out.1 HI.out.2.1 HI.out.2.2.1 HI.out.2.2.2 rfl (by decide) _ _ _ (by rfl) TW.out.l _ _ _ ((s.l.drop 0).map (Value.int .i64)) (by rfl) (by rw [Nat.mul_one]; exact LB.out) (SB.out.grow (AP5.toGrow (fun j hj q => by have q : W3.heap.size ≤ j := q; omega))) ?_ ?_ ?_ TW.out.b ?_ 
            · intro u hu; first | (obtain ⟨z, _, rfl⟩ := List.mem_map.1 hu; rfl) | (rw [List.mem_singleton] at hu; subst hu; rfl) 
            · (unfold maxLen; first | (simp; done) | (simp; omega)) 
            · (first | (simp; done) | (simp; omega))
            intro vw5 wc5 OW5 fr5
            have OX5 := own_app2 (zs := ((s.l.take 0).map (Value.int .i64) ++ [Value.int .i64 x]) ++ (s.l.drop 0).map (Value.int .i64)) rfl (LB.out) OW5; obtain ⟨sa5, ca5, rfl⟩ := own_shape OX5; have CH5 := TW.out.chgL fr5; have TW := Lib.hid (TW.out.left fr5 OX5)
            refine ⟨.inr CH5, ?_⟩
            have AC5 := Chg.trans AP5 CH5
            simp only [Act.put, L0, L1, L2]
            refine Evo2.va ok 19 _ _ ?_
            refine Evo2.va ok 20 _ _ ?_
            refine Evo2.all [21] (by decide +kernel) rfl ?_
            intro wp6 gp6 iq hq
            simp only [List.mem_cons, List.mem_nil_iff, or_false] at hq
            have AP6 := Chg.trans AC5 (Chg.grow gp6)
            have TW := Lib.hid (TW.out.grow gp6)
            subst hq
            refine Evo2.runs (by rfl) (by rfl) (fun K' hK' => ?_)
            (try obtain ⟨q1, q2⟩ := KC.out wp6 AP6)
            have BQ := BQH.out _ AP6; have gl := BQ.lt; have f0 := BQ.free 2; clear BQ
            go_simp
            (try (simp only [Evo.after_value, Evo.after_skip]))
            refine hK'.out _ _ ?_
            clear hK'
            simp only [Act.put, L0, L1, L2]
            (try clear gl f0)
            (try clear q1 q2)
            refine ⟨.inl (by first | rfl | trivial), ?_⟩
            refine Evo2.done (by decide +kernel) (fun wz gz => ?_)
            dsimp only [PostN] 
            (repeat apply Exists.intro) 
            exact ⟨rfl, Lib.hid (RTook.mk H2.out OK.out AP6 TW.out.l EZ.out gz (by first | (simp; done) | (simp; omega)))⟩
        ·
          rintro A W6 ⟨x47, x48, x49, x50, x51, x52, x53, x54, x55, x56, x57, x58, x59, x60, x61, x62, x63, x64, x65, x66, x67, rfl, RT⟩
          go_wp2_with fail
          go_returns
          exact ⟨rfl, FIN.out _ RT.out⟩
      · clear hcl
        have SD := (own_srcd HO.out (k := k) hk).resolve_left (fun e => by cases e.1)
        obtain ⟨g', eg, SB, SA⟩ := SD
        cases eg
        rw [← List.map_drop] at SB
        rw [← List.map_take] at SA
        have SA := Lib.hid SA
        have SB : Hid (Fr.Src W3 (if c = k then some ⟨g3, 0, none⟩ else some ⟨g3, k, none⟩) ((s.l.drop k).map (Value.int .i64))) := Lib.hid (by
          split
          · have : s.l.drop k = [] := List.drop_eq_nil_of_le (by omega)
            rw [this]
            exact .inr ⟨_, rfl, fun j u h => by simp at h⟩
          · exact SB)
        have hs2 : (k : Int) ≤ (c : Int) := by omega
        have hs3 : (s.l.length : Int) ≤ (c : Int) := by omega
        clear HR
        go_wp2_with fail
        have TW := Lib.hid (TwoV.none (T := 3) W3)
        refine wp_spec (fun a0 A W => ∃ x47 x48 x49 x50 x51 x52 x53 x54 x55 x56 x57 x58 x59 x60 x61 x62 x63 x64 x65 x66 x67 : Value, A = (((((((((((((((((((((a0.put (some 47) x47).put (some 48) x48).put (some 49) x49).put (some 50) x50).put (some 51) x51).put (some 52) x52).put (some 53) x53).put (some 54) x54).put (some 55) x55).put (some 56) x56).put (some 57) x57).put (some 58) x58).put (some 59) x59).put (some 60) x60).put (some 61) x61).put (some 62) x62).put (some 63) x63).put (some 64) x64).put (some 65) x65).put (some 66) x66).put (some 67) x67) ∧ Hid (RTook W3 W g s x)) ?_ ?_
        all_goals simp only [Act.put, L0, L1, L2]
        ·
          refine Evo2.start' (ℓ := some 21) (S := Chg (fun j => W3.heap.size ≤ j)) (E := Grow.G) (by kernel_rfl) ⟨Chg.pre _, by decide +kernel, (by intro c a d v w h; cases d <;> exact h), by decide +kernel⟩ (fun ok => ?_)
          refine Evo2.va ok 0 _ _ ?_
          refine Evo2.va ok 2 _ _ ?_
          refine Evo2.va ok 3 _ _ ?_
          refine Evo2.va ok 4 _ _ ?_
          first | (refine Evo2.vl ok 5 KC.out (Chg.refl (fun j => W3.heap.size ≤ j) _) _ _ ?_) | (refine Evo2.va ok 5 _ _ ?_)
          refine Evo2.va ok 6 _ _ ?_
          refine Evo2.va ok 7 _ _ ?_
          refine Evo2.va ok 9 _ _ ?_
          refine Evo2.va ok 12 _ _ ?_
          refine Evo2.va ok 13 _ _ ?_
          refine Evo2.va ok 14 _ _ ?_
          first | (refine Evo2.vl ok 15 KC.out (Chg.refl (fun j => W3.heap.size ≤ j) _) _ _ ?_) | (refine Evo2.va ok 15 _ _ ?_)
          refine Evo2.va ok 16 _ _ ?_
          refine Evo2.va ok 17 _ _ ?_
          refine Evo2.all [1, 10] (by decide +kernel) rfl ?_
          intro wp1 gp1 iq hq
          simp only [List.mem_cons, List.mem_nil_iff, or_false] at hq
          have AP1 := Chg.trans (Chg.refl (fun j => W3.heap.size ≤ j) _) (Chg.grow gp1)
          have TW := Lib.hid (TW.out.grow gp1)
          rcases hq with rfl | rfl
          ·
            refine Evo2.runs (by rfl) (by rfl) (fun K' hK' => ?_)
            (try obtain ⟨q1, q2⟩ := KC.out wp1 AP1)
            go_simp
            (try (simp only [Evo.after_value, Evo.after_skip]))
            refine hK'.out _ _ ?_
            clear hK'
            simp only [Act.put, L0, L1, L2]
            (try clear q1 q2)
            refine ⟨.inr (Chg.alloc (Chg.refl _ _) _), ?_⟩
            generalize hG1 : World.alloc wp1 _ = wg1
            have GG1 : Grow.G wp1 wg1 := hG1 ▸ Grow.G.alloc (Grow.G.refl _) _
            have NC1 := (congrArg (fun W : World => W.heap[wp1.heap.size]?) hG1).symm.trans (MapKept.heap_alloc wp1 _).1
            have NL1 : wp1.heap.size < wg1.heap.size := by rw [← hG1]; simp
            clear hG1
            have TW := Lib.hid (TW.out.newL (xs := []) (n := 0) GG1 NC1 rfl (by decide))
            refine Evo2.all [8, 10] (by decide +kernel) rfl ?_
            intro wp2 gp2 iq hq
            simp only [List.mem_cons, List.mem_nil_iff, or_false] at hq
            have AP2 := Chg.trans (Chg.trans AP1 (Chg.grow GG1)) (Chg.grow gp2)
            have TW := Lib.hid (TW.out.grow gp2)
            have NC1 := (gp2.block _ NL1).trans NC1
            have NL1 := Nat.lt_of_lt_of_le NL1 gp2.size
            rcases hq with rfl | rfl
            ·
              refine Fr.own_src (by rfl) (by rfl) (Operand.tmp 48) (Operand.tmp 54) 22 (by rfl) W3.heap.size 3 i0 (.int .i64 0) 1 8 Try.underlying22 HI.out.1 HI.out.2.1 HI.out.2.2.1 HI.out.2.2.2 rfl (by decide) _ _ _ (by rfl) TW.out.l _ _ _ ((s.l.take k).map (Value.int .i64)) (by rfl) (by rw [Nat.mul_one]; exact LA.out) (SA.out.grow (AP2.toGrow (fun j hj q => by have q : W3.heap.size ≤ j := q; omega))) ?_ ?_ ?_ TW.out.b ?_ 
              · intro u hu; first | (obtain ⟨z, _, rfl⟩ := List.mem_map.1 hu; rfl) | (rw [List.mem_singleton] at hu; subst hu; rfl) 
              · (unfold maxLen; first | (simp; done) | (simp; omega)) 
              · (first | (simp; done) | (simp; omega))
              intro vw2 wc2 OW2 fr2
              have OX2 := own_app2 (zs := (s.l.take k).map (Value.int .i64)) rfl (LA.out) OW2; obtain ⟨sa2, ca2, rfl⟩ := own_shape OX2; have CH2 := TW.out.chgL fr2; have TW := Lib.hid (TW.out.left fr2 OX2)
              refine ⟨.inr CH2, ?_⟩
              have AC2 := Chg.trans AP2 CH2
              simp only [Act.put, L0, L1, L2]
              refine Evo2.all [10] (by decide +kernel) rfl ?_
              intro wp3 gp3 iq hq
              simp only [List.mem_cons, List.mem_nil_iff, or_false] at hq
              have AP3 := Chg.trans AC2 (Chg.grow gp3)
              have TW := Lib.hid (TW.out.grow gp3)
              subst hq
              refine Evo2.runs (by rfl) (by rfl) (fun K' hK' => ?_)
              (try obtain ⟨q1, q2⟩ := KC.out wp3 AP3)
              go_simp
              (try (simp only [Evo.after_value, Evo.after_skip]))
              refine hK'.out _ _ ?_
              clear hK'
              simp only [Act.put, L0, L1, L2]
              (try clear q1 q2)
              refine ⟨.inr (Chg.alloc (Chg.refl _ _) _), ?_⟩
              generalize hG3 : World.alloc wp3 _ = wg3
              have GG3 : Grow.G wp3 wg3 := hG3 ▸ Grow.G.alloc (Grow.G.refl _) _
              have NC3 := (congrArg (fun W : World => W.heap[wp3.heap.size]?) hG3).symm.trans (MapKept.heap_alloc wp3 _).1
              have NL3 : wp3.heap.size < wg3.heap.size := by rw [← hG3]; simp
              clear hG3
              have TW := Lib.hid (TW.out.newR (ys := [.int .i64 x]) (n := 1) GG3 NC3 rfl (by decide))
              refine Evo2.all [11] (by decide +kernel) rfl ?_
              intro wp4 gp4 iq hq
              simp only [List.mem_cons, List.mem_nil_iff, or_false] at hq
              have AP4 := Chg.trans (Chg.trans AP3 (Chg.grow GG3)) (Chg.grow gp4)
              have TW := Lib.hid (TW.out.grow gp4)
              have NC3 := (gp4.block _ NL3).trans NC3
              have NL3 := Nat.lt_of_lt_of_le NL3 gp4.size
              subst hq
              refine Fr.own_src (by rfl) (by rfl) (Operand.tmp 55) (Operand.tmp 57) 22 (by rfl) W3.heap.size 3 i0 (.int .i64 0) 1 8 Try.underlying22 HI.out.1 HI.out.2.1 HI.out.2.2.1 HI.out.2.2.2 rfl (by decide) _ _ _ (by rfl) TW.out.l _ _ _ ([Value.int .i64 x]) (by rfl) (rfl) (own_src0 TW.out.r) ?_ ?_ ?_ TW.out.b ?_ 
              · intro u hu; first | (obtain ⟨z, _, rfl⟩ := List.mem_map.1 hu; rfl) | (rw [List.mem_singleton] at hu; subst hu; rfl) 
              · (unfold maxLen; first | (simp; done) | (simp; omega)) 
              · (first | (simp; done) | (simp; omega))
              intro vw4 wc4 OW4 fr4
              have OX4 := own_app2 (zs := (s.l.take k).map (Value.int .i64) ++ [Value.int .i64 x]) rfl (rfl) OW4; obtain ⟨sa4, ca4, rfl⟩ := own_shape OX4; have CH4 := TW.out.chgL fr4; have TW := Lib.hid (TW.out.left fr4 OX4)
              refine ⟨.inr CH4, ?_⟩
              have AC4 := Chg.trans AP4 CH4
              simp only [Act.put, L0, L1, L2]
              refine Evo2.all [18] (by decide +kernel) rfl ?_
              intro wp5 gp5 iq hq
              simp only [List.mem_cons, List.mem_nil_iff, or_false] at hq
              have AP5 := Chg.trans AC4 (Chg.grow gp5)
              have TW := Lib.hid (TW.out.grow gp5)
              subst hq
              refine Fr.own_src (by rfl) (by rfl) (Operand.tmp 58) (Operand.tmp 64) 22 (by rfl) W3.heap.size 3 i0 (.int .i64 0) 1 8 Try.underlying22 HI.out.1 HI.out.2.1 HI.out.2.2.1 HI.out.2.2.2 rfl (by decide) _ _ _ (by rfl) TW.out.l _ _ _ ((s.l.drop k).map (Value.int .i64)) (by rfl) (by rw [Nat.mul_one]; exact LB.out) (SB.out.grow (AP5.toGrow (fun j hj q => by have q : W3.heap.size ≤ j := q; omega))) ?_ ?_ ?_ TW.out.b ?_ 
              · intro u hu; first | (obtain ⟨z, _, rfl⟩ := List.mem_map.1 hu; rfl) | (rw [List.mem_singleton] at hu; subst hu; rfl) 
              · (unfold maxLen; first | (simp; done) | (simp; omega)) 
              · (first | (simp; done) | (simp; omega))
              intro vw5 wc5 OW5 fr5
              have OX5 := own_app2 (zs := ((s.l.take k).map (Value.int .i64) ++ [Value.int .i64 x]) ++ (s.l.drop k).map (Value.int .i64)) rfl (LB.out) OW5; obtain ⟨sa5, ca5, rfl⟩ := own_shape OX5; have CH5 := TW.out.chgL fr5; have TW := Lib.hid (TW.out.left fr5 OX5)
              refine ⟨.inr CH5, ?_⟩
              have AC5 := Chg.trans AP5 CH5
              simp only [Act.put, L0, L1, L2]
              refine Evo2.va ok 19 _ _ ?_
              refine Evo2.va ok 20 _ _ ?_
              refine Evo2.all [21] (by decide +kernel) rfl ?_
              intro wp6 gp6 iq hq
              simp only [List.mem_cons, List.mem_nil_iff, or_false] at hq
              have AP6 := Chg.trans AC5 (Chg.grow gp6)
              have TW := Lib.hid (TW.out.grow gp6)
              subst hq
              refine Evo2.runs (by rfl) (by rfl) (fun K' hK' => ?_)
              (try obtain ⟨q1, q2⟩ := KC.out wp6 AP6)
              have BQ := BQH.out _ AP6; have gl := BQ.lt; have f0 := BQ.free 2; clear BQ
              go_simp
              (try (simp only [Evo.after_value, Evo.after_skip]))
              refine hK'.out _ _ ?_
              clear hK'
              simp only [Act.put, L0, L1, L2]
              (try clear gl f0)
              (try clear q1 q2)
              refine ⟨.inl (by first | rfl | trivial), ?_⟩
              refine Evo2.done (by decide +kernel) (fun wz gz => ?_)
              dsimp only [PostN] 
              (repeat apply Exists.intro) 
              exact ⟨rfl, Lib.hid (RTook.mk H2.out OK.out AP6 TW.out.l EZ.out gz (by first | (simp; done) | (simp; omega)))⟩
            ·
              refine Evo2.runs (by rfl) (by rfl) (fun K' hK' => ?_)
              (try obtain ⟨q1, q2⟩ := KC.out wp2 AP2)
              go_simp
              (try (simp only [Evo.after_value, Evo.after_skip]))
              refine hK'.out _ _ ?_
              clear hK'
              simp only [Act.put, L0, L1, L2]
              (try clear q1 q2)
              refine ⟨.inr (Chg.alloc (Chg.refl _ _) _), ?_⟩
              generalize hG2 : World.alloc wp2 _ = wg2
              have GG2 : Grow.G wp2 wg2 := hG2 ▸ Grow.G.alloc (Grow.G.refl _) _
              have NC1 := (GG2.block _ NL1).trans NC1
              have NL1 := Nat.lt_of_lt_of_le NL1 GG2.size
              have NC2 := (congrArg (fun W : World => W.heap[wp2.heap.size]?) hG2).symm.trans (MapKept.heap_alloc wp2 _).1
              have NL2 : wp2.heap.size < wg2.heap.size := by rw [← hG2]; simp
              clear hG2
              have TW := Lib.hid (TW.out.newR (ys := [.int .i64 x]) (n := 1) GG2 NC2 rfl (by decide))
              refine Evo2.all [8] (by decide +kernel) rfl ?_
              intro wp3 gp3 iq hq
              simp only [List.mem_cons, List.mem_nil_iff, or_false] at hq
              have AP3 := Chg.trans (Chg.trans AP2 (Chg.grow GG2)) (Chg.grow gp3)
              have TW := Lib.hid (TW.out.grow gp3)
              have NC1 := (gp3.block _ NL1).trans NC1
              have NL1 := Nat.lt_of_lt_of_le NL1 gp3.size
              have NC2 := (gp3.block _ NL2).trans NC2
              have NL2 := Nat.lt_of_lt_of_le NL2 gp3.size
              subst hq
              refine Fr.own_src (by rfl) (by rfl) (Operand.tmp 48) (Operand.tmp 54) 22 (by rfl) W3.heap.size 3 i0 (.int .i64 0) 1 8 Try.underlying22 HI.out.1 HI.out.2.1 HI.out.2.2.1 HI.out.2.2.2 rfl (by decide) _ _ _ (by rfl) TW.out.l _ _ _ ((s.l.take k).map (Value.int .i64)) (by rfl) (by rw [Nat.mul_one]; exact LA.out) (SA.out.grow (AP3.toGrow (fun j hj q => by have q : W3.heap.size ≤ j := q; omega))) ?_ ?_ ?_ TW.out.b ?_ 
              · intro u hu; first | (obtain ⟨z, _, rfl⟩ := List.mem_map.1 hu; rfl) | (rw [List.mem_singleton] at hu; subst hu; rfl) 
              · (unfold maxLen; first | (simp; done) | (simp; omega)) 
              · (first | (simp; done) | (simp; omega))
              intro vw3 wc3 OW3 fr3
              have OX3 := own_app2 (zs := (s.l.take k).map (Value.int .i64)) rfl (LA.out) OW3; obtain ⟨sa3, ca3, rfl⟩ := own_shape OX3; have CH3 := TW.out.chgL fr3; have TW := Lib.hid (TW.out.left fr3 OX3)
              refine ⟨.inr CH3, ?_⟩
              have AC3 := Chg.trans AP3 CH3
              simp only [Act.put, L0, L1, L2]
              refine Evo2.all [11] (by decide +kernel) rfl ?_
              intro wp4 gp4 iq hq
              simp only [List.mem_cons, List.mem_nil_iff, or_false] at hq
              have AP4 := Chg.trans AC3 (Chg.grow gp4)
              have TW := Lib.hid (TW.out.grow gp4)
              subst hq
              refine Fr.own_src (by rfl) (by rfl) (Operand.tmp 55) (Operand.tmp 57) 22 (by rfl) W3.heap.size 3 i0 (.int .i64 0) 1 8 Try.underlying22 HI.out.1 HI.out.2.1 HI.out.2.2.1 HI.out.2.2.2 rfl (by decide) _ _ _ (by rfl) TW.out.l _ _ _ ([Value.int .i64 x]) (by rfl) (rfl) (own_src0 TW.out.r) ?_ ?_ ?_ TW.out.b ?_ 
              · intro u hu; first | (obtain ⟨z, _, rfl⟩ := List.mem_map.1 hu; rfl) | (rw [List.mem_singleton] at hu; subst hu; rfl) 
              · (unfold maxLen; first | (simp; done) | (simp; omega)) 
              · (first | (simp; done) | (simp; omega))
              intro vw4 wc4 OW4 fr4
              have OX4 := own_app2 (zs := (s.l.take k).map (Value.int .i64) ++ [Value.int .i64 x]) rfl (rfl) OW4; obtain ⟨sa4, ca4, rfl⟩ := own_shape OX4; have CH4 := TW.out.chgL fr4; have TW := Lib.hid (TW.out.left fr4 OX4)
              refine ⟨.inr CH4, ?_⟩
              have AC4 := Chg.trans AP4 CH4
              simp only [Act.put, L0, L1, L2]
              refine Evo2.all [18] (by decide +kernel) rfl ?_
              intro wp5 gp5 iq hq
              simp only [List.mem_cons, List.mem_nil_iff, or_false] at hq
              have AP5 := Chg.trans AC4 (Chg.grow gp5)
              have TW := Lib.hid (TW.out.grow gp5)
              subst hq
              refine Fr.own_src (by rfl) (by rfl) (Operand.tmp 58) (Operand.tmp 64) 22 (by rfl) W3.heap.size 3 i0 (.int .i64 0) 1 8 Try.underlying22 HI.out.1 HI.out.2.1 HI.out.2.2.1 HI.out.2.2.2 rfl (by decide) _ _ _ (by rfl) TW.out.l _ _ _ ((s.l.drop k).map (Value.int .i64)) (by rfl) (by rw [Nat.mul_one]; exact LB.out) (SB.out.grow (AP5.toGrow (fun j hj q => by have q : W3.heap.size ≤ j := q; omega))) ?_ ?_ ?_ TW.out.b ?_ 
              · intro u hu; first | (obtain ⟨z, _, rfl⟩ := List.mem_map.1 hu; rfl) | (rw [List.mem_singleton] at hu; subst hu; rfl) 
              · (unfold maxLen; first | (simp; done) | (simp; omega)) 
              · (first | (simp; done) | (simp; omega))
              intro vw5 wc5 OW5 fr5
              have OX5 := own_app2 (zs := ((s.l.take k).map (Value.int .i64) ++ [Value.int .i64 x]) ++ (s.l.drop k).map (Value.int .i64)) rfl (LB.out) OW5; obtain ⟨sa5, ca5, rfl⟩ := own_shape OX5; have CH5 := TW.out.chgL fr5; have TW := Lib.hid (TW.out.left fr5 OX5)
              refine ⟨.inr CH5, ?_⟩
              have AC5 := Chg.trans AP5 CH5
              simp only [Act.put, L0, L1, L2]
              refine Evo2.va ok 19 _ _ ?_
              refine Evo2.va ok 20 _ _ ?_
              refine Evo2.all [21] (by decide +kernel) rfl ?_
              intro wp6 gp6 iq hq
              simp only [List.mem_cons, List.mem_nil_iff, or_false] at hq
              have AP6 := Chg.trans AC5 (Chg.grow gp6)
              have TW := Lib.hid (TW.out.grow gp6)
              subst hq
              refine Evo2.runs (by rfl) (by rfl) (fun K' hK' => ?_)
              (try obtain ⟨q1, q2⟩ := KC.out wp6 AP6)
              have BQ := BQH.out _ AP6; have gl := BQ.lt; have f0 := BQ.free 2; clear BQ
              go_simp
              (try (simp only [Evo.after_value, Evo.after_skip]))
              refine hK'.out _ _ ?_
              clear hK'
              simp only [Act.put, L0, L1, L2]
              (try clear gl f0)
              (try clear q1 q2)
              refine ⟨.inl (by first | rfl | trivial), ?_⟩
              refine Evo2.done (by decide +kernel) (fun wz gz => ?_)
              dsimp only [PostN] 
              (repeat apply Exists.intro) 
              exact ⟨rfl, Lib.hid (RTook.mk H2.out OK.out AP6 TW.out.l EZ.out gz (by first | (simp; done) | (simp; omega)))⟩
          ·
            refine Evo2.runs (by rfl) (by rfl) (fun K' hK' => ?_)
            (try obtain ⟨q1, q2⟩ := KC.out wp1 AP1)
            go_simp
            (try (simp only [Evo.after_value, Evo.after_skip]))
            refine hK'.out _ _ ?_
            clear hK'
            simp only [Act.put, L0, L1, L2]
            (try clear q1 q2)
            refine ⟨.inr (Chg.alloc (Chg.refl _ _) _), ?_⟩
            generalize hG1 : World.alloc wp1 _ = wg1
            have GG1 : Grow.G wp1 wg1 := hG1 ▸ Grow.G.alloc (Grow.G.refl _) _
            have NC1 := (congrArg (fun W : World => W.heap[wp1.heap.size]?) hG1).symm.trans (MapKept.heap_alloc wp1 _).1
            have NL1 : wp1.heap.size < wg1.heap.size := by rw [← hG1]; simp
            clear hG1
            have TW := Lib.hid (TW.out.newR (ys := [.int .i64 x]) (n := 1) GG1 NC1 rfl (by decide))
            refine Evo2.all [1] (by decide +kernel) rfl ?_
            intro wp2 gp2 iq hq
            simp only [List.mem_cons, List.mem_nil_iff, or_false] at hq
            have AP2 := Chg.trans (Chg.trans AP1 (Chg.grow GG1)) (Chg.grow gp2)
            have TW := Lib.hid (TW.out.grow gp2)
            have NC1 := (gp2.block _ NL1).trans NC1
            have NL1 := Nat.lt_of_lt_of_le NL1 gp2.size
            subst hq
            refine Evo2.runs (by rfl) (by rfl) (fun K' hK' => ?_)
            (try obtain ⟨q1, q2⟩ := KC.out wp2 AP2)
            go_simp
            (try (simp only [Evo.after_value, Evo.after_skip]))
            refine hK'.out _ _ ?_
            clear hK'
            simp only [Act.put, L0, L1, L2]
            (try clear q1 q2)
            refine ⟨.inr (Chg.alloc (Chg.refl _ _) _), ?_⟩
            generalize hG2 : World.alloc wp2 _ = wg2
            have GG2 : Grow.G wp2 wg2 := hG2 ▸ Grow.G.alloc (Grow.G.refl _) _
            have NC1 := (GG2.block _ NL1).trans NC1
            have NL1 := Nat.lt_of_lt_of_le NL1 GG2.size
            have NC2 := (congrArg (fun W : World => W.heap[wp2.heap.size]?) hG2).symm.trans (MapKept.heap_alloc wp2 _).1
            have NL2 : wp2.heap.size < wg2.heap.size := by rw [← hG2]; simp
            clear hG2
            have TW := Lib.hid (TW.out.newL (xs := []) (n := 0) GG2 NC2 rfl (by decide))
            refine Evo2.all [8] (by decide +kernel) rfl ?_
            intro wp3 gp3 iq hq
            simp only [List.mem_cons, List.mem_nil_iff, or_false] at hq
            have AP3 := Chg.trans (Chg.trans AP2 (Chg.grow GG2)) (Chg.grow gp3)
            have TW := Lib.hid (TW.out.grow gp3)
            have NC1 := (gp3.block _ NL1).trans NC1
            have NL1 := Nat.lt_of_lt_of_le NL1 gp3.size
            have NC2 := (gp3.block _ NL2).trans NC2
            have NL2 := Nat.lt_of_lt_of_le NL2 gp3.size
            subst hq
            refine Fr.own_src (by rfl) (by rfl) (Operand.tmp 48) (Operand.tmp 54) 22 (by rfl) W3.heap.size 3 i0 (.int .i64 0) 1 8 Try.underlying22 HI.out.1 HI.out.2.1 HI.out.2.2.1 HI.out.2.2.2 rfl (by decide) _ _ _ (by rfl) TW.out.l _ _ _ ((s.l.take k).map (Value.int .i64)) (by rfl) (by rw [Nat.mul_one]; exact LA.out) (SA.out.grow (AP3.toGrow (fun j hj q => by have q : W3.heap.size ≤ j := q; omega))) ?_ ?_ ?_ TW.out.b ?_ 
            · intro u hu; first | (obtain ⟨z, _, rfl⟩ := List.mem_map.1 hu; rfl) | (rw [List.mem_singleton] at hu; subst hu; rfl) 
            · (unfold maxLen; first | (simp; done) | (simp; omega)) 
            · (first | (simp; done) | (simp; omega))
            intro vw3 wc3 OW3 fr3
            have OX3 := own_app2 (zs := (s.l.take k).map (Value.int .i64)) rfl (LA.out) OW3; obtain ⟨sa3, ca3, rfl⟩ := own_shape OX3; have CH3 := TW.out.chgL fr3; have TW := Lib.hid (TW.out.left fr3 OX3)
            refine ⟨.inr CH3, ?_⟩
            have AC3 := Chg.trans AP3 CH3
            simp only [Act.put, L0, L1, L2]
            refine Evo2.all [11] (by decide +kernel) rfl ?_
            intro wp4 gp4 iq hq
            simp only [List.mem_cons, List.mem_nil_iff, or_false] at hq
            have AP4 := Chg.trans AC3 (Chg.grow gp4)
            have TW := Lib.hid (TW.out.grow gp4)
            subst hq
            refine Fr.own_src (by rfl) (by rfl) (Operand.tmp 55) (Operand.tmp 57) 22 (by rfl) W3.heap.size 3 i0 (.int .i64 0) 1 8 Try.underlying22 HI.out.1 HI.out.2.1 HI.out.2.2.1 HI.out.2.2.2 rfl (by decide) _ _ _ (by rfl) TW.out.l _ _ _ ([Value.int .i64 x]) (by rfl) (rfl) (own_src0 TW.out.r) ?_ ?_ ?_ TW.out.b ?_ 
            · intro u hu; first | (obtain ⟨z, _, rfl⟩ := List.mem_map.1 hu; rfl) | (rw [List.mem_singleton] at hu; subst hu; rfl) 
            · (unfold maxLen; first | (simp; done) | (simp; omega)) 
            · (first | (simp; done) | (simp; omega))
            intro vw4 wc4 OW4 fr4
            have OX4 := own_app2 (zs := (s.l.take k).map (Value.int .i64) ++ [Value.int .i64 x]) rfl (rfl) OW4; obtain ⟨sa4, ca4, rfl⟩ := own_shape OX4; have CH4 := TW.out.chgL fr4; have TW := Lib.hid (TW.out.left fr4 OX4)
            refine ⟨.inr CH4, ?_⟩
            have AC4 := Chg.trans AP4 CH4
            simp only [Act.put, L0, L1, L2]
            refine Evo2.all [18] (by decide +kernel) rfl ?_
            intro wp5 gp5 iq hq
            simp only [List.mem_cons, List.mem_nil_iff, or_false] at hq
            have AP5 := Chg.trans AC4 (Chg.grow gp5)
            have TW := Lib.hid (TW.out.grow gp5)
            subst hq
            refine Fr.own_src (by rfl) (by rfl) (Operand.tmp 58) (Operand.tmp 64) 22 (by rfl) W3.heap.size 3 i0 (.int .i64 0) 1 8 Try.underlying22 HI.out.1 HI.out.2.1 HI.out.2.2.1 HI.out.2.2.2 rfl (by decide) _ _ _ (by rfl) TW.out.l _ _ _ ((s.l.drop k).map (Value.int .i64)) (by rfl) (by rw [Nat.mul_one]; exact LB.out) (SB.out.grow (AP5.toGrow (fun j hj q => by have q : W3.heap.size ≤ j := q; omega))) ?_ ?_ ?_ TW.out.b ?_ 
            · intro u hu; first | (obtain ⟨z, _, rfl⟩ := List.mem_map.1 hu; rfl) | (rw [List.mem_singleton] at hu; subst hu; rfl) 
            · (unfold maxLen; first | (simp; done) | (simp; omega)) 
            · (first | (simp; done) | (simp; omega))
            intro vw5 wc5 OW5 fr5
            have OX5 := own_app2 (zs := ((s.l.take k).map (Value.int .i64) ++ [Value.int .i64 x]) ++ (s.l.drop k).map (Value.int .i64)) rfl (LB.out) OW5; obtain ⟨sa5, ca5, rfl⟩ := own_shape OX5; have CH5 := TW.out.chgL fr5; have TW := Lib.hid (TW.out.left fr5 OX5)
            refine ⟨.inr CH5, ?_⟩
            have AC5 := Chg.trans AP5 CH5
            simp only [Act.put, L0, L1, L2]
            refine Evo2.va ok 19 _ _ ?_
            refine Evo2.va ok 20 _ _ ?_
            refine Evo2.all [21] (by decide +kernel) rfl ?_
            intro wp6 gp6 iq hq
            simp only [List.mem_cons, List.mem_nil_iff, or_false] at hq
            have AP6 := Chg.trans AC5 (Chg.grow gp6)
            have TW := Lib.hid (TW.out.grow gp6)
            subst hq
            refine Evo2.runs (by rfl) (by rfl) (fun K' hK' => ?_)
            (try obtain ⟨q1, q2⟩ := KC.out wp6 AP6)
            have BQ := BQH.out _ AP6; have gl := BQ.lt; have f0 := BQ.free 2; clear BQ
            go_simp
            (try (simp only [Evo.after_value, Evo.after_skip]))
            refine hK'.out _ _ ?_
            clear hK'
            simp only [Act.put, L0, L1, L2]
            (try clear gl f0)
            (try clear q1 q2)
            refine ⟨.inl (by first | rfl | trivial), ?_⟩
            refine Evo2.done (by decide +kernel) (fun wz gz => ?_)
            dsimp only [PostN] 
            (repeat apply Exists.intro) 
            exact ⟨rfl, Lib.hid (RTook.mk H2.out OK.out AP6 TW.out.l EZ.out gz (by first | (simp; done) | (simp; omega)))⟩
        ·
          rintro A W6 ⟨x47, x48, x49, x50, x51, x52, x53, x54, x55, x56, x57, x58, x59, x60, x61, x62, x63, x64, x65, x66, x67, rfl, RT⟩
          go_wp2_with fail
          go_returns
          exact ⟨rfl, FIN.out _ RT.out⟩
end Go.Proofs.Ytfnpghekkhnjkaa
