
/- The walk of EventCuts. -/
import Derived.Test.YtnkekdmikopdgaaGreatZ28
namespace Go.Proofs.YtnkekdmikopdgaaGreat
set_option maxRecDepth 100000
set_option linter.unusedVariables false
set_option linter.unusedSimpArgs false
set_option linter.unnecessarySimpa false
open Go.RowKit

set_option maxHeartbeats 8000000 in
theorem walkEventCuts (w : World) (ar : Option Addr) (rs : List Int) (cr : Nat) (hrs : ByAt w ar rs ∧ Bts rs ∧ rs.length ≤ 140737488351232 ∧ rs.length ≤ cr) (ra : Option Addr) (R : List BRow) (rc : Nat) (hR : RowsAt w ra R ∧ R.length ≤ maxLen) (cut : Int) (hcut : wf64 cut) :
    Calls Tryz.prog 7 #[.slice ar rs.length cr, .slice ra R.length rc, .int .i64 cut] w fun e w' => e = .returned (.bool true) ∧ Below w.heap.size w w' := by
  by_cases h3 : 300 < rs.length
  · go_enter Tryz.func7, Tryz.ntmps7
    go_wp2_with fail
    refine (known3_any _).mono ?_
    rintro e wn1 ⟨rfl, hb1⟩
    go_wp2_with fail
    go_ret
    exact ⟨rfl, hb1⟩
  by_cases h12 : 12 < R.length
  · go_enter Tryz.func7, Tryz.ntmps7
    go_wp2_with fail
    refine (known3_any _).mono ?_
    rintro e wn1 ⟨rfl, hb1⟩
    go_wp2_with fail
    go_ret
    exact ⟨rfl, hb1⟩
  have HR := Lib.hid (by_pz hrs.1 hrs.2.2.2)
  have RBT := Lib.hid hrs.2.1
  have HRW := Lib.hid hR.1
  have hRB : Hid (∀ r ∈ R, Bts r.zs) := Lib.hid (fun r hr => by
    obtain ⟨i, hi, e⟩ := List.getElem_of_mem hr
    obtain ⟨_, _, _, _, _, _, h, _⟩ := hR.1.grow (Grow.G.refl w) hi
    have e2 : R.getD i br0 = r := by simp [List.getD, hi, e]
    rwa [e2] at h)
  obtain ⟨i0, hi, hz0, hz1, hz2⟩ := info_parts infoB
  have HI := Lib.hid hi; have HZ0 := Lib.hid hz0; have HZ1 := Lib.hid hz1; have HZ2 := Lib.hid hz2
  clear hrs hR hi hz0 hz1 hz2
  go_enter Tryz.func7, Tryz.ntmps7
  go_wp2_with fail
  refine (known3_any _).mono ?_
  rintro e wn1 ⟨rfl, hb1⟩
  have HB1 := Lib.hid hb1
  clear hb1
  go_wp2_with fail
  refine wp_specE ?id (fun a0 A W => ∃ x8 x9 x27 x28 x29 x30 x31 x32 x33 x34 x35 x36 x37 x38 x39 x40 x41 x42 x43 x44 x45 x46 x47 x48 x49 x50 x51 x52 x53 : Value, ∃ (bv : Value), A = ((((((((((((((((((((((((((((((a0.put (some 7) (bv)).put (some 8) x8).put (some 9) x9).put (some 27) x27).put (some 28) x28).put (some 29) x29).put (some 30) x30).put (some 31) x31).put (some 32) x32).put (some 33) x33).put (some 34) x34).put (some 35) x35).put (some 36) x36).put (some 37) x37).put (some 38) x38).put (some 39) x39).put (some 40) x40).put (some 41) x41).put (some 42) x42).put (some 43) x43).put (some 44) x44).put (some 45) x45).put (some 46) x46).put (some 47) x47).put (some 48) x48).put (some 49) x49).put (some 50) x50).put (some 51) x51).put (some 52) x52).put (some 53) x53) ∧ Hid (Two W wn1.heap.size bv (packs R R.length) (.slice none 0 0) [] ∧ Below wn1.heap.size wn1 W)) ?_ ?_
  all_goals simp only [Act.put, L0, L1, L2]
  · go_loopw [7, 8] (fun bv ii wr => ∃ i : Nat, i ≤ R.length ∧ ii = .int .i64 i ∧ Hid (Two wr wn1.heap.size bv (packs R i) (.slice none 0 0) [] ∧ Below wn1.heap.size wn1 wr)) (fun _ ii _ => R.length - (intOf ii).toNat)
    case atStart => exact ⟨0, by omega, rfl, Lib.hid ⟨by rw [packs_zero]; exact Two.none wn1, Below.refl _ _⟩⟩
    case round =>
      obtain ⟨i, hi, rfl, SI⟩ := hrel
      by_cases hlt : i < R.length
      rotate_left
      · obtain rfl : i = R.length := by omega
        go_wp2_with fail
        dsimp only [PostE]
        refine ⟨rfl, ?_⟩
        (repeat apply Exists.intro)
        exact ⟨rfl, SI⟩
      obtain ⟨TW, hB⟩ := SI.out
      have SZ := Lib.hid hB.size
      obtain ⟨rb, ro, rfl, hrb, cR0, pR, bR, lR, kR⟩ := HRW.out.grow HB1.out hlt
      have cR := cell_later hB cR0
      have H1W := HB1.out.size
      obtain ⟨bs, bc, rfl⟩ := own_shape TW.l
      have PL := packs_len (R := R) hi
      have PS := Lib.hid (packs_succ hlt)
      have EP : Hid (pcR (R.getD i br0) = (R.getD i br0).zs.take 300) := Lib.hid rfl
      generalize pcR (R.getD i br0) = pz at *
      generalize R.getD i br0 = r at *
      obtain ⟨a, z, c⟩ := r
      dsimp only at *
      obtain ⟨n, hn⟩ : ∃ n, min z.length 300 = n := ⟨_, rfl⟩
      have hn2 : n ≤ 300 := by omega
      have hnz : n ≤ z.length := by omega
      have hnc : n ≤ c := by omega
      have MN : min (z.length : Int) 300 = (n : Int) := by omega
      have pl : pz.length = n := by rw [EP.out, List.length_take]; omega
      have PZL := Lib.hid pl
      have HPR := Lib.hid (show PZ wn1 a c pz from by rw [EP.out]; exact pR.take 300)
      have CB := Lib.hid (Chg.ofBelow hB)
      have W8a : IntKind.u8.wrap ((n : Int) / 256) = (n : Int) / 256 % 256 := IntKind.wrap_u8 _
      have W8b : IntKind.u8.wrap (n : Int) = (n : Int) % 256 := IntKind.wrap_u8 _
      have TW := Lib.hid TW
      have KC := Lib.hid (fun (w' : World) (h : Chg (fun k => wn1.heap.size ≤ k) wr w') => (⟨h.cell cR (by omega), trivial⟩ : w'.cell? ⟨rb, ro + i, none⟩ = some (.slice a z.length c) ∧ True))
      clear SI hB pR bR EP hn pl cR0
      generalize packs R i = B at *
      have LB := Lib.hid PL
      go_wp2_with fail
      refine Evo2.start' (ℓ := none) (S := Chg (fun k => wn1.heap.size ≤ k)) (E := Grow.G) (by kernel_rfl) ⟨Chg.pre _, by decide +kernel, (by intro c a d v w h; cases d <;> exact h), by decide +kernel⟩ (fun ok => ?_)
      first | (refine Evo2.val ok 0 ?_ ?_ ?_; rotate_left; (intro w' hg; go_simp <;> with_reducible rfl); simp only [Act.put, L0, L1, L2])
      first | (refine Evo2.val ok 1 ?_ ?_ ?_; rotate_left; (intro w' hg; go_simp <;> with_reducible rfl); simp only [Act.put, L0, L1, L2])
      first | (refine Evo2.val ok 2 ?_ ?_ ?_; rotate_left; (intro w' hg; go_simp <;> with_reducible rfl); simp only [Act.put, L0, L1, L2])
      first | (refine Evo2.val ok 3 ?_ ?_ ?_; rotate_left; (intro w' hg; obtain ⟨q1, q2⟩ := KC.out w' (Chg.trans (Chg.refl (fun k => wn1.heap.size ≤ k) _) hg); go_simp <;> with_reducible rfl); simp only [Act.put, L0, L1, L2]) | (refine Evo2.val ok 3 ?_ ?_ ?_; rotate_left; (intro w' hg; go_simp <;> with_reducible rfl); simp only [Act.put, L0, L1, L2])
      first | (refine Evo2.val ok 4 ?_ ?_ ?_; rotate_left; (intro w' hg; go_simp <;> with_reducible rfl); simp only [Act.put, L0, L1, L2])
      first | (refine Evo2.val ok 5 ?_ ?_ ?_; rotate_left; (intro w' hg; obtain ⟨q1, q2⟩ := KC.out w' (Chg.trans (Chg.refl (fun k => wn1.heap.size ≤ k) _) hg); go_simp <;> with_reducible rfl); simp only [Act.put, L0, L1, L2]) | (refine Evo2.val ok 5 ?_ ?_ ?_; rotate_left; (intro w' hg; go_simp <;> with_reducible rfl); simp only [Act.put, L0, L1, L2])
      first | (refine Evo2.val ok 8 ?_ ?_ ?_; rotate_left; (intro w' hg; go_simp <;> with_reducible rfl); simp only [Act.put, L0, L1, L2])
      first | (refine Evo2.val ok 9 ?_ ?_ ?_; rotate_left; (intro w' hg; go_simp <;> with_reducible rfl); simp only [Act.put, L0, L1, L2])
      first | (refine Evo2.val ok 10 ?_ ?_ ?_; rotate_left; (intro w' hg; go_simp <;> with_reducible rfl); simp only [Act.put, L0, L1, L2])
      first | (refine Evo2.val ok 11 ?_ ?_ ?_; rotate_left; (intro w' hg; obtain ⟨q1, q2⟩ := KC.out w' (Chg.trans (Chg.refl (fun k => wn1.heap.size ≤ k) _) hg); go_simp <;> with_reducible rfl); simp only [Act.put, L0, L1, L2]) | (refine Evo2.val ok 11 ?_ ?_ ?_; rotate_left; (intro w' hg; go_simp <;> with_reducible rfl); simp only [Act.put, L0, L1, L2])
      first | (refine Evo2.val ok 12 ?_ ?_ ?_; rotate_left; (intro w' hg; go_simp <;> with_reducible rfl); simp only [Act.put, L0, L1, L2])
      first | (refine Evo2.val ok 13 ?_ ?_ ?_; rotate_left; (intro w' hg; go_simp <;> with_reducible rfl); simp only [Act.put, L0, L1, L2])
      refine Evo2.all [6] (by decide +kernel) rfl ?_
      intro wp1 gp1 iq hq
      simp only [List.mem_cons, List.mem_nil_iff, or_false] at hq
      have AP1 := Chg.trans (Chg.refl (fun k => wn1.heap.size ≤ k) _) (Chg.grow gp1)
      have TW := Lib.hid (TW.out.grow gp1)
      subst hq
      refine Evo2.runs (by rfl) (by rfl) (fun K' hK' => ?_)
      (try obtain ⟨q1, q2⟩ := KC.out wp1 AP1)
      go_simp
      (try (simp only [Evo.after_value, Evo.after_skip]))
      refine hK'.out _ _ ?_
      clear hK'
      simp only [Act.put, L0, L1, L2]
      (try clear q1 q2)
      refine ⟨.inr (Chg.alloc (Chg.refl _ _) _), ?_⟩
      generalize hG1 : World.alloc wp1 _ = wg1
      have GG1 : Grow.G wp1 wg1 := hG1 ▸ Grow.G.alloc (Grow.G.refl _) _
      have NC1 := (congrArg (fun W : World => W.heap[wp1.heap.size]?) hG1).symm.trans (MapKept.heap_alloc wp1 _).1
      have NL1 : wp1.heap.size < wg1.heap.size := by rw [← hG1]; simp
      clear hG1
      have TW := Lib.hid (TW.out.grow GG1)
      refine Evo2.all [7] (by decide +kernel) rfl ?_
      intro wp2 gp2 iq hq
      simp only [List.mem_cons, List.mem_nil_iff, or_false] at hq
      have AP2 := Chg.trans (Chg.trans AP1 (Chg.grow GG1)) (Chg.grow gp2)
      have TW := Lib.hid (TW.out.grow gp2)
      have NC1 := (gp2.block _ NL1).trans NC1
      have NL1 := Nat.lt_of_lt_of_le NL1 gp2.size
      subst hq
      refine Fr.own_src (by rfl) (by rfl) (Operand.tmp 39) (Operand.tmp 45) 41 (by rfl) wn1.heap.size 5 i0 (.int .u8 0) 1 1 Tryz.underlying41 HI.out HZ0.out HZ1.out HZ2.out rfl (by decide) _ _ _ (by rfl) TW.out.l _ _ _ (([(n : Int) / 256 % 256, (n : Int) % 256] : List Int).map (Value.int .u8)) (by rfl) (by rfl) (.inr ⟨_, rfl, news_blk NC1⟩) bts_one ?_ ?_ TW.out.b ?_ 
      · (unfold maxLen; omega) 
      · omega
      intro vw2 wc2 OW2 fr2
      have OX2 := own_app (ys := [(n : Int) / 256 % 256, (n : Int) % 256]) (zs := B ++ [(n : Int) / 256 % 256, (n : Int) % 256]) rfl OW2; obtain ⟨sa2, ca2, ev2⟩ := own_shape OX2; rw [List.length_append] at ev2; subst ev2; have CH2 := TW.out.chgL fr2; have TW := Lib.hid (TW.out.left fr2 OX2)
      refine ⟨.inr CH2, ?_⟩
      have AC2 := Chg.trans AP2 CH2
      simp only [Act.put, L0, L1, L2]
      refine Evo2.all [14] (by decide +kernel) rfl ?_
      intro wp3 gp3 iq hq
      simp only [List.mem_cons, List.mem_nil_iff, or_false] at hq
      have AP3 := Chg.trans AC2 (Chg.grow gp3)
      have TW := Lib.hid (TW.out.grow gp3)
      subst hq
      refine Fr.own_src (by rfl) (by rfl) (Operand.tmp 46) (Operand.tmp 52) 41 (by rfl) wn1.heap.size 5 i0 (.int .u8 0) 1 1 Tryz.underlying41 HI.out HZ0.out HZ1.out HZ2.out rfl (by decide) _ _ _ (by rfl) TW.out.l _ _ _ (pz.map (Value.int .u8)) (by rfl) (by rw [List.length_map, PZL.out, Nat.mul_one]) (HPR.out.later (CB.out.trans AP3) (Nat.le_refl _)).src bts_one ?_ ?_ TW.out.b ?_ 
      · (unfold maxLen; rw [List.length_append]; simp; omega) 
      · (rw [List.length_append]; simp; omega)
      intro vw3 wc3 OW3 fr3
      have OX3 := own_app (ys := pz) (zs := (B ++ [(n : Int) / 256 % 256, (n : Int) % 256]) ++ pz) rfl (by rw [PZL.out]; exact OW3); obtain ⟨sa3, ca3, rfl⟩ := own_shape OX3; have CH3 := TW.out.chgL fr3; have TW := Lib.hid (TW.out.left fr3 OX3)
      refine ⟨.inr CH3, ?_⟩
      have AC3 := Chg.trans AP3 CH3
      simp only [Act.put, L0, L1, L2]
      first | (refine Evo2.val ok 15 ?_ ?_ ?_; rotate_left; (intro w' hg; go_simp <;> with_reducible rfl); simp only [Act.put, L0, L1, L2])
      refine Evo2.done (by decide +kernel) (fun wz gz => ?_)
      have AZ := Chg.trans AC3 (Chg.grow gz)
      have TW := Lib.hid (TW.out.grow gz)
      have NEW : Hid (Two wz wn1.heap.size (.slice sa3 (B.length + (pz.length + 1 + 1)) ca3) (packs R (i + 1)) (.slice none 0 0) [] ∧ Below wn1.heap.size wn1 wz) := Lib.hid ⟨by
        rw [PS.out]
        have e : B ++ pieceB pz = (B ++ [(n : Int) / 256 % 256, (n : Int) % 256]) ++ pz := by unfold pieceB; rw [PZL.out, List.append_assoc]
        have el : B.length + (pz.length + 1 + 1) = ((B ++ [(n : Int) / 256 % 256, (n : Int) % 256]) ++ pz).length := by simp
        rw [e, el]
        exact TW.out, (CB.out.trans AZ).below (Nat.le_refl _) (fun k hk q => by omega)⟩
      clear TW AZ gz AP1 AP2 AP3 ok KC HPR
      go_wp2_with fail
      go_roundw
      case rel => exact ⟨i + 1, by omega, by go_num, NEW⟩
      case measure => simp [intOf]; omega
  ·
    rintro A V5 ⟨x8, x9, x27, x28, x29, x30, x31, x32, x33, x34, x35, x36, x37, x38, x39, x40, x41, x42, x43, x44, x45, x46, x47, x48, x49, x50, x51, x52, x53, bv, rfl, SV⟩
    obtain ⟨TW, hB⟩ := SV.out
    have PL := packs_len (R := R) (Nat.le_refl _)
    have CUT := Lib.hid (packs_cut R)
    have BBT := Lib.hid (packs_bts hRB.out R.length)
    generalize packs R R.length = BL at *
    have HL := Lib.hid TW.l
    have PR := Lib.hid (HR.out.grow (HB1.out.trans hB))
    have HBW := Lib.hid hB
    have sV := hB.size
    have WC := Lib.hid (fun w => within3_any cut (BL.length + 1) w (by omega) (by omega) hcut.1 hcut.2)
    have rC := withinI_range cut (BL.length + 1) (by omega)
    generalize withinI cut (BL.length + 1) = q at *
    obtain ⟨kc, rfl⟩ := Int.eq_ofNat_of_zero_le rC.1
    have hkc : kc ≤ BL.length := by omega
    have wc1 : IntKind.i64.wrap ((BL.length : Int) + 1) = (BL.length : Int) + 1 := by rw [IntKind.wrap_i64]; omega
    have hB2 : BL.length ≤ 3624 := by omega
    have SH : (bv = .slice none 0 0 ∧ BL = []) ∨ ∃ g c, bv = .slice (some ⟨g, 0, none⟩) BL.length c ∧ BL.length ≤ c := by
      obtain ⟨a, c, rfl⟩ := own_shape TW.l
      have hle := TW.l.le
      rcases TW.l.2 with ⟨h0, h1⟩ | ⟨g, cap, cur, hv, _⟩
      · exact .inl ⟨h0, List.eq_nil_of_length_eq_zero h1⟩
      · injection hv with e1 e2 e3
        subst e1
        exact .inr ⟨g, c, rfl, hle.2⟩
    clear SV TW hB hcut rC HR hRB
    have SHH : ∃ (a : Option Addr) (c : Nat), bv = .slice a BL.length c ∧ kc ≤ c := by
      rcases SH with ⟨rfl, rfl⟩ | ⟨g, c, rfl, h⟩
      · exact ⟨none, 0, rfl, hkc⟩
      · exact ⟨_, c, rfl, by omega⟩
    obtain ⟨ba, bc, rfl, hkb⟩ := SHH
    clear SH
    go_wp2_with fail
    refine (WC.out _).mono ?_
    rintro e wx ⟨rfl, rfl⟩
    go_wp2_with fail
    have BK := Blk.new V5 ([.slice ar rs.length cr, .slice ba BL.length bc, .slice ba kc bc] : List Value).toArray 41
    have GV : Grow.G V5 (V5.alloc (.cells ([.slice ar rs.length cr, .slice ba BL.length bc, .slice ba kc bc] : List Value).toArray 41)) := Grow.G.alloc (Grow.G.refl _) _
    generalize V5.alloc (.cells ([.slice ar rs.length cr, .slice ba BL.length bc, .slice ba kc bc] : List Value).toArray 41) = V6 at *
    generalize V5.heap.size = k99 at *
    have LS : Hid (∀ i, i < 3 → ∃ (a : Option Addr) (z : List Int) (c : Nat), Bts z ∧ z.length ≤ 100000 ∧ ∀ w', Below V6.heap.size V6 w' → w'.cell? ⟨k99, i, none⟩ = some (.slice a z.length c) ∧ PZ w' a c z) := Lib.hid (by
      have CB : ∀ (w' : World), Below V6.heap.size V6 w' → ∀ {i : Nat} {x : Value}, ([.slice ar rs.length cr, .slice ba BL.length bc, .slice ba kc bc] : List Value)[i]? = some x → w'.cell? ⟨k99, i, none⟩ = some x := fun w' h i x hx => (BK.chg (Chg.ofBelow h) (by have := BK.lt; omega)).at hx
      have PA : ∀ (w' : World) {a : Option Addr} {c : Nat} {z : List Int}, Below V6.heap.size V6 w' → PZ V6 a c z → PZ w' a c z := fun w' a c z h k => k.later (Chg.ofBelow h) (Nat.le_refl _)
      have tk : (BL.take kc).length = kc := by rw [List.length_take]; omega
      have PB := (own_pz' HL.out).grow GV
      intro i hi
      have i5 : i = 0 ∨ i = 1 ∨ i = 2 := by omega
      rcases i5 with rfl | rfl | rfl
      · exact ⟨_, rs, _, RBT.out, by omega, fun w' h => ⟨CB w' h rfl, PA w' h (PR.out.grow GV)⟩⟩
      · exact ⟨_, BL, _, BBT.out, by omega, fun w' h => ⟨CB w' h rfl, PA w' h PB⟩⟩
      · exact ⟨_, BL.take kc, _, BBT.out.take kc, by rw [tk]; omega, fun w' h => ⟨by rw [tk]; exact CB w' h rfl, PA w' h (PB.take kc)⟩⟩)
    have BW6 := Lib.hid ((HB1.out.trans HBW.out).trans GV)
    have HL6 := Lib.hid (own_later HL.out GV)
    have KL := BK.lt
    have HRW6 := Lib.hid (fun i (hi : i < R.length) => HRW.out.grow ((HB1.out.trans HBW.out).trans GV) hi)
    clear BK GV PR HBW WC wc1 hkb hkc HL HRW HB1 sV
    go_loopw [11] (fun ii wr => ∃ i : Nat, i ≤ 3 ∧ ii = .int .i64 i ∧ Hid (Below V6.heap.size V6 wr)) (fun ii _ => 3 - (intOf ii).toNat)
    case atStart => exact ⟨0, by omega, rfl, Lib.hid (Below.refl _ _)⟩
    case round =>
      obtain ⟨i, hi, rfl, SB⟩ := hrel
      by_cases hgo : i < 3
      · obtain ⟨a, z, c, hbt, hzl, hfa⟩ := LS.out i hgo
        have HF := Lib.hid hfa
        have HBT := Lib.hid hbt
        have q1 := (hfa wr SB.out).1
        have kl : k99 < wr.heap.size := Nat.lt_of_lt_of_le KL SB.out.size
        have SBS := SB.out.size
        have KC := Lib.hid (fun (w' : World) (h : Chg (fun k => wr.heap.size ≤ k) wr w') => (⟨h.cell q1 (by omega), trivial⟩ : w'.cell? ⟨k99, i, none⟩ = some (.slice a z.length c) ∧ True))
        have TW := Lib.hid (Two.none wr)
        have PQ := Lib.hid (PP.nil wr wr.heap.size none)
        have XQ := Lib.hid (PiecesAt.nil wr wr.heap.size)
        have HFS := Lib.hid (fun (w' : World) (h : Chg (fun k => wr.heap.size ≤ k) wr w') => (HF.out w' (SB.out.trans ((h.below (Nat.le_refl _) (fun k hk q => by omega)).mono SB.out.size))).2)
        have hd3 : decide ((i : Int) < 3) = true := by simp; omega
        clear hfa LS hbt q1
        go_wp2_with fail
        clear hd3
        have hi3 : (i : Int) < 3 := by omega
        refine wp_spec (fun a0 A W => ∃ x68 x69 x70 x71 x72 x73 x74 x75 x76 x77 x78 x79 : Value, ∃ (xv yv : Value), A = ((((((((((((((a0.put (some 12) (xv)).put (some 13) (yv)).put (some 68) x68).put (some 69) x69).put (some 70) x70).put (some 71) x71).put (some 72) x72).put (some 73) x73).put (some 74) x74).put (some 75) x75).put (some 76) x76).put (some 77) x77).put (some 78) x78).put (some 79) x79) ∧ Hid (PiecesAt W wr.heap.size xv (cutE z) ∧ PiecesAt W wr.heap.size yv (cutE z) ∧ Chg (fun k => wr.heap.size ≤ k) wr W)) ?_ ?_
        all_goals simp only [Act.put, L0, L1, L2]
        ·
          refine Evo2.start' (ℓ := none) (S := Chg (fun k => wr.heap.size ≤ k)) (E := Grow.G) (by kernel_rfl) ⟨Chg.pre _, by decide +kernel, (by intro c a d v w h; cases d <;> exact h), by decide +kernel⟩ (fun ok => ?_)
          first | (refine Evo2.val ok 1 ?_ ?_ ?_; rotate_left; (intro w' hg; go_simp <;> with_reducible rfl); simp only [Act.put, L0, L1, L2])
          first | (refine Evo2.val ok 2 ?_ ?_ ?_; rotate_left; (intro w' hg; go_simp <;> with_reducible rfl); simp only [Act.put, L0, L1, L2])
          first | (refine Evo2.val ok 3 ?_ ?_ ?_; rotate_left; (intro w' hg; go_simp <;> with_reducible rfl); simp only [Act.put, L0, L1, L2])
          first | (refine Evo2.val ok 4 ?_ ?_ ?_; rotate_left; (intro w' hg; obtain ⟨q1, q2⟩ := KC.out w' (Chg.trans (Chg.refl (fun k => wr.heap.size ≤ k) _) hg); go_simp <;> with_reducible rfl); simp only [Act.put, L0, L1, L2]) | (refine Evo2.val ok 4 ?_ ?_ ?_; rotate_left; (intro w' hg; go_simp <;> with_reducible rfl); simp only [Act.put, L0, L1, L2])
          first | (refine Evo2.val ok 7 ?_ ?_ ?_; rotate_left; (intro w' hg; go_simp <;> with_reducible rfl); simp only [Act.put, L0, L1, L2])
          first | (refine Evo2.val ok 8 ?_ ?_ ?_; rotate_left; (intro w' hg; go_simp <;> with_reducible rfl); simp only [Act.put, L0, L1, L2])
          first | (refine Evo2.val ok 9 ?_ ?_ ?_; rotate_left; (intro w' hg; go_simp <;> with_reducible rfl); simp only [Act.put, L0, L1, L2])
          first | (refine Evo2.val ok 10 ?_ ?_ ?_; rotate_left; (intro w' hg; obtain ⟨q1, q2⟩ := KC.out w' (Chg.trans (Chg.refl (fun k => wr.heap.size ≤ k) _) hg); go_simp <;> with_reducible rfl); simp only [Act.put, L0, L1, L2]) | (refine Evo2.val ok 10 ?_ ?_ ?_; rotate_left; (intro w' hg; go_simp <;> with_reducible rfl); simp only [Act.put, L0, L1, L2])
          refine Evo2.all [0] (by decide +kernel) rfl ?_
          intro wp1 gp1 iq hq
          simp only [List.mem_cons, List.mem_nil_iff, or_false] at hq
          have AP1 := Chg.trans (Chg.refl (fun k => wr.heap.size ≤ k) _) (Chg.grow gp1)
          have TW := Lib.hid (TW.out.grow gp1); have PQ := Lib.hid (PQ.out.grow gp1); have XQ := Lib.hid (XQ.out.grow gp1)
          subst hq
          refine Evo2.runs (by rfl) (by rfl) (fun K' hK' => ?_)
          (try obtain ⟨q1, q2⟩ := KC.out wp1 AP1)
          go_simp
          (try (simp only [Evo.after_value, Evo.after_skip]))
          refine hK'.out _ _ ?_
          clear hK'
          simp only [Act.put, L0, L1, L2]
          (try clear q1 q2)
          refine ⟨.inr (Chg.alloc (Chg.refl _ _) _), ?_⟩
          generalize hG1 : World.alloc wp1 _ = wg1
          have GG1 : Grow.G wp1 wg1 := hG1 ▸ Grow.G.alloc (Grow.G.refl _) _
          have NC1 := (congrArg (fun W : World => W.heap[wp1.heap.size]?) hG1).symm.trans (MapKept.heap_alloc wp1 _).1
          have NL1 : wp1.heap.size < wg1.heap.size := by rw [← hG1]; simp
          clear hG1
          have TW := Lib.hid (TW.out.newL (xs := []) (n := 0) GG1 NC1 rfl rfl (by decide)); have PQ := Lib.hid (PQ.out.new rfl GG1); have XQ := Lib.hid (XQ.out.grow GG1)
          refine Evo2.all [5] (by decide +kernel) rfl ?_
          intro wp2 gp2 iq hq
          simp only [List.mem_cons, List.mem_nil_iff, or_false] at hq
          have AP2 := Chg.trans (Chg.trans AP1 (Chg.grow GG1)) (Chg.grow gp2)
          have TW := Lib.hid (TW.out.grow gp2); have PQ := Lib.hid (PQ.out.grow gp2); have XQ := Lib.hid (XQ.out.grow gp2)
          have NC1 := (gp2.block _ NL1).trans NC1
          have NL1 := Nat.lt_of_lt_of_le NL1 gp2.size
          subst hq
          refine Fr.own_src (by rfl) (by rfl) (Operand.tmp 68) (Operand.tmp 72) 41 (by rfl) wr.heap.size 5 i0 (.int .u8 0) 1 1 Tryz.underlying41 HI.out HZ0.out HZ1.out HZ2.out rfl (by decide) _ _ _ (by rfl) TW.out.l _ _ _ (z.map (Value.int .u8)) (by rfl) (by simp) (HFS.out _ AP2).src bts_one ?_ ?_ TW.out.b ?_ 
          · (unfold maxLen; simp; omega) 
          · (simp; omega)
          intro vw2 wc2 OW2 fr2
          have OX2 := own_app (zs := z) rfl OW2; obtain ⟨sa2, ca2, rfl⟩ := own_shape OX2; have CH2 := TW.out.chgL fr2; have PQ := Lib.hid (PQ.out.app rfl TW.out.l fr2); have XQ := Lib.hid (PiecesAt.nil wc2 wr.heap.size); have TW := Lib.hid (TW.out.left fr2 OX2)
          refine ⟨.inr CH2, ?_⟩
          have AC2 := Chg.trans AP2 CH2
          simp only [Act.put, L0, L1, L2]
          refine Evo2.all [6] (by decide +kernel) rfl ?_
          intro wp3 gp3 iq hq
          simp only [List.mem_cons, List.mem_nil_iff, or_false] at hq
          have AP3 := Chg.trans AC2 (Chg.grow gp3)
          have TW := Lib.hid (TW.out.grow gp3); have PQ := Lib.hid (PQ.out.grow gp3); have XQ := Lib.hid (XQ.out.grow gp3)
          subst hq
          refine Evo2.enters 23 _ (by rfl) (by rfl) (by go_simp; exact ⟨rfl, rfl⟩) ?_
          refine (TW.out.l.ecut (by have := AP3.size; omega) HBT.out hzl).mono ?_
          rintro e wc3 ⟨xv, rfl, px3, g3⟩; have CH3 := Chg.grow (G := fun k => wr.heap.size ≤ k) g3; have TW := Lib.hid (TW.out.grow g3); have PQ := Lib.hid (PQ.out.grow g3); have XQ := Lib.hid (px3.base AP3.size)
          refine ⟨_, rfl, .inr CH3, ?_⟩
          have AC3 := Chg.trans AP3 CH3
          simp only [Act.put, L0, L1, L2]
          refine Evo2.all [11] (by decide +kernel) rfl ?_
          intro wp4 gp4 iq hq
          simp only [List.mem_cons, List.mem_nil_iff, or_false] at hq
          have AP4 := Chg.trans AC3 (Chg.grow gp4)
          have TW := Lib.hid (TW.out.grow gp4); have PQ := Lib.hid (PQ.out.grow gp4); have XQ := Lib.hid (XQ.out.grow gp4)
          subst hq
          refine Evo2.enters 24 _ (by rfl) (by rfl) (by go_simp; exact ⟨rfl, rfl⟩) ?_
          refine (rcut_any a c z _ (HFS.out _ AP4) HBT.out hzl).mono ?_
          rintro e wc4 ⟨yv, rfl, py4, g4⟩; have CH4 := Chg.grow (G := fun k => wr.heap.size ≤ k) g4; have PQ := Lib.hid (PP.of py4 AP4.size (fun k hk => TW.out.l.lt k hk |>.2)); have TW := Lib.hid (TW.out.grow g4); have XQ := Lib.hid (XQ.out.grow g4)
          refine ⟨_, rfl, .inr CH4, ?_⟩
          have AC4 := Chg.trans AP4 CH4
          simp only [Act.put, L0, L1, L2]
          first | (refine Evo2.val ok 12 ?_ ?_ ?_; rotate_left; (intro w' hg; go_simp <;> with_reducible rfl); simp only [Act.put, L0, L1, L2])
          first | (refine Evo2.val ok 13 ?_ ?_ ?_; rotate_left; (intro w' hg; go_simp <;> with_reducible rfl); simp only [Act.put, L0, L1, L2])
          refine Evo2.done (by decide +kernel) (fun wz gz => ?_)
          have AZ := Chg.trans AC4 (Chg.grow gz)
          have TW := Lib.hid (TW.out.grow gz); have PQ := Lib.hid (PQ.out.grow gz); have XQ := Lib.hid (XQ.out.grow gz)
          dsimp only [PostN] 
          (repeat apply Exists.intro) 
          exact ⟨rfl, Lib.hid ⟨XQ.out, PQ.out.p, AZ⟩⟩
        ·
          rintro A V7 ⟨x68, x69, x70, x71, x72, x73, x74, x75, x76, x77, x78, x79, xv, yv, rfl, SX⟩
          obtain ⟨px, py, ch7⟩ := SX.out
          obtain ⟨xa, xc, rfl⟩ := px.shape
          obtain ⟨ya, yc, rfl⟩ := py.shape
          have PX := Lib.hid px
          have PY := Lib.hid py
          have B7 := Lib.hid (SB.out.trans ((ch7.below (Nat.le_refl _) (fun k hk q => by omega)).mono SB.out.size))
          clear SX px py ch7 KC HFS TW PQ XQ HF SB
          have hLl : (cutE z).length ≤ 100000 := Nat.le_trans (cut_len _ z (Nat.le_refl _)) hzl
          generalize cutE z = L at *
          go_wp2_with fail
          go_loopw [14] (fun ii wr => ∃ j : Nat, j ≤ L.length ∧ ii = .int .i64 j ∧ Hid (Grow.G V7 wr)) (fun ii _ => L.length - (intOf ii).toNat)
          case atStart => exact ⟨0, by omega, rfl, Lib.hid (Grow.G.refl _)⟩
          case round =>
            obtain ⟨j, hj, rfl, GJ⟩ := hrel
            by_cases hlt : j < L.length
            · obtain ⟨gx, cx, sx, tx, ex, hgx, cellx, ox⟩ := (PX.out.grow GJ.out).at hlt
              obtain ⟨gy, cy, sy, ty, ey, hgy, celly, oy⟩ := (PY.out.grow GJ.out).at hlt
              injection ex with e1 _ e2
              injection ey with e3 _ e4
              subst e1 e2 e3 e4
              generalize L.getD j [] = z2 at *
              have OX := Lib.hid ox
              have OY := Lib.hid oy
              have KC := Lib.hid (fun (w' : World) (h : Chg (fun _ => False) wr w') => (⟨h.cell cellx id, cv_own (own_later OX.out (chg_none h)), h.cell celly id, cv_own (own_later OY.out (chg_none h)), trivial⟩ : w'.cell? ⟨gx, j, none⟩ = some (.slice sx z2.length tx) ∧ (convert 41 9 (.slice sx z2.length tx)).run Tryz.prog w' = .ok (.string (strOfNums z2)) w' ∧ w'.cell? ⟨gy, j, none⟩ = some (.slice sy z2.length ty) ∧ (convert 41 9 (.slice sy z2.length ty)).run Tryz.prog w' = .ok (.string (strOfNums z2)) w' ∧ True))
              clear ox oy cellx celly
              go_wp2_with fail
              refine Evo2.start' (ℓ := none) (S := Chg (fun _ => False)) (E := Grow.G) (by kernel_rfl) ⟨Chg.pre _, by decide +kernel, (by intro c a d v w h; cases d <;> exact h), by decide +kernel⟩ (fun ok => ?_)
              first | (refine Evo2.val ok 0 ?_ ?_ ?_; rotate_left; (intro w' hg; go_simp <;> with_reducible rfl); simp only [Act.put, L0, L1, L2])
              first | (refine Evo2.val ok 1 ?_ ?_ ?_; rotate_left; (intro w' hg; go_simp <;> with_reducible rfl); simp only [Act.put, L0, L1, L2])
              first | (refine Evo2.val ok 2 ?_ ?_ ?_; rotate_left; (intro w' hg; go_simp <;> with_reducible rfl); simp only [Act.put, L0, L1, L2])
              first | (refine Evo2.val ok 3 ?_ ?_ ?_; rotate_left; (intro w' hg; obtain ⟨q1, q2, q3, q4, q5⟩ := KC.out w' (Chg.trans (Chg.refl (fun _ => False) _) hg); go_simp <;> with_reducible rfl); simp only [Act.put, L0, L1, L2]) | (refine Evo2.val ok 3 ?_ ?_ ?_; rotate_left; (intro w' hg; go_simp <;> with_reducible rfl); simp only [Act.put, L0, L1, L2])
              first | (refine Evo2.val ok 4 ?_ ?_ ?_; rotate_left; (intro w' hg; obtain ⟨q1, q2, q3, q4, q5⟩ := KC.out w' (Chg.trans (Chg.refl (fun _ => False) _) hg); go_simp <;> with_reducible rfl); simp only [Act.put, L0, L1, L2]) | (refine Evo2.val ok 4 ?_ ?_ ?_; rotate_left; (intro w' hg; go_simp <;> with_reducible rfl); simp only [Act.put, L0, L1, L2])
              first | (refine Evo2.val ok 5 ?_ ?_ ?_; rotate_left; (intro w' hg; go_simp <;> with_reducible rfl); simp only [Act.put, L0, L1, L2])
              first | (refine Evo2.val ok 6 ?_ ?_ ?_; rotate_left; (intro w' hg; go_simp <;> with_reducible rfl); simp only [Act.put, L0, L1, L2])
              first | (refine Evo2.val ok 7 ?_ ?_ ?_; rotate_left; (intro w' hg; go_simp <;> with_reducible rfl); simp only [Act.put, L0, L1, L2])
              first | (refine Evo2.val ok 8 ?_ ?_ ?_; rotate_left; (intro w' hg; obtain ⟨q1, q2, q3, q4, q5⟩ := KC.out w' (Chg.trans (Chg.refl (fun _ => False) _) hg); go_simp <;> with_reducible rfl); simp only [Act.put, L0, L1, L2]) | (refine Evo2.val ok 8 ?_ ?_ ?_; rotate_left; (intro w' hg; go_simp <;> with_reducible rfl); simp only [Act.put, L0, L1, L2])
              first | (refine Evo2.val ok 9 ?_ ?_ ?_; rotate_left; (intro w' hg; obtain ⟨q1, q2, q3, q4, q5⟩ := KC.out w' (Chg.trans (Chg.refl (fun _ => False) _) hg); go_simp <;> with_reducible rfl); simp only [Act.put, L0, L1, L2]) | (refine Evo2.val ok 9 ?_ ?_ ?_; rotate_left; (intro w' hg; go_simp <;> with_reducible rfl); simp only [Act.put, L0, L1, L2])
              first | (refine Evo2.val ok 10 ?_ ?_ ?_; rotate_left; (intro w' hg; go_simp <;> with_reducible rfl); simp only [Act.put, L0, L1, L2])
              refine Evo2.done (by decide +kernel) (fun wz gz => ?_)
              have AZ := Chg.trans (Chg.refl (fun _ => False) _) (Chg.grow gz)
              have GJ2 := Lib.hid (GJ.out.trans (chg_none AZ))
              clear AZ gz ok KC OX OY GJ
              go_wp2_with fail
              go_roundw
              case rel => exact ⟨j + 1, by omega, by go_num, GJ2⟩
              case measure => simp [intOf]; omega
            · obtain rfl : j = L.length := by omega
              have B8 := Lib.hid (B7.out.trans (GJ.out.mono B7.out.size))
              clear B7 GJ PX PY
              go_wp2_with fail
              go_roundw
              case rel => exact ⟨i + 1, by omega, by go_num, B8⟩
              case measure => simp [intOf]; omega
      · clear LS
        have kl : k99 < wr.heap.size := Nat.lt_of_lt_of_le KL SB.out.size
        have EC := Lib.hid (OwnB.ecut (own_later HL6.out SB.out) (by omega) BBT.out (by omega))
        clear HL6
        go_wp2_with fail
        refine EC.out.mono ?_
        rintro e w9 ⟨xv, rfl, px, g9⟩
        rw [CUT.out] at px
        have G9 := Lib.hid (SB.out.trans (g9.mono SB.out.size))
        obtain ⟨xa, xc, rfl⟩ := px.shape
        have HPX := Lib.hid px
        rw [List.length_map]
        clear px g9 EC CUT BBT SB
        go_wp2_with fail
        go_loopw [16] (fun ii wr => ∃ j : Nat, j ≤ R.length ∧ ii = .int .i64 j ∧ Hid (Grow.G w9 wr)) (fun ii _ => R.length - (intOf ii).toNat)
        case atStart => exact ⟨0, by omega, rfl, Lib.hid (Grow.G.refl _)⟩
        case round =>
          obtain ⟨j, hj, rfl, GJ⟩ := hrel
          by_cases hlt : j < R.length
          · obtain ⟨gx, cx, sx, tx, ex, hgx, cellx, ox⟩ := (HPX.out.grow GJ.out).at (k := j) (by rw [List.length_map]; exact hlt)
            injection ex with e1 _ e2
            subst e1 e2
            have ez : (R.map pcR).getD j [] = pcR (R.getD j br0) := by simp [List.getD, hlt]
            rw [ez] at cellx ox
            have GA := Lib.hid (G9.out.trans (GJ.out.mono G9.out.size))
            obtain ⟨rb, ro, rfl, hrb, cR0, pR, bR, lR, kR⟩ := HRW6.out j hlt
            have cR := cell_later GA.out cR0
            have EP : Hid (pcR (R.getD j br0) = (R.getD j br0).zs.take 300) := Lib.hid rfl
            generalize pcR (R.getD j br0) = pz at *
            generalize R.getD j br0 = r at *
            obtain ⟨a, z, c⟩ := r
            dsimp only at *
            obtain ⟨n, hn⟩ : ∃ n, min z.length 300 = n := ⟨_, rfl⟩
            have hnz : n ≤ z.length := by omega
            have hnc : n ≤ c := by omega
            have MN : min (z.length : Int) 300 = (n : Int) := by omega
            have pl : pz.length = n := by rw [EP.out, List.length_take]; omega
            have HPR := Lib.hid (show PZ wr a c pz from by rw [EP.out]; exact (pR.grow GA.out).take 300)
            have PZL := Lib.hid pl.symm
            have OX := Lib.hid ox
            have KC := Lib.hid (fun (w' : World) (h : Chg (fun _ => False) wr w') => (⟨h.cell cellx id, cv_own (own_later OX.out (chg_none h)), h.cell cR id, (HPR.out.grow (chg_none h)).cv PZL.out, trivial⟩ : w'.cell? ⟨gx, j, none⟩ = some (.slice sx pz.length tx) ∧ (convert 41 9 (.slice sx pz.length tx)).run Tryz.prog w' = .ok (.string (strOfNums pz)) w' ∧ w'.cell? ⟨rb, ro + j, none⟩ = some (.slice a z.length c) ∧ (convert 41 9 (.slice a n c)).run Tryz.prog w' = .ok (.string (strOfNums pz)) w' ∧ True))
            clear ox cellx cR cR0 pR bR EP hn pl GA ez
            have hd : decide (R.length ≤ j) = false := by simp; omega
            go_wp2_with fail
            refine Evo2.start' (ℓ := none) (S := Chg (fun _ => False)) (E := Grow.G) (by kernel_rfl) ⟨Chg.pre _, by decide +kernel, (by intro c a d v w h; cases d <;> exact h), by decide +kernel⟩ (fun ok => ?_)
            first | (refine Evo2.val ok 0 ?_ ?_ ?_; rotate_left; (intro w' hg; go_simp <;> with_reducible rfl); simp only [Act.put, L0, L1, L2])
            first | (refine Evo2.val ok 1 ?_ ?_ ?_; rotate_left; (intro w' hg; go_simp <;> with_reducible rfl); simp only [Act.put, L0, L1, L2])
            first | (refine Evo2.val ok 2 ?_ ?_ ?_; rotate_left; (intro w' hg; go_simp <;> with_reducible rfl); simp only [Act.put, L0, L1, L2])
            first | (refine Evo2.val ok 3 ?_ ?_ ?_; rotate_left; (intro w' hg; go_simp <;> with_reducible rfl); simp only [Act.put, L0, L1, L2])
            first | (refine Evo2.val ok 4 ?_ ?_ ?_; rotate_left; (intro w' hg; go_simp <;> with_reducible rfl); simp only [Act.put, L0, L1, L2])
            first | (refine Evo2.val ok 5 ?_ ?_ ?_; rotate_left; (intro w' hg; go_simp <;> with_reducible rfl); simp only [Act.put, L0, L1, L2]) | (refine Evo2.idl ok 5 ?_; simp only [Act.put, L0, L1, L2])
            first | (refine Evo2.val ok 6 ?_ ?_ ?_; rotate_left; (intro w' hg; go_simp <;> with_reducible rfl); simp only [Act.put, L0, L1, L2]) | (refine Evo2.idl ok 6 ?_; simp only [Act.put, L0, L1, L2])
            first | (refine Evo2.val ok 7 ?_ ?_ ?_; rotate_left; (intro w' hg; go_simp <;> with_reducible rfl); simp only [Act.put, L0, L1, L2]) | (refine Evo2.idl ok 7 ?_; simp only [Act.put, L0, L1, L2])
            first | (refine Evo2.val ok 8 ?_ ?_ ?_; rotate_left; (intro w' hg; obtain ⟨q1, q2, q3, q4, q5⟩ := KC.out w' (Chg.trans (Chg.refl (fun _ => False) _) hg); go_simp <;> with_reducible rfl); simp only [Act.put, L0, L1, L2]) | (refine Evo2.val ok 8 ?_ ?_ ?_; rotate_left; (intro w' hg; go_simp <;> with_reducible rfl); simp only [Act.put, L0, L1, L2]) | (refine Evo2.idl ok 8 ?_; simp only [Act.put, L0, L1, L2])
            first | (refine Evo2.val ok 9 ?_ ?_ ?_; rotate_left; (intro w' hg; obtain ⟨q1, q2, q3, q4, q5⟩ := KC.out w' (Chg.trans (Chg.refl (fun _ => False) _) hg); go_simp <;> with_reducible rfl); simp only [Act.put, L0, L1, L2]) | (refine Evo2.val ok 9 ?_ ?_ ?_; rotate_left; (intro w' hg; go_simp <;> with_reducible rfl); simp only [Act.put, L0, L1, L2]) | (refine Evo2.idl ok 9 ?_; simp only [Act.put, L0, L1, L2])
            first | (refine Evo2.val ok 10 ?_ ?_ ?_; rotate_left; (intro w' hg; go_simp <;> with_reducible rfl); simp only [Act.put, L0, L1, L2]) | (refine Evo2.idl ok 10 ?_; simp only [Act.put, L0, L1, L2])
            first | (refine Evo2.val ok 11 ?_ ?_ ?_; rotate_left; (intro w' hg; go_simp <;> with_reducible rfl); simp only [Act.put, L0, L1, L2]) | (refine Evo2.idl ok 11 ?_; simp only [Act.put, L0, L1, L2])
            first | (refine Evo2.val ok 12 ?_ ?_ ?_; rotate_left; (intro w' hg; go_simp <;> with_reducible rfl); simp only [Act.put, L0, L1, L2]) | (refine Evo2.idl ok 12 ?_; simp only [Act.put, L0, L1, L2])
            first | (refine Evo2.val ok 13 ?_ ?_ ?_; rotate_left; (intro w' hg; obtain ⟨q1, q2, q3, q4, q5⟩ := KC.out w' (Chg.trans (Chg.refl (fun _ => False) _) hg); go_simp <;> with_reducible rfl); simp only [Act.put, L0, L1, L2]) | (refine Evo2.val ok 13 ?_ ?_ ?_; rotate_left; (intro w' hg; go_simp <;> with_reducible rfl); simp only [Act.put, L0, L1, L2]) | (refine Evo2.idl ok 13 ?_; simp only [Act.put, L0, L1, L2])
            first | (refine Evo2.val ok 14 ?_ ?_ ?_; rotate_left; (intro w' hg; go_simp <;> with_reducible rfl); simp only [Act.put, L0, L1, L2]) | (refine Evo2.idl ok 14 ?_; simp only [Act.put, L0, L1, L2])
            first | (refine Evo2.val ok 15 ?_ ?_ ?_; rotate_left; (intro w' hg; go_simp <;> with_reducible rfl); simp only [Act.put, L0, L1, L2]) | (refine Evo2.idl ok 15 ?_; simp only [Act.put, L0, L1, L2])
            first | (refine Evo2.val ok 16 ?_ ?_ ?_; rotate_left; (intro w' hg; go_simp <;> with_reducible rfl); simp only [Act.put, L0, L1, L2]) | (refine Evo2.idl ok 16 ?_; simp only [Act.put, L0, L1, L2])
            first | (refine Evo2.val ok 17 ?_ ?_ ?_; rotate_left; (intro w' hg; obtain ⟨q1, q2, q3, q4, q5⟩ := KC.out w' (Chg.trans (Chg.refl (fun _ => False) _) hg); go_simp <;> with_reducible rfl); simp only [Act.put, L0, L1, L2]) | (refine Evo2.val ok 17 ?_ ?_ ?_; rotate_left; (intro w' hg; go_simp <;> with_reducible rfl); simp only [Act.put, L0, L1, L2]) | (refine Evo2.idl ok 17 ?_; simp only [Act.put, L0, L1, L2])
            first | (refine Evo2.val ok 18 ?_ ?_ ?_; rotate_left; (intro w' hg; go_simp <;> with_reducible rfl); simp only [Act.put, L0, L1, L2]) | (refine Evo2.idl ok 18 ?_; simp only [Act.put, L0, L1, L2])
            first | (refine Evo2.val ok 19 ?_ ?_ ?_; rotate_left; (intro w' hg; go_simp <;> with_reducible rfl); simp only [Act.put, L0, L1, L2]) | (refine Evo2.idl ok 19 ?_; simp only [Act.put, L0, L1, L2])
            first | (refine Evo2.val ok 20 ?_ ?_ ?_; rotate_left; (intro w' hg; go_simp <;> with_reducible rfl); simp only [Act.put, L0, L1, L2]) | (refine Evo2.idl ok 20 ?_; simp only [Act.put, L0, L1, L2])
            first | (refine Evo2.val ok 21 ?_ ?_ ?_; rotate_left; (intro w' hg; obtain ⟨q1, q2, q3, q4, q5⟩ := KC.out w' (Chg.trans (Chg.refl (fun _ => False) _) hg); go_simp <;> with_reducible rfl); simp only [Act.put, L0, L1, L2]) | (refine Evo2.val ok 21 ?_ ?_ ?_; rotate_left; (intro w' hg; go_simp <;> with_reducible rfl); simp only [Act.put, L0, L1, L2]) | (refine Evo2.idl ok 21 ?_; simp only [Act.put, L0, L1, L2])
            first | (refine Evo2.val ok 22 ?_ ?_ ?_; rotate_left; (intro w' hg; go_simp <;> with_reducible rfl); simp only [Act.put, L0, L1, L2]) | (refine Evo2.idl ok 22 ?_; simp only [Act.put, L0, L1, L2])
            first | (refine Evo2.val ok 23 ?_ ?_ ?_; rotate_left; (intro w' hg; go_simp <;> with_reducible rfl); simp only [Act.put, L0, L1, L2])
            refine Evo2.done (by decide +kernel) (fun wz gz => ?_)
            have AZ := Chg.trans (Chg.refl (fun _ => False) _) (Chg.grow gz)
            have GJ2 := Lib.hid (GJ.out.trans (chg_none AZ))
            clear AZ gz ok KC OX HPR PZL GJ
            go_wp2_with fail
            go_roundw
            case rel => exact ⟨j + 1, by omega, by go_num, GJ2⟩
            case measure => simp [intOf]; omega
          · obtain rfl : j = R.length := by omega
            have BE := Lib.hid (BW6.out.trans (G9.out.trans (GJ.out.mono G9.out.size)))
            clear HPX GJ G9 BW6 HRW6
            go_wp2_with fail
            go_ret
            exact ⟨rfl, BE.out⟩
end Go.Proofs.YtnkekdmikopdgaaGreat
