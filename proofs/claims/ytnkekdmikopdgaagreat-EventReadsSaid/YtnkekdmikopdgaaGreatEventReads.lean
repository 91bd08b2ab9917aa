
/- The walk of EventReads. -/
import Derived.Test.YtnkekdmikopdgaaGreatZ7
import Derived.Test.YtnkekdmikopdgaaGreatZ23
import Derived.Test.YtnkekdmikopdgaaGreatZ16
import Derived.Test.YtnkekdmikopdgaaGreatZ21
import Derived.Test.YtnkekdmikopdgaaGreatZ27
import Derived.Test.YtnkekdmikopdgaaGreatZ15
import Derived.Test.YtnkekdmikopdgaaGreatZ17
namespace Go.Proofs.YtnkekdmikopdgaaGreat
set_option maxRecDepth 100000
set_option linter.unusedVariables false
set_option linter.unusedSimpArgs false
set_option linter.unnecessarySimpa false
open Go.RowKit

theorem parse_few (l : List Int) (hl : Bts l) : (evParse l).1.ts.length ≤ 1000 := by
 rcases parse_bad l with h | h
 ·
  have e : evParse l = ((evParse l).1, 0) := by rw [← h]
  have := ts_len (parse_only hl e).2
  omega
 ·
  rw [h]; decide
theorem evB_self (e : EvD) : evB e e = true := evB_iff.2 rfl
set_option maxHeartbeats 8000000 in
theorem walkEventReads (w : World) (kd : Int) (hkd : wf64 kd) (n : Int) (hn : wf64 n) (dr : Int) (hdr : wf64 dr) (nm : Int) (hnm : wf64 nm) (c : Cfg) (hc : c.wf ∧ c.nm.size ≤ 140737488351232) (v : Value) (zs : List Int) (hz : IntSlice w v zs) (v2 : Value) (az : List Int) (has : IntSlice w v2 az) (ab : Option Addr) (ys : List Int) (cb : Nat) (hys : ByAt w ab ys ∧ Bts ys ∧ ys.length ≤ 140737488351232 ∧ ys.length ≤ cb) (cut : Int) (hcut : wf64 cut) (ar : Option Addr) (rs : List Int) (cr : Nat) (hrs : ByAt w ar rs ∧ Bts rs ∧ rs.length ≤ 140737488351232 ∧ rs.length ≤ cr) :
  Calls Tryz.prog 5 #[.int .i64 kd, .int .i64 n, .int .i64 dr, .int .i64 nm, c.v, v, v2, .slice ab ys.length cb, .int .i64 cut, .slice ar rs.length cr] w fun e w' => e = .returned (.bool true) ∧ Below w.heap.size w w' := by
 have MK := Lib.hid (fun w h => make_any kd n dr nm c v zs w hkd hn hdr hnm hc.1 h)
 have HZ := Lib.hid hz
 have CHK := mkE_chk kd n dr nm c zs
 generalize mkE kd n dr nm c zs = E at *
 have RB := Lib.hid (fun a c w h => rbytes_any E a c w CHK h)
 have BL := bytes_len CHK
 have BB := Lib.hid (bytes_bts E)
 generalize E.bytes = B at *
 obtain ⟨aa, ca, rfl, hat⟩ := has.open
 have HA := Lib.hid hat
 have HY := Lib.hid hys.1
 have YB := Lib.hid hys.2.1
 have HR := Lib.hid (by_pz hrs.1 hrs.2.2.2)
 have RBT := Lib.hid hrs.2.1
 have WC := Lib.hid (fun w => within3_w cut (B.length + 1) w (by omega) (by omega) hcut)
 have rC := withinI_range cut (B.length + 1) (by omega)
 generalize withinI cut (B.length + 1) = q at *
 obtain ⟨kc, rfl⟩ := Int.eq_ofNat_of_zero_le rC.1
 have hkc : kc ≤ B.length := by omega
 have WK := Lib.hid (fun w => within3_w kd 13 w (by decide) (by decide) hkd)
 have rK := withinI_range kd 13 (by decide)
 generalize withinI kd 13 = qk at *
 have CE : (Tryz.prog.info? 28).map (·.size) = some 15 := by kernel_rfl
 have CC : (Tryz.prog.info? 23).map (·.size) = some 6 := by kernel_rfl
 obtain ⟨cn, im, co, mn, mx, gr⟩ := c
 unfold Cfg.v at *
 dsimp only at *
 clear hz hc hkd hn hdr hnm CHK has hat hys hrs hcut rC
 by_cases h3 : 300 < rs.length
 ·
  go_enter Tryz.func5, Tryz.ntmps5
  go_wp2_with fail
  refine (known3_any _).mono ?_
  rintro e wn1 ⟨rfl, hb1⟩
  go_wp2_with fail
  go_ret
  exact ⟨rfl, Grow.G.trans (Grow.G.alloc (Grow.G.refl _) _) hb1⟩
 go_enter Tryz.func5, Tryz.ntmps5
 go_wp2_with fail
 refine (known3_any _).mono ?_
 rintro e wn1 ⟨rfl, hb1⟩
 have g1 : Grow.G w wn1 := Grow.G.trans (Grow.G.alloc (Grow.G.refl _) _) hb1
 have KB1 := Lib.hid (Evo.later hb1)
 have hxwn1c := (bcell hb1).1
 have hxwn1f := (bcell hb1).2.1
 have hxwn1z := (bcell hb1).2.2
 (try (have hlewn1_1 : w.heap.size ≤ wn1.heap.size := (by first | omega | (have hh := hxwn1z; (try simp at hh); omega))))
 (try (have hlwn1_1_0 : w.heap.size < wn1.heap.size := (by first | omega | (have hh := hxwn1z; (try simp at hh); omega))))
 (try (have hlwn1_1_1 : w.heap.size + 1 < wn1.heap.size := (by first | omega | (have hh := hxwn1z; (try simp at hh); omega))))
 (try (have hlwn1_1_2 : w.heap.size + 1 + 1 < wn1.heap.size := (by first | omega | (have hh := hxwn1z; (try simp at hh); omega))))
 go_wp2_with fail
 refine (MK.out _ (HZ.out.below g1)).mono ?_
 rintro e wn2 ⟨a2, c2, rfl, ht2, -, hb2⟩
 go_wp2_with fail
 refine (RB.out _ _ _ ht2).mono ?_
 rintro e wn3 ⟨v3, rfl, ho3, hb3⟩
 have HM3 := Lib.hid ((Mem.nil w).grow ((g1.trans hb2).trans hb3))
 obtain ⟨s3, c3, rfl⟩ := own_shape ho3
 obtain ⟨b3, rfl, -, hcap3, hbase3⟩ := own_cap ho3 BL.1
 have lt3 := (ho3.lt b3 rfl).2
 have S3 := Lib.hid (src_own ho3)
 have HO3 := Lib.hid ho3
 clear hb1 hb2 hb3 g1 ht2 ho3
 go_wp2_with (at_builtin; refine wpList_copyb rfl _ _ rfl rfl (by first | (with_reducible rfl) | (simp; done)) B rfl rfl S3.out (by omega) ?_)
 intro s4 c4 wn4 ho4 hg4
 obtain ⟨b4, rfl, -, hcap4, hbase4⟩ := own_cap ho4 BL.1
 have lt4 := (ho4.lt b4 rfl).2
 have ST : Hid (∃ T : List Int, T.length = B.length ∧ Bts T ∧ OwnB wn4 wn3.heap.size (.slice (some ⟨b4, 0, none⟩) B.length c4) T ∧ OwnB wn4 wn2.heap.size (.slice (some ⟨b3, 0, none⟩) B.length c3) B ∧ Below w.heap.size w wn4) := Lib.hid ⟨B, rfl, BB.out, ho4, own_later HO3.out hg4, (HM3.out.grow hg4).below⟩
 have hw4 : w.heap.size ≤ b4 := by have := HM3.out.size; omega
 have n34 : b3 ≠ b4 := by omega
 have hsz4 : b4 < wn4.heap.size := lt4
 clear ho4 hg4 S3 HM3 HO3 hbase3
 go_wp2_with fail
 refine wp_specE ?id (fun a0 A W => ∃ x23 x46 x47 x48 x49 x50 x51 x52 x53 x54 x55 x56 x57 x58 x59 x60 x61 x62 x63 x64 x65 x66 x67 x68 x69 x70 x71 x72 x73 x74 x75 x76 x77 : Value, A = (((((((((((((((((((((((((((((((((a0.put (some 23) x23).put (some 46) x46).put (some 47) x47).put (some 48) x48).put (some 49) x49).put (some 50) x50).put (some 51) x51).put (some 52) x52).put (some 53) x53).put (some 54) x54).put (some 55) x55).put (some 56) x56).put (some 57) x57).put (some 58) x58).put (some 59) x59).put (some 60) x60).put (some 61) x61).put (some 62) x62).put (some 63) x63).put (some 64) x64).put (some 65) x65).put (some 66) x66).put (some 67) x67).put (some 68) x68).put (some 69) x69).put (some 70) x70).put (some 71) x71).put (some 72) x72).put (some 73) x73).put (some 74) x74).put (some 75) x75).put (some 76) x76).put (some 77) x77) ∧ b4 < W.heap.size ∧ Hid (∃ T : List Int, T.length = B.length ∧ Bts T ∧ OwnB W wn3.heap.size (.slice (some ⟨b4, 0, none⟩) B.length c4) T ∧ OwnB W wn2.heap.size (.slice (some ⟨b3, 0, none⟩) B.length c3) B ∧ Below w.heap.size w W)) ?_ ?_
 all_goals simp only [Act.put, L0, L1, L2]
 ·
  go_loopw [23] (fun ii wr => ∃ i : Nat, i ≤ 3 ∧ ii = .int .i64 i ∧ b4 < wr.heap.size ∧ Hid (∃ T : List Int, T.length = B.length ∧ Bts T ∧ OwnB wr wn3.heap.size (.slice (some ⟨b4, 0, none⟩) B.length c4) T ∧ OwnB wr wn2.heap.size (.slice (some ⟨b3, 0, none⟩) B.length c3) B ∧ Below w.heap.size w wr)) (fun ii _ => 3 - (intOf ii).toNat)
  case atStart => exact ⟨0, by omega, rfl, hsz4, ST⟩
  case round =>
   obtain ⟨i, hi, rfl, hwr, SR⟩ := hrel
   clear ST hsz4 lt4
   by_cases g0 : i < az.length
   rotate_left
   ·
    go_wp2_with fail
    dsimp only [PostE]
    refine ⟨rfl, ?_⟩
    (repeat apply Exists.intro)
    exact ⟨rfl, hwr, SR⟩
   by_cases g1 : i < ys.length
   rotate_left
   ·
    go_wp2_with fail
    dsimp only [PostE]
    refine ⟨rfl, ?_⟩
    (repeat apply Exists.intro)
    exact ⟨rfl, hwr, SR⟩
   by_cases g2 : i < 3
   rotate_left
   ·
    go_wp2_with fail
    dsimp only [PostE]
    refine ⟨rfl, ?_⟩
    (repeat apply Exists.intro)
    exact ⟨rfl, hwr, SR⟩
   obtain ⟨T, TL, TB, ho, hw3, hB⟩ := SR.out
   obtain ⟨ba, oa, rfl, cA, wfA⟩ := HA.out.at hB g0
   obtain ⟨by', oy, rfl, cY⟩ : ∃ b off, ab = some ⟨b, off, none⟩ ∧ wr.cell? ⟨b, off + i, none⟩ = some (.int .u8 (ys.getD i 0)) := by
    rcases HY.out with h | ⟨b, off, h1, h2⟩
    ·
     rw [h] at g1; simp at g1
    ·
     exact ⟨b, off, h1, cell_later hB (h2 i g1)⟩
   have yb := YB.out (ys.getD i 0) (by simp [List.getD, g1])
   generalize ys.getD i 0 = y at *
   generalize az.getD i 0 = z at *
   have WI := Lib.hid (fun w => within3_w z B.length w (by omega) (by omega) wfA)
   have rW := withinI_range z B.length (by omega)
   generalize withinI z B.length = kk at *
   obtain ⟨k, rfl⟩ := Int.eq_ofNat_of_zero_le rW.1
   have hk : k < B.length := by omega
   obtain ⟨x, hx⟩ : ∃ x, T.getD k 0 = x := ⟨_, rfl⟩
   have xb : 0 ≤ x ∧ x < 256 := by rw [← hx]; exact TB (T.getD k 0) (by simp [List.getD, hk, TL])
   obtain ⟨u, hu⟩ : ∃ u, (x + y) % 256 = u := ⟨_, rfl⟩
   have WY : IntKind.u8.wrap (x + y) = u := by rw [IntKind.wrap_u8, hu]
   have HU : Hid (0 ≤ u ∧ u < 256) := Lib.hid (by omega)
   have HO := Lib.hid ho
   have HO2 := Lib.hid (show wr.ownsRow wn3.heap.size 5 1 (.slice (some ⟨b4, 0, none⟩) B.length c4) B.length (T.map (Value.int .u8)) from by have := ho; unfold OwnB at this; rwa [TL] at this)
   have CX := Lib.hid (fun (w' : World) (h : Chg (fun _ => False) wr w') => (show w'.cell? ⟨b4, k, none⟩ = some (.int .u8 x) from by
    have := (own_later HO.out (chg_none h)).cells (g := b4) rfl k (.int .u8 (T.getD k 0)) (by simp [List.getD, hk, TL])
    rw [hx, Args.addr_add0, Nat.zero_add] at this
    exact this))
   have FX := Lib.hid (fun (w' : World) (h : Chg (fun _ => False) wr w') => (own_later HO2.out (chg_none h)).frozenAt k)
   have LX := Lib.hid (fun (w' : World) (h : Chg (fun _ => False) wr w') => Nat.lt_of_lt_of_le hwr h.size)
   have KC := Lib.hid (fun (w' : World) (h : Chg (fun _ => False) wr w') => (⟨h.cell cA id, h.cell cY id, CX.out w' h, trivial⟩ : w'.cell? ⟨ba, oa + i, none⟩ = some (.int .i64 z) ∧ w'.cell? ⟨by', oy + i, none⟩ = some (.int .u8 y) ∧ w'.cell? ⟨b4, k, none⟩ = some (.int .u8 x) ∧ True))
   have SR2 := Lib.hid (And.intro TL (And.intro TB (And.intro hw3 hB)))
   have hbk : (k : Int) < (B.length : Int) := by omega
   have rk1 := rW.1
   clear TL TB ho hw3 hB cA cY SR hx rW wfA hu
   go_wp2_with fail
   refine Evo2.start' (ℓ := some 16) (S := Chg (fun _ => False)) (E := Grow.G) (by kernel_rfl) ⟨Chg.pre _, by decide +kernel, (by intro c a d v w h; cases d <;> exact h), by decide +kernel⟩ (fun ok => ?_)
   refine Evo2.va ok 0 _ _ ?_
   refine Evo2.va ok 1 _ _ ?_
   refine Evo2.va ok 2 _ _ ?_
   refine Evo2.va ok 3 _ _ ?_
   first | (refine Evo2.vl ok 4 KC.out (Chg.refl (fun _ => False) _) _ _ ?_) | (refine Evo2.va ok 4 _ _ ?_)
   refine Evo2.va ok 5 _ _ ?_
   refine Evo2.va ok 6 _ _ ?_
   (refine Evo2.cal ok 7 ?_ 16 ?_ ?_ ?_ ?_; rotate_left 2; (focus (intro w'; go_simp <;> with_reducible rfl)); (focus (intro w' g'; with_reducible exact WI.out w')); simp only [Act.put, L0, L1, L2])
   refine Evo2.va ok 8 _ _ ?_
   first | (refine Evo2.vl ok 9 KC.out (Chg.refl (fun _ => False) _) _ _ ?_) | (refine Evo2.va ok 9 _ _ ?_)
   refine Evo2.va ok 10 _ _ ?_
   refine Evo2.va ok 11 _ _ ?_
   refine Evo2.va ok 12 _ _ ?_
   first | (refine Evo2.vl ok 13 KC.out (Chg.refl (fun _ => False) _) _ _ ?_) | (refine Evo2.va ok 13 _ _ ?_)
   refine Evo2.va ok 14 _ _ ?_
   refine Evo2.va ok 15 _ _ ?_
   refine Evo2.all [16] (by decide +kernel) rfl ?_
   intro wp1 gp1 iq hq
   simp only [List.mem_cons, List.mem_nil_iff, or_false] at hq
   have AP1 := Chg.trans (Chg.refl (fun _ => False) _) (Chg.grow gp1)
   subst hq
   refine Evo2.runs (by rfl) (by rfl) (fun K' hK' => ?_)
   (try obtain ⟨q1, q2, q3, q4⟩ := KC.out wp1 AP1)
   have e0 := CX.out wp1 AP1; have f0 := FX.out wp1 AP1; have l0 := LX.out wp1 AP1
   go_simp
   (try (simp only [Evo.after_value, Evo.after_skip]))
   refine hK'.out _ _ ?_
   clear hK'
   simp only [Act.put, L0, L1, L2]
   (try clear e0 f0 l0)
   (try clear q1 q2 q3 q4)
   refine ⟨.inl (by first | rfl | trivial), ?_⟩
   refine Evo2.done (by decide +kernel) (fun wz gz => ?_)
   obtain ⟨TL, TB, hw3, hB⟩ := SR2.out
   have ho5 : OwnB (wp1.setCell ⟨b4, k, none⟩ (.int .u8 u)) wn3.heap.size (.slice (some ⟨b4, 0, none⟩) B.length c4) (T.set k u) := by
    have := ((own_later HO2.out (chg_none AP1)).stored k (.int .u8 u)).1
    unfold OwnB
    rw [List.length_set, List.map_set, TL]
    exact this
   have CS : Chg (fun k => k = b4) wp1 (wp1.setCell ⟨b4, k, none⟩ (.int .u8 u)) := Chg.setCell (G := fun k => k = b4) (Chg.refl _ wp1) (fun _ => rfl) k (.int .u8 u)
   have NEW : Hid (∃ T : List Int, T.length = B.length ∧ Bts T ∧ OwnB wz wn3.heap.size (.slice (some ⟨b4, 0, none⟩) B.length c4) T ∧ OwnB wz wn2.heap.size (.slice (some ⟨b3, 0, none⟩) B.length c3) B ∧ Below w.heap.size w wz) := Lib.hid ⟨T.set k u, by rw [List.length_set]; exact TL, (by
    intro t ht
    rcases List.mem_or_eq_of_mem_set ht with h | h
    ·
     exact TB t h
    ·
     subst h; exact HU.out), own_later ho5 gz, own_later (CS.own (own_later hw3 (chg_none AP1)) (fun k hk q => by
     have e1 : b3 = k := Option.some.inj hk
     have q : k = b4 := q
     omega)) gz, (hB.trans ((chg_none AP1).mono (by have := hB.size; omega))).trans ((CS.below (B := w.heap.size) (by have := hB.size; have := AP1.size; omega) (fun k hk q => by have q : k = b4 := q; omega)).trans (Below.mono gz (by have := hB.size; have := AP1.size; have := CS.size; omega)))⟩
   have hwz : b4 < wz.heap.size := by have := AP1.size; have := CS.size; have := gz.size; omega
   clear TL TB hw3 hB ho5 CS gz AP1 gp1 ok KC LX FX CX HO SR2 WI WY HU
   go_wp2_with fail
   go_roundw
   case rel => exact ⟨i + 1, by omega, by go_num, hwz, NEW⟩
   case measure => simp [intOf]; omega
 ·
  rintro A V5 ⟨x23, x46, x47, x48, x49, x50, x51, x52, x53, x54, x55, x56, x57, x58, x59, x60, x61, x62, x63, x64, x65, x66, x67, x68, x69, x70, x71, x72, x73, x74, x75, x76, x77, rfl, h4W, SW⟩
  obtain ⟨T, TL, TB, ho, hw3, hB⟩ := SW.out
  have PB := Lib.hid (own_pz' hw3)
  have PT := Lib.hid (own_pz' ho)
  have PR := Lib.hid (HR.out.grow hB)
  have HT := Lib.hid (And.intro TL TB)
  have HBW := Lib.hid hB
  have TW := Lib.hid (Two.none V5)
  have wc1 : IntKind.i64.wrap ((B.length : Int) + 1) = (B.length : Int) + 1 := by rw [IntKind.wrap_i64]; omega
  have hkc3 : kc ≤ c3 := by omega
  have wq1 : IntKind.i64.wrap (1 + qk) = 1 + qk := by rw [IntKind.wrap_i64]; omega
  have wq2 : IntKind.u8.wrap (1 + qk) = 1 + qk := by rw [IntKind.wrap_u8]; omega
  obtain ⟨i0, hi, hz0, hz1, hz2⟩ := info_parts infoB
  have HI := Lib.hid hi; have HZ0 := Lib.hid hz0; have HZ1 := Lib.hid hz1; have HZ2 := Lib.hid hz2
  clear SW TL TB ho hw3 hB hi hz0 hz1 hz2 ST
  go_wp2_with fail
  refine wp_spec (fun a0 A W => ∃ x78 x79 x80 x81 x82 x83 x84 x85 x86 x87 x88 x89 x90 x91 x92 x93 x94 x95 x96 x97 x98 x99 : Value, ∃ (k99 : Nat) (sa sb : Option Addr) (ca cb : Nat), A = (((((((((((((((((((((((a0.put (some 24) (.slice (some ⟨k99, 0, none⟩) 5 5)).put (some 78) x78).put (some 79) x79).put (some 80) x80).put (some 81) x81).put (some 82) x82).put (some 83) x83).put (some 84) x84).put (some 85) x85).put (some 86) x86).put (some 87) x87).put (some 88) x88).put (some 89) x89).put (some 90) x90).put (some 91) x91).put (some 92) x92).put (some 93) x93).put (some 94) x94).put (some 95) x95).put (some 96) x96).put (some 97) x97).put (some 98) x98).put (some 99) x99) ∧ Hid (Blk W k99 ([.slice (some ⟨b4, 0, none⟩) B.length c4, .slice (some ⟨b3, 0, none⟩) kc c3, .slice sa (B.length + rs.length) ca, .slice ar rs.length cr, .slice sb (rs.length + 1) cb]).toArray 41 ∧ Two W V5.heap.size (.slice sa (B.length + rs.length) ca) (B ++ rs) (.slice sb (rs.length + 1) cb) ((1 + qk) :: rs) ∧ Chg (fun k => V5.heap.size ≤ k) V5 W)) ?_ ?_
  all_goals simp only [Act.put, L0, L1, L2]
  ·
   refine Evo2.start' (ℓ := none) (S := Chg (fun k => V5.heap.size ≤ k)) (E := Grow.G) (by kernel_rfl) ⟨Chg.pre _, by decide +kernel, (by intro c a d v w h; cases d <;> exact h), by decide +kernel⟩ (fun ok => ?_)
   refine Evo2.va ok 0 _ _ ?_
   refine Evo2.va ok 1 _ _ ?_
   refine Evo2.va ok 2 _ _ ?_
   refine Evo2.va ok 3 _ _ ?_
   refine Evo2.va ok 4 _ _ ?_
   refine Evo2.va ok 5 _ _ ?_
   (refine Evo2.cal ok 6 ?_ 16 ?_ ?_ ?_ ?_; rotate_left 2; (focus (intro w'; go_simp <;> with_reducible rfl)); (focus (intro w' g'; with_reducible exact WC.out w')); simp only [Act.put, L0, L1, L2])
   refine Evo2.va ok 7 _ _ ?_
   refine Evo2.va ok 9 _ _ ?_
   refine Evo2.va ok 11 _ _ ?_
   refine Evo2.va ok 13 _ _ ?_
   refine Evo2.va ok 14 _ _ ?_
   refine Evo2.va ok 19 _ _ ?_
   refine Evo2.all [8] (by decide +kernel) rfl ?_
   intro wp1 gp1 iq hq
   simp only [List.mem_cons, List.mem_nil_iff, or_false] at hq
   have AP1 := Chg.trans (Chg.refl (fun k => V5.heap.size ≤ k) _) (Chg.grow gp1)
   have TW := Lib.hid (TW.out.grow gp1)
   subst hq
   refine Evo2.runs (by rfl) (by rfl) (fun K' hK' => ?_)
   go_simp
   (try (simp only [Evo.after_value, Evo.after_skip]))
   refine hK'.out _ _ ?_
   clear hK'
   simp only [Act.put, L0, L1, L2]
   refine ⟨.inr (Chg.alloc (Chg.refl _ _) _), ?_⟩
   generalize hG1 : World.alloc wp1 _ = wg1
   have GG1 : Grow.G wp1 wg1 := hG1 ▸ Grow.G.alloc (Grow.G.refl _) _
   have NC1 := (congrArg (fun W : World => W.heap[wp1.heap.size]?) hG1).symm.trans (MapKept.heap_alloc wp1 _).1
   have NL1 : wp1.heap.size < wg1.heap.size := by rw [← hG1]; simp
   clear hG1
   have TW := Lib.hid (TW.out.newL (xs := []) (n := 0) GG1 NC1 rfl rfl (by decide))
   refine Evo2.all [10] (by decide +kernel) rfl ?_
   intro wp2 gp2 iq hq
   simp only [List.mem_cons, List.mem_nil_iff, or_false] at hq
   have AP2 := Chg.trans (Chg.trans AP1 (Chg.grow GG1)) (Chg.grow gp2)
   have TW := Lib.hid (TW.out.grow gp2)
   have NC1 := (gp2.block _ NL1).trans NC1
   have NL1 := Nat.lt_of_lt_of_le NL1 gp2.size
   subst hq
   refine Fr.own_src (by rfl) (by rfl) (Operand.tmp 86) (Operand.tmp 87) 41 (by rfl) V5.heap.size 5 i0 (.int .u8 0) 1 1 Tryz.underlying41 HI.out HZ0.out HZ1.out HZ2.out rfl (by decide) _ _ _ (by rfl) TW.out.l _ _ _ (B.map (Value.int .u8)) (by rfl) (by simp) (PB.out.later AP2 (Nat.le_refl _)).src bts_one ?_ ?_ TW.out.b ?_ 
   ·
    (unfold maxLen; simp; omega) 
   ·
    (simp; omega)
   intro vw2 wc2 OW2 fr2
   have OX2 := own_app (zs := B) rfl OW2; obtain ⟨sa2, ca2, rfl⟩ := own_shape OX2; have CH2 := TW.out.chgL fr2; have TW := Lib.hid (TW.out.left fr2 OX2)
   refine ⟨.inr CH2, ?_⟩
   have AC2 := Chg.trans AP2 CH2
   simp only [Act.put, L0, L1, L2]
   refine Evo2.all [12] (by decide +kernel) rfl ?_
   intro wp3 gp3 iq hq
   simp only [List.mem_cons, List.mem_nil_iff, or_false] at hq
   have AP3 := Chg.trans AC2 (Chg.grow gp3)
   have TW := Lib.hid (TW.out.grow gp3)
   subst hq
   refine Fr.own_src (by rfl) (by rfl) (Operand.tmp 88) (Operand.tmp 89) 41 (by rfl) V5.heap.size 5 i0 (.int .u8 0) 1 1 Tryz.underlying41 HI.out HZ0.out HZ1.out HZ2.out rfl (by decide) _ _ _ (by rfl) TW.out.l _ _ _ (rs.map (Value.int .u8)) (by rfl) (by simp) (PR.out.later AP3 (Nat.le_refl _)).src bts_one ?_ ?_ TW.out.b ?_ 
   ·
    (unfold maxLen; omega) 
   ·
    omega
   intro vw3 wc3 OW3 fr3
   have OX3 := own_app (zs := B ++ rs) rfl OW3; obtain ⟨sa3, ca3, ev3⟩ := own_shape OX3; rw [List.length_append] at ev3; subst ev3; have CH3 := TW.out.chgL fr3; have TW := Lib.hid (TW.out.left fr3 OX3)
   refine ⟨.inr CH3, ?_⟩
   have AC3 := Chg.trans AP3 CH3
   simp only [Act.put, L0, L1, L2]
   (refine Evo2.cal ok 15 ?_ 16 ?_ ?_ ?_ ?_; rotate_left 2; (focus (intro w'; go_simp <;> with_reducible rfl)); (focus (intro w' g'; with_reducible exact WK.out w')); simp only [Act.put, L0, L1, L2])
   refine Evo2.va ok 16 _ _ ?_
   refine Evo2.va ok 17 _ _ ?_
   refine Evo2.all [18] (by decide +kernel) rfl ?_
   intro wp4 gp4 iq hq
   simp only [List.mem_cons, List.mem_nil_iff, or_false] at hq
   have AP4 := Chg.trans AC3 (Chg.grow gp4)
   have TW := Lib.hid (TW.out.grow gp4)
   subst hq
   refine Evo2.runs (by rfl) (by rfl) (fun K' hK' => ?_)
   go_simp
   (try (simp only [Evo.after_value, Evo.after_skip]))
   refine hK'.out _ _ ?_
   clear hK'
   simp only [Act.put, L0, L1, L2]
   refine ⟨.inr (Chg.alloc (Chg.refl _ _) _), ?_⟩
   generalize hG4 : World.alloc wp4 _ = wg4
   have GG4 : Grow.G wp4 wg4 := hG4 ▸ Grow.G.alloc (Grow.G.refl _) _
   have NC4 := (congrArg (fun W : World => W.heap[wp4.heap.size]?) hG4).symm.trans (MapKept.heap_alloc wp4 _).1
   have NL4 : wp4.heap.size < wg4.heap.size := by rw [← hG4]; simp
   clear hG4
   have TW := Lib.hid (TW.out.newR (ys := [1 + qk]) (n := 1) GG4 NC4 rfl rfl (by decide))
   refine Evo2.all [20] (by decide +kernel) rfl ?_
   intro wp5 gp5 iq hq
   simp only [List.mem_cons, List.mem_nil_iff, or_false] at hq
   have AP5 := Chg.trans (Chg.trans AP4 (Chg.grow GG4)) (Chg.grow gp5)
   have TW := Lib.hid (TW.out.grow gp5)
   have NC4 := (gp5.block _ NL4).trans NC4
   have NL4 := Nat.lt_of_lt_of_le NL4 gp5.size
   subst hq
   refine Fr.own_src (by rfl) (by rfl) (Operand.tmp 96) (Operand.tmp 97) 41 (by rfl) V5.heap.size 5 i0 (.int .u8 0) 1 1 Tryz.underlying41 HI.out HZ0.out HZ1.out HZ2.out rfl (by decide) _ _ _ (by rfl) TW.out.r _ _ _ (rs.map (Value.int .u8)) (by rfl) (by simp) (PR.out.later AP5 (Nat.le_refl _)).src bts_one ?_ ?_ TW.out.b ?_ 
   ·
    (unfold maxLen; simp; omega) 
   ·
    (simp; omega)
   intro vw5 wc5 OW5 fr5
   have OX5 := own_app (xs := [1 + qk]) (zs := (1 + qk) :: rs) rfl OW5; obtain ⟨sa5, ca5, ev5⟩ := own_shape OX5; rw [List.length_cons] at ev5; subst ev5; have CH5 := TW.out.chgR fr5; have TW := Lib.hid (TW.out.right fr5 OX5)
   refine ⟨.inr CH5, ?_⟩
   have AC5 := Chg.trans AP5 CH5
   simp only [Act.put, L0, L1, L2]
   refine Evo2.all [21] (by decide +kernel) rfl ?_
   intro wp6 gp6 iq hq
   simp only [List.mem_cons, List.mem_nil_iff, or_false] at hq
   have AP6 := Chg.trans AC5 (Chg.grow gp6)
   have TW := Lib.hid (TW.out.grow gp6)
   subst hq
   refine Evo2.runs (by rfl) (by rfl) (fun K' hK' => ?_)
   go_simp
   (try (simp only [Evo.after_value, Evo.after_skip]))
   refine hK'.out _ _ ?_
   clear hK'
   simp only [Act.put, L0, L1, L2]
   refine ⟨.inr (Chg.alloc (Chg.refl _ _) _), ?_⟩
   generalize hG6 : World.alloc wp6 _ = wg6
   have GG6 : Grow.G wp6 wg6 := hG6 ▸ Grow.G.alloc (Grow.G.refl _) _
   have NC6 := (congrArg (fun W : World => W.heap[wp6.heap.size]?) hG6).symm.trans (MapKept.heap_alloc wp6 _).1
   have NL6 : wp6.heap.size < wg6.heap.size := by rw [← hG6]; simp
   clear hG6
   have TW := Lib.hid (TW.out.grow GG6)
   refine Evo2.va ok 22 _ _ ?_
   refine Evo2.done (by decide +kernel) (fun wz gz => ?_)
   have AZ := Chg.trans (Chg.trans AP6 (Chg.grow GG6)) (Chg.grow gz)
   have NC6 := (gz.block _ NL6).trans NC6
   have TW := Lib.hid (TW.out.grow gz)
   dsimp only [PostN] 
   (repeat apply Exists.intro) 
   exact ⟨rfl, Lib.hid ⟨NC6, TW.out, AZ⟩⟩
  ·
   rintro A V6 ⟨x78, x79, x80, x81, x82, x83, x84, x85, x86, x87, x88, x89, x90, x91, x92, x93, x94, x95, x96, x97, x98, x99, k99, sa, sb, ca, cb, rfl, SL⟩
   obtain ⟨BK, TW6, CH6⟩ := SL.out
   have LS : Hid (∀ i, i < 5 → ∃ (a : Option Addr) (z : List Int) (c : Nat), Bts z ∧ z.length ≤ 1000000 ∧ ∀ w', Below V6.heap.size V6 w' → w'.cell? ⟨k99, i, none⟩ = some (.slice a z.length c) ∧ PZ w' a c z) := Lib.hid (by
    have CB : ∀ (w' : World), Below V6.heap.size V6 w' → ∀ {i : Nat} {x : Value}, ([.slice (some ⟨b4, 0, none⟩) B.length c4, .slice (some ⟨b3, 0, none⟩) kc c3, .slice sa (B.length + rs.length) ca, .slice ar rs.length cr, .slice sb (rs.length + 1) cb] : List Value)[i]? = some x → w'.cell? ⟨k99, i, none⟩ = some x := fun w' h i x hx => (BK.chg (Chg.ofBelow h) (by have := BK.lt; omega)).at hx
    have PA : ∀ (w' : World) {a : Option Addr} {c : Nat} {z : List Int}, Below V6.heap.size V6 w' → PZ V6 a c z → PZ w' a c z := fun w' a c z h k => k.later (Chg.ofBelow h) (Nat.le_refl _)
    have tk : (B.take kc).length = kc := by rw [List.length_take]; omega
    have bq : Bts ((1 + qk) :: rs) := fun x hx => by
     rcases List.mem_cons.1 hx with h | h
     ·
      subst h; omega
     ·
      exact RBT.out x h
    intro i hi
    have i5 : i = 0 ∨ i = 1 ∨ i = 2 ∨ i = 3 ∨ i = 4 := by omega
    rcases i5 with rfl | rfl | rfl | rfl | rfl
    ·
     exact ⟨_, T, _, HT.out.2, by rw [HT.out.1]; omega, fun w' h => ⟨by rw [HT.out.1]; exact CB w' h rfl, PA w' h (PT.out.later CH6 (Nat.le_refl _))⟩⟩
    ·
     exact ⟨_, B.take kc, _, BB.out.take kc, by rw [tk]; omega, fun w' h => ⟨by rw [tk]; exact CB w' h rfl, PA w' h ((PB.out.later CH6 (Nat.le_refl _)).take kc)⟩⟩
    ·
     exact ⟨_, B ++ rs, _, BB.out.app RBT.out, by rw [List.length_append]; omega, fun w' h => ⟨by rw [List.length_append]; exact CB w' h rfl, PA w' h (own_pz' TW6.l)⟩⟩
    ·
     exact ⟨_, rs, _, RBT.out, by omega, fun w' h => ⟨CB w' h rfl, PA w' h (PR.out.later CH6 (Nat.le_refl _))⟩⟩
    ·
     exact ⟨_, (1 + qk) :: rs, _, bq, by rw [List.length_cons]; omega, fun w' h => ⟨by rw [List.length_cons]; exact CB w' h rfl, PA w' h (own_pz' TW6.r)⟩⟩)
   have BW6 := Lib.hid (HBW.out.trans (CH6.below HBW.out.size (fun k hk q => by have := HBW.out.size; omega)))
   have KL := BK.lt
   clear SL BK TW6 CH6 HT PT PB PR HBW RBT BB wq1 wq2 wc1 hkc3 HI HZ0 HZ1 HZ2 WC WK HR YB HY HA MK RB HZ TW hkc
   go_wp2_with fail
   go_loopw [25] (fun ii wr => ∃ i : Nat, i ≤ 5 ∧ ii = .int .i64 i ∧ Hid (Below V6.heap.size V6 wr)) (fun ii _ => 5 - (intOf ii).toNat)
   case atStart => exact ⟨0, by omega, rfl, Lib.hid (Below.refl _ _)⟩
   case round =>
    obtain ⟨i, hi, rfl, SB⟩ := hrel
    by_cases hgo : i < 5
    ·
     obtain ⟨a, z, c, hbt, hzl, hfa⟩ := LS.out i hgo
     have HF := Lib.hid hfa
     have HBT := Lib.hid hbt
     have PF := Lib.hid (parse_few z hbt)
     have q1 := (hfa wr SB.out).1
     have kl : k99 < wr.heap.size := Nat.lt_of_lt_of_le KL SB.out.size
     have SR := Lib.hid (hfa wr SB.out).2.src
     clear hfa LS hbt
     go_wp2_with (at_builtin; refine wpList_copyb rfl _ _ rfl rfl (by first | (with_reducible rfl) | (simp; done)) z rfl rfl SR.out (by omega) ?_)
     intro s7 c7 w7 ho7 hg7
     have HM7 := Lib.hid ((Mem.nil wr).grow hg7)
     have P7 := Lib.hid (own_pz' ho7)
     clear ho7 hg7 SR q1
     go_wp2_with fail
     refine (P7.out.parse HBT.out).mono ?_
     rintro e w8 ⟨a8, c8, rfl, ht8, hg8⟩
     have RP := Lib.hid (fun a c w h => rparse_any a c z w h HBT.out hzl)
     unfold ParseR at RP
     generalize evParse z = X at *
     obtain ⟨X, no⟩ := X
     dsimp only at ht8 PF RP ⊢
     have HM8 := Lib.hid (HM7.out.grow hg8)
     have HT8 := Lib.hid ht8
     clear ht8 hg8 HM7 P7
     go_wp2_with (refine Mem.storeAll 0 (t := 28) rfl rfl rfl rfl CE (Mem.alloc' HM8.out _ _ rfl) rfl rfl rfl rfl ?_; intro w9 HM9 C9)
     have HT9 := Lib.hid (HT8.out.past (Grow.G.alloc (Grow.G.refl _) _) C9 (Nat.le_refl _))
     simp only [List.nil_append, List.cons_append, List.set_cons_zero, List.set_cons_succ] at HM9
     have HM := Lib.hid HM9
     clear HM9 C9 HT8 HM8
     refine Stay.go ?_
     have G9 := SB.out.trans (HM.out.below.mono SB.out.size)
     have q1 := (HF.out _ G9).1
     have P9 := Lib.hid (HF.out _ G9).2
     clear G9 HF
     generalize w8.heap.size = g8 at *
     go_wp2_with fail
     refine (RP.out _ _ _ P9.out).mono ?_
     rintro e w10 ⟨a10, c10, rfl, ht10, hg10⟩
     dsimp only at ht10 ⊢
     have HM10 := Lib.hid (HM.out.grow hg10)
     have HT9' := Lib.hid (HT9.out.later hg10)
     have HT10 := Lib.hid ht10
     clear ht10 hg10 HM HT9 q1 P9 RP
     go_wp2_with (refine Mem.storeAll 1 (t := 28) rfl rfl rfl rfl CE (Mem.alloc' HM10.out _ _ rfl) rfl rfl rfl rfl ?_; intro w11 HM11 C11)
     have HT11 := Lib.hid (HT9'.out.past (Grow.G.alloc (Grow.G.refl _) _) C11 (Nat.le_refl _))
     have HT12 := Lib.hid (HT10.out.past (Grow.G.alloc (Grow.G.refl _) _) C11 (Nat.le_refl _))
     simp only [List.nil_append, List.cons_append, List.set_cons_zero, List.set_cons_succ] at HM11
     have HM := Lib.hid HM11
     clear HM11 C11 HT10 HM10 HT9'
     refine Stay.go ?_
     generalize w10.heap.size = g10 at *
     have SM := Lib.hid (fun w h h' => rsame3_any X X a8 c8 a10 c10 w h h' PF)
     rw [evB_self] at SM
     go_wp2_with (first | refine loadAllW 0 (t := 28) rfl rfl rfl Tryz.underlying28 CE HM.out rfl rfl ?_ | refine loadAllW 1 (t := 28) rfl rfl rfl Tryz.underlying28 CE HM.out rfl rfl ?_)
     refine (SM.out _ HT11.out HT12.out).mono ?_
     rintro e w12 ⟨rfl, hb12⟩
     have G12 := Lib.hid ((SB.out.trans (HM.out.below.mono SB.out.size)).trans (Below.mono hb12 (by have := SB.out.size; have := HM.out.size; omega)))
     clear hb12 SB HM HT11 HT12 SM
     go_wp2_with fail
     go_roundw
     case rel => exact ⟨i + 1, by omega, by go_num, G12⟩
     case measure => simp [intOf]; omega
    ·
     clear LS
     go_wp2_with fail
     go_ret
     exact ⟨rfl, BW6.out.trans (SB.out.mono BW6.out.size)⟩
end Go.Proofs.YtnkekdmikopdgaaGreat
