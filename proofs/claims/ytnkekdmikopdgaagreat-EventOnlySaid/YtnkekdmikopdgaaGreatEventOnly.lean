/- The walk of EventOnly. -/
import Derived.Test.YtnkekdmikopdgaaGreatZ7
import Derived.Test.YtnkekdmikopdgaaGreatZ17
import Derived.Test.YtnkekdmikopdgaaGreatZ16
import Derived.Test.YtnkekdmikopdgaaGreatZ12
import Derived.Test.YtnkekdmikopdgaaGreatZ5
import Derived.Test.YtnkekdmikopdgaaGreatZ2
namespace Go.Proofs.YtnkekdmikopdgaaGreat
set_option maxRecDepth 100000
set_option linter.unusedVariables false
set_option linter.unusedSimpArgs false
set_option linter.unnecessarySimpa false
open Go.RowKit

set_option maxHeartbeats 4000000 in
theorem walkEventOnly (w : World) (kd : Int) (hkd : wf64 kd) (n : Int) (hn : wf64 n) (dr : Int) (hdr : wf64 dr) (nm : Int) (hnm : wf64 nm) (c : Cfg) (hc : c.wf ∧ c.nm.size ≤ 140737488351232) (v : Value) (zs : List Int) (hz : IntSlice w v zs) (at0 : Int) (hat : wf64 at0) (by0 : Int) (hby : wfu8 by0) :
    Calls Tryz.prog 6 #[.int .i64 kd, .int .i64 n, .int .i64 dr, .int .i64 nm, c.v, v, .int .i64 at0, .int .u8 by0] w fun e w' => e = .returned (.bool true) ∧ Below w.heap.size w w' := by
  have MK := Lib.hid (fun w h => make_any kd n dr nm c v zs w hkd hn hdr hnm hc.1 h)
  have HZ := Lib.hid hz
  have CHK := mkE_chk kd n dr nm c zs
  generalize mkE kd n dr nm c zs = E at *
  have EB := Lib.hid (fun a c w h => ebytes_any E a c w CHK h)
  have BL := bytes_len CHK
  have BB := Lib.hid (bytes_bts E)
  generalize E.bytes = B at *
  have WI := Lib.hid (fun w => within3_any at0 B.length w (by omega) (by omega) hat.1 hat.2)
  have rW := withinI_range at0 B.length (by omega)
  generalize withinI at0 B.length = q at *
  obtain ⟨k, rfl⟩ := Int.eq_ofNat_of_zero_le rW.1
  have hk : k < B.length := by omega
  obtain ⟨m0, m1⟩ := hby
  obtain ⟨y, hy⟩ : ∃ y, B.getD k 0 = y := ⟨_, rfl⟩
  have yb : 0 ≤ y ∧ y < 256 := by
    rw [← hy]
    have := BB.out (B.getD k 0) (by simp [List.getD, hk])
    exact this
  obtain ⟨z, hzz⟩ : ∃ z, (y + by0) % 256 = z := ⟨_, rfl⟩
  have WY : IntKind.u8.wrap (y + by0) = z := by rw [IntKind.wrap_u8, hzz]
  obtain ⟨T, hT⟩ : ∃ T, B.set k z = T := ⟨_, rfl⟩
  have HT := Lib.hid hT
  have HTL : Hid (T.length = B.length) := Lib.hid (by rw [← hT, List.length_set])
  have HBT : Hid (Bts T) := Lib.hid (by
    rw [← hT]
    intro x hx
    rcases List.mem_or_eq_of_mem_set hx with h | h
    · exact BB.out x h
    · subst h; omega)
  have HY := Lib.hid hy
  have CE : (Tryz.prog.info? 28).map (·.size) = some 15 := by kernel_rfl
  obtain ⟨cn, im, co, mn, mx, gr⟩ := c
  unfold Cfg.v at *
  dsimp only at *
  clear hz hc hkd hn hdr hnm CHK hat rW hT hy hzz
  go_enter Tryz.func6, Tryz.ntmps6
  go_wp2_with fail
  refine (known3_any _).mono ?_
  rintro e wn1 ⟨rfl, hb1⟩
  have g1 : Grow.G w wn1 := Grow.G.trans (Grow.G.alloc (Grow.G.refl _) _) hb1
  have KB1 := Lib.hid (Evo.later hb1)
  have hxwn1c := (bcell hb1).1
  have hxwn1f := (bcell hb1).2.1
  have hxwn1z := (bcell hb1).2.2
  (try (have hlewn1_1 : w.heap.size ≤ wn1.heap.size := (by first | omega | (have hh := hxwn1z; (try simp at hh); omega))))
  (try (have hlwn1_1_0 : w.heap.size < wn1.heap.size := (by first | omega | (have hh := hxwn1z; (try simp at hh); omega))))
  (try (have hlwn1_1_1 : w.heap.size + 1 < wn1.heap.size := (by first | omega | (have hh := hxwn1z; (try simp at hh); omega))))
  (try (have hlwn1_1_2 : w.heap.size + 1 + 1 < wn1.heap.size := (by first | omega | (have hh := hxwn1z; (try simp at hh); omega))))
  go_wp2_with fail
  refine (MK.out _ (HZ.out.below g1)).mono ?_
  rintro e wn2 ⟨a2, c2, rfl, ht2, -, hb2⟩
  go_wp2_with fail
  refine (EB.out _ _ _ ht2).mono ?_
  rintro e wn3 ⟨v3, rfl, ho3, hb3⟩
  have HM3 := Lib.hid ((Mem.nil w).grow ((g1.trans hb2).trans hb3))
  obtain ⟨s3, c3, rfl⟩ := own_shape ho3
  have S3 := Lib.hid (src_own ho3)
  clear hb1 hb2 hb3 g1 ht2 ho3
  go_wp2_with (at_builtin; refine wpList_copyb rfl _ _ rfl rfl (by first | (with_reducible rfl) | (simp; done)) B rfl rfl S3.out (by omega) ?_)
  intro s4 c4 wn4 ho4 hg4
  obtain ⟨b4, rfl, -, hcap, hbase⟩ := own_cap ho4 BL.1
  have HO4 := Lib.hid ho4
  have HM4 := Lib.hid (HM3.out.grow hg4)
  have lt4 := (ho4.lt b4 rfl).2
  have hbw : w.heap.size ≤ b4 := by have := HM3.out.size; omega
  have cell4 : wn4.cell? ⟨b4, k, none⟩ = some (.int .u8 y) := by
    have := ho4.cells (g := b4) rfl k (.int .u8 (B.getD k 0)) (by simp [List.getD, hk])
    rw [HY.out, Args.addr_add0, Nat.zero_add] at this
    exact this
  have froz4 := ho4.frozenAt k
  clear ho4 hg4 S3 HM3
  go_wp2_with fail
  refine (WI.out _).mono ?_
  rintro e wx ⟨rfl, rfl⟩
  have ho5 : OwnB (wn4.setCell ⟨b4, k, none⟩ (.int .u8 z)) wn3.heap.size (.slice (some ⟨b4, 0, none⟩) B.length c4) T := by
    have := (HO4.out.stored k (.int .u8 z)).1
    unfold OwnB
    rw [HTL.out]
    have e : T.map (Value.int .u8) = (B.map (Value.int .u8)).set k (.int .u8 z) := by rw [← HT.out, List.map_set]
    rw [e]
    exact this
  have S5 := Lib.hid (src_own ho5)
  have HM5 := Lib.hid (HM4.out.chg (Chg.setCell (G := fun k => k = b4) (Chg.refl _ wn4) (fun _ => rfl) k (.int .u8 z)) (fun j hj q => by have q : j = b4 := q; omega) (fun b hb => by cases hb))
  have HO5 := Lib.hid ho5
  clear ho5
  go_wp2_with (at_builtin; refine wpList_copyb rfl _ _ rfl rfl (by first | (with_reducible rfl) | (simp; done)) T rfl HTL.out S5.out (by have := HTL.out; omega) ?_)
  intro s6 c6 wn6 ho6 hg6
  obtain ⟨sb6, hp6⟩ := own_pz ho6
  have HM6 := Lib.hid (HM5.out.grow hg6)
  have HO6 := Lib.hid (own_later HO5.out hg6)
  clear ho6 hg6 S5 HM5 HO5 cell4 froz4 lt4 HM4 HO4
  go_wp2_with fail
  have EP := eparse_any sb6 s6 c6 T wn6 hp6 HBT.out
  refine EP.mono ?_
  clear EP hp6
  rintro e wn7 ⟨a7, c7, rfl, ht7, hg7⟩
  have PO := Lib.hid (fun e (h : evParse T = (e, 0)) => parse_only HBT.out h)
  have PB := Lib.hid (parse_bad T)
  generalize evParse T = X at *
  obtain ⟨X, no⟩ := X
  dsimp only at ht7 PB ⊢
  have HM7 := Lib.hid (HM6.out.grow hg7)
  have HO7 := Lib.hid (own_later HO6.out hg7)
  have HT7 := Lib.hid ht7
  clear ht7 hg7 HM6 HO6
  go_wp2_with (refine Mem.storeAll 0 (t := 28) rfl rfl rfl rfl CE (Mem.alloc' HM7.out _ _ rfl) rfl rfl rfl rfl ?_; intro wn8 HM8 C8)
  have HT8 := Lib.hid (HT7.out.past (Grow.G.alloc (Grow.G.refl _) _) C8 (Nat.le_refl _))
  have HO8 := Lib.hid (own_past HO7.out (Grow.G.alloc (Grow.G.refl _) _) C8 (Nat.le_refl _))
  simp only [List.nil_append, List.cons_append, List.set_cons_zero, List.set_cons_succ] at HM8
  replace HM := Lib.hid HM8
  have B1 := Lib.hid (HM8.blk (i := 0) rfl)
  clear HM8 C8 HT7 HO7 HM7
  refine Stay.go ?_
  by_cases hno : no = 0
  · subst hno
    obtain ⟨hTB, hXC⟩ := PO.out X rfl
    have EBX := Lib.hid (fun a c w h => (show Calls Tryz.prog 18 #[.agg #[.int .i64 X.k, .string X.nm, .string X.tg, .int .i64 X.n, .int .i64 X.dr, .string X.c.nm, .int .i64 X.c.im, .int .i64 X.c.co, .int .i64 X.c.mn, .int .i64 X.c.mx, .int .i64 X.c.gr, .string X.rn, .string X.rc, .slice a X.ts.length c, .int .i64 X.rr]] w fun x w' => ∃ v, x = .returned v ∧ OwnB w' w.heap.size v X.bytes ∧ Grow.G w w' from ebytes_any X a c w hXC h))
    have ECX := Lib.hid (fun a c w (h : EvBd w X a) => (show Calls Tryz.prog 14 #[.agg #[.int .i64 X.k, .string X.nm, .string X.tg, .int .i64 X.n, .int .i64 X.dr, .string X.c.nm, .int .i64 X.c.im, .int .i64 X.c.co, .int .i64 X.c.mn, .int .i64 X.c.mx, .int .i64 X.c.gr, .string X.rn, .string X.rc, .slice a X.ts.length c, .int .i64 X.rr]] w fun x w' => x = .returned (.int .i64 0) ∧ Grow.G w w' from by
      have := echk_any X a c w h
      rwa [hXC] at this))
    have BD := Lib.hid (fun a w (h : TgtSl w a X.ts) => ev_bd hXC h)
    rw [← hTB] at EBX
    clear hTB hXC PO PB
    go_wp2_with fail
    have KC := Lib.hid (fun (w' : World) (h : Chg (fun _ => False) wn8 w') => (⟨cv_own (h.own HO8.out (fun _ _ => id)), trivial⟩ : (convert 41 9 (.slice (some ⟨b4, 0, none⟩) B.length c4)).run Tryz.prog w' = .ok (.string (strOfNums T)) w' ∧ True))
    refine Evo2.start' (ℓ := none) (S := Chg (fun _ => False)) (E := Grow.G) (by kernel_rfl) ⟨Chg.pre _, by decide +kernel, (by intro c a d v w h; cases d <;> exact h), by decide +kernel⟩ (fun ok => ?_)
    first | (refine Evo2.value ok 0 ?_ (by rfl) (by decide +kernel) (by rfl) ?_ ?_; rotate_left; (focus (intro w' hg; refine Box.exec_loadAll ?_ Tryz.underlying28 CE (B1.out.chg (Chg.trans (Chg.refl (fun _ => False) _) hg) id) ?_; (all_goals (first | exact ⟨rfl, rfl⟩ | rfl)))); simp only [Act.put, List.setIfInBounds_toArray, List.set_cons_zero, List.set_cons_succ]) | (refine Evo2.value ok 0 ?_ (by rfl) (by decide +kernel) (by rfl) ?_ ?_; rotate_left; (intro w' hg; obtain ⟨q1, q2⟩ := KC.out w' (Chg.trans (Chg.refl (fun _ => False) _) hg); go_simp <;> with_reducible rfl); simp only [Act.put, List.setIfInBounds_toArray, List.set_cons_zero, List.set_cons_succ]) | (refine Evo2.value ok 0 ?_ (by rfl) (by decide +kernel) (by rfl) ?_ ?_; rotate_left; (intro w' hg; go_simp <;> with_reducible rfl); simp only [Act.put, List.setIfInBounds_toArray, List.set_cons_zero, List.set_cons_succ])
    first | (refine Evo2.value ok 3 ?_ (by rfl) (by decide +kernel) (by rfl) ?_ ?_; rotate_left; (intro w' hg; go_simp <;> with_reducible rfl); simp only [Act.put, List.setIfInBounds_toArray, List.set_cons_zero, List.set_cons_succ])
    first | (refine Evo2.value ok 4 ?_ (by rfl) (by decide +kernel) (by rfl) ?_ ?_; rotate_left; (intro w' hg; obtain ⟨q1, q2⟩ := KC.out w' (Chg.trans (Chg.refl (fun _ => False) _) hg); go_simp <;> with_reducible rfl); simp only [Act.put, List.setIfInBounds_toArray, List.set_cons_zero, List.set_cons_succ]) | (refine Evo2.value ok 4 ?_ (by rfl) (by decide +kernel) (by rfl) ?_ ?_; rotate_left; (intro w' hg; go_simp <;> with_reducible rfl); simp only [Act.put, List.setIfInBounds_toArray, List.set_cons_zero, List.set_cons_succ])
    refine Evo2.all [1] (by decide +kernel) rfl ?_
    intro wp1 gp1 iq hq
    simp only [List.mem_cons, List.mem_nil_iff, or_false] at hq
    have AP1 := Chg.trans (Chg.refl (fun _ => False) _) (Chg.grow gp1)
    subst hq
    refine Evo2.enters 18 _ (by rfl) (by rfl) (by go_simp; exact ⟨rfl, rfl⟩) ?_
    refine (EBX.out a7 c7 _ (HT8.out.later gp1)).mono ?_
    rintro e wc1 ⟨v9, rfl, ho9, hg9⟩; obtain ⟨s9, c9, rfl⟩ := own_shape ho9; have CH1 := Chg.grow (G := fun _ => False) hg9; have QK1 := (fun (w' : World) (h : Chg (fun _ => False) wc1 w') => cv_own (h.own ho9 (fun _ _ => id)))
    refine ⟨_, rfl, .inr CH1, ?_⟩
    have AC1 := Chg.trans AP1 CH1
    simp only [Act.put, List.setIfInBounds_toArray, List.set_cons_zero, List.set_cons_succ]
    first | (refine Evo2.value ok 2 ?_ (by rfl) (by decide +kernel) (by rfl) ?_ ?_; rotate_left; (intro w' hg; have nq := QK1 w' hg; go_simp <;> with_reducible rfl); simp only [Act.put, List.setIfInBounds_toArray, List.set_cons_zero, List.set_cons_succ]) | (refine Evo2.value ok 2 ?_ (by rfl) (by decide +kernel) (by rfl) ?_ ?_; rotate_left; (intro w' hg; obtain ⟨q1, q2⟩ := KC.out w' (Chg.trans AC1 hg); go_simp <;> with_reducible rfl); simp only [Act.put, List.setIfInBounds_toArray, List.set_cons_zero, List.set_cons_succ]) | (refine Evo2.value ok 2 ?_ (by rfl) (by decide +kernel) (by rfl) ?_ ?_; rotate_left; (intro w' hg; go_simp <;> with_reducible rfl); simp only [Act.put, List.setIfInBounds_toArray, List.set_cons_zero, List.set_cons_succ])
    first | (refine Evo2.value ok 5 ?_ (by rfl) (by decide +kernel) (by rfl) ?_ ?_; rotate_left; (intro w' hg; go_simp <;> with_reducible rfl); simp only [Act.put, List.setIfInBounds_toArray, List.set_cons_zero, List.set_cons_succ])
    first | (refine Evo2.value ok 6 ?_ (by rfl) (by decide +kernel) (by rfl) ?_ ?_; rotate_left; (intro w' hg; go_simp <;> with_reducible rfl); simp only [Act.put, List.setIfInBounds_toArray, List.set_cons_zero, List.set_cons_succ])
    first | (refine Evo2.value ok 7 ?_ (by rfl) (by decide +kernel) (by rfl) ?_ ?_; rotate_left; (focus (intro w' hg; refine Box.exec_loadAll ?_ Tryz.underlying28 CE (B1.out.chg (Chg.trans AC1 hg) id) ?_; (all_goals (first | exact ⟨rfl, rfl⟩ | rfl)))); simp only [Act.put, List.setIfInBounds_toArray, List.set_cons_zero, List.set_cons_succ]) | (refine Evo2.value ok 7 ?_ (by rfl) (by decide +kernel) (by rfl) ?_ ?_; rotate_left; (intro w' hg; have nq := QK1 w' hg; go_simp <;> with_reducible rfl); simp only [Act.put, List.setIfInBounds_toArray, List.set_cons_zero, List.set_cons_succ]) | (refine Evo2.value ok 7 ?_ (by rfl) (by decide +kernel) (by rfl) ?_ ?_; rotate_left; (intro w' hg; obtain ⟨q1, q2⟩ := KC.out w' (Chg.trans AC1 hg); go_simp <;> with_reducible rfl); simp only [Act.put, List.setIfInBounds_toArray, List.set_cons_zero, List.set_cons_succ]) | (refine Evo2.value ok 7 ?_ (by rfl) (by decide +kernel) (by rfl) ?_ ?_; rotate_left; (intro w' hg; go_simp <;> with_reducible rfl); simp only [Act.put, List.setIfInBounds_toArray, List.set_cons_zero, List.set_cons_succ]) | (refine Evo2.idle ok 7 (by rfl) (by decide +kernel) (by rfl) ?_; simp only [Act.put, List.setIfInBounds_toArray, List.set_cons_zero, List.set_cons_succ])
    first | (refine Evo2.call ok 8 ?_ 14 ?_ (by rfl) (by decide +kernel) (by rfl) ?_ ?_ ?_; rotate_left 2; (focus (intro w'; go_simp <;> with_reducible rfl)); (focus (intro w' g'; with_reducible exact ECX.out _ _ w' (BD.out _ _ (HT8.out.chg (Chg.trans AC1 g') (fun _ _ _ => id))))); simp only [Act.put, List.setIfInBounds_toArray, List.set_cons_zero, List.set_cons_succ]) | (refine Evo2.idle ok 8 (by rfl) (by decide +kernel) (by rfl) ?_; simp only [Act.put, List.setIfInBounds_toArray, List.set_cons_zero, List.set_cons_succ])
    first | (refine Evo2.value ok 9 ?_ (by rfl) (by decide +kernel) (by rfl) ?_ ?_; rotate_left; (intro w' hg; go_simp <;> with_reducible rfl); simp only [Act.put, List.setIfInBounds_toArray, List.set_cons_zero, List.set_cons_succ]) | (refine Evo2.idle ok 9 (by rfl) (by decide +kernel) (by rfl) ?_; simp only [Act.put, List.setIfInBounds_toArray, List.set_cons_zero, List.set_cons_succ])
    first | (refine Evo2.value ok 10 ?_ (by rfl) (by decide +kernel) (by rfl) ?_ ?_; rotate_left; (intro w' hg; go_simp <;> with_reducible rfl); simp only [Act.put, List.setIfInBounds_toArray, List.set_cons_zero, List.set_cons_succ])
    first | (refine Evo2.value ok 11 ?_ (by rfl) (by decide +kernel) (by rfl) ?_ ?_; rotate_left; (intro w' hg; go_simp <;> with_reducible rfl); simp only [Act.put, List.setIfInBounds_toArray, List.set_cons_zero, List.set_cons_succ])
    refine Evo2.done (by decide +kernel) (fun wz gz => ?_)
    have AZ := Chg.trans AC1 (Chg.grow gz)
    have HB9 := Lib.hid (HM.out.grow (chg_none AZ)).below
    go_wp2_with fail
    go_ret
    exact ⟨rfl, HB9.out⟩
  · have hX : X = ev0 := (PB.out).resolve_left hno
    subst hX
    have hn2 : (no != 0) = true := by simpa using hno
    have e0 := evd B1.out (i := 0) rfl
    have e1 := evd B1.out (i := 1) rfl
    have e3 := evd B1.out (i := 3) rfl
    have hk0 : ev0.k = 0 := rfl
    have hk1 : ev0.nm = ⟨#[]⟩ := rfl
    have hk3 : ev0.n = 0 := rfl
    rw [hk0] at e0
    rw [hk1] at e1
    rw [hk3] at e3
    clear hk0 hk1 hk3 PO PB
    go_wp2_with fail
    go_ret
    exact ⟨rfl, HM.out.below⟩
end Go.Proofs.YtnkekdmikopdgaaGreat
