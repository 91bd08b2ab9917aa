/- The walk of EventBack. -/
import Derived.Test.YtnkekdmikopdgaaGreatZ7
import Derived.Test.YtnkekdmikopdgaaGreatZ17
import Derived.Test.YtnkekdmikopdgaaGreatZ16
import Derived.Test.YtnkekdmikopdgaaGreatZ12
import Derived.Test.YtnkekdmikopdgaaGreatZ15
import Derived.Test.YtnkekdmikopdgaaGreatZ5
import Derived.Test.YtnkekdmikopdgaaGreatZ2
namespace Go.Proofs.YtnkekdmikopdgaaGreat
set_option maxRecDepth 100000
set_option linter.unusedVariables false
set_option linter.unusedSimpArgs false
set_option linter.unnecessarySimpa false
open Go.RowKit

set_option maxHeartbeats 4000000 in
theorem walkEventBack (w : World) (kd : Int) (hkd : wf64 kd) (n : Int) (hn : wf64 n) (dr : Int) (hdr : wf64 dr) (nm : Int) (hnm : wf64 nm) (c : Cfg) (hc : c.wf ∧ c.nm.size ≤ 140737488351232) (v : Value) (zs : List Int) (hz : IntSlice w v zs) :
    Calls Tryz.prog 4 #[.int .i64 kd, .int .i64 n, .int .i64 dr, .int .i64 nm, c.v, v] w fun e w' => e = .returned (.bool true) ∧ Below w.heap.size w w' := by
  have MK := Lib.hid (fun w h => make_any kd n dr nm c v zs w hkd hn hdr hnm hc.1 h)
  have HZ := Lib.hid hz
  have CHK := mkE_chk kd n dr nm c zs
  generalize mkE kd n dr nm c zs = E at *
  have EB := Lib.hid (fun a c w h => ebytes_any E a c w CHK h)
  have RB := Lib.hid (fun a c w h => rbytes_any E a c w CHK h)
  have BL := bytes_len CHK
  have BB := Lib.hid (bytes_bts E)
  have PB := Lib.hid (parse_bytes CHK)
  have TL : Hid (E.ts.length ≤ 1000) := Lib.hid (by
    by_cases e2 : E.k = 2
    · have := chk_len CHK e2; omega
    · have h3 := (chk_ok CHK).2.2.2.1
      rw [h3]
      unfold EvD.kept
      repeat' split
      all_goals first | (exact Nat.zero_le _) | (exfalso; omega))
  have SM := Lib.hid (fun a c a' c' w h h' => (show Calls Tryz.prog 21 #[.agg #[.int .i64 E.k, .string E.nm, .string E.tg, .int .i64 E.n, .int .i64 E.dr, .string E.c.nm, .int .i64 E.c.im, .int .i64 E.c.co, .int .i64 E.c.mn, .int .i64 E.c.mx, .int .i64 E.c.gr, .string E.rn, .string E.rc, .slice a E.ts.length c, .int .i64 E.rr], .agg #[.int .i64 E.k, .string E.nm, .string E.tg, .int .i64 E.n, .int .i64 E.dr, .string E.c.nm, .int .i64 E.c.im, .int .i64 E.c.co, .int .i64 E.c.mn, .int .i64 E.c.mx, .int .i64 E.c.gr, .string E.rn, .string E.rc, .slice a' E.ts.length c', .int .i64 E.rr]] w fun x w' => x = .returned (.bool true) ∧ Below w.heap.size w w' from by
    have := rsame3_any E E a c a' c' w h h' TL.out
    rwa [evB_iff.2 rfl] at this))
  have RB := Lib.hid (fun a c w h => (show Calls Tryz.prog 20 #[.agg #[.int .i64 E.k, .string E.nm, .string E.tg, .int .i64 E.n, .int .i64 E.dr, .string E.c.nm, .int .i64 E.c.im, .int .i64 E.c.co, .int .i64 E.c.mn, .int .i64 E.c.mx, .int .i64 E.c.gr, .string E.rn, .string E.rc, .slice a E.ts.length c, .int .i64 E.rr]] w fun x w' => ∃ v, x = .returned v ∧ OwnB w' w.heap.size v E.bytes ∧ Below w.heap.size w w' from RB.out a c w h))
  generalize E.bytes = B at *
  have CE : (Tryz.prog.info? 28).map (·.size) = some 15 := by kernel_rfl
  obtain ⟨cn, im, co, mn, mx, gr⟩ := c
  unfold Cfg.v at *
  dsimp only at *
  clear hz hc hkd hn hdr hnm CHK
  go_enter Tryz.func4, Tryz.ntmps4
  go_wp2_with fail
  refine (known3_any _).mono ?_
  rintro e wn1 ⟨rfl, hb1⟩
  have g1 : Grow.G w wn1 := Grow.G.trans (Grow.G.alloc (Grow.G.refl _) _) hb1
  have KB1 := Lib.hid (Evo.later hb1)
  have hxwn1c := (bcell hb1).1
  have hxwn1f := (bcell hb1).2.1
  have hxwn1z := (bcell hb1).2.2
  (try (have hlewn1_1 : w.heap.size ≤ wn1.heap.size := (by first | omega | (have hh := hxwn1z; (try simp at hh); omega))))
  (try (have hlwn1_1_0 : w.heap.size < wn1.heap.size := (by first | omega | (have hh := hxwn1z; (try simp at hh); omega))))
  (try (have hlwn1_1_1 : w.heap.size + 1 < wn1.heap.size := (by first | omega | (have hh := hxwn1z; (try simp at hh); omega))))
  (try (have hlwn1_1_2 : w.heap.size + 1 + 1 < wn1.heap.size := (by first | omega | (have hh := hxwn1z; (try simp at hh); omega))))
  go_wp2_with fail
  refine (MK.out _ (HZ.out.below g1)).mono ?_
  rintro e wn2 ⟨a2, c2, rfl, ht2, hl2, hb2⟩
  have HM2 := Lib.hid ((Mem.nil w).grow (g1.trans hb2))
  have HT2 := Lib.hid ht2
  have HL2 := Lib.hid hl2
  clear hb1 hb2 g1 ht2 hl2
  go_wp2_with (refine Mem.storeAll 0 (t := 28) rfl rfl rfl rfl CE (Mem.alloc' HM2.out _ _ rfl) rfl rfl rfl rfl ?_; intro wn3 HM C3)
  have HT3 := Lib.hid ((HT2.out.later (Grow.G.alloc (Grow.G.refl _) _)).chg C3 (fun b o h q => by have := (HL2.out b o h).2; have q : b = wn2.heap.size := q; omega))
  simp only [List.nil_append, List.set_cons_zero] at HM
  replace HM := Lib.hid HM
  clear HM2 HT2 HL2 C3
  refine Stay.go ?_
  go_wp2_with (refine Mem.loadAll 0 (t := 28) rfl rfl rfl Tryz.underlying28 CE HM.out rfl rfl ?_)
  refine (EB.out a2 c2 _ HT3.out).mono ?_
  rintro e wn4 ⟨v4, rfl, ho4, hg4⟩
  obtain ⟨s4, c4, rfl⟩ := own_shape ho4
  have HO4 := Lib.hid ho4
  have S4 := Lib.hid (src_own ho4)
  have hw4 := (HM.out.grow hg4)
  replace HM := Lib.hid hw4
  replace HT3 := Lib.hid (HT3.out.later hg4)
  clear ho4 hg4 hw4
  go_wp2_with (at_builtin; refine wpList_copyb rfl _ _ rfl rfl (by first | (with_reducible rfl) | (simp; done)) B rfl rfl S4.out (by omega) ?_)
  intro s5 c5 wn5 ho5 hg5
  obtain ⟨sb5, hp5⟩ := own_pz ho5
  have hw5 := (HM.out.grow hg5)
  replace HM := Lib.hid hw5
  replace HT3 := Lib.hid (HT3.out.later hg5)
  replace HO4 := Lib.hid (own_later HO4.out hg5)
  clear ho5 hg5 hw5 S4
  go_wp2_with fail
  refine (eparse_any sb5 s5 c5 B wn5 hp5 BB.out).mono ?_
  rintro e wn6 ⟨a6, c6, rfl, ht6, hg6⟩
  rw [PB.out] at ht6 ⊢
  dsimp only at ht6 ⊢
  have hw6 := (HM.out.grow hg6)
  replace HM := Lib.hid hw6
  replace HT3 := Lib.hid (HT3.out.later hg6)
  replace HO4 := Lib.hid (own_later HO4.out hg6)
  have HT6 := Lib.hid ht6
  clear hg6 hw6 ht6 hp5
  go_wp2_with (refine Mem.storeAll 1 (t := 28) rfl rfl rfl rfl CE (Mem.alloc' HM.out _ _ rfl) rfl rfl rfl rfl ?_; intro wn7 HM7 C7)
  have HT8 := Lib.hid (HT3.out.past (Grow.G.alloc (Grow.G.refl _) _) C7 (Nat.le_refl _))
  have HT9 := Lib.hid (HT6.out.past (Grow.G.alloc (Grow.G.refl _) _) C7 (Nat.le_refl _))
  have HO8 := Lib.hid (own_past HO4.out (Grow.G.alloc (Grow.G.refl _) _) C7 (Nat.le_refl _))
  simp only [List.nil_append, List.cons_append, List.set_cons_zero, List.set_cons_succ] at HM7
  replace HM := Lib.hid HM7
  have B1 := Lib.hid (HM7.blk (i := 0) rfl)
  have B2 := Lib.hid (HM7.blk (i := 1) rfl)
  clear HM7 C7 HT3 HT6 HO4
  refine Stay.go ?_
  go_wp2_with fail
  have KC := Lib.hid (fun (w' : World) (h : Chg (fun _ => False) wn7 w') => (⟨cv_own (h.own HO8.out (fun _ _ => id)), trivial⟩ : (convert 41 9 (.slice s4 B.length c4)).run Tryz.prog w' = .ok (.string (strOfNums B)) w' ∧ True))
  refine Evo2.start' (ℓ := none) (S := Chg (fun _ => False)) (E := Grow.G) (by kernel_rfl) ⟨Chg.pre _, by decide +kernel, (by intro c a d v w h; cases d <;> exact h), by decide +kernel⟩ (fun ok => ?_)
  first | (refine Evo2.value ok 0 ?_ (by rfl) (by decide +kernel) (by rfl) ?_ ?_; rotate_left; (intro w' hg; go_simp <;> with_reducible rfl); simp only [Act.put, List.setIfInBounds_toArray, List.set_cons_zero, List.set_cons_succ])
  first | (refine Evo2.value ok 1 ?_ (by rfl) (by decide +kernel) (by rfl) ?_ ?_; rotate_left; (intro w' hg; obtain ⟨q1, q2⟩ := KC.out w' (Chg.trans (Chg.refl (fun _ => False) _) hg); go_simp <;> with_reducible rfl); simp only [Act.put, List.setIfInBounds_toArray, List.set_cons_zero, List.set_cons_succ]) | (refine Evo2.value ok 1 ?_ (by rfl) (by decide +kernel) (by rfl) ?_ ?_; rotate_left; (intro w' hg; go_simp <;> with_reducible rfl); simp only [Act.put, List.setIfInBounds_toArray, List.set_cons_zero, List.set_cons_succ])
  first | (refine Evo2.value ok 2 ?_ (by rfl) (by decide +kernel) (by rfl) ?_ ?_; rotate_left; (focus (intro w' hg; refine Box.exec_loadAll ?_ Tryz.underlying28 CE (B1.out.chg (Chg.trans (Chg.refl (fun _ => False) _) hg) id) ?_; (all_goals (first | exact ⟨rfl, rfl⟩ | rfl)))); simp only [Act.put, List.setIfInBounds_toArray, List.set_cons_zero, List.set_cons_succ]) | (refine Evo2.value ok 2 ?_ (by rfl) (by decide +kernel) (by rfl) ?_ ?_; rotate_left; (focus (intro w' hg; refine Box.exec_loadAll ?_ Tryz.underlying28 CE (B2.out.chg (Chg.trans (Chg.refl (fun _ => False) _) hg) id) ?_; (all_goals (first | exact ⟨rfl, rfl⟩ | rfl)))); simp only [Act.put, List.setIfInBounds_toArray, List.set_cons_zero, List.set_cons_succ]) | (refine Evo2.value ok 2 ?_ (by rfl) (by decide +kernel) (by rfl) ?_ ?_; rotate_left; (intro w' hg; obtain ⟨q1, q2⟩ := KC.out w' (Chg.trans (Chg.refl (fun _ => False) _) hg); go_simp <;> with_reducible rfl); simp only [Act.put, List.setIfInBounds_toArray, List.set_cons_zero, List.set_cons_succ]) | (refine Evo2.value ok 2 ?_ (by rfl) (by decide +kernel) (by rfl) ?_ ?_; rotate_left; (intro w' hg; go_simp <;> with_reducible rfl); simp only [Act.put, List.setIfInBounds_toArray, List.set_cons_zero, List.set_cons_succ])
  refine Evo2.all [3] (by decide +kernel) rfl ?_
  intro wp1 gp1 iq hq
  simp only [List.mem_cons, List.mem_nil_iff, or_false] at hq
  have AP1 := Chg.trans (Chg.refl (fun _ => False) _) (Chg.grow gp1)
  subst hq
  refine Evo2.enters 20 _ (by rfl) (by rfl) (by go_simp; exact ⟨rfl, rfl⟩) ?_
  refine (RB.out a2 c2 _ (HT8.out.later gp1)).mono ?_
  rintro e wc1 ⟨v8, rfl, ho8, hg8⟩; obtain ⟨s8, c8, rfl⟩ := own_shape ho8; have CH1 := Chg.grow (G := fun _ => False) hg8; have QK1 := (fun (w' : World) (h : Chg (fun _ => False) wc1 w') => cv_own (h.own ho8 (fun _ _ => id)))
  refine ⟨_, rfl, .inr CH1, ?_⟩
  have AC1 := Chg.trans AP1 CH1
  simp only [Act.put, List.setIfInBounds_toArray, List.set_cons_zero, List.set_cons_succ]
  first | (refine Evo2.value ok 4 ?_ (by rfl) (by decide +kernel) (by rfl) ?_ ?_; rotate_left; (intro w' hg; have nq := QK1 w' hg; go_simp <;> with_reducible rfl); simp only [Act.put, List.setIfInBounds_toArray, List.set_cons_zero, List.set_cons_succ]) | (refine Evo2.value ok 4 ?_ (by rfl) (by decide +kernel) (by rfl) ?_ ?_; rotate_left; (intro w' hg; obtain ⟨q1, q2⟩ := KC.out w' (Chg.trans AC1 hg); go_simp <;> with_reducible rfl); simp only [Act.put, List.setIfInBounds_toArray, List.set_cons_zero, List.set_cons_succ]) | (refine Evo2.value ok 4 ?_ (by rfl) (by decide +kernel) (by rfl) ?_ ?_; rotate_left; (intro w' hg; go_simp <;> with_reducible rfl); simp only [Act.put, List.setIfInBounds_toArray, List.set_cons_zero, List.set_cons_succ])
  first | (refine Evo2.value ok 5 ?_ (by rfl) (by decide +kernel) (by rfl) ?_ ?_; rotate_left; (intro w' hg; go_simp <;> with_reducible rfl); simp only [Act.put, List.setIfInBounds_toArray, List.set_cons_zero, List.set_cons_succ])
  first | (refine Evo2.value ok 6 ?_ (by rfl) (by decide +kernel) (by rfl) ?_ ?_; rotate_left; (intro w' hg; go_simp <;> with_reducible rfl); simp only [Act.put, List.setIfInBounds_toArray, List.set_cons_zero, List.set_cons_succ])
  first | (refine Evo2.value ok 7 ?_ (by rfl) (by decide +kernel) (by rfl) ?_ ?_; rotate_left; (intro w' hg; go_simp <;> with_reducible rfl); simp only [Act.put, List.setIfInBounds_toArray, List.set_cons_zero, List.set_cons_succ]) | (refine Evo2.idle ok 7 (by rfl) (by decide +kernel) (by rfl) ?_; simp only [Act.put, List.setIfInBounds_toArray, List.set_cons_zero, List.set_cons_succ])
  first | (refine Evo2.value ok 8 ?_ (by rfl) (by decide +kernel) (by rfl) ?_ ?_; rotate_left; (intro w' hg; go_simp <;> with_reducible rfl); simp only [Act.put, List.setIfInBounds_toArray, List.set_cons_zero, List.set_cons_succ]) | (refine Evo2.idle ok 8 (by rfl) (by decide +kernel) (by rfl) ?_; simp only [Act.put, List.setIfInBounds_toArray, List.set_cons_zero, List.set_cons_succ])
  first | (refine Evo2.value ok 9 ?_ (by rfl) (by decide +kernel) (by rfl) ?_ ?_; rotate_left; (intro w' hg; go_simp <;> with_reducible rfl); simp only [Act.put, List.setIfInBounds_toArray, List.set_cons_zero, List.set_cons_succ])
  first | (refine Evo2.value ok 10 ?_ (by rfl) (by decide +kernel) (by rfl) ?_ ?_; rotate_left; (intro w' hg; go_simp <;> with_reducible rfl); simp only [Act.put, List.setIfInBounds_toArray, List.set_cons_zero, List.set_cons_succ])
  first | (refine Evo2.value ok 11 ?_ (by rfl) (by decide +kernel) (by rfl) ?_ ?_; rotate_left; (focus (intro w' hg; refine Box.exec_loadAll ?_ Tryz.underlying28 CE (B1.out.chg (Chg.trans AC1 hg) id) ?_; (all_goals (first | exact ⟨rfl, rfl⟩ | rfl)))); simp only [Act.put, List.setIfInBounds_toArray, List.set_cons_zero, List.set_cons_succ]) | (refine Evo2.value ok 11 ?_ (by rfl) (by decide +kernel) (by rfl) ?_ ?_; rotate_left; (focus (intro w' hg; refine Box.exec_loadAll ?_ Tryz.underlying28 CE (B2.out.chg (Chg.trans AC1 hg) id) ?_; (all_goals (first | exact ⟨rfl, rfl⟩ | rfl)))); simp only [Act.put, List.setIfInBounds_toArray, List.set_cons_zero, List.set_cons_succ]) | (refine Evo2.value ok 11 ?_ (by rfl) (by decide +kernel) (by rfl) ?_ ?_; rotate_left; (intro w' hg; have nq := QK1 w' hg; go_simp <;> with_reducible rfl); simp only [Act.put, List.setIfInBounds_toArray, List.set_cons_zero, List.set_cons_succ]) | (refine Evo2.value ok 11 ?_ (by rfl) (by decide +kernel) (by rfl) ?_ ?_; rotate_left; (intro w' hg; obtain ⟨q1, q2⟩ := KC.out w' (Chg.trans AC1 hg); go_simp <;> with_reducible rfl); simp only [Act.put, List.setIfInBounds_toArray, List.set_cons_zero, List.set_cons_succ]) | (refine Evo2.value ok 11 ?_ (by rfl) (by decide +kernel) (by rfl) ?_ ?_; rotate_left; (intro w' hg; go_simp <;> with_reducible rfl); simp only [Act.put, List.setIfInBounds_toArray, List.set_cons_zero, List.set_cons_succ]) | (refine Evo2.idle ok 11 (by rfl) (by decide +kernel) (by rfl) ?_; simp only [Act.put, List.setIfInBounds_toArray, List.set_cons_zero, List.set_cons_succ])
  first | (refine Evo2.value ok 12 ?_ (by rfl) (by decide +kernel) (by rfl) ?_ ?_; rotate_left; (focus (intro w' hg; refine Box.exec_loadAll ?_ Tryz.underlying28 CE (B1.out.chg (Chg.trans AC1 hg) id) ?_; (all_goals (first | exact ⟨rfl, rfl⟩ | rfl)))); simp only [Act.put, List.setIfInBounds_toArray, List.set_cons_zero, List.set_cons_succ]) | (refine Evo2.value ok 12 ?_ (by rfl) (by decide +kernel) (by rfl) ?_ ?_; rotate_left; (focus (intro w' hg; refine Box.exec_loadAll ?_ Tryz.underlying28 CE (B2.out.chg (Chg.trans AC1 hg) id) ?_; (all_goals (first | exact ⟨rfl, rfl⟩ | rfl)))); simp only [Act.put, List.setIfInBounds_toArray, List.set_cons_zero, List.set_cons_succ]) | (refine Evo2.value ok 12 ?_ (by rfl) (by decide +kernel) (by rfl) ?_ ?_; rotate_left; (intro w' hg; have nq := QK1 w' hg; go_simp <;> with_reducible rfl); simp only [Act.put, List.setIfInBounds_toArray, List.set_cons_zero, List.set_cons_succ]) | (refine Evo2.value ok 12 ?_ (by rfl) (by decide +kernel) (by rfl) ?_ ?_; rotate_left; (intro w' hg; obtain ⟨q1, q2⟩ := KC.out w' (Chg.trans AC1 hg); go_simp <;> with_reducible rfl); simp only [Act.put, List.setIfInBounds_toArray, List.set_cons_zero, List.set_cons_succ]) | (refine Evo2.value ok 12 ?_ (by rfl) (by decide +kernel) (by rfl) ?_ ?_; rotate_left; (intro w' hg; go_simp <;> with_reducible rfl); simp only [Act.put, List.setIfInBounds_toArray, List.set_cons_zero, List.set_cons_succ]) | (refine Evo2.idle ok 12 (by rfl) (by decide +kernel) (by rfl) ?_; simp only [Act.put, List.setIfInBounds_toArray, List.set_cons_zero, List.set_cons_succ])
  first | (refine Evo2.call ok 13 ?_ 21 ?_ (by rfl) (by decide +kernel) (by rfl) ?_ ?_ ?_; rotate_left 2; (focus (intro w'; go_simp <;> with_reducible rfl)); (focus (intro w' g'; with_reducible exact SM.out _ _ _ _ w' (HT9.out.chg (Chg.trans AC1 g') (fun _ _ _ => id)) (HT8.out.chg (Chg.trans AC1 g') (fun _ _ _ => id)))); simp only [Act.put, List.setIfInBounds_toArray, List.set_cons_zero, List.set_cons_succ]) | (refine Evo2.idle ok 13 (by rfl) (by decide +kernel) (by rfl) ?_; simp only [Act.put, List.setIfInBounds_toArray, List.set_cons_zero, List.set_cons_succ])
  first | (refine Evo2.value ok 14 ?_ (by rfl) (by decide +kernel) (by rfl) ?_ ?_; rotate_left; (intro w' hg; go_simp <;> with_reducible rfl); simp only [Act.put, List.setIfInBounds_toArray, List.set_cons_zero, List.set_cons_succ])
  first | (refine Evo2.value ok 15 ?_ (by rfl) (by decide +kernel) (by rfl) ?_ ?_; rotate_left; (intro w' hg; go_simp <;> with_reducible rfl); simp only [Act.put, List.setIfInBounds_toArray, List.set_cons_zero, List.set_cons_succ])
  refine Evo2.done (by decide +kernel) (fun wz gz => ?_)
  have AZ := Chg.trans AC1 (Chg.grow gz)
  have GZ := HM.out.grow (chg_none AZ)
  have HB9 := Lib.hid GZ.below
  clear GZ
  go_wp2_with fail
  go_ret
  exact ⟨rfl, HB9.out⟩
end Go.Proofs.YtnkekdmikopdgaaGreat
