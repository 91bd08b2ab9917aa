/- My own texts RfPutC, RfGet, RfRt, laid in one file. -/
import Derived.Test.YtlnffdkaleapbaaGreatZ63
import Derived.Test.YtlnffdkaleapbaaGreatZ33
import Derived.Test.YtlnffdkaleapbaaGreatZ2
import Derived.Test.YtlnffdkaleapbaaGreatZ34

/- The second form's PutConfig. -/
namespace Go.Proofs.YtlnffdkaleapbaaGreat
set_option maxRecDepth 100000
set_option linter.unusedVariables false
set_option linter.unusedSimpArgs false
set_option linter.unnecessarySimpa false
open Go.RowKit Go.MapV Go.Maps

theorem OSh.withO {l : List Ob} {s : Sh} (h : OSh l s) {kd : Int} (hk : kd = 1 ∨ kd = 2) (nm : ByteArray) : OSh (withO l kd nm) s := by
  unfold Go.Proofs.YtlnffdkaleapbaaGreat.withO
  split
  · exact h
  · rename_i hi; exact h.fresh hk hi
theorem rputC_bad (g : Nat) (s : Sh) (c : Cfg) (v : Int) (w : World) (F : Nat → Prop) (h : RfP g s w F) (hsz : c.nm.size ≤ 140737488351232) (he : c.err ≠ 0) :
    Calls Tryz.prog 10 #[pt g, c.v, .int .i64 v] w fun e w' => e = .returned (.tuple #[.int .i64 (s.numOf (s.putC c v)), .int .i64 (s.putC c v)]) ∧ EndS w w' F (RfP g (s.aftC c v)) := by
  have HP := Lib.hid h
  have SC := Lib.hid (fun w => rcfg_any c w (by unfold maxLen; omega))
  have e1 : s.putC c v = c.err := by unfold Sh.putC; rw [if_neg he]
  have e2 : s.aftC c v = s := by unfold Sh.aftC; rw [e1, if_neg he]
  have e3 : s.numOf c.err = 0 := by unfold Sh.numOf; rw [if_neg he]
  rw [e1, e2, e3]
  have d0 : (c.err != 0) = true := by simpa using he
  generalize c.err = er at *
  obtain ⟨nm, im, co, mn, mx, gr⟩ := c
  unfold Cfg.v at *
  dsimp only at *
  clear h e1 e2 e3
  go_enter Tryz.func10, Tryz.ntmps10
  go_wp2_with fail
  refine (SC.out _).mono ?_
  rintro e w1 ⟨rfl, hb⟩
  have G1 := Lib.hid (Grow.G.trans (Grow.G.alloc (Grow.G.refl w) _) hb)
  clear hb
  go_wp2_with fail
  go_returns
  exact ⟨rfl, RfP.same HP.out G1.out⟩
set_option maxHeartbeats 4000000 in
theorem rputC_no (g : Nat) (s : Sh) (c : Cfg) (v : Int) (w : World) (F : Nat → Prop) (h : RfP g s w F) (hsz : c.nm.size ≤ 140737488351232) (he : c.err = 0) (er : Int) (hr : mayP (verO (s.cf c.nm)) v = er) (h0 : er ≠ 0) :
    Calls Tryz.prog 10 #[pt g, c.v, .int .i64 v] w fun e w' => e = .returned (.tuple #[.int .i64 (s.numOf (s.putC c v)), .int .i64 (s.putC c v)]) ∧ EndS w w' F (RfP g (s.aftC c v)) := by
  have HP := Lib.hid h
  have SC := Lib.hid (fun w => rcfg_any c w (by unfold maxLen; omega))
  rw [he] at SC
  have e1 : s.putC c v = er := by unfold Sh.putC; rw [if_pos he, hr]
  have e2 : s.aftC c v = s := by unfold Sh.aftC; rw [e1, if_neg h0]
  have e3 : s.numOf er = 0 := by unfold Sh.numOf; rw [if_neg h0]
  rw [e1, e2, e3]
  have PN := Lib.hid (fun (w' : World) (hg : Grow.G w w') => (show Calls Tryz.prog 28 #[pt g, .int .i64 1, .string c.nm, .int .i64 v] w' fun e w'' => e = .returned (.tuple #[.pointer none, .int .i64 er]) ∧ w' = w'' from by
    obtain ⟨vv, lm, hO, hle, hok, hn2, hS⟩ := HP.out
    exact rput4_no g s.n vv lm 1 c.nm v w' F ((RfS.foot g s.n vv lm).grow hS hg) (by omega) er (by rw [hO.verC, hr]) h0))
  have d0 : (er != 0) = true := by simpa using h0
  obtain ⟨nm, im, co, mn, mx, gr⟩ := c
  unfold Cfg.v at *
  dsimp only at *
  clear h e1 e2 e3 he hr
  go_enter Tryz.func10, Tryz.ntmps10
  go_wp2_with fail
  refine (SC.out _).mono ?_
  rintro e w1 ⟨rfl, hb⟩
  have BX := (Blk.new w #[.string nm, .int .i64 im, .int .i64 co, .int .i64 mn, .int .i64 mx, .int .i64 gr] 31).grow hb
  have cx : w1.cell? ⟨w.heap.size, 0, none⟩ = some (.string nm) := (BX.cell 0).trans rfl
  have lx := BX.lt
  have G1 := Lib.hid (Grow.G.trans (Grow.G.alloc (Grow.G.refl w) _) hb)
  clear hb BX
  go_wp2_with fail
  refine (PN.out _ G1.out).mono ?_
  rintro e w2 ⟨rfl, rfl⟩
  go_wp2_with fail
  go_returns
  exact ⟨rfl, RfP.same HP.out G1.out⟩
set_option maxHeartbeats 8000000 in
theorem rputC_yes (g : Nat) (s : Sh) (c : Cfg) (v : Int) (w : World) (F : Nat → Prop) (h : RfP g s w F) (hsz : c.nm.size ≤ 140737488351232) (hn : s.n < 1000000) (he : c.err = 0) (hr : mayP (verO (s.cf c.nm)) v = 0) :
    Calls Tryz.prog 10 #[pt g, c.v, .int .i64 v] w fun e w' => e = .returned (.tuple #[.int .i64 (s.numOf (s.putC c v)), .int .i64 (s.putC c v)]) ∧ EndS w w' F (RfP g (s.aftC c v)) := by
  have HP := Lib.hid h
  have SC := Lib.hid (fun w => rcfg_any c w (by unfold maxLen; omega))
  rw [he] at SC
  have e1 : s.putC c v = 0 := by unfold Sh.putC; rw [if_pos he, hr]
  have e2 : s.aftC c v = s.setC c := by unfold Sh.aftC; rw [if_pos e1]
  have e3 : s.numOf 0 = (s.n : Int) + 1 := by unfold Sh.numOf; rw [if_pos rfl]; rfl
  rw [e1, e2, e3]
  obtain ⟨vv, lm, hO, hle, hok, hn2, hS⟩ := h
  have PY := Lib.hid (fun (w' : World) (hg : Grow.G w w') => (show Calls Tryz.prog 28 #[pt g, .int .i64 1, .string c.nm, .int .i64 v] w' fun e w'' => Placed w' w'' F g s.n lm 1 c.nm e from by
    have hS' := (RfS.foot g s.n vv lm).grow hS hg
    cases hi : idxO (lm.map OM.o) 1 c.nm with
    | none => exact rput4_new g s.n vv lm 1 c.nm v w' F hS' (by omega) hn2 hi (by rw [← hi, hO.verC, hr])
    | some i => exact rput4_old g s.n vv lm 1 c.nm v w' F hS' (by omega) hn2 i hi (by rw [← hi, hO.verC, hr])))
  have HO := Lib.hid (hO.withO (.inl rfl) c.nm)
  have HL := Lib.hid (And.intro hle hok)
  have HF := Lib.hid (fun k hk => (RfS.foot g s.n vv lm).lt hS k hk)
  have hsn := Sh.n_setC s c
  have hoks := Lib.hid (Sh.ok_setC hok he)
  have CE : (Tryz.prog.info? 31).map (·.size) = some 6 := by kernel_rfl
  have CI : (Tryz.prog.info? 31).isSome = true ∧ Tryz.prog.cellsOf 31 = 6 := ⟨by kernel_rfl, by kernel_rfl⟩
  generalize hSS : s.setC c = S at *
  have HSS := Lib.hid hSS
  obtain ⟨c0, hc0⟩ : ∃ c0, c0 = c := ⟨_, rfl⟩
  rw [← hc0] at HSS
  have HC0 := Lib.hid hc0
  obtain ⟨nm, im, co, mn, mx, gr⟩ := c
  unfold Cfg.v at *
  dsimp only at *
  clear hO hle hok hS e1 e2 e3 he hr hSS hc0
  go_enter Tryz.func10, Tryz.ntmps10
  go_wp2_with fail
  refine (SC.out _).mono ?_
  rintro e w1 ⟨rfl, hb⟩
  have BX := (Blk.new w #[.string nm, .int .i64 im, .int .i64 co, .int .i64 mn, .int .i64 mx, .int .i64 gr] 31).grow hb
  have cx : w1.cell? ⟨w.heap.size, 0, none⟩ = some (.string nm) := (BX.cell 0).trans rfl
  have lx := BX.lt
  have G1 := Lib.hid (Grow.G.trans (Grow.G.alloc (Grow.G.refl w) _) hb)
  have BX := Lib.hid BX
  clear hb SC
  go_wp2_with fail
  refine (PY.out _ G1.out).mono ?_
  rintro e w3 ⟨v', lm', i, m', o, rfl, hm', ho', hk, hnm, hmo, hmap, hlen, F3, hS3, hC3, hF3⟩
  have hB3 := hS3.hb
  have hO3 := (hS3.ob hm').1
  have hT3 := (hS3.ob hm').2
  have BX3 : Blk w3 w.heap.size #[.string nm, .int .i64 im, .int .i64 co, .int .i64 mn, .int .i64 mx, .int .i64 gr] 31 := BX.out.chg hC3 (fun q => by have := HF.out _ q; omega)
  have nx := blk_ne BX3 hO3 (by decide)
  have ng := blk_ne hB3 hO3 (by decide)
  obtain ⟨mo, mb, mtv⟩ := m'
  dsimp only at hmo hO3 hT3 nx ng
  subst hmo
  obtain ⟨gx, hgx⟩ : ∃ gx : Nat, gx = if o.is = true ∧ o.c = c0 then o.g else o.g + 1 := ⟨_, rfl⟩
  have PL : Hid (∀ w', Blk w' g ([v', .int .i64 ((s.n + 1 : Nat) : Int)] : List Value).toArray rshT → Blk w' mb (⟨{ o with c := c0, v := s.n + 1, g := gx, is := true }, mb, mtv⟩ : OM).cells.toArray objT → Chg (fun k => k = g ∨ k = mb) w3 w' → EndS w w' F (RfP g S)) := Lib.hid (fun w' q1 q2 q3 => by
    have hap : ∀ k, mtv.ownBlock = some k → ¬ (k = g ∨ k = mb) := fun k hk q => by
      rcases q with rfl | rfl
      · exact own_blk_types hT3 hB3 (by decide) hk
      · exact own_blk_types hT3 hO3 (by decide) hk
    obtain ⟨F4, hS4, hC4, hF4⟩ := hS3.turned (m' := ⟨{ o with c := c0, v := s.n + 1, g := gx, is := true }, mb, mtv⟩) hm' rfl q1 q2 (q3.own hT3 hap) (fun k hk => .inl hk) q3
    have c1 : Chg F w w3 := (Chg.grow G1.out).trans hC3
    have f1 : Fresh w F F3 := fun k hk => (hF3 k hk).imp id (fun q => Nat.le_trans G1.out.size q)
    refine ⟨F4, ⟨v', lm'.set i ⟨{ o with c := c0, v := s.n + 1, g := gx, is := true }, mb, mtv⟩, ?_, by rw [List.length_set, hsn]; exact Nat.le_trans hlen (Nat.succ_le_succ HL.out.1), hoks.out, by rw [hsn]; exact hn, by rw [hsn]; exact hS4⟩, c1.more f1 hC4, f1.trans hF4 c1.size⟩
    rw [List.map_set, hmap, List.set_set, ← HSS.out, hgx]
    exact HO.out.setC ho' hk c0 (hnm.trans (by rw [HC0.out])))
  obtain ⟨same, hsame⟩ : ∃ same, cfgB o.c ⟨nm, im, co, mn, mx, gr⟩ = same := ⟨_, rfl⟩
  have RQ := run_neq_cfg o.c.nm o.c.im o.c.co o.c.mn o.c.mx o.c.gr nm im co mn mx gr
  rw [show cfgB ⟨o.c.nm, o.c.im, o.c.co, o.c.mn, o.c.mx, o.c.gr⟩ ⟨nm, im, co, mn, mx, gr⟩ = same from hsame] at RQ
  have HGX : Hid (gx = if o.is && same then o.g else o.g + 1) := Lib.hid (by
    rw [hgx]
    have : (o.is = true ∧ o.c = c0) ↔ (o.is && same) = true := by
      rw [Bool.and_eq_true, ← hsame, HC0.out, cfgB_iff]
    by_cases q : o.is = true ∧ o.c = c0
    · rw [if_pos q, if_pos (this.1 q)]
    · rw [if_neg q, if_neg (fun r => q (this.2 r))])
  have hog : o.g ≤ 1000000 := by
    have := (HO.out.v o (List.mem_of_getElem? ho')).2
    omega
  have OB := Lib.hid hO3
  have GB := Lib.hid hB3
  have BX3 := Lib.hid BX3
  clear hS3 hC3 hF3 hB3 hO3 hT3 hm' ho' hk hnm hmap hlen hgx hsame PY HO HL HF BX cx
  obtain ⟨okd, onm, ⟨d0, d1, d2, d3, d4, d5⟩, ⟨r0, r1, rts, r2⟩, ov, og, ois⟩ := o
  unfold OM.cells at OB PL
  dsimp only at OB PL RQ HGX hog
  have ci : w3.cell? ⟨mb, 14, none⟩ = some (.bool ois) := (OB.out.cell 14).trans rfl
  have KC := Lib.hid (fun (w' : World) (h : Chg (fun _ => False) w3 w') => (⟨h.cell ci id, trivial⟩ : w'.cell? ⟨mb, 14, none⟩ = some (.bool ois) ∧ True))
  clear ci
  have hwg : IntKind.i64.wrap ((og : Int) + 1) = (og : Int) + 1 := IntWalk.i64_in _ ⟨by omega, by omega⟩
  have HC1 := HC0.out
  rw [HC1] at PL
  dsimp only at PL
  clear HC1 HC0 HSS hoks hsn
  have nx' : mb ≠ w.heap.size := fun e => nx e.symm
  have ng' : mb ≠ g := fun e => ng e.symm
  obtain ⟨q, hq⟩ : ∃ q, (ois && same) = q := ⟨_, rfl⟩
  rw [hq] at HGX
  have HQ := Lib.hid hq
  clear hq
  go_wp2_with fail
  refine wp_spec (fun a0 A W => ∃ x26 x27 x28 x29 x30 x31 x32 x33 x34 x35 x36 x37 : Value, A = (((((((((((((a0.put (some 26) x26).put (some 27) x27).put (some 28) x28).put (some 29) x29).put (some 30) x30).put (some 31) x31).put (some 32) x32).put (some 33) x33).put (some 34) x34).put (some 35) x35).put (some 36) x36).put (some 37) x37).put (some 38) (.bool (!q))) ∧ Hid (Grow.G w3 W)) ?_ ?_
  all_goals simp only [Act.put, L0, L1, L2]
  ·
    cases ois with
    | false =>
      obtain rfl : q = false := by rw [← HQ.out]; rfl
      refine Evo2.start' (ℓ := none) (S := Chg (fun _ => False)) (E := Grow.G) (by kernel_rfl) ⟨Chg.pre _, by decide +kernel, (by intro c a d v w h; cases d <;> exact h), by decide +kernel⟩ (fun ok => ?_)
      refine Evo2.va ok 0 _ _ ?_
      refine Evo2.va ok 1 _ _ ?_
      refine Evo2.va ok 2 _ _ ?_
      first | (refine Evo2.vl ok 3 KC.out (Chg.refl (fun _ => False) _) _ _ ?_) | (refine Evo2.va ok 3 _ _ ?_)
      refine Evo2.va ok 4 _ _ ?_
      refine Evo2.va ok 5 _ _ ?_
      first | (refine Evo2.va ok 6 _ _ ?_) | (refine Evo2.vi ok 6 _ ?_)
      first | (refine Evo2.va ok 7 _ _ ?_) | (refine Evo2.vi ok 7 _ ?_)
      first | (refine Evo2.va ok 8 _ _ ?_) | (refine Evo2.vi ok 8 _ ?_)
      first | (refine Evo2.vl ok 9 KC.out (Chg.refl (fun _ => False) _) _ _ ?_) | (refine Evo2.va ok 9 _ _ ?_) | (refine Evo2.vi ok 9 _ ?_)
      first | (refine Evo2.vl ok 10 KC.out (Chg.refl (fun _ => False) _) _ _ ?_) | (refine Evo2.va ok 10 _ _ ?_) | (refine Evo2.vi ok 10 _ ?_)
      first | (refine Evo2.va ok 11 _ _ ?_) | (refine Evo2.vi ok 11 _ ?_)
      refine Evo2.va ok 12 _ _ ?_
      refine Evo2.done (by decide +kernel) (fun wz gz => ?_)
      have AZ := Chg.trans (Chg.refl (fun _ => False) _) (Chg.grow gz)
      dsimp only [PostN] 
      (repeat apply Exists.intro) 
      exact ⟨rfl, Lib.hid (AZ.toGrow (fun _ _ => id))⟩
    | true =>
      obtain rfl : same = q := by rw [← HQ.out]; rfl
      refine Evo2.start' (ℓ := none) (S := Chg (fun _ => False)) (E := Grow.G) (by kernel_rfl) ⟨Chg.pre _, by decide +kernel, (by intro c a d v w h; cases d <;> exact h), by decide +kernel⟩ (fun ok => ?_)
      refine Evo2.va ok 0 _ _ ?_
      refine Evo2.va ok 1 _ _ ?_
      refine Evo2.va ok 2 _ _ ?_
      first | (refine Evo2.vl ok 3 KC.out (Chg.refl (fun _ => False) _) _ _ ?_) | (refine Evo2.va ok 3 _ _ ?_)
      refine Evo2.va ok 4 _ _ ?_
      refine Evo2.va ok 5 _ _ ?_
      first | (refine Evo2.va ok 6 _ _ ?_) | (refine Evo2.vi ok 6 _ ?_)
      first | (refine Evo2.va ok 7 _ _ ?_) | (refine Evo2.vi ok 7 _ ?_)
      first | (refine Evo2.va ok 8 _ _ ?_) | (refine Evo2.vi ok 8 _ ?_)
      first | (refine Evo2.val ok 9 ?_ ?_ ?_; rotate_left; (focus (intro w' hg; refine Box.exec_load (off := 2) (vs := [.string d0, .int .i64 d1, .int .i64 d2, .int .i64 d3, .int .i64 d4, .int .i64 d5]) ?_ Tryz.underlying31 CE (OB.out.chg (Chg.trans (Chg.refl (fun _ => False) _) hg) id) rfl ?_; (all_goals (first | exact ⟨rfl, rfl⟩ | rfl)))); simp only [Act.put, L0, L1, L2]) | (refine Evo2.vl ok 9 KC.out (Chg.refl (fun _ => False) _) _ _ ?_) | (refine Evo2.va ok 9 _ _ ?_) | (refine Evo2.vi ok 9 _ ?_)
      first | (refine Evo2.val ok 10 ?_ ?_ ?_; rotate_left; (focus (intro w' hg; refine Box.exec_loadAll ?_ Tryz.underlying31 CE (BX3.out.chg (Chg.trans (Chg.refl (fun _ => False) _) hg) id) ?_; (all_goals (first | exact ⟨rfl, rfl⟩ | rfl)))); simp only [Act.put, L0, L1, L2]) | (refine Evo2.vl ok 10 KC.out (Chg.refl (fun _ => False) _) _ _ ?_) | (refine Evo2.va ok 10 _ _ ?_) | (refine Evo2.vi ok 10 _ ?_)
      first | (refine Evo2.va ok 11 _ _ ?_) | (refine Evo2.vi ok 11 _ ?_)
      refine Evo2.va ok 12 _ _ ?_
      refine Evo2.done (by decide +kernel) (fun wz gz => ?_)
      have AZ := Chg.trans (Chg.refl (fun _ => False) _) (Chg.grow gz)
      dsimp only [PostN] 
      (repeat apply Exists.intro) 
      exact ⟨rfl, Lib.hid (AZ.toGrow (fun _ _ => id))⟩
  ·
    rintro A W7 ⟨x26, x27, x28, x29, x30, x31, x32, x33, x34, x35, x36, x37, rfl, G7⟩
    have OB7 := OB.out.grow G7.out
    have BX7 := BX3.out.grow G7.out
    have GB7 := GB.out.grow G7.out
    have cg : W7.cell? ⟨mb, 13, none⟩ = some (.int .i64 (og : Int)) := (OB7.cell 13).trans rfl
    have fg := OB7.free 13
    have lg := OB7.lt
    have BX8 := Lib.hid (BX7.other nx 13 (.int .i64 ((og : Int) + 1)))
    have OB8 := Lib.hid (OB7.set 13 (.int .i64 ((og : Int) + 1)))
    have BX7 := Lib.hid BX7
    have OB7 := Lib.hid OB7
    have GB7 := Lib.hid GB7
    clear KC RQ HQ
    have hx7 : w.heap.size < W7.heap.size := BX7.out.lt
    have HO6 : Hid (∀ u ∈ (Value.agg #[.string nm, .int .i64 im, .int .i64 co, .int .i64 mn, .int .i64 mx, .int .i64 gr]).cells.toList, u.oneCell' = true) := Lib.hid (by
      intro u hu
      have hu : u ∈ [Value.string nm, .int .i64 im, .int .i64 co, .int .i64 mn, .int .i64 mx, .int .i64 gr] := hu
      simp only [List.mem_cons, List.not_mem_nil, or_false] at hu
      rcases hu with rfl | rfl | rfl | rfl | rfl | rfl <;> rfl)
    cases q with
    | true =>
      obtain rfl : gx = og := by have := HGX.out; rwa [if_pos rfl] at this
      clear cg fg HGX BX8 OB8
      go_wp2_with (first
        | (refine Box.loadAll (t := 31) rfl rfl rfl Tryz.underlying31 CE BX7.out rfl ?_)
        | (refine Box.store (t := 31) rfl rfl rfl rfl OB7.out CI (by show 2 + 6 ≤ 15; omega) HO6.out ?_; intro W9 B9 C9; have B9 : Blk W9 mb #[.int .i64 okd, .string onm, .string nm, .int .i64 im, .int .i64 co, .int .i64 mn, .int .i64 mx, .int .i64 gr, .string r0, .string r1, mtv, .int .i64 r2, .int .i64 ((s.n + 1 : Nat) : Int), .int .i64 (gx : Int), .bool ois] objT := B9; have cI : W9.cell? ⟨mb, 14, none⟩ = some (.bool ois) := (B9.cell 14).trans rfl; have fI := B9.free 14; have lI := B9.lt; have cV : W9.cell? ⟨mb, 12, none⟩ = some (.int .i64 ((s.n + 1 : Nat) : Int)) := (B9.cell 12).trans rfl; have B9 := Lib.hid B9; have C9 := Lib.hid C9))
      go_returns
      refine ⟨by first | rfl | (congr 3), PL.out _ ?_ ?_ ?_⟩
      · exact (GB7.out.chg C9.out (fun e => ng e)).other ng _ _
      · exact B9.out.set 14 _
      · exact ((Chg.grow G7.out).trans (C9.out.mono fun k _ e => .inr e)).trans (Chg.setCell (Chg.refl _ _) (fun _ => .inr rfl) _ _)
    | false =>
      obtain rfl : gx = og + 1 := by have := HGX.out; rwa [if_neg Bool.false_ne_true] at this
      clear HGX BX7
      go_wp2_with (first
        | (refine Box.loadAll (t := 31) rfl rfl rfl Tryz.underlying31 CE BX8.out rfl ?_)
        | (refine Box.store (t := 31) rfl rfl rfl rfl OB8.out CI (by show 2 + 6 ≤ 15; omega) HO6.out ?_; intro W9 B9 C9; have B9 : Blk W9 mb #[.int .i64 okd, .string onm, .string nm, .int .i64 im, .int .i64 co, .int .i64 mn, .int .i64 mx, .int .i64 gr, .string r0, .string r1, mtv, .int .i64 r2, .int .i64 ((s.n + 1 : Nat) : Int), .int .i64 ((og : Int) + 1), .bool ois] objT := B9; have cI : W9.cell? ⟨mb, 14, none⟩ = some (.bool ois) := (B9.cell 14).trans rfl; have fI := B9.free 14; have lI := B9.lt; have cV : W9.cell? ⟨mb, 12, none⟩ = some (.int .i64 ((s.n + 1 : Nat) : Int)) := (B9.cell 12).trans rfl; have B9 := Lib.hid B9; have C9 := Lib.hid C9))
      go_returns
      refine ⟨by first | rfl | (congr 3), PL.out _ ?_ ?_ ?_⟩
      · exact ((GB7.out.other ng _ _).chg C9.out (fun e => ng e)).other ng _ _
      · exact B9.out.set 14 _
      · exact (((Chg.grow G7.out).trans (Chg.setCell (Chg.refl _ _) (fun _ => .inr rfl) _ _)).trans (C9.out.mono fun k _ e => .inr e)).trans (Chg.setCell (Chg.refl _ _) (fun _ => .inr rfl) _ _)

set_option maxHeartbeats 4000000 in
theorem rconfig_any (g : Nat) (s : Sh) (nm : ByteArray) (w : World) (F : Nat → Prop) (h : RfP g s w F) :
    Calls Tryz.prog 20 #[pt g, .string nm] w fun e w' => e = .returned (.tuple #[(s.cfgOf nm).1.v, .int .i64 (s.cfgOf nm).2.1, .int .i64 (s.cfgOf nm).2.2.1, .bool (s.cfgOf nm).2.2.2]) ∧ Grow.G w w' := by
  obtain ⟨vv, lm, hO, hle, hok, hn2, hS⟩ := h
  have CE : (Tryz.prog.info? 31).map (·.size) = some 6 := by kernel_rfl
  have FD := Lib.hid (fun w' (hg : Grow.G w w') => rfind_any g s.n vv lm 1 nm w' F ((RfS.foot g s.n vv lm).grow hS hg) (by omega))
  have HM := Lib.hid ((Mem.nil w).alloc' [.string ⟨#[]⟩, .int .i64 0, .int .i64 0, .int .i64 0, .int .i64 0, .int .i64 0] 31 rfl)
  have GA := Lib.hid (Grow.G.alloc (Grow.G.refl w) (.cells #[.string ⟨#[]⟩, .int .i64 0, .int .i64 0, .int .i64 0, .int .i64 0, .int .i64 0] 31))
  cases hi : idxO (lm.map OM.o) 1 nm with
  | none =>
    rw [hi] at FD
    have e0 : s.cfgOf nm = (cfgZ, 0, 0, false) := by
      unfold Sh.cfgOf; rw [(hO.cn nm (idxO_none hi)).1]
    rw [e0]
    have e3 : fndV lm none = .pointer none := rfl
    rw [e3] at FD
    unfold cfgZ Cfg.v
    dsimp only
    clear hO hle hok hS hi e0 e3
    go_enter Tryz.func20, Tryz.ntmps20
    go_wp2_with fail
    refine (FD.out _ GA.out).mono ?_
    rintro e w1 ⟨rfl, rfl⟩
    go_wp2_with ((refine Mem.storeAll 0 (t := 31) rfl rfl rfl rfl (n := 6) (by kernel_rfl) HM.out rfl rfl rfl rfl ?_; intro W3 HMm CW3))
    simp only [K0, K1, L1, L2, K2, K3, K4, K5, K6, K7, Nat.reduceAdd, Nat.reduceSub] at HMm
    replace HM := Lib.hid HMm
    clear HMm
    refine Stay.go ?_
    have BF := HM.out.blk (i := 0) rfl
    go_wp2_with fail
    refine bodyPost_ret (v := .tuple #[.agg #[.string ⟨#[]⟩, .int .i64 0, .int .i64 0, .int .i64 0, .int .i64 0, .int .i64 0], .int .i64 0, .int .i64 0, .bool false]) (by simp [results, Tryz.results20, go_sem, BF.cell]) rfl ?_
    exact ⟨rfl, HM.out.below⟩
  | some i =>
    rw [hi] at FD
    have hil := idxO_lt i hi
    rw [List.length_map] at hil
    obtain ⟨m, hm⟩ : ∃ m, lm[i]? = some m := ⟨_, List.getElem?_eq_getElem hil⟩
    have e3 : fndV lm (some i) = pt m.b := by unfold fndV; dsimp only; rw [hm]
    rw [e3] at FD
    obtain ⟨o', ho', hkd, hnm⟩ := idxO_some hi
    have emo : o' = m.o := by rw [List.getElem?_map, hm] at ho'; cases ho'; rfl
    subst emo
    obtain ⟨hcf, hgn⟩ := hO.c m.o (List.mem_of_getElem? ho') hkd
    rw [hnm] at hcf hgn
    have hOb := (hS.ob hm).1
    have OB := Lib.hid (hOb.grow GA.out)
    have hlt := hOb.lt
    obtain ⟨mo, mb, mtv⟩ := m
    obtain ⟨okd, onm, ⟨d0, d1, d2, d3, d4, d5⟩, ⟨r0, r1, rts, r2⟩, ov, og, ois⟩ := mo
    unfold OM.cells at OB
    dsimp only at OB hcf hgn hlt FD
    have ci : (w.alloc (.cells #[.string ⟨#[]⟩, .int .i64 0, .int .i64 0, .int .i64 0, .int .i64 0, .int .i64 0] 31)).cell? ⟨mb, 14, none⟩ = some (.bool ois) := (OB.out.cell 14).trans rfl
    cases ois with
    | false =>
      have e0 : s.cfgOf nm = (cfgZ, 0, 0, false) := by
        unfold Sh.cfgOf; rw [hcf]; rfl
      rw [e0]
      unfold cfgZ Cfg.v
      dsimp only
      clear hO hle hok hS hi e0 e3 ho' hm hOb hcf hgn hkd hnm
      go_enter Tryz.func20, Tryz.ntmps20
      go_wp2_with fail
      refine (FD.out _ GA.out).mono ?_
      rintro e w1 ⟨rfl, rfl⟩
      go_wp2_with ((refine Mem.storeAll 0 (t := 31) rfl rfl rfl rfl (n := 6) (by kernel_rfl) HM.out rfl rfl rfl rfl ?_; intro W3 HMm CW3))
      simp only [K0, K1, L1, L2, K2, K3, K4, K5, K6, K7, Nat.reduceAdd, Nat.reduceSub] at HMm
      replace HM := Lib.hid HMm
      clear HMm
      refine Stay.go ?_
      have BF := HM.out.blk (i := 0) rfl
      go_wp2_with fail
      refine bodyPost_ret (v := .tuple #[.agg #[.string ⟨#[]⟩, .int .i64 0, .int .i64 0, .int .i64 0, .int .i64 0, .int .i64 0], .int .i64 0, .int .i64 0, .bool false]) (by simp [results, Tryz.results20, go_sem, BF.cell]) rfl ?_
      exact ⟨rfl, HM.out.below⟩
    | true =>
      have e0 : s.cfgOf nm = (⟨d0, d1, d2, d3, d4, d5⟩, (ov : Int), (og : Int), true) := by
        unfold Sh.cfgOf; rw [hcf, if_pos rfl]; dsimp only; rw [hgn]
      rw [e0]
      unfold Cfg.v
      dsimp only
      clear hO hle hok hS hi e0 e3 ho' hm hOb hcf hgn hkd hnm
      go_enter Tryz.func20, Tryz.ntmps20
      go_wp2_with fail
      refine (FD.out _ GA.out).mono ?_
      rintro e w1 ⟨rfl, rfl⟩
      go_wp2_with fail
      obtain ⟨W0, hW0⟩ : ∃ W0, W0 = w.alloc (.cells #[.string ⟨#[]⟩, .int .i64 0, .int .i64 0, .int .i64 0, .int .i64 0, .int .i64 0] 31) := ⟨_, rfl⟩
      have BZ := HM.out.blk (i := 0) rfl
      have G0 := GA.out
      have O0 := OB.out
      rw [← hW0] at BZ G0 O0 ⊢
      clear hW0 HM GA OB ci FD
      have BZ := Lib.hid BZ
      have G0 := Lib.hid G0
      have OB := Lib.hid O0
      have hl0 := BZ.out.lt
      have KC := Lib.hid (fun (w' : World) (h : Chg (fun j => j = w.heap.size) W0 w') => (⟨h.cell ((OB.out.cell 12).trans rfl) (by omega), h.cell ((OB.out.cell 13).trans rfl) (by omega), trivial⟩ : w'.cell? ⟨mb, 12, none⟩ = some (.int .i64 (ov : Int)) ∧ w'.cell? ⟨mb, 13, none⟩ = some (.int .i64 (og : Int)) ∧ True))
      clear O0
      refine wp_spec (fun a0 A W => ∃ x22 x23 x24 x25 x26 x27 x28 x29 x30 x31 x32 x33 : Value, A = (((((((((((((((a0.put (some 5) (.int .i64 (ov : Int))).put (some 6) (.int .i64 (og : Int))).put (some 7) (.bool true)).put (some 22) x22).put (some 23) x23).put (some 24) x24).put (some 25) x25).put (some 26) x26).put (some 27) x27).put (some 28) x28).put (some 29) x29).put (some 30) x30).put (some 31) x31).put (some 32) x32).put (some 33) x33) ∧ Hid (Blk W w.heap.size #[.string d0, .int .i64 d1, .int .i64 d2, .int .i64 d3, .int .i64 d4, .int .i64 d5] 31 ∧ Grow.G w W)) ?_ ?_
      all_goals simp only [Act.put, L0, L1, L2]
      ·
        refine Evo2.start' (ℓ := none) (S := Chg (fun j => j = w.heap.size)) (E := Grow.G) (by kernel_rfl) ⟨Chg.pre _, by decide +kernel, (by intro c a d v w h; cases d <;> exact h), by decide +kernel⟩ (fun ok => ?_)
        refine Evo2.va ok 0 _ _ ?_
        refine Evo2.va ok 1 _ _ ?_
        refine Evo2.va ok 2 _ _ ?_
        first | (refine Evo2.val ok 3 ?_ ?_ ?_; rotate_left; (focus (intro w' hg; refine Box.exec_load (off := 2) (vs := [.string d0, .int .i64 d1, .int .i64 d2, .int .i64 d3, .int .i64 d4, .int .i64 d5]) ?_ Tryz.underlying31 CE (OB.out.chg (Chg.trans (Chg.refl (fun j => j = w.heap.size) _) hg) (by omega)) rfl ?_; (all_goals (first | exact ⟨rfl, rfl⟩ | rfl)))); simp only [Act.put, L0, L1, L2]) | (refine Evo2.vl ok 3 KC.out (Chg.refl (fun j => j = w.heap.size) _) _ _ ?_) | (refine Evo2.va ok 3 _ _ ?_)
        refine Evo2.va ok 4 _ _ ?_
        refine Evo2.va ok 5 _ _ ?_
        refine Evo2.va ok 6 _ _ ?_
        first | (refine Evo2.vl ok 7 KC.out (Chg.refl (fun j => j = w.heap.size) _) _ _ ?_) | (refine Evo2.va ok 7 _ _ ?_)
        refine Evo2.va ok 8 _ _ ?_
        refine Evo2.va ok 9 _ _ ?_
        refine Evo2.va ok 10 _ _ ?_
        first | (refine Evo2.vl ok 11 KC.out (Chg.refl (fun j => j = w.heap.size) _) _ _ ?_) | (refine Evo2.va ok 11 _ _ ?_)
        refine Evo2.all [12] (by decide +kernel) rfl ?_
        intro wp1 gp1 iq hq
        simp only [List.mem_cons, List.mem_nil_iff, or_false] at hq
        have AP1 := Chg.trans (Chg.refl (fun j => j = w.heap.size) _) (Chg.grow gp1)
        replace BZ := Lib.hid (BZ.out.grow gp1)
        subst hq
        refine upStoreAll (by rfl) (by rfl) rfl rfl rfl (n := 6) (by kernel_rfl) (BZ.out) rfl rfl rfl ?_
        intro wc1 BW CW1
        have CH1 : Chg (fun j => j = w.heap.size) _ _ := CW1.mono (fun j _ e => e)
        replace BZ := Lib.hid BW
        refine ⟨.inr CH1, ?_⟩
        simp only [Act.put, L0, L1, L2]
        refine Evo2.va ok 13 _ _ ?_
        refine Evo2.va ok 14 _ _ ?_
        refine Evo2.va ok 15 _ _ ?_
        refine Evo2.done (by decide +kernel) (fun wz gz => ?_)
        have AZ := Chg.trans (Chg.trans AP1 CH1) (Chg.grow gz)
        replace BZ := Lib.hid (BZ.out.grow gz)
        dsimp only [PostN] 
        (repeat apply Exists.intro) 
        exact ⟨rfl, Lib.hid ⟨BZ.out, (Chg.trans (Chg.grow (G := fun j => j = w.heap.size) G0.out) AZ).toGrow (fun k hk e => by have e : k = w.heap.size := e; omega)⟩⟩
      ·
        rintro A W5 ⟨x22, x23, x24, x25, x26, x27, x28, x29, x30, x31, x32, x33, rfl, H5⟩
        have BF := H5.out.1
        go_wp2_with fail
        refine bodyPost_ret (v := .tuple #[.agg #[.string d0, .int .i64 d1, .int .i64 d2, .int .i64 d3, .int .i64 d4, .int .i64 d5], .int .i64 (ov : Int), .int .i64 (og : Int), .bool true]) (by simp [results, Tryz.results20, go_sem, BF.cell]) rfl ?_
        exact ⟨rfl, H5.out.2⟩

/-- Nothing there, or no more: the object, if there is one, is none. -/
theorem RfS.noneR {g n : Nat} {v : Value} {lm : List OM} {s : Sh} {nm : ByteArray} {w : World} {F : Nat → Prop} (h : RfS g n v lm w F) (hO : OSh (lm.map OM.o) s) (hf : s.rt nm = none) :
    fndV lm (idxO (lm.map OM.o) 2 nm) = .pointer none ∨ ∃ b, fndV lm (idxO (lm.map OM.o) 2 nm) = pt b ∧ w.cell? ⟨b, 14, none⟩ = some (.bool false) := by
  cases hi : idxO (lm.map OM.o) 2 nm with
  | none => exact .inl rfl
  | some i =>
    have hil := idxO_lt i hi
    rw [List.length_map] at hil
    obtain ⟨m, hm⟩ : ∃ m, lm[i]? = some m := ⟨_, List.getElem?_eq_getElem hil⟩
    obtain ⟨o', ho', hkd, hnm⟩ := idxO_some hi
    have emo : o' = m.o := by rw [List.getElem?_map, hm] at ho'; cases ho'; rfl
    subst emo
    have hr := hO.r m.o (List.mem_of_getElem? ho') hkd
    rw [hnm, hf] at hr
    have his : m.o.is = false := by
      cases h : m.o.is with
      | false => rfl
      | true => rw [h] at hr; cases hr
    refine .inr ⟨m.b, by unfold fndV; dsimp only; rw [hm], ?_⟩
    have := ((h.ob hm).1.cell 14).trans (show _ = some (.bool m.o.is) from rfl)
    rw [his] at this
    exact this
set_option maxHeartbeats 4000000 in
theorem rroute_none (g : Nat) (s : Sh) (nm : ByteArray) (w : World) (F : Nat → Prop) (h : RfP g s w F) (hf : s.rt nm = none) :
    Calls Tryz.prog 21 #[pt g, .string nm] w fun e w' => e = .returned (.tuple #[rtV ⟨#[]⟩ ⟨#[]⟩ (.slice none 0 0) 0, .int .i64 0, .bool false]) ∧ Grow.G w w' := by
  obtain ⟨vv, lm, hO, hle, hok, hn2, hS⟩ := h
  have FD := Lib.hid (fun w' (hg : Grow.G w w') => rfind_any g s.n vv lm 2 nm w' F ((RfS.foot g s.n vv lm).grow hS hg) (by omega))
  have HM := Lib.hid ((Mem.nil w).alloc' [.string ⟨#[]⟩, .string ⟨#[]⟩, .slice none 0 0, .int .i64 0] 45 rfl)
  have GA := Lib.hid (Grow.G.alloc (Grow.G.refl w) (.cells #[.string ⟨#[]⟩, .string ⟨#[]⟩, .slice none 0 0, .int .i64 0] 45))
  have HN := hS.noneR hO hf
  clear hO hle hok hS hf
  unfold rtV
  rcases HN with e | ⟨b, e, cb⟩
  · rw [e] at FD
    clear e
    go_enter Tryz.func21, Tryz.ntmps21
    go_wp2_with fail
    refine (FD.out _ GA.out).mono ?_
    rintro e w1 ⟨rfl, rfl⟩
    go_wp2_with ((refine Mem.storeAll 0 (t := 45) rfl rfl rfl rfl (n := 4) (by kernel_rfl) HM.out rfl rfl rfl rfl ?_; intro W3 HMm CW3))
    simp only [K0, K1, L1, L2, K2, K3, K4, K5, K6, K7, Nat.reduceAdd, Nat.reduceSub] at HMm
    replace HM := Lib.hid HMm
    clear HMm
    refine Stay.go ?_
    have BF := HM.out.blk (i := 0) rfl
    go_wp2_with fail
    refine bodyPost_ret (v := .tuple #[.agg #[.string ⟨#[]⟩, .string ⟨#[]⟩, .slice none 0 0, .int .i64 0], .int .i64 0, .bool false]) (by simp [results, Tryz.results21, go_sem, BF.cell]) rfl ?_
    exact ⟨rfl, HM.out.below⟩
  · rw [e] at FD
    have ci := cell_later GA.out cb
    clear e cb
    go_enter Tryz.func21, Tryz.ntmps21
    go_wp2_with fail
    refine (FD.out _ GA.out).mono ?_
    rintro e w1 ⟨rfl, rfl⟩
    go_wp2_with ((refine Mem.storeAll 0 (t := 45) rfl rfl rfl rfl (n := 4) (by kernel_rfl) HM.out rfl rfl rfl rfl ?_; intro W3 HMm CW3))
    simp only [K0, K1, L1, L2, K2, K3, K4, K5, K6, K7, Nat.reduceAdd, Nat.reduceSub] at HMm
    replace HM := Lib.hid HMm
    clear HMm
    refine Stay.go ?_
    have BF := HM.out.blk (i := 0) rfl
    go_wp2_with fail
    refine bodyPost_ret (v := .tuple #[.agg #[.string ⟨#[]⟩, .string ⟨#[]⟩, .slice none 0 0, .int .i64 0], .int .i64 0, .bool false]) (by simp [results, Tryz.results21, go_sem, BF.cell]) rfl ?_
    exact ⟨rfl, HM.out.below⟩
/-- One that is there: where the object lies. -/
theorem RfS.someR {g n : Nat} {v : Value} {lm : List OM} {s : Sh} {nm : ByteArray} {r : Rt} {v0 : Nat} {w : World} {F : Nat → Prop} (h : RfS g n v lm w F) (hO : OSh (lm.map OM.o) s) (hf : s.rt nm = some (r, v0)) :
    ∃ (m : OM), fndV lm (idxO (lm.map OM.o) 2 nm) = pt m.b ∧ m.o.r = r ∧ m.o.v = v0 ∧ m.o.is = true ∧ Blk w m.b m.cells.toArray objT ∧ w.ownsRow 0 84 3 m.tv m.o.r.ts.length (flatT m.o.r.ts) := by
  cases hi : idxO (lm.map OM.o) 2 nm with
  | none => rw [hO.rn nm (idxO_none hi)] at hf; cases hf
  | some i =>
    have hil := idxO_lt i hi
    rw [List.length_map] at hil
    obtain ⟨m, hm⟩ : ∃ m, lm[i]? = some m := ⟨_, List.getElem?_eq_getElem hil⟩
    obtain ⟨o', ho', hkd, hnm⟩ := idxO_some hi
    have emo : o' = m.o := by rw [List.getElem?_map, hm] at ho'; cases ho'; rfl
    subst emo
    have hr := hO.r m.o (List.mem_of_getElem? ho') hkd
    rw [hnm, hf] at hr
    have his : m.o.is = true := by
      cases h : m.o.is with
      | false => rw [h] at hr; cases hr
      | true => rfl
    rw [his, if_pos rfl] at hr
    cases hr
    exact ⟨m, by unfold fndV; dsimp only; rw [hm], rfl, rfl, his, (h.ob hm).1, (h.ob hm).2⟩
/-- What a row of targets reads as. -/
theorem tgts_of_own {w : World} {base : Nat} {a : Option Addr} {c : Nat} {ts : List Tgt} (h : w.ownsRow base 84 3 (.slice a ts.length c) ts.length (flatT ts)) : TgtSl w a ts := by
  rcases h.2 with ⟨_, h0⟩ | ⟨b, cap, cur, hv, _⟩
  · exact .inl (List.eq_nil_of_length_eq_zero h0)
  · injection hv with e1 e2 e3
    subst e1 e3
    exact (own_tgts h).2.1
set_option maxHeartbeats 8000000 in
theorem rroute_some (g : Nat) (s : Sh) (nm : ByteArray) (r : Rt) (v : Nat) (w : World) (F : Nat → Prop) (h : RfP g s w F) (hf : s.rt nm = some (r, v)) :
    Calls Tryz.prog 21 #[pt g, .string nm] w fun e w' => ∃ b cap, e = .returned (.tuple #[rtV r.nm r.cf (.slice (some ⟨b, 0, none⟩) r.ts.length cap) r.rl, .int .i64 v, .bool true]) ∧ OwnTs w' w.heap.size (.slice (some ⟨b, 0, none⟩) r.ts.length cap) r.ts ∧ Grow.G w w' := by
  obtain ⟨vv, lm, hO, hle, hok, hn2, hS⟩ := h
  have CE : (Tryz.prog.info? 45).map (·.size) = some 4 := by kernel_rfl
  have CI : (Tryz.prog.info? 45).isSome = true := by kernel_rfl
  have CC : Tryz.prog.cellsOf 45 = 4 := by kernel_rfl
  have FD := Lib.hid (fun w' (hg : Grow.G w w') => rfind_any g s.n vv lm 2 nm w' F ((RfS.foot g s.n vv lm).grow hS hg) (by omega))
  have HM := Lib.hid ((Mem.nil w).alloc' [.string ⟨#[]⟩, .string ⟨#[]⟩, .slice none 0 0, .int .i64 0] 45 rfl)
  have GA := Lib.hid (Grow.G.alloc (Grow.G.refl w) (.cells #[.string ⟨#[]⟩, .string ⟨#[]⟩, .slice none 0 0, .int .i64 0] 45))
  obtain ⟨m, hfv, hmr, hmv, his, hB, hT⟩ := hS.someR hO hf
  have hsm := rt_small (hok.r nm r v hf).2.1
  rw [hfv] at FD
  clear hO hle hok hS hf hfv
  obtain ⟨mo, mb, mtv⟩ := m
  obtain ⟨okd, onm, ⟨d0, d1, d2, d3, d4, d5⟩, ⟨r0, r1, rts, r2⟩, ov, og, ois⟩ := mo
  dsimp only at hmr hmv his hB hT FD
  subst hmr hmv his
  unfold OM.cells at hB
  dsimp only at hB hsm ⊢
  obtain ⟨ta, tc, rfl⟩ := own_shape hT
  have OB := Lib.hid hB
  have HT := Lib.hid (tgts_of_own hT)
  have hl : rts.length ≤ 1000 := by omega
  have h0 : 0 < rts.length := by omega
  have hbl := hB.lt
  have hbl2 : mb < (w.alloc (.cells #[.string ⟨#[]⟩, .string ⟨#[]⟩, .slice none 0 0, .int .i64 0] 45)).heap.size := by rw [World.size_alloc]; omega
  have OB1 := Lib.hid (hB.grow GA.out)
  have ci := (OB1.out.cell 14).trans (show _ = some (.bool true) from rfl)
  have e8 := (OB1.out.cell 8).trans (show _ = some (.string r0) from rfl)
  have e9 := (OB1.out.cell 9).trans (show _ = some (.string r1) from rfl)
  have e10 := (OB1.out.cell 10).trans (show _ = some (.slice ta rts.length tc) from rfl)
  have e11 := (OB1.out.cell 11).trans (show _ = some (.int .i64 r2) from rfl)
  have x8 := (hB.cell 8).trans (show _ = some (.string r0) from rfl)
  have x9 := (hB.cell 9).trans (show _ = some (.string r1) from rfl)
  have x10 := (hB.cell 10).trans (show _ = some (.slice ta rts.length tc) from rfl)
  have x11 := (hB.cell 11).trans (show _ = some (.int .i64 r2) from rfl)
  have b1 : mb < w.heap.size + 1 := by omega
  have b2 : mb < w.heap.size + 1 + 1 := by omega
  have b3 : ¬ mb = w.heap.size := by omega
  have b4 : ¬ mb = w.heap.size + 1 := by omega
  have b5 : ¬ mb = w.heap.size + 1 + 1 := by omega
  clear hB hT hsm e8 e9 e10 e11
  unfold rtV
  go_enter Tryz.func21, Tryz.ntmps21
  go_wp2_with fail
  refine (FD.out _ GA.out).mono ?_
  rintro e w1 ⟨rfl, rfl⟩
  have hlt0 := HM.out.lt (i := 0) rfl
  obtain ⟨W1, hW1⟩ : ∃ W1, W1 = (w.alloc (.cells #[.string ⟨#[]⟩, .string ⟨#[]⟩, .slice none 0 0, .int .i64 0] 45)).alloc (.cells #[.string r0, .string r1, .slice ta rts.length tc, .int .i64 r2] 45) := ⟨_, rfl⟩
  have HM1 := Lib.hid (show Mem w W1 _ from by rw [hW1]; exact Mem.alloc' HM.out [.string r0, .string r1, .slice ta rts.length tc, .int .i64 r2] 45 (g := w.heap.size + 1) (by simp))
  have hz1 : W1.heap.size = w.heap.size + 2 := by rw [hW1]; simp
  have HT1 := Lib.hid (HT.out.later HM1.out.below)
  have HW1 := Lib.hid hW1
  have HZ1 := Lib.hid hz1
  clear hW1 hz1
  go_wp2_with (first
    | (refine Box.load (t := 45) (off := 8) (vs := [.string r0, .string r1, .slice ta rts.length tc, .int .i64 r2]) rfl rfl rfl OB1.out Tryz.underlying45 CI (by rw [CC]; rfl) (by rw [CC]; rfl) ?_)
    | (at_builtin; refine wpList_copyt rfl _ _ rfl rfl (by simp) rts rfl rfl (by rw [← HW1.out]; exact HT1.out) hl ?_))
  rw [← HW1.out]
  intro sa c' w3 o3 g3
  obtain ⟨b, cap, cur, hv, hbw, hbk, hcur⟩ := own_blk o3 h0
  cases hv
  have HM3 := Lib.hid (HM1.out.grow g3)
  have hz := HZ1.out
  have O3 := Lib.hid o3
  clear o3 g3 hbk hcur HW1 HM1 HT1 HT
  go_wp2_with ((refine Mem.store 1 (t := 43) rfl rfl rfl rfl (vs := [.slice (some ⟨b, 0, none⟩) rts.length c']) rfl (n := 1) (by kernel_rfl) HM3.out rfl rfl (by simp) rfl ?_; intro W4 HMm CW4))
  simp only [K0, K1, L1, L2, K2, K3, K4, K5, K6, K7, Nat.reduceAdd, Nat.reduceSub] at HMm
  replace HM3 := Lib.hid HMm
  clear HMm
  refine Stay.go ?_
  have B0 := HM3.out.blk (i := 0) rfl
  have B1 := Lib.hid (HM3.out.blk (i := 1) rfl)
  have O4 : OwnTs W4 w.heap.size (.slice (some ⟨b, 0, none⟩) rts.length c') rts := own_base (CW4.own O3.out (fun k hk e => by cases hk; have e : b = w.heap.size + 1 := e; omega)) (by omega)
  have O4 := Lib.hid O4
  have hne : w.heap.size + 1 ≠ w.heap.size := by omega
  have OB4 := Lib.hid (OB.out.grow HM3.out.below)
  have KC := Lib.hid (fun (w' : World) (h : Chg (fun k => k = w.heap.size) W4 w') => (⟨h.cell ((OB4.out.cell 12).trans rfl) (by omega), trivial⟩ : w'.cell? ⟨mb, 12, none⟩ = some (.int .i64 (ov : Int)) ∧ True))
  have G4 := Lib.hid HM3.out.below
  have BZ := Lib.hid B0
  have NB : Hid (¬ b = w.heap.size) := Lib.hid (by omega)
  clear B0 x8 x9 x10 x11 ci OB1 CW4 hz O3 FD OB
  go_wp2_with fail
  refine wp_spec (fun a0 A W => ∃ x34 x35 x36 x37 x38 : Value, A = (((((((a0.put (some 5) (.int .i64 (ov : Int))).put (some 6) (.bool true)).put (some 34) x34).put (some 35) x35).put (some 36) x36).put (some 37) x37).put (some 38) x38) ∧ Hid (Blk W w.heap.size #[.string r0, .string r1, .slice (some ⟨b, 0, none⟩) rts.length c', .int .i64 r2] 45 ∧ OwnTs W w.heap.size (.slice (some ⟨b, 0, none⟩) rts.length c') rts ∧ Grow.G w W)) ?_ ?_
  all_goals simp only [Act.put, L0, L1, L2]
  ·
    refine Evo2.start' (ℓ := none) (S := Chg (fun j => j = w.heap.size)) (E := Grow.G) (by kernel_rfl) ⟨Chg.pre _, by decide +kernel, (by intro c a d v w h; cases d <;> exact h), by decide +kernel⟩ (fun ok => ?_)
    first | (refine Evo2.val ok 0 ?_ ?_ ?_; rotate_left; (focus (intro w' hg; refine Box.exec_load (off := 0) (vs := [.string r0, .string r1, .slice (some ⟨b, 0, none⟩) rts.length c', .int .i64 r2]) ?_ Tryz.underlying45 CE (B1.out.chg (Chg.trans (Chg.refl (fun j => j = w.heap.size) _) hg) hne) rfl ?_; (all_goals (first | exact ⟨rfl, rfl⟩ | rfl)))); simp only [Act.put, L0, L1, L2]) | (refine Evo2.vl ok 0 KC.out (Chg.refl (fun j => j = w.heap.size) _) _ _ ?_) | (refine Evo2.va ok 0 _ _ ?_)
    refine Evo2.va ok 1 _ _ ?_
    refine Evo2.va ok 2 _ _ ?_
    refine Evo2.va ok 3 _ _ ?_
    first | (refine Evo2.vl ok 4 KC.out (Chg.refl (fun j => j = w.heap.size) _) _ _ ?_) | (refine Evo2.va ok 4 _ _ ?_)
    refine Evo2.all [5] (by decide +kernel) rfl ?_
    intro wp1 gp1 iq hq
    simp only [List.mem_cons, List.mem_nil_iff, or_false] at hq
    have AP1 := Chg.trans (Chg.refl (fun j => j = w.heap.size) _) (Chg.grow gp1)
    replace BZ := Lib.hid (BZ.out.grow gp1)
    subst hq
    refine upStoreAll (by rfl) (by rfl) rfl rfl rfl (n := 4) (by kernel_rfl) (BZ.out) rfl rfl rfl ?_
    intro wc1 BW CW1
    have CH1 : Chg (fun j => j = w.heap.size) _ _ := CW1.mono (fun j _ e => e)
    replace BZ := Lib.hid BW
    refine ⟨.inr CH1, ?_⟩
    simp only [Act.put, L0, L1, L2]
    refine Evo2.va ok 6 _ _ ?_
    refine Evo2.va ok 7 _ _ ?_
    refine Evo2.done (by decide +kernel) (fun wz gz => ?_)
    have AZ := Chg.trans (Chg.trans AP1 CH1) (Chg.grow gz)
    replace BZ := Lib.hid (BZ.out.grow gz)
    dsimp only [PostN] 
    (repeat apply Exists.intro) 
    exact ⟨rfl, Lib.hid ⟨BZ.out, AZ.own O4.out (fun k hk e => by cases hk; exact NB.out e), (Chg.trans (Chg.grow (G := fun j => j = w.heap.size) G4.out) AZ).toGrow (fun k hk e => by have e : k = w.heap.size := e; omega)⟩⟩
  ·
    rintro A W5 ⟨x34, x35, x36, x37, x38, rfl, H5⟩
    have BF := H5.out.1
    go_wp2_with fail
    refine bodyPost_ret (v := .tuple #[.agg #[.string r0, .string r1, .slice (some ⟨b, 0, none⟩) rts.length c', .int .i64 r2], .int .i64 (ov : Int), .bool true]) (by simp [results, Tryz.results21, go_sem, BF.cell]) rfl ?_
    exact ⟨b, c', rfl, H5.out.2.1, H5.out.2.2⟩
end Go.Proofs.YtlnffdkaleapbaaGreat
