
/- The walk of ShelfRaces. -/
import Derived.Test.YtgiihgpnmcchdaaShelfKinds
import Derived.Test.YtgiihgpnmcchdaaZ29
import Derived.Test.YtgiihgpnmcchdaaZ2
namespace Go.Proofs.Ytgiihgpnmcchdaa
set_option maxRecDepth 100000
set_option linter.unusedVariables false
set_option linter.unusedSimpArgs false
set_option linter.unnecessarySimpa false
open Go.RowKit Go.MapV Go.Maps

theorem races (x y z : Cfg) (hx : x.err = 0) (hy : y.err = 0) (hz : z.err = 0) (hyn : y.nm = x.nm) (hzn : z.nm = x.nm) (v : Int) (hv : v ≠ 0) (s1 s2 s3 : Sh) (h1 : s1 = Sh.new.setC x) (h2 : s2 = s1.setC y) (h3 : s3 = s2.cut 1 x.nm) :
    (Sh.new.putC x 0 = 0 ∧ Sh.new.aftC x 0 = s1) ∧ (s1.putC y 0 = 5 ∧ s1.aftC y 0 = s1) ∧ (s1.putC y 1 = 0 ∧ s1.aftC y 1 = s2) ∧ (s2.putC z 1 = 7 ∧ s2.aftC z 1 = s2) ∧ (s2.drop 1 x.nm 1 = 7 ∧ s2.aftD 1 x.nm 1 = s2) ∧ s2.cfgOf x.nm = (y, 2, (s2.gn x.nm : Int), true) ∧ (s2.drop 1 x.nm 2 = 0 ∧ s2.aftD 1 x.nm 2 = s3) ∧ (s3.putC z v = 6 ∧ s3.aftC z v = s3) ∧ s3.cfgOf x.nm = (cfgZ, 0, 0, false) ∧ s1.n = 1 ∧ s2.n = 2 ∧ s3.n = 3 := by
  have n1 : s1.n = 1 := by rw [h1, Sh.n_setC]; rfl
  have n2 : s2.n = 2 := by rw [h2, Sh.n_setC, n1]
  have c1 : s1.cf x.nm = some (x, 1) := by rw [h1, setC_cf, upd_at]; rfl
  have c2 : s2.cf x.nm = some (y, 2) := by rw [h2, setC_cf, hyn, upd_at, n1]
  obtain ⟨c3, _, n3⟩ := cut1 s2 x.nm
  rw [← h3] at c3 n3
  rw [n2] at n3
  have a1 : Sh.new.putC x 0 = 0 := by unfold Sh.putC; rw [if_pos hx]; rfl
  have a2 : s1.putC y 0 = 5 := by unfold Sh.putC; rw [if_pos hy, hyn, c1]; rfl
  have a3 : s1.putC y 1 = 0 := by unfold Sh.putC; rw [if_pos hy, hyn, c1]; rfl
  have a4 : s2.putC z 1 = 7 := by unfold Sh.putC; rw [if_pos hz, hzn, c2]; rfl
  have a5 : s2.drop 1 x.nm 1 = 7 := by unfold Sh.drop Sh.verK; rw [if_pos (.inl rfl), if_pos rfl, c2]; rfl
  have a6 : s2.drop 1 x.nm 2 = 0 := by unfold Sh.drop Sh.verK; rw [if_pos (.inl rfl), if_pos rfl, c2]; rfl
  have a7 : s3.putC z v = 6 := by
    unfold Sh.putC
    rw [if_pos hz, hzn, c3]
    show mayP none v = 6
    unfold mayP
    rw [if_neg hv]; rfl
  refine ⟨⟨a1, by unfold Sh.aftC; rw [if_pos a1, h1]⟩, ⟨a2, by unfold Sh.aftC; rw [a2, if_neg (by decide)]⟩, ⟨a3, by unfold Sh.aftC; rw [if_pos a3, h2]⟩, ⟨a4, by unfold Sh.aftC; rw [a4, if_neg (by decide)]⟩, ⟨a5, by unfold Sh.aftD; rw [a5, if_neg (by decide)]⟩, cfgOf_some c2, ⟨a6, by unfold Sh.aftD; rw [if_pos a6, h3]⟩, ⟨a7, by unfold Sh.aftC; rw [a7, if_neg (by decide)]⟩, cfgOf_none c3, n1, n2, n3⟩
section
variable {w0 w : World} {L : List MBox} {B : Hp} {g : Nat} {s s' : Sh} {er nr : Int}
theorem hold_putC' (h : Hold w0 w L (Sep (ShP g s) B)) (hB : Foot B) (c : Cfg) (v : Int) (hc : c.nm.size ≤ 140737488351232) (hn : s.n < 1099511627776) (he : s.putC c v = er ∧ s.aftC c v = s') (hr : s.numOf er = nr := by rfl) :
    Calls Try.prog 8 #[pt g, c.v, .int .i64 v] w fun e w' => e = .returned (.tuple #[.int .i64 nr, .int .i64 er]) ∧ Hold w0 w' L (Sep (ShP g s') B) := by
  have := hold_putC h hB c v hc hn
  rw [he.1, he.2, hr] at this
  exact this
theorem hold_drop' (h : Hold w0 w L (Sep (ShP g s) B)) (hB : Foot B) (k : Int) (nm : ByteArray) (v : Int) (hs : nm.size ≤ maxLen) (hn : s.n < 1099511627776) (he : s.drop k nm v = er ∧ s.aftD k nm v = s') :
    Calls Try.prog 9 #[pt g, .int .i64 k, .string nm, .int .i64 v] w fun e w' => e = .returned (.int .i64 er) ∧ Hold w0 w' L (Sep (ShP g s') B) := by
  have := hold_drop h hB k nm v hs hn
  rw [he.1, he.2] at this
  exact this
end
set_option maxHeartbeats 16000000 in
theorem walkShelfRaces (w : World) (a : Cfg) (ha : a.wf ∧ a.nm.size ≤ 140737488351232) (b : Cfg) (hb : b.wf ∧ b.nm.size ≤ 140737488351232) (c : Cfg) (hc : c.wf ∧ c.nm.size ≤ 140737488351232) (nm : Int) (hnm : wf64 nm) (n : Int) (hn : wf64 n) :
    Calls Try.prog 3 #[a.v, b.v, c.v, .int .i64 nm, .int .i64 n] w fun e w' => e = .returned (.bool true) ∧ Below w.heap.size w w' := by
  have KN := Lib.hid (fun w => known4_any w)
  have GA := Lib.hid (fun w => gcfg_any a nm w ha.1 hnm)
  have GB := Lib.hid (fun w => gcfg_any b nm w hb.1 hnm)
  have GC := Lib.hid (fun w => gcfg_any c nm w hc.1 hnm)
  have xa := gCfg_ok a nm
  have xb := gCfg_ok b nm
  have xc := gCfg_ok c nm
  have r9 := withinI_range n 9 (by omega)
  have WN := Lib.hid (fun w => (within4_any n 9 w (by omega) (by omega) hn.1 hn.2).mono (fun e w' (h : _ ∧ _) => (⟨h.1, h.2 ▸ Grow.G.refl _⟩ : _ ∧ Grow.G w w')))
  obtain ⟨q, hq⟩ : ∃ q, 1 + withinI n 9 = q := ⟨_, rfl⟩
  have hwq : IntKind.i64.wrap (1 + withinI n 9) = q := by rw [hq]; exact IntWalk.i64_in _ ⟨by omega, by omega⟩
  have RC := Lib.hid (races (gCfg a nm) (gCfg b nm) (gCfg c nm) xa xb xc rfl rfl q (by omega) _ _ _ rfl rfl rfl)
  have hsz := (cfg_small xa).1
  unfold gCfg at GA GB GC RC hsz
  dsimp only at RC hsz
  clear ha hb hc xa xb xc r9 hq hn hnm
  generalize withinI n 9 = yq at *
  generalize name3 nm = N at *
  generalize withinI a.im 256 = a1 at *
  generalize 1 + withinI a.co 8 = a2 at *
  generalize withinI a.mn (1 + withinI a.mx 10 + 1) = a3 at *
  generalize 1 + withinI a.mx 10 = a4 at *
  generalize withinI a.gr 31 = a5 at *
  generalize withinI b.im 256 = b1 at *
  generalize 1 + withinI b.co 8 = b2 at *
  generalize withinI b.mn (1 + withinI b.mx 10 + 1) = b3 at *
  generalize 1 + withinI b.mx 10 = b4 at *
  generalize withinI b.gr 31 = b5 at *
  generalize withinI c.im 256 = c1 at *
  generalize 1 + withinI c.co 8 = c2 at *
  generalize withinI c.mn (1 + withinI c.mx 10 + 1) = c3 at *
  generalize 1 + withinI c.mx 10 = c4 at *
  generalize withinI c.gr 31 = c5 at *
  generalize hS1 : Sh.new.setC ⟨N, a1, a2, a3, a4, a5⟩ = S1 at *
  generalize hS2 : S1.setC ⟨N, b1, b2, b3, b4, b5⟩ = S2 at *
  generalize hS3 : S2.cut 1 N = S3 at *
  generalize (S2.gn N : Int) = gn2 at *
  have FE := Lib.hid (fun g s => (ShP.ft g s))
  have CE : (Try.prog.info? 23).map (·.size) = some 6 := by kernel_rfl
  have hN := RC.out.2.2.2.2.2.2.2.2.2
  have P1 := Lib.hid (fun (w w' : World) (L : List MBox) (g : Nat) (h : Hold w w' L (Sep (ShP g Sh.new) Emp)) => hold_putC' (nr := 1) h Emp.foot ⟨N, a1, a2, a3, a4, a5⟩ 0 (by show N.size ≤ _; omega) (by rw [new_n]; omega) RC.out.1)
  have P2 := Lib.hid (fun (w w' : World) (L : List MBox) (g : Nat) (h : Hold w w' L (Sep (ShP g S1) Emp)) => hold_putC' (nr := 0) h Emp.foot ⟨N, b1, b2, b3, b4, b5⟩ 0 (by show N.size ≤ _; omega) (by rw [hN.1]; omega) RC.out.2.1)
  have P3 := Lib.hid (fun (w w' : World) (L : List MBox) (g : Nat) (h : Hold w w' L (Sep (ShP g S1) Emp)) => hold_putC' (nr := 2) h Emp.foot ⟨N, b1, b2, b3, b4, b5⟩ 1 (by show N.size ≤ _; omega) (by rw [hN.1]; omega) RC.out.2.2.1 (by unfold Sh.numOf; rw [hN.1]; rfl))
  have P4 := Lib.hid (fun (w w' : World) (L : List MBox) (g : Nat) (h : Hold w w' L (Sep (ShP g S2) Emp)) => hold_putC' (nr := 0) h Emp.foot ⟨N, c1, c2, c3, c4, c5⟩ 1 (by show N.size ≤ _; omega) (by rw [hN.2.1]; omega) RC.out.2.2.2.1)
  have D1 := Lib.hid (fun (w w' : World) (L : List MBox) (g : Nat) (h : Hold w w' L (Sep (ShP g S2) Emp)) => hold_drop' h Emp.foot 1 N 1 (by unfold maxLen; omega) (by rw [hN.2.1]; omega) RC.out.2.2.2.2.1)
  have C1 := Lib.hid (fun (w w' : World) (L : List MBox) (g : Nat) (h : Hold w w' L (Sep (ShP g S2) Emp)) => by
    have := hold_cfg h Emp.foot N (by unfold maxLen; omega)
    rwa [RC.out.2.2.2.2.2.1] at this)
  have D2 := Lib.hid (fun (w w' : World) (L : List MBox) (g : Nat) (h : Hold w w' L (Sep (ShP g S2) Emp)) => hold_drop' h Emp.foot 1 N 2 (by unfold maxLen; omega) (by rw [hN.2.1]; omega) RC.out.2.2.2.2.2.2.1)
  have P5 := Lib.hid (fun (w w' : World) (L : List MBox) (g : Nat) (F : Nat → Prop) (h : HoldF w w' L (Sep (ShP g S3) Emp) F) => by
    have := h.call (Sep.callL Emp.foot fun F hS => sputC_any g F S3 ⟨N, c1, c2, c3, c4, c5⟩ q _ hS (by show N.size ≤ _; omega) (by rw [hN.2.2]; omega))
    rwa [RC.out.2.2.2.2.2.2.2.1.1, RC.out.2.2.2.2.2.2.2.1.2, show S3.numOf 6 = 0 from rfl] at this)
  have C2 := Lib.hid (fun (w w' : World) (L : List MBox) (g : Nat) (h : Hold w w' L (Sep (ShP g S3) Emp)) => by
    have := hold_cfg h Emp.foot N (by unfold maxLen; omega)
    rwa [RC.out.2.2.2.2.2.2.2.2.1] at this)
  obtain ⟨an, i1, i2, i3, i4, i5⟩ := a
  obtain ⟨bn, j1, j2, j3, j4, j5⟩ := b
  obtain ⟨cn, k1, k2, k3, k4, k5⟩ := c
  unfold cfgZ Cfg.v at *
  dsimp only at *
  clear hS1 hS2 hS3
  go_enter Try.func3, Try.ntmps3
  go_wp2_with fail
  refine (KN.out _).mono ?_
  rintro e w1 ⟨rfl, hg⟩
  have H0 := (((((Hold.nil w).alloc' Emp.foot [.string an, .int .i64 i1, .int .i64 i2, .int .i64 i3, .int .i64 i4, .int .i64 i5] 23 rfl).alloc' Emp.foot [.string bn, .int .i64 j1, .int .i64 j2, .int .i64 j3, .int .i64 j4, .int .i64 j5] 23 (g := w.heap.size + 1) (by simp)).alloc' Emp.foot [.string cn, .int .i64 k1, .int .i64 k2, .int .i64 k3, .int .i64 k4, .int .i64 k5] 23 (g := w.heap.size + 1 + 1) (by simp)).grow Emp.foot hg)
  simp only [K0, K1, L1, L2, K2, K3, K4, K5, K6, K7, Nat.reduceAdd, Nat.reduceSub] at H0
  have H := Lib.hid H0
  clear H0 hg
  go_wp2_with fail
  refine (hold_new H.out Emp.foot).mono ?_
  rintro e w2 ⟨g, rfl, hh⟩
  replace H := Lib.hid hh
  clear hh
  go_wp2_with fail
  have B0 := Lib.hid (H.out.mem.blk (i := 0) rfl)
  have B1 := Lib.hid (H.out.mem.blk (i := 1) rfl)
  have B2 := Lib.hid (H.out.mem.blk (i := 2) rfl)
  have l0 := B0.out.lt
  have l1 := B1.out.lt
  have l2 := B2.out.lt
  have HK := H
  refine wp_spec (fun a0 A W => ∃ x39 x40 x41 x42 x43 x44 x45 x46 x47 : Value, ∃ (bx bY bz : Nat), A = ((((((((((((a0.put (some 12) (.pointer (some ⟨bx, 0, none⟩))).put (some 13) (.pointer (some ⟨bY, 0, none⟩))).put (some 14) (.pointer (some ⟨bz, 0, none⟩))).put (some 39) x39).put (some 40) x40).put (some 41) x41).put (some 42) x42).put (some 43) x43).put (some 44) x44).put (some 45) x45).put (some 46) x46).put (some 47) x47) ∧ Hid (Hold w W [(w.heap.size, [.string an, .int .i64 i1, .int .i64 i2, .int .i64 i3, .int .i64 i4, .int .i64 i5], 23), (w.heap.size + 1, [.string bn, .int .i64 j1, .int .i64 j2, .int .i64 j3, .int .i64 j4, .int .i64 j5], 23), (w.heap.size + 1 + 1, [.string cn, .int .i64 k1, .int .i64 k2, .int .i64 k3, .int .i64 k4, .int .i64 k5], 23), (bx, [.string N, .int .i64 a1, .int .i64 a2, .int .i64 a3, .int .i64 a4, .int .i64 a5], 23), (bY, [.string N, .int .i64 b1, .int .i64 b2, .int .i64 b3, .int .i64 b4, .int .i64 b5], 23), (bz, [.string N, .int .i64 c1, .int .i64 c2, .int .i64 c3, .int .i64 c4, .int .i64 c5], 23)] (Sep (ShP g Sh.new) Emp))) ?_ ?_
  all_goals simp only [Act.put, L0, L1, L2]
  ·
    refine Evo2.start' (ℓ := some 14) (S := Chg (fun j => w2.heap.size ≤ j)) (E := Grow.G) (by kernel_rfl) ⟨Chg.pre _, by decide +kernel, (by intro c a d v w h; cases d <;> exact h), by decide +kernel⟩ (fun ok => ?_)
    first | (refine Evo2.val ok 0 ?_ ?_ ?_; rotate_left; (focus (intro w' hg; refine Box.exec_loadAll ?_ Try.underlying23 CE (B0.out.chg (Chg.trans (Chg.refl (fun j => w2.heap.size ≤ j) _) hg) (by omega)) ?_; (all_goals (first | exact ⟨rfl, rfl⟩ | rfl)))); simp only [Act.put, L0, L1, L2]) | (refine Evo2.val ok 0 ?_ ?_ ?_; rotate_left; (focus (intro w' hg; refine Box.exec_loadAll ?_ Try.underlying23 CE (B1.out.chg (Chg.trans (Chg.refl (fun j => w2.heap.size ≤ j) _) hg) (by omega)) ?_; (all_goals (first | exact ⟨rfl, rfl⟩ | rfl)))); simp only [Act.put, L0, L1, L2]) | (refine Evo2.val ok 0 ?_ ?_ ?_; rotate_left; (focus (intro w' hg; refine Box.exec_loadAll ?_ Try.underlying23 CE (B2.out.chg (Chg.trans (Chg.refl (fun j => w2.heap.size ≤ j) _) hg) (by omega)) ?_; (all_goals (first | exact ⟨rfl, rfl⟩ | rfl)))); simp only [Act.put, L0, L1, L2]) | (refine Evo2.va ok 0 _ _ ?_)
    refine Evo2.va ok 1 _ _ ?_
    (refine Evo2.cal ok 2 ?_ 7 ?_ ?_ ?_ ?_; rotate_left 2; (focus (intro w'; go_simp <;> with_reducible rfl)); (focus (intro w' g'; with_reducible exact GA.out w')); simp only [Act.put, L0, L1, L2])
    first | (refine Evo2.val ok 3 ?_ ?_ ?_; rotate_left; (focus (intro w' hg; refine Box.exec_loadAll ?_ Try.underlying23 CE (B0.out.chg (Chg.trans (Chg.refl (fun j => w2.heap.size ≤ j) _) hg) (by omega)) ?_; (all_goals (first | exact ⟨rfl, rfl⟩ | rfl)))); simp only [Act.put, L0, L1, L2]) | (refine Evo2.val ok 3 ?_ ?_ ?_; rotate_left; (focus (intro w' hg; refine Box.exec_loadAll ?_ Try.underlying23 CE (B1.out.chg (Chg.trans (Chg.refl (fun j => w2.heap.size ≤ j) _) hg) (by omega)) ?_; (all_goals (first | exact ⟨rfl, rfl⟩ | rfl)))); simp only [Act.put, L0, L1, L2]) | (refine Evo2.val ok 3 ?_ ?_ ?_; rotate_left; (focus (intro w' hg; refine Box.exec_loadAll ?_ Try.underlying23 CE (B2.out.chg (Chg.trans (Chg.refl (fun j => w2.heap.size ≤ j) _) hg) (by omega)) ?_; (all_goals (first | exact ⟨rfl, rfl⟩ | rfl)))); simp only [Act.put, L0, L1, L2]) | (refine Evo2.va ok 3 _ _ ?_)
    refine Evo2.va ok 4 _ _ ?_
    (refine Evo2.cal ok 5 ?_ 7 ?_ ?_ ?_ ?_; rotate_left 2; (focus (intro w'; go_simp <;> with_reducible rfl)); (focus (intro w' g'; with_reducible exact GB.out w')); simp only [Act.put, L0, L1, L2])
    first | (refine Evo2.val ok 6 ?_ ?_ ?_; rotate_left; (focus (intro w' hg; refine Box.exec_loadAll ?_ Try.underlying23 CE (B0.out.chg (Chg.trans (Chg.refl (fun j => w2.heap.size ≤ j) _) hg) (by omega)) ?_; (all_goals (first | exact ⟨rfl, rfl⟩ | rfl)))); simp only [Act.put, L0, L1, L2]) | (refine Evo2.val ok 6 ?_ ?_ ?_; rotate_left; (focus (intro w' hg; refine Box.exec_loadAll ?_ Try.underlying23 CE (B1.out.chg (Chg.trans (Chg.refl (fun j => w2.heap.size ≤ j) _) hg) (by omega)) ?_; (all_goals (first | exact ⟨rfl, rfl⟩ | rfl)))); simp only [Act.put, L0, L1, L2]) | (refine Evo2.val ok 6 ?_ ?_ ?_; rotate_left; (focus (intro w' hg; refine Box.exec_loadAll ?_ Try.underlying23 CE (B2.out.chg (Chg.trans (Chg.refl (fun j => w2.heap.size ≤ j) _) hg) (by omega)) ?_; (all_goals (first | exact ⟨rfl, rfl⟩ | rfl)))); simp only [Act.put, L0, L1, L2]) | (refine Evo2.va ok 6 _ _ ?_)
    refine Evo2.va ok 7 _ _ ?_
    (refine Evo2.cal ok 8 ?_ 7 ?_ ?_ ?_ ?_; rotate_left 2; (focus (intro w'; go_simp <;> with_reducible rfl)); (focus (intro w' g'; with_reducible exact GC.out w')); simp only [Act.put, L0, L1, L2])
    refine Evo2.all [9, 10, 11] (by decide +kernel) rfl ?_
    intro wp1 gp1 iq hq
    simp only [List.mem_cons, List.mem_nil_iff, or_false] at hq
    have AP1 := Chg.trans (Chg.refl (fun j => w2.heap.size ≤ j) _) (Chg.grow gp1)
    replace HK := Lib.hid (HK.out.grow (FE.out _ _) gp1)
    rcases hq with rfl | rfl | rfl
    ·
      refine Evo2.runs (by rfl) (by rfl) (fun K' hK' => ?_)
      go_simp
      (try (simp only [Evo.after_value, Evo.after_skip]))
      refine hK'.out _ _ ?_
      clear hK'
      simp only [Act.put, L0, L1, L2]
      refine ⟨.inr (Chg.alloc (Chg.refl _ _) _), ?_⟩
      generalize hG1 : World.alloc wp1 _ = wg1
      have GG1 : Grow.G wp1 wg1 := hG1 ▸ Grow.G.alloc (Grow.G.refl _) _
      have NC1 := (congrArg (fun W : World => W.heap[wp1.heap.size]?) hG1).symm.trans (MapKept.heap_alloc wp1 _).1
      have NL1 : wp1.heap.size < wg1.heap.size := by rw [← hG1]; simp
      clear hG1
      replace HK := Lib.hid (HK.out.add (FE.out _ _) GG1 (b := wp1.heap.size) (cs := [.string ⟨#[]⟩, .int .i64 0, .int .i64 0, .int .i64 0, .int .i64 0, .int .i64 0]) NC1 (Nat.le_refl _)); have LO1 := AP1.size
      refine Evo2.all [10, 11] (by decide +kernel) rfl ?_
      intro wp2 gp2 iq hq
      simp only [List.mem_cons, List.mem_nil_iff, or_false] at hq
      have AP2 := Chg.trans (Chg.trans AP1 (Chg.grow GG1)) (Chg.grow gp2)
      replace HK := Lib.hid (HK.out.grow (FE.out _ _) gp2)
      have NC1 := (gp2.block _ NL1).trans NC1
      have NL1 := Nat.lt_of_lt_of_le NL1 gp2.size
      rcases hq with rfl | rfl
      ·
        refine Evo2.runs (by rfl) (by rfl) (fun K' hK' => ?_)
        go_simp
        (try (simp only [Evo.after_value, Evo.after_skip]))
        refine hK'.out _ _ ?_
        clear hK'
        simp only [Act.put, L0, L1, L2]
        refine ⟨.inr (Chg.alloc (Chg.refl _ _) _), ?_⟩
        generalize hG2 : World.alloc wp2 _ = wg2
        have GG2 : Grow.G wp2 wg2 := hG2 ▸ Grow.G.alloc (Grow.G.refl _) _
        have NC1 := (GG2.block _ NL1).trans NC1
        have NL1 := Nat.lt_of_lt_of_le NL1 GG2.size
        have NC2 := (congrArg (fun W : World => W.heap[wp2.heap.size]?) hG2).symm.trans (MapKept.heap_alloc wp2 _).1
        have NL2 : wp2.heap.size < wg2.heap.size := by rw [← hG2]; simp
        clear hG2
        replace HK := Lib.hid (HK.out.add (FE.out _ _) GG2 (b := wp2.heap.size) (cs := [.string ⟨#[]⟩, .int .i64 0, .int .i64 0, .int .i64 0, .int .i64 0, .int .i64 0]) NC2 (Nat.le_refl _)); have LO2 := AP2.size
        refine Evo2.all [11] (by decide +kernel) rfl ?_
        intro wp3 gp3 iq hq
        simp only [List.mem_cons, List.mem_nil_iff, or_false] at hq
        have AP3 := Chg.trans (Chg.trans AP2 (Chg.grow GG2)) (Chg.grow gp3)
        replace HK := Lib.hid (HK.out.grow (FE.out _ _) gp3)
        have NC1 := (gp3.block _ NL1).trans NC1
        have NL1 := Nat.lt_of_lt_of_le NL1 gp3.size
        have NC2 := (gp3.block _ NL2).trans NC2
        have NL2 := Nat.lt_of_lt_of_le NL2 gp3.size
        subst hq
        refine Evo2.runs (by rfl) (by rfl) (fun K' hK' => ?_)
        go_simp
        (try (simp only [Evo.after_value, Evo.after_skip]))
        refine hK'.out _ _ ?_
        clear hK'
        simp only [Act.put, L0, L1, L2]
        refine ⟨.inr (Chg.alloc (Chg.refl _ _) _), ?_⟩
        generalize hG3 : World.alloc wp3 _ = wg3
        have GG3 : Grow.G wp3 wg3 := hG3 ▸ Grow.G.alloc (Grow.G.refl _) _
        have NC1 := (GG3.block _ NL1).trans NC1
        have NL1 := Nat.lt_of_lt_of_le NL1 GG3.size
        have NC2 := (GG3.block _ NL2).trans NC2
        have NL2 := Nat.lt_of_lt_of_le NL2 GG3.size
        have NC3 := (congrArg (fun W : World => W.heap[wp3.heap.size]?) hG3).symm.trans (MapKept.heap_alloc wp3 _).1
        have NL3 : wp3.heap.size < wg3.heap.size := by rw [← hG3]; simp
        clear hG3
        replace HK := Lib.hid (HK.out.add (FE.out _ _) GG3 (b := wp3.heap.size) (cs := [.string ⟨#[]⟩, .int .i64 0, .int .i64 0, .int .i64 0, .int .i64 0, .int .i64 0]) NC3 (Nat.le_refl _)); have LO3 := AP3.size
        refine Evo2.all [12] (by decide +kernel) rfl ?_
        intro wp4 gp4 iq hq
        simp only [List.mem_cons, List.mem_nil_iff, or_false] at hq
        have AP4 := Chg.trans (Chg.trans AP3 (Chg.grow GG3)) (Chg.grow gp4)
        replace HK := Lib.hid (HK.out.grow (FE.out _ _) gp4)
        have NC1 := (gp4.block _ NL1).trans NC1
        have NL1 := Nat.lt_of_lt_of_le NL1 gp4.size
        have NC2 := (gp4.block _ NL2).trans NC2
        have NL2 := Nat.lt_of_lt_of_le NL2 gp4.size
        have NC3 := (gp4.block _ NL3).trans NC3
        have NL3 := Nat.lt_of_lt_of_le NL3 gp4.size
        subst hq
        refine upStoreAll (by rfl) (by rfl) rfl rfl rfl (n := 6) (by kernel_rfl) (by first | exact HK.out.mem.blk (i := 3) rfl | exact HK.out.mem.blk (i := 4) rfl | exact HK.out.mem.blk (i := 5) rfl) rfl rfl rfl ?_
        intro wc4 BZ CW4
        have CH4 : Chg (fun j => w2.heap.size ≤ j) _ _ := CW4.mono (fun j _ e => by have e : j = _ := e; show _ ≤ j; omega)
        replace HK := Lib.hid (by first | exact HK.out.set (FE.out _ _) (i := 3) rfl BZ CW4 | exact HK.out.set (FE.out _ _) (i := 4) rfl BZ CW4 | exact HK.out.set (FE.out _ _) (i := 5) rfl BZ CW4)
        refine ⟨.inr CH4, ?_⟩
        simp only [Act.put, L0, L1, L2]
        refine Evo2.all [13] (by decide +kernel) rfl ?_
        intro wp5 gp5 iq hq
        simp only [List.mem_cons, List.mem_nil_iff, or_false] at hq
        have AP5 := Chg.trans (Chg.trans AP4 CH4) (Chg.grow gp5)
        replace HK := Lib.hid (HK.out.grow (FE.out _ _) gp5)
        subst hq
        refine upStoreAll (by rfl) (by rfl) rfl rfl rfl (n := 6) (by kernel_rfl) (by first | exact HK.out.mem.blk (i := 3) rfl | exact HK.out.mem.blk (i := 4) rfl | exact HK.out.mem.blk (i := 5) rfl) rfl rfl rfl ?_
        intro wc5 BZ CW5
        have CH5 : Chg (fun j => w2.heap.size ≤ j) _ _ := CW5.mono (fun j _ e => by have e : j = _ := e; show _ ≤ j; omega)
        replace HK := Lib.hid (by first | exact HK.out.set (FE.out _ _) (i := 3) rfl BZ CW5 | exact HK.out.set (FE.out _ _) (i := 4) rfl BZ CW5 | exact HK.out.set (FE.out _ _) (i := 5) rfl BZ CW5)
        refine ⟨.inr CH5, ?_⟩
        simp only [Act.put, L0, L1, L2]
        refine Evo2.all [14] (by decide +kernel) rfl ?_
        intro wp6 gp6 iq hq
        simp only [List.mem_cons, List.mem_nil_iff, or_false] at hq
        have AP6 := Chg.trans (Chg.trans AP5 CH5) (Chg.grow gp6)
        replace HK := Lib.hid (HK.out.grow (FE.out _ _) gp6)
        subst hq
        refine upStoreAll (by rfl) (by rfl) rfl rfl rfl (n := 6) (by kernel_rfl) (by first | exact HK.out.mem.blk (i := 3) rfl | exact HK.out.mem.blk (i := 4) rfl | exact HK.out.mem.blk (i := 5) rfl) rfl rfl rfl ?_
        intro wc6 BZ CW6
        have CH6 : Chg (fun j => w2.heap.size ≤ j) _ _ := CW6.mono (fun j _ e => by have e : j = _ := e; show _ ≤ j; omega)
        replace HK := Lib.hid (by first | exact HK.out.set (FE.out _ _) (i := 3) rfl BZ CW6 | exact HK.out.set (FE.out _ _) (i := 4) rfl BZ CW6 | exact HK.out.set (FE.out _ _) (i := 5) rfl BZ CW6)
        refine ⟨.inl (by first | rfl | trivial), ?_⟩
        simp only [Act.put, L0, L1, L2]
        refine Evo2.done (by decide +kernel) (fun wz gz => ?_)
        have AZ := Chg.trans (Chg.trans AP6 CH6) (Chg.grow gz)
        replace HK := Lib.hid (HK.out.grow (FE.out _ _) gz)
        dsimp only [PostN] 
        have HZ := HK.out 
        simp only [List.nil_append, List.cons_append, List.set_cons_zero, List.set_cons_succ] at HZ 
        (repeat apply Exists.intro) 
        refine ⟨rfl, Lib.hid ?_⟩ 
        first | exact HZ | exact HZ.perm (perm3 [_, _, _] (perm_xzy _ _ _)) | exact HZ.perm (perm3 [_, _, _] (perm_yxz _ _ _)) | exact HZ.perm (perm3 [_, _, _] (perm_yzx _ _ _)) | exact HZ.perm (perm3 [_, _, _] (perm_zxy _ _ _)) | exact HZ.perm (perm3 [_, _, _] (perm_zyx _ _ _))
      ·
        refine Evo2.runs (by rfl) (by rfl) (fun K' hK' => ?_)
        go_simp
        (try (simp only [Evo.after_value, Evo.after_skip]))
        refine hK'.out _ _ ?_
        clear hK'
        simp only [Act.put, L0, L1, L2]
        refine ⟨.inr (Chg.alloc (Chg.refl _ _) _), ?_⟩
        generalize hG2 : World.alloc wp2 _ = wg2
        have GG2 : Grow.G wp2 wg2 := hG2 ▸ Grow.G.alloc (Grow.G.refl _) _
        have NC1 := (GG2.block _ NL1).trans NC1
        have NL1 := Nat.lt_of_lt_of_le NL1 GG2.size
        have NC2 := (congrArg (fun W : World => W.heap[wp2.heap.size]?) hG2).symm.trans (MapKept.heap_alloc wp2 _).1
        have NL2 : wp2.heap.size < wg2.heap.size := by rw [← hG2]; simp
        clear hG2
        replace HK := Lib.hid (HK.out.add (FE.out _ _) GG2 (b := wp2.heap.size) (cs := [.string ⟨#[]⟩, .int .i64 0, .int .i64 0, .int .i64 0, .int .i64 0, .int .i64 0]) NC2 (Nat.le_refl _)); have LO2 := AP2.size
        refine Evo2.all [10] (by decide +kernel) rfl ?_
        intro wp3 gp3 iq hq
        simp only [List.mem_cons, List.mem_nil_iff, or_false] at hq
        have AP3 := Chg.trans (Chg.trans AP2 (Chg.grow GG2)) (Chg.grow gp3)
        replace HK := Lib.hid (HK.out.grow (FE.out _ _) gp3)
        have NC1 := (gp3.block _ NL1).trans NC1
        have NL1 := Nat.lt_of_lt_of_le NL1 gp3.size
        have NC2 := (gp3.block _ NL2).trans NC2
        have NL2 := Nat.lt_of_lt_of_le NL2 gp3.size
        subst hq
        refine Evo2.runs (by rfl) (by rfl) (fun K' hK' => ?_)
        go_simp
        (try (simp only [Evo.after_value, Evo.after_skip]))
        refine hK'.out _ _ ?_
        clear hK'
        simp only [Act.put, L0, L1, L2]
        refine ⟨.inr (Chg.alloc (Chg.refl _ _) _), ?_⟩
        generalize hG3 : World.alloc wp3 _ = wg3
        have GG3 : Grow.G wp3 wg3 := hG3 ▸ Grow.G.alloc (Grow.G.refl _) _
        have NC1 := (GG3.block _ NL1).trans NC1
        have NL1 := Nat.lt_of_lt_of_le NL1 GG3.size
        have NC2 := (GG3.block _ NL2).trans NC2
        have NL2 := Nat.lt_of_lt_of_le NL2 GG3.size
        have NC3 := (congrArg (fun W : World => W.heap[wp3.heap.size]?) hG3).symm.trans (MapKept.heap_alloc wp3 _).1
        have NL3 : wp3.heap.size < wg3.heap.size := by rw [← hG3]; simp
        clear hG3
        replace HK := Lib.hid (HK.out.add (FE.out _ _) GG3 (b := wp3.heap.size) (cs := [.string ⟨#[]⟩, .int .i64 0, .int .i64 0, .int .i64 0, .int .i64 0, .int .i64 0]) NC3 (Nat.le_refl _)); have LO3 := AP3.size
        refine Evo2.all [12] (by decide +kernel) rfl ?_
        intro wp4 gp4 iq hq
        simp only [List.mem_cons, List.mem_nil_iff, or_false] at hq
        have AP4 := Chg.trans (Chg.trans AP3 (Chg.grow GG3)) (Chg.grow gp4)
        replace HK := Lib.hid (HK.out.grow (FE.out _ _) gp4)
        have NC1 := (gp4.block _ NL1).trans NC1
        have NL1 := Nat.lt_of_lt_of_le NL1 gp4.size
        have NC2 := (gp4.block _ NL2).trans NC2
        have NL2 := Nat.lt_of_lt_of_le NL2 gp4.size
        have NC3 := (gp4.block _ NL3).trans NC3
        have NL3 := Nat.lt_of_lt_of_le NL3 gp4.size
        subst hq
        refine upStoreAll (by rfl) (by rfl) rfl rfl rfl (n := 6) (by kernel_rfl) (by first | exact HK.out.mem.blk (i := 3) rfl | exact HK.out.mem.blk (i := 4) rfl | exact HK.out.mem.blk (i := 5) rfl) rfl rfl rfl ?_
        intro wc4 BZ CW4
        have CH4 : Chg (fun j => w2.heap.size ≤ j) _ _ := CW4.mono (fun j _ e => by have e : j = _ := e; show _ ≤ j; omega)
        replace HK := Lib.hid (by first | exact HK.out.set (FE.out _ _) (i := 3) rfl BZ CW4 | exact HK.out.set (FE.out _ _) (i := 4) rfl BZ CW4 | exact HK.out.set (FE.out _ _) (i := 5) rfl BZ CW4)
        refine ⟨.inr CH4, ?_⟩
        simp only [Act.put, L0, L1, L2]
        refine Evo2.all [13] (by decide +kernel) rfl ?_
        intro wp5 gp5 iq hq
        simp only [List.mem_cons, List.mem_nil_iff, or_false] at hq
        have AP5 := Chg.trans (Chg.trans AP4 CH4) (Chg.grow gp5)
        replace HK := Lib.hid (HK.out.grow (FE.out _ _) gp5)
        subst hq
        refine upStoreAll (by rfl) (by rfl) rfl rfl rfl (n := 6) (by kernel_rfl) (by first | exact HK.out.mem.blk (i := 3) rfl | exact HK.out.mem.blk (i := 4) rfl | exact HK.out.mem.blk (i := 5) rfl) rfl rfl rfl ?_
        intro wc5 BZ CW5
        have CH5 : Chg (fun j => w2.heap.size ≤ j) _ _ := CW5.mono (fun j _ e => by have e : j = _ := e; show _ ≤ j; omega)
        replace HK := Lib.hid (by first | exact HK.out.set (FE.out _ _) (i := 3) rfl BZ CW5 | exact HK.out.set (FE.out _ _) (i := 4) rfl BZ CW5 | exact HK.out.set (FE.out _ _) (i := 5) rfl BZ CW5)
        refine ⟨.inr CH5, ?_⟩
        simp only [Act.put, L0, L1, L2]
        refine Evo2.all [14] (by decide +kernel) rfl ?_
        intro wp6 gp6 iq hq
        simp only [List.mem_cons, List.mem_nil_iff, or_false] at hq
        have AP6 := Chg.trans (Chg.trans AP5 CH5) (Chg.grow gp6)
        replace HK := Lib.hid (HK.out.grow (FE.out _ _) gp6)
        subst hq
        refine upStoreAll (by rfl) (by rfl) rfl rfl rfl (n := 6) (by kernel_rfl) (by first | exact HK.out.mem.blk (i := 3) rfl | exact HK.out.mem.blk (i := 4) rfl | exact HK.out.mem.blk (i := 5) rfl) rfl rfl rfl ?_
        intro wc6 BZ CW6
        have CH6 : Chg (fun j => w2.heap.size ≤ j) _ _ := CW6.mono (fun j _ e => by have e : j = _ := e; show _ ≤ j; omega)
        replace HK := Lib.hid (by first | exact HK.out.set (FE.out _ _) (i := 3) rfl BZ CW6 | exact HK.out.set (FE.out _ _) (i := 4) rfl BZ CW6 | exact HK.out.set (FE.out _ _) (i := 5) rfl BZ CW6)
        refine ⟨.inl (by first | rfl | trivial), ?_⟩
        simp only [Act.put, L0, L1, L2]
        refine Evo2.done (by decide +kernel) (fun wz gz => ?_)
        have AZ := Chg.trans (Chg.trans AP6 CH6) (Chg.grow gz)
        replace HK := Lib.hid (HK.out.grow (FE.out _ _) gz)
        dsimp only [PostN] 
        have HZ := HK.out 
        simp only [List.nil_append, List.cons_append, List.set_cons_zero, List.set_cons_succ] at HZ 
        (repeat apply Exists.intro) 
        refine ⟨rfl, Lib.hid ?_⟩ 
        first | exact HZ | exact HZ.perm (perm3 [_, _, _] (perm_xzy _ _ _)) | exact HZ.perm (perm3 [_, _, _] (perm_yxz _ _ _)) | exact HZ.perm (perm3 [_, _, _] (perm_yzx _ _ _)) | exact HZ.perm (perm3 [_, _, _] (perm_zxy _ _ _)) | exact HZ.perm (perm3 [_, _, _] (perm_zyx _ _ _))
    ·
      refine Evo2.runs (by rfl) (by rfl) (fun K' hK' => ?_)
      go_simp
      (try (simp only [Evo.after_value, Evo.after_skip]))
      refine hK'.out _ _ ?_
      clear hK'
      simp only [Act.put, L0, L1, L2]
      refine ⟨.inr (Chg.alloc (Chg.refl _ _) _), ?_⟩
      generalize hG1 : World.alloc wp1 _ = wg1
      have GG1 : Grow.G wp1 wg1 := hG1 ▸ Grow.G.alloc (Grow.G.refl _) _
      have NC1 := (congrArg (fun W : World => W.heap[wp1.heap.size]?) hG1).symm.trans (MapKept.heap_alloc wp1 _).1
      have NL1 : wp1.heap.size < wg1.heap.size := by rw [← hG1]; simp
      clear hG1
      replace HK := Lib.hid (HK.out.add (FE.out _ _) GG1 (b := wp1.heap.size) (cs := [.string ⟨#[]⟩, .int .i64 0, .int .i64 0, .int .i64 0, .int .i64 0, .int .i64 0]) NC1 (Nat.le_refl _)); have LO1 := AP1.size
      refine Evo2.all [9, 11] (by decide +kernel) rfl ?_
      intro wp2 gp2 iq hq
      simp only [List.mem_cons, List.mem_nil_iff, or_false] at hq
      have AP2 := Chg.trans (Chg.trans AP1 (Chg.grow GG1)) (Chg.grow gp2)
      replace HK := Lib.hid (HK.out.grow (FE.out _ _) gp2)
      have NC1 := (gp2.block _ NL1).trans NC1
      have NL1 := Nat.lt_of_lt_of_le NL1 gp2.size
      rcases hq with rfl | rfl
      ·
        refine Evo2.runs (by rfl) (by rfl) (fun K' hK' => ?_)
        go_simp
        (try (simp only [Evo.after_value, Evo.after_skip]))
        refine hK'.out _ _ ?_
        clear hK'
        simp only [Act.put, L0, L1, L2]
        refine ⟨.inr (Chg.alloc (Chg.refl _ _) _), ?_⟩
        generalize hG2 : World.alloc wp2 _ = wg2
        have GG2 : Grow.G wp2 wg2 := hG2 ▸ Grow.G.alloc (Grow.G.refl _) _
        have NC1 := (GG2.block _ NL1).trans NC1
        have NL1 := Nat.lt_of_lt_of_le NL1 GG2.size
        have NC2 := (congrArg (fun W : World => W.heap[wp2.heap.size]?) hG2).symm.trans (MapKept.heap_alloc wp2 _).1
        have NL2 : wp2.heap.size < wg2.heap.size := by rw [← hG2]; simp
        clear hG2
        replace HK := Lib.hid (HK.out.add (FE.out _ _) GG2 (b := wp2.heap.size) (cs := [.string ⟨#[]⟩, .int .i64 0, .int .i64 0, .int .i64 0, .int .i64 0, .int .i64 0]) NC2 (Nat.le_refl _)); have LO2 := AP2.size
        refine Evo2.all [11] (by decide +kernel) rfl ?_
        intro wp3 gp3 iq hq
        simp only [List.mem_cons, List.mem_nil_iff, or_false] at hq
        have AP3 := Chg.trans (Chg.trans AP2 (Chg.grow GG2)) (Chg.grow gp3)
        replace HK := Lib.hid (HK.out.grow (FE.out _ _) gp3)
        have NC1 := (gp3.block _ NL1).trans NC1
        have NL1 := Nat.lt_of_lt_of_le NL1 gp3.size
        have NC2 := (gp3.block _ NL2).trans NC2
        have NL2 := Nat.lt_of_lt_of_le NL2 gp3.size
        subst hq
        refine Evo2.runs (by rfl) (by rfl) (fun K' hK' => ?_)
        go_simp
        (try (simp only [Evo.after_value, Evo.after_skip]))
        refine hK'.out _ _ ?_
        clear hK'
        simp only [Act.put, L0, L1, L2]
        refine ⟨.inr (Chg.alloc (Chg.refl _ _) _), ?_⟩
        generalize hG3 : World.alloc wp3 _ = wg3
        have GG3 : Grow.G wp3 wg3 := hG3 ▸ Grow.G.alloc (Grow.G.refl _) _
        have NC1 := (GG3.block _ NL1).trans NC1
        have NL1 := Nat.lt_of_lt_of_le NL1 GG3.size
        have NC2 := (GG3.block _ NL2).trans NC2
        have NL2 := Nat.lt_of_lt_of_le NL2 GG3.size
        have NC3 := (congrArg (fun W : World => W.heap[wp3.heap.size]?) hG3).symm.trans (MapKept.heap_alloc wp3 _).1
        have NL3 : wp3.heap.size < wg3.heap.size := by rw [← hG3]; simp
        clear hG3
        replace HK := Lib.hid (HK.out.add (FE.out _ _) GG3 (b := wp3.heap.size) (cs := [.string ⟨#[]⟩, .int .i64 0, .int .i64 0, .int .i64 0, .int .i64 0, .int .i64 0]) NC3 (Nat.le_refl _)); have LO3 := AP3.size
        refine Evo2.all [12] (by decide +kernel) rfl ?_
        intro wp4 gp4 iq hq
        simp only [List.mem_cons, List.mem_nil_iff, or_false] at hq
        have AP4 := Chg.trans (Chg.trans AP3 (Chg.grow GG3)) (Chg.grow gp4)
        replace HK := Lib.hid (HK.out.grow (FE.out _ _) gp4)
        have NC1 := (gp4.block _ NL1).trans NC1
        have NL1 := Nat.lt_of_lt_of_le NL1 gp4.size
        have NC2 := (gp4.block _ NL2).trans NC2
        have NL2 := Nat.lt_of_lt_of_le NL2 gp4.size
        have NC3 := (gp4.block _ NL3).trans NC3
        have NL3 := Nat.lt_of_lt_of_le NL3 gp4.size
        subst hq
        refine upStoreAll (by rfl) (by rfl) rfl rfl rfl (n := 6) (by kernel_rfl) (by first | exact HK.out.mem.blk (i := 3) rfl | exact HK.out.mem.blk (i := 4) rfl | exact HK.out.mem.blk (i := 5) rfl) rfl rfl rfl ?_
        intro wc4 BZ CW4
        have CH4 : Chg (fun j => w2.heap.size ≤ j) _ _ := CW4.mono (fun j _ e => by have e : j = _ := e; show _ ≤ j; omega)
        replace HK := Lib.hid (by first | exact HK.out.set (FE.out _ _) (i := 3) rfl BZ CW4 | exact HK.out.set (FE.out _ _) (i := 4) rfl BZ CW4 | exact HK.out.set (FE.out _ _) (i := 5) rfl BZ CW4)
        refine ⟨.inr CH4, ?_⟩
        simp only [Act.put, L0, L1, L2]
        refine Evo2.all [13] (by decide +kernel) rfl ?_
        intro wp5 gp5 iq hq
        simp only [List.mem_cons, List.mem_nil_iff, or_false] at hq
        have AP5 := Chg.trans (Chg.trans AP4 CH4) (Chg.grow gp5)
        replace HK := Lib.hid (HK.out.grow (FE.out _ _) gp5)
        subst hq
        refine upStoreAll (by rfl) (by rfl) rfl rfl rfl (n := 6) (by kernel_rfl) (by first | exact HK.out.mem.blk (i := 3) rfl | exact HK.out.mem.blk (i := 4) rfl | exact HK.out.mem.blk (i := 5) rfl) rfl rfl rfl ?_
        intro wc5 BZ CW5
        have CH5 : Chg (fun j => w2.heap.size ≤ j) _ _ := CW5.mono (fun j _ e => by have e : j = _ := e; show _ ≤ j; omega)
        replace HK := Lib.hid (by first | exact HK.out.set (FE.out _ _) (i := 3) rfl BZ CW5 | exact HK.out.set (FE.out _ _) (i := 4) rfl BZ CW5 | exact HK.out.set (FE.out _ _) (i := 5) rfl BZ CW5)
        refine ⟨.inr CH5, ?_⟩
        simp only [Act.put, L0, L1, L2]
        refine Evo2.all [14] (by decide +kernel) rfl ?_
        intro wp6 gp6 iq hq
        simp only [List.mem_cons, List.mem_nil_iff, or_false] at hq
        have AP6 := Chg.trans (Chg.trans AP5 CH5) (Chg.grow gp6)
        replace HK := Lib.hid (HK.out.grow (FE.out _ _) gp6)
        subst hq
        refine upStoreAll (by rfl) (by rfl) rfl rfl rfl (n := 6) (by kernel_rfl) (by first | exact HK.out.mem.blk (i := 3) rfl | exact HK.out.mem.blk (i := 4) rfl | exact HK.out.mem.blk (i := 5) rfl) rfl rfl rfl ?_
        intro wc6 BZ CW6
        have CH6 : Chg (fun j => w2.heap.size ≤ j) _ _ := CW6.mono (fun j _ e => by have e : j = _ := e; show _ ≤ j; omega)
        replace HK := Lib.hid (by first | exact HK.out.set (FE.out _ _) (i := 3) rfl BZ CW6 | exact HK.out.set (FE.out _ _) (i := 4) rfl BZ CW6 | exact HK.out.set (FE.out _ _) (i := 5) rfl BZ CW6)
        refine ⟨.inl (by first | rfl | trivial), ?_⟩
        simp only [Act.put, L0, L1, L2]
        refine Evo2.done (by decide +kernel) (fun wz gz => ?_)
        have AZ := Chg.trans (Chg.trans AP6 CH6) (Chg.grow gz)
        replace HK := Lib.hid (HK.out.grow (FE.out _ _) gz)
        dsimp only [PostN] 
        have HZ := HK.out 
        simp only [List.nil_append, List.cons_append, List.set_cons_zero, List.set_cons_succ] at HZ 
        (repeat apply Exists.intro) 
        refine ⟨rfl, Lib.hid ?_⟩ 
        first | exact HZ | exact HZ.perm (perm3 [_, _, _] (perm_xzy _ _ _)) | exact HZ.perm (perm3 [_, _, _] (perm_yxz _ _ _)) | exact HZ.perm (perm3 [_, _, _] (perm_yzx _ _ _)) | exact HZ.perm (perm3 [_, _, _] (perm_zxy _ _ _)) | exact HZ.perm (perm3 [_, _, _] (perm_zyx _ _ _))
      ·
        refine Evo2.runs (by rfl) (by rfl) (fun K' hK' => ?_)
        go_simp
        (try (simp only [Evo.after_value, Evo.after_skip]))
        refine hK'.out _ _ ?_
        clear hK'
        simp only [Act.put, L0, L1, L2]
        refine ⟨.inr (Chg.alloc (Chg.refl _ _) _), ?_⟩
        generalize hG2 : World.alloc wp2 _ = wg2
        have GG2 : Grow.G wp2 wg2 := hG2 ▸ Grow.G.alloc (Grow.G.refl _) _
        have NC1 := (GG2.block _ NL1).trans NC1
        have NL1 := Nat.lt_of_lt_of_le NL1 GG2.size
        have NC2 := (congrArg (fun W : World => W.heap[wp2.heap.size]?) hG2).symm.trans (MapKept.heap_alloc wp2 _).1
        have NL2 : wp2.heap.size < wg2.heap.size := by rw [← hG2]; simp
        clear hG2
        replace HK := Lib.hid (HK.out.add (FE.out _ _) GG2 (b := wp2.heap.size) (cs := [.string ⟨#[]⟩, .int .i64 0, .int .i64 0, .int .i64 0, .int .i64 0, .int .i64 0]) NC2 (Nat.le_refl _)); have LO2 := AP2.size
        refine Evo2.all [9] (by decide +kernel) rfl ?_
        intro wp3 gp3 iq hq
        simp only [List.mem_cons, List.mem_nil_iff, or_false] at hq
        have AP3 := Chg.trans (Chg.trans AP2 (Chg.grow GG2)) (Chg.grow gp3)
        replace HK := Lib.hid (HK.out.grow (FE.out _ _) gp3)
        have NC1 := (gp3.block _ NL1).trans NC1
        have NL1 := Nat.lt_of_lt_of_le NL1 gp3.size
        have NC2 := (gp3.block _ NL2).trans NC2
        have NL2 := Nat.lt_of_lt_of_le NL2 gp3.size
        subst hq
        refine Evo2.runs (by rfl) (by rfl) (fun K' hK' => ?_)
        go_simp
        (try (simp only [Evo.after_value, Evo.after_skip]))
        refine hK'.out _ _ ?_
        clear hK'
        simp only [Act.put, L0, L1, L2]
        refine ⟨.inr (Chg.alloc (Chg.refl _ _) _), ?_⟩
        generalize hG3 : World.alloc wp3 _ = wg3
        have GG3 : Grow.G wp3 wg3 := hG3 ▸ Grow.G.alloc (Grow.G.refl _) _
        have NC1 := (GG3.block _ NL1).trans NC1
        have NL1 := Nat.lt_of_lt_of_le NL1 GG3.size
        have NC2 := (GG3.block _ NL2).trans NC2
        have NL2 := Nat.lt_of_lt_of_le NL2 GG3.size
        have NC3 := (congrArg (fun W : World => W.heap[wp3.heap.size]?) hG3).symm.trans (MapKept.heap_alloc wp3 _).1
        have NL3 : wp3.heap.size < wg3.heap.size := by rw [← hG3]; simp
        clear hG3
        replace HK := Lib.hid (HK.out.add (FE.out _ _) GG3 (b := wp3.heap.size) (cs := [.string ⟨#[]⟩, .int .i64 0, .int .i64 0, .int .i64 0, .int .i64 0, .int .i64 0]) NC3 (Nat.le_refl _)); have LO3 := AP3.size
        refine Evo2.all [12] (by decide +kernel) rfl ?_
        intro wp4 gp4 iq hq
        simp only [List.mem_cons, List.mem_nil_iff, or_false] at hq
        have AP4 := Chg.trans (Chg.trans AP3 (Chg.grow GG3)) (Chg.grow gp4)
        replace HK := Lib.hid (HK.out.grow (FE.out _ _) gp4)
        have NC1 := (gp4.block _ NL1).trans NC1
        have NL1 := Nat.lt_of_lt_of_le NL1 gp4.size
        have NC2 := (gp4.block _ NL2).trans NC2
        have NL2 := Nat.lt_of_lt_of_le NL2 gp4.size
        have NC3 := (gp4.block _ NL3).trans NC3
        have NL3 := Nat.lt_of_lt_of_le NL3 gp4.size
        subst hq
        refine upStoreAll (by rfl) (by rfl) rfl rfl rfl (n := 6) (by kernel_rfl) (by first | exact HK.out.mem.blk (i := 3) rfl | exact HK.out.mem.blk (i := 4) rfl | exact HK.out.mem.blk (i := 5) rfl) rfl rfl rfl ?_
        intro wc4 BZ CW4
        have CH4 : Chg (fun j => w2.heap.size ≤ j) _ _ := CW4.mono (fun j _ e => by have e : j = _ := e; show _ ≤ j; omega)
        replace HK := Lib.hid (by first | exact HK.out.set (FE.out _ _) (i := 3) rfl BZ CW4 | exact HK.out.set (FE.out _ _) (i := 4) rfl BZ CW4 | exact HK.out.set (FE.out _ _) (i := 5) rfl BZ CW4)
        refine ⟨.inr CH4, ?_⟩
        simp only [Act.put, L0, L1, L2]
        refine Evo2.all [13] (by decide +kernel) rfl ?_
        intro wp5 gp5 iq hq
        simp only [List.mem_cons, List.mem_nil_iff, or_false] at hq
        have AP5 := Chg.trans (Chg.trans AP4 CH4) (Chg.grow gp5)
        replace HK := Lib.hid (HK.out.grow (FE.out _ _) gp5)
        subst hq
        refine upStoreAll (by rfl) (by rfl) rfl rfl rfl (n := 6) (by kernel_rfl) (by first | exact HK.out.mem.blk (i := 3) rfl | exact HK.out.mem.blk (i := 4) rfl | exact HK.out.mem.blk (i := 5) rfl) rfl rfl rfl ?_
        intro wc5 BZ CW5
        have CH5 : Chg (fun j => w2.heap.size ≤ j) _ _ := CW5.mono (fun j _ e => by have e : j = _ := e; show _ ≤ j; omega)
        replace HK := Lib.hid (by first | exact HK.out.set (FE.out _ _) (i := 3) rfl BZ CW5 | exact HK.out.set (FE.out _ _) (i := 4) rfl BZ CW5 | exact HK.out.set (FE.out _ _) (i := 5) rfl BZ CW5)
        refine ⟨.inr CH5, ?_⟩
        simp only [Act.put, L0, L1, L2]
        refine Evo2.all [14] (by decide +kernel) rfl ?_
        intro wp6 gp6 iq hq
        simp only [List.mem_cons, List.mem_nil_iff, or_false] at hq
        have AP6 := Chg.trans (Chg.trans AP5 CH5) (Chg.grow gp6)
        replace HK := Lib.hid (HK.out.grow (FE.out _ _) gp6)
        subst hq
        refine upStoreAll (by rfl) (by rfl) rfl rfl rfl (n := 6) (by kernel_rfl) (by first | exact HK.out.mem.blk (i := 3) rfl | exact HK.out.mem.blk (i := 4) rfl | exact HK.out.mem.blk (i := 5) rfl) rfl rfl rfl ?_
        intro wc6 BZ CW6
        have CH6 : Chg (fun j => w2.heap.size ≤ j) _ _ := CW6.mono (fun j _ e => by have e : j = _ := e; show _ ≤ j; omega)
        replace HK := Lib.hid (by first | exact HK.out.set (FE.out _ _) (i := 3) rfl BZ CW6 | exact HK.out.set (FE.out _ _) (i := 4) rfl BZ CW6 | exact HK.out.set (FE.out _ _) (i := 5) rfl BZ CW6)
        refine ⟨.inl (by first | rfl | trivial), ?_⟩
        simp only [Act.put, L0, L1, L2]
        refine Evo2.done (by decide +kernel) (fun wz gz => ?_)
        have AZ := Chg.trans (Chg.trans AP6 CH6) (Chg.grow gz)
        replace HK := Lib.hid (HK.out.grow (FE.out _ _) gz)
        dsimp only [PostN] 
        have HZ := HK.out 
        simp only [List.nil_append, List.cons_append, List.set_cons_zero, List.set_cons_succ] at HZ 
        (repeat apply Exists.intro) 
        refine ⟨rfl, Lib.hid ?_⟩ 
        first | exact HZ | exact HZ.perm (perm3 [_, _, _] (perm_xzy _ _ _)) | exact HZ.perm (perm3 [_, _, _] (perm_yxz _ _ _)) | exact HZ.perm (perm3 [_, _, _] (perm_yzx _ _ _)) | exact HZ.perm (perm3 [_, _, _] (perm_zxy _ _ _)) | exact HZ.perm (perm3 [_, _, _] (perm_zyx _ _ _))
    ·
      refine Evo2.runs (by rfl) (by rfl) (fun K' hK' => ?_)
      go_simp
      (try (simp only [Evo.after_value, Evo.after_skip]))
      refine hK'.out _ _ ?_
      clear hK'
      simp only [Act.put, L0, L1, L2]
      refine ⟨.inr (Chg.alloc (Chg.refl _ _) _), ?_⟩
      generalize hG1 : World.alloc wp1 _ = wg1
      have GG1 : Grow.G wp1 wg1 := hG1 ▸ Grow.G.alloc (Grow.G.refl _) _
      have NC1 := (congrArg (fun W : World => W.heap[wp1.heap.size]?) hG1).symm.trans (MapKept.heap_alloc wp1 _).1
      have NL1 : wp1.heap.size < wg1.heap.size := by rw [← hG1]; simp
      clear hG1
      replace HK := Lib.hid (HK.out.add (FE.out _ _) GG1 (b := wp1.heap.size) (cs := [.string ⟨#[]⟩, .int .i64 0, .int .i64 0, .int .i64 0, .int .i64 0, .int .i64 0]) NC1 (Nat.le_refl _)); have LO1 := AP1.size
      refine Evo2.all [9, 10] (by decide +kernel) rfl ?_
      intro wp2 gp2 iq hq
      simp only [List.mem_cons, List.mem_nil_iff, or_false] at hq
      have AP2 := Chg.trans (Chg.trans AP1 (Chg.grow GG1)) (Chg.grow gp2)
      replace HK := Lib.hid (HK.out.grow (FE.out _ _) gp2)
      have NC1 := (gp2.block _ NL1).trans NC1
      have NL1 := Nat.lt_of_lt_of_le NL1 gp2.size
      rcases hq with rfl | rfl
      ·
        refine Evo2.runs (by rfl) (by rfl) (fun K' hK' => ?_)
        go_simp
        (try (simp only [Evo.after_value, Evo.after_skip]))
        refine hK'.out _ _ ?_
        clear hK'
        simp only [Act.put, L0, L1, L2]
        refine ⟨.inr (Chg.alloc (Chg.refl _ _) _), ?_⟩
        generalize hG2 : World.alloc wp2 _ = wg2
        have GG2 : Grow.G wp2 wg2 := hG2 ▸ Grow.G.alloc (Grow.G.refl _) _
        have NC1 := (GG2.block _ NL1).trans NC1
        have NL1 := Nat.lt_of_lt_of_le NL1 GG2.size
        have NC2 := (congrArg (fun W : World => W.heap[wp2.heap.size]?) hG2).symm.trans (MapKept.heap_alloc wp2 _).1
        have NL2 : wp2.heap.size < wg2.heap.size := by rw [← hG2]; simp
        clear hG2
        replace HK := Lib.hid (HK.out.add (FE.out _ _) GG2 (b := wp2.heap.size) (cs := [.string ⟨#[]⟩, .int .i64 0, .int .i64 0, .int .i64 0, .int .i64 0, .int .i64 0]) NC2 (Nat.le_refl _)); have LO2 := AP2.size
        refine Evo2.all [10] (by decide +kernel) rfl ?_
        intro wp3 gp3 iq hq
        simp only [List.mem_cons, List.mem_nil_iff, or_false] at hq
        have AP3 := Chg.trans (Chg.trans AP2 (Chg.grow GG2)) (Chg.grow gp3)
        replace HK := Lib.hid (HK.out.grow (FE.out _ _) gp3)
        have NC1 := (gp3.block _ NL1).trans NC1
        have NL1 := Nat.lt_of_lt_of_le NL1 gp3.size
        have NC2 := (gp3.block _ NL2).trans NC2
        have NL2 := Nat.lt_of_lt_of_le NL2 gp3.size
        subst hq
        refine Evo2.runs (by rfl) (by rfl) (fun K' hK' => ?_)
        go_simp
        (try (simp only [Evo.after_value, Evo.after_skip]))
        refine hK'.out _ _ ?_
        clear hK'
        simp only [Act.put, L0, L1, L2]
        refine ⟨.inr (Chg.alloc (Chg.refl _ _) _), ?_⟩
        generalize hG3 : World.alloc wp3 _ = wg3
        have GG3 : Grow.G wp3 wg3 := hG3 ▸ Grow.G.alloc (Grow.G.refl _) _
        have NC1 := (GG3.block _ NL1).trans NC1
        have NL1 := Nat.lt_of_lt_of_le NL1 GG3.size
        have NC2 := (GG3.block _ NL2).trans NC2
        have NL2 := Nat.lt_of_lt_of_le NL2 GG3.size
        have NC3 := (congrArg (fun W : World => W.heap[wp3.heap.size]?) hG3).symm.trans (MapKept.heap_alloc wp3 _).1
        have NL3 : wp3.heap.size < wg3.heap.size := by rw [← hG3]; simp
        clear hG3
        replace HK := Lib.hid (HK.out.add (FE.out _ _) GG3 (b := wp3.heap.size) (cs := [.string ⟨#[]⟩, .int .i64 0, .int .i64 0, .int .i64 0, .int .i64 0, .int .i64 0]) NC3 (Nat.le_refl _)); have LO3 := AP3.size
        refine Evo2.all [12] (by decide +kernel) rfl ?_
        intro wp4 gp4 iq hq
        simp only [List.mem_cons, List.mem_nil_iff, or_false] at hq
        have AP4 := Chg.trans (Chg.trans AP3 (Chg.grow GG3)) (Chg.grow gp4)
        replace HK := Lib.hid (HK.out.grow (FE.out _ _) gp4)
        have NC1 := (gp4.block _ NL1).trans NC1
        have NL1 := Nat.lt_of_lt_of_le NL1 gp4.size
        have NC2 := (gp4.block _ NL2).trans NC2
        have NL2 := Nat.lt_of_lt_of_le NL2 gp4.size
        have NC3 := (gp4.block _ NL3).trans NC3
        have NL3 := Nat.lt_of_lt_of_le NL3 gp4.size
        subst hq
        refine upStoreAll (by rfl) (by rfl) rfl rfl rfl (n := 6) (by kernel_rfl) (by first | exact HK.out.mem.blk (i := 3) rfl | exact HK.out.mem.blk (i := 4) rfl | exact HK.out.mem.blk (i := 5) rfl) rfl rfl rfl ?_
        intro wc4 BZ CW4
        have CH4 : Chg (fun j => w2.heap.size ≤ j) _ _ := CW4.mono (fun j _ e => by have e : j = _ := e; show _ ≤ j; omega)
        replace HK := Lib.hid (by first | exact HK.out.set (FE.out _ _) (i := 3) rfl BZ CW4 | exact HK.out.set (FE.out _ _) (i := 4) rfl BZ CW4 | exact HK.out.set (FE.out _ _) (i := 5) rfl BZ CW4)
        refine ⟨.inr CH4, ?_⟩
        simp only [Act.put, L0, L1, L2]
        refine Evo2.all [13] (by decide +kernel) rfl ?_
        intro wp5 gp5 iq hq
        simp only [List.mem_cons, List.mem_nil_iff, or_false] at hq
        have AP5 := Chg.trans (Chg.trans AP4 CH4) (Chg.grow gp5)
        replace HK := Lib.hid (HK.out.grow (FE.out _ _) gp5)
        subst hq
        refine upStoreAll (by rfl) (by rfl) rfl rfl rfl (n := 6) (by kernel_rfl) (by first | exact HK.out.mem.blk (i := 3) rfl | exact HK.out.mem.blk (i := 4) rfl | exact HK.out.mem.blk (i := 5) rfl) rfl rfl rfl ?_
        intro wc5 BZ CW5
        have CH5 : Chg (fun j => w2.heap.size ≤ j) _ _ := CW5.mono (fun j _ e => by have e : j = _ := e; show _ ≤ j; omega)
        replace HK := Lib.hid (by first | exact HK.out.set (FE.out _ _) (i := 3) rfl BZ CW5 | exact HK.out.set (FE.out _ _) (i := 4) rfl BZ CW5 | exact HK.out.set (FE.out _ _) (i := 5) rfl BZ CW5)
        refine ⟨.inr CH5, ?_⟩
        simp only [Act.put, L0, L1, L2]
        refine Evo2.all [14] (by decide +kernel) rfl ?_
        intro wp6 gp6 iq hq
        simp only [List.mem_cons, List.mem_nil_iff, or_false] at hq
        have AP6 := Chg.trans (Chg.trans AP5 CH5) (Chg.grow gp6)
        replace HK := Lib.hid (HK.out.grow (FE.out _ _) gp6)
        subst hq
        refine upStoreAll (by rfl) (by rfl) rfl rfl rfl (n := 6) (by kernel_rfl) (by first | exact HK.out.mem.blk (i := 3) rfl | exact HK.out.mem.blk (i := 4) rfl | exact HK.out.mem.blk (i := 5) rfl) rfl rfl rfl ?_
        intro wc6 BZ CW6
        have CH6 : Chg (fun j => w2.heap.size ≤ j) _ _ := CW6.mono (fun j _ e => by have e : j = _ := e; show _ ≤ j; omega)
        replace HK := Lib.hid (by first | exact HK.out.set (FE.out _ _) (i := 3) rfl BZ CW6 | exact HK.out.set (FE.out _ _) (i := 4) rfl BZ CW6 | exact HK.out.set (FE.out _ _) (i := 5) rfl BZ CW6)
        refine ⟨.inl (by first | rfl | trivial), ?_⟩
        simp only [Act.put, L0, L1, L2]
        refine Evo2.done (by decide +kernel) (fun wz gz => ?_)
        have AZ := Chg.trans (Chg.trans AP6 CH6) (Chg.grow gz)
        replace HK := Lib.hid (HK.out.grow (FE.out _ _) gz)
        dsimp only [PostN] 
        have HZ := HK.out 
        simp only [List.nil_append, List.cons_append, List.set_cons_zero, List.set_cons_succ] at HZ 
        (repeat apply Exists.intro) 
        refine ⟨rfl, Lib.hid ?_⟩ 
        first | exact HZ | exact HZ.perm (perm3 [_, _, _] (perm_xzy _ _ _)) | exact HZ.perm (perm3 [_, _, _] (perm_yxz _ _ _)) | exact HZ.perm (perm3 [_, _, _] (perm_yzx _ _ _)) | exact HZ.perm (perm3 [_, _, _] (perm_zxy _ _ _)) | exact HZ.perm (perm3 [_, _, _] (perm_zyx _ _ _))
      ·
        refine Evo2.runs (by rfl) (by rfl) (fun K' hK' => ?_)
        go_simp
        (try (simp only [Evo.after_value, Evo.after_skip]))
        refine hK'.out _ _ ?_
        clear hK'
        simp only [Act.put, L0, L1, L2]
        refine ⟨.inr (Chg.alloc (Chg.refl _ _) _), ?_⟩
        generalize hG2 : World.alloc wp2 _ = wg2
        have GG2 : Grow.G wp2 wg2 := hG2 ▸ Grow.G.alloc (Grow.G.refl _) _
        have NC1 := (GG2.block _ NL1).trans NC1
        have NL1 := Nat.lt_of_lt_of_le NL1 GG2.size
        have NC2 := (congrArg (fun W : World => W.heap[wp2.heap.size]?) hG2).symm.trans (MapKept.heap_alloc wp2 _).1
        have NL2 : wp2.heap.size < wg2.heap.size := by rw [← hG2]; simp
        clear hG2
        replace HK := Lib.hid (HK.out.add (FE.out _ _) GG2 (b := wp2.heap.size) (cs := [.string ⟨#[]⟩, .int .i64 0, .int .i64 0, .int .i64 0, .int .i64 0, .int .i64 0]) NC2 (Nat.le_refl _)); have LO2 := AP2.size
        refine Evo2.all [9] (by decide +kernel) rfl ?_
        intro wp3 gp3 iq hq
        simp only [List.mem_cons, List.mem_nil_iff, or_false] at hq
        have AP3 := Chg.trans (Chg.trans AP2 (Chg.grow GG2)) (Chg.grow gp3)
        replace HK := Lib.hid (HK.out.grow (FE.out _ _) gp3)
        have NC1 := (gp3.block _ NL1).trans NC1
        have NL1 := Nat.lt_of_lt_of_le NL1 gp3.size
        have NC2 := (gp3.block _ NL2).trans NC2
        have NL2 := Nat.lt_of_lt_of_le NL2 gp3.size
        subst hq
        refine Evo2.runs (by rfl) (by rfl) (fun K' hK' => ?_)
        go_simp
        (try (simp only [Evo.after_value, Evo.after_skip]))
        refine hK'.out _ _ ?_
        clear hK'
        simp only [Act.put, L0, L1, L2]
        refine ⟨.inr (Chg.alloc (Chg.refl _ _) _), ?_⟩
        generalize hG3 : World.alloc wp3 _ = wg3
        have GG3 : Grow.G wp3 wg3 := hG3 ▸ Grow.G.alloc (Grow.G.refl _) _
        have NC1 := (GG3.block _ NL1).trans NC1
        have NL1 := Nat.lt_of_lt_of_le NL1 GG3.size
        have NC2 := (GG3.block _ NL2).trans NC2
        have NL2 := Nat.lt_of_lt_of_le NL2 GG3.size
        have NC3 := (congrArg (fun W : World => W.heap[wp3.heap.size]?) hG3).symm.trans (MapKept.heap_alloc wp3 _).1
        have NL3 : wp3.heap.size < wg3.heap.size := by rw [← hG3]; simp
        clear hG3
        replace HK := Lib.hid (HK.out.add (FE.out _ _) GG3 (b := wp3.heap.size) (cs := [.string ⟨#[]⟩, .int .i64 0, .int .i64 0, .int .i64 0, .int .i64 0, .int .i64 0]) NC3 (Nat.le_refl _)); have LO3 := AP3.size
        refine Evo2.all [12] (by decide +kernel) rfl ?_
        intro wp4 gp4 iq hq
        simp only [List.mem_cons, List.mem_nil_iff, or_false] at hq
        have AP4 := Chg.trans (Chg.trans AP3 (Chg.grow GG3)) (Chg.grow gp4)
        replace HK := Lib.hid (HK.out.grow (FE.out _ _) gp4)
        have NC1 := (gp4.block _ NL1).trans NC1
        have NL1 := Nat.lt_of_lt_of_le NL1 gp4.size
        have NC2 := (gp4.block _ NL2).trans NC2
        have NL2 := Nat.lt_of_lt_of_le NL2 gp4.size
        have NC3 := (gp4.block _ NL3).trans NC3
        have NL3 := Nat.lt_of_lt_of_le NL3 gp4.size
        subst hq
        refine upStoreAll (by rfl) (by rfl) rfl rfl rfl (n := 6) (by kernel_rfl) (by first | exact HK.out.mem.blk (i := 3) rfl | exact HK.out.mem.blk (i := 4) rfl | exact HK.out.mem.blk (i := 5) rfl) rfl rfl rfl ?_
        intro wc4 BZ CW4
        have CH4 : Chg (fun j => w2.heap.size ≤ j) _ _ := CW4.mono (fun j _ e => by have e : j = _ := e; show _ ≤ j; omega)
        replace HK := Lib.hid (by first | exact HK.out.set (FE.out _ _) (i := 3) rfl BZ CW4 | exact HK.out.set (FE.out _ _) (i := 4) rfl BZ CW4 | exact HK.out.set (FE.out _ _) (i := 5) rfl BZ CW4)
        refine ⟨.inr CH4, ?_⟩
        simp only [Act.put, L0, L1, L2]
        refine Evo2.all [13] (by decide +kernel) rfl ?_
        intro wp5 gp5 iq hq
        simp only [List.mem_cons, List.mem_nil_iff, or_false] at hq
        have AP5 := Chg.trans (Chg.trans AP4 CH4) (Chg.grow gp5)
        replace HK := Lib.hid (HK.out.grow (FE.out _ _) gp5)
        subst hq
        refine upStoreAll (by rfl) (by rfl) rfl rfl rfl (n := 6) (by kernel_rfl) (by first | exact HK.out.mem.blk (i := 3) rfl | exact HK.out.mem.blk (i := 4) rfl | exact HK.out.mem.blk (i := 5) rfl) rfl rfl rfl ?_
        intro wc5 BZ CW5
        have CH5 : Chg (fun j => w2.heap.size ≤ j) _ _ := CW5.mono (fun j _ e => by have e : j = _ := e; show _ ≤ j; omega)
        replace HK := Lib.hid (by first | exact HK.out.set (FE.out _ _) (i := 3) rfl BZ CW5 | exact HK.out.set (FE.out _ _) (i := 4) rfl BZ CW5 | exact HK.out.set (FE.out _ _) (i := 5) rfl BZ CW5)
        refine ⟨.inr CH5, ?_⟩
        simp only [Act.put, L0, L1, L2]
        refine Evo2.all [14] (by decide +kernel) rfl ?_
        intro wp6 gp6 iq hq
        simp only [List.mem_cons, List.mem_nil_iff, or_false] at hq
        have AP6 := Chg.trans (Chg.trans AP5 CH5) (Chg.grow gp6)
        replace HK := Lib.hid (HK.out.grow (FE.out _ _) gp6)
        subst hq
        refine upStoreAll (by rfl) (by rfl) rfl rfl rfl (n := 6) (by kernel_rfl) (by first | exact HK.out.mem.blk (i := 3) rfl | exact HK.out.mem.blk (i := 4) rfl | exact HK.out.mem.blk (i := 5) rfl) rfl rfl rfl ?_
        intro wc6 BZ CW6
        have CH6 : Chg (fun j => w2.heap.size ≤ j) _ _ := CW6.mono (fun j _ e => by have e : j = _ := e; show _ ≤ j; omega)
        replace HK := Lib.hid (by first | exact HK.out.set (FE.out _ _) (i := 3) rfl BZ CW6 | exact HK.out.set (FE.out _ _) (i := 4) rfl BZ CW6 | exact HK.out.set (FE.out _ _) (i := 5) rfl BZ CW6)
        refine ⟨.inl (by first | rfl | trivial), ?_⟩
        simp only [Act.put, L0, L1, L2]
        refine Evo2.done (by decide +kernel) (fun wz gz => ?_)
        have AZ := Chg.trans (Chg.trans AP6 CH6) (Chg.grow gz)
        replace HK := Lib.hid (HK.out.grow (FE.out _ _) gz)
        dsimp only [PostN] 
        have HZ := HK.out 
        simp only [List.nil_append, List.cons_append, List.set_cons_zero, List.set_cons_succ] at HZ 
        (repeat apply Exists.intro) 
        refine ⟨rfl, Lib.hid ?_⟩ 
        first | exact HZ | exact HZ.perm (perm3 [_, _, _] (perm_xzy _ _ _)) | exact HZ.perm (perm3 [_, _, _] (perm_yxz _ _ _)) | exact HZ.perm (perm3 [_, _, _] (perm_yzx _ _ _)) | exact HZ.perm (perm3 [_, _, _] (perm_zxy _ _ _)) | exact HZ.perm (perm3 [_, _, _] (perm_zyx _ _ _))
  ·
    rintro A W3 ⟨x39, x40, x41, x42, x43, x44, x45, x46, x47, bx, bY, bz, rfl, H6⟩
    replace H := H6
    clear H6 HK B0 B1 B2 l0 l1 l2 GA GB GC
    go_wp2_with ((refine Mem.loadAll 3 (t := 23) rfl rfl rfl Try.underlying23 (n := 6) (by kernel_rfl) H.out.mem rfl rfl ?_))
    refine (P1.out _ _ _ _ H.out).mono ?_
    rintro e ws2 ⟨rfl, hst⟩
    replace H := Lib.hid hst
    clear hst
    go_wp2_with ((refine Mem.loadAll 4 (t := 23) rfl rfl rfl Try.underlying23 (n := 6) (by kernel_rfl) H.out.mem rfl rfl ?_))
    refine (P2.out _ _ _ _ H.out).mono ?_
    rintro e ws4 ⟨rfl, hst⟩
    replace H := Lib.hid hst
    clear hst
    go_wp2_with ((refine Mem.loadAll 4 (t := 23) rfl rfl rfl Try.underlying23 (n := 6) (by kernel_rfl) H.out.mem rfl rfl ?_))
    refine (P3.out _ _ _ _ H.out).mono ?_
    rintro e ws6 ⟨rfl, hst⟩
    replace H := Lib.hid hst
    clear hst
    go_wp2_with ((refine Mem.loadAll 5 (t := 23) rfl rfl rfl Try.underlying23 (n := 6) (by kernel_rfl) H.out.mem rfl rfl ?_))
    refine (P4.out _ _ _ _ H.out).mono ?_
    rintro e ws8 ⟨rfl, hst⟩
    replace H := Lib.hid hst
    clear hst
    go_wp2_with ((refine Mem.load1 3 (t := 9) rfl rfl rfl Try.underlying9 rfl H.out.mem rfl rfl ?_))
    refine (D1.out _ _ _ _ H.out).mono ?_
    rintro e ws10 ⟨rfl, hst⟩
    replace H := Lib.hid hst
    clear hst
    go_wp2_with ((refine Mem.load1 3 (t := 9) rfl rfl rfl Try.underlying9 rfl H.out.mem rfl rfl ?_))
    refine (C1.out _ _ _ _ H.out).mono ?_
    rintro e ws12 ⟨rfl, hst⟩
    replace H := Lib.hid hst
    clear hst
    go_wp2_with ((refine Hold.storeAll 6 (t := 23) (FE.out g _) rfl rfl rfl rfl (n := 6) (by kernel_rfl) (Hold.alloc' H.out (FE.out g _) _ _ rfl) rfl rfl rfl rfl ?_; intro wm13 HMm Cwm13))
    simp only [K0, K1, L1, L2, K2, K3, K4, K5, K6, K7, Nat.reduceAdd, Nat.reduceSub] at HMm
    replace H := Lib.hid HMm
    clear HMm
    refine Stay.go ?_
    go_wp2_with (first | (refine loadAllW 6 (t := 23) rfl rfl rfl Try.underlying23 (n := 6) (by kernel_rfl) H.out.mem rfl rfl ?_) | (refine loadAllW 4 (t := 23) rfl rfl rfl Try.underlying23 (n := 6) (by kernel_rfl) H.out.mem rfl rfl ?_) | (refine Mem.load1 3 (t := 9) rfl rfl rfl Try.underlying9 rfl H.out.mem rfl rfl ?_))
    refine (D2.out _ _ _ _ H.out).mono ?_
    rintro e ws15 ⟨rfl, hst⟩
    replace H := Lib.hid hst
    clear hst
    go_wp2_with fail
    obtain ⟨F, hF⟩ := H.out.named
    have HF := Lib.hid hF
    clear hF
    have HL := H.out.below
    have HL := Lib.hid HL
    refine wp_spec (fun a0 A W => ∃ x135 x136 x137 x138 x139 x140 x141 x142 x143 : Value, ∃ (LL : List MBox), A = (((((((((((a0.put (some 28) (.int .i64 0)).put (some 29) (.int .i64 6)).put (some 135) x135).put (some 136) x136).put (some 137) x137).put (some 138) x138).put (some 139) x139).put (some 140) x140).put (some 141) x141).put (some 142) x142).put (some 143) x143) ∧ LL[3]? = some (bx, [.string N, .int .i64 a1, .int .i64 a2, .int .i64 a3, .int .i64 a4, .int .i64 a5], 23) ∧ Hid (Hold w W LL (Sep (ShP g S3) Emp))) ?_ ?_
    all_goals simp only [Act.put, L0, L1, L2]
    ·
      refine Evo2.start' (ℓ := none) (S := Chg (F)) (E := Grow.G) (by kernel_rfl) ⟨Chg.pre _, by decide +kernel, (by intro c a d v w h; cases d <;> exact h), by decide +kernel⟩ (fun ok => ?_)
      refine Evo2.va ok 0 _ _ ?_
      first | (refine Evo2.val ok 1 ?_ ?_ ?_; rotate_left; (focus (intro w' hg; refine Box.exec_loadAll ?_ Try.underlying23 CE (HF.out.blk (Chg.trans (Chg.refl (F) _) hg) (i := 5) rfl) ?_; (all_goals (first | exact ⟨rfl, rfl⟩ | rfl)))); simp only [Act.put, L0, L1, L2]) | (refine Evo2.va ok 1 _ _ ?_)
      refine Evo2.va ok 2 _ _ ?_
      (refine Evo2.cal ok 3 ?_ 11 ?_ ?_ ?_ ?_; rotate_left 2; (focus (intro w'; go_simp <;> with_reducible rfl)); (focus (intro w' g'; with_reducible exact WN.out w')); simp only [Act.put, L0, L1, L2])
      refine Evo2.va ok 4 _ _ ?_
      refine Evo2.all [5] (by decide +kernel) rfl ?_
      intro wp1 gp1 iq hq
      simp only [List.mem_cons, List.mem_nil_iff, or_false] at hq
      have AP1 := Chg.trans (Chg.refl (F) _) (Chg.grow gp1)
      replace H := Lib.hid (H.out.grow (FE.out _ _) gp1)
      subst hq
      refine Evo2.enters 8 _ (by rfl) (by rfl) (by go_simp; exact ⟨rfl, rfl⟩) ?_
      refine (P5.out _ _ _ _ F (HF.out.grow (FE.out _ _) gp1)).mono ?_
      rintro e wc1 ⟨rfl, hst, hC⟩; have CH1 := hC; replace H := Lib.hid hst; clear hst hC
      refine ⟨_, rfl, .inr CH1, ?_⟩
      have AC1 := Chg.trans AP1 CH1
      simp only [Act.put, L0, L1, L2]
      refine Evo2.va ok 6 _ _ ?_
      refine Evo2.va ok 7 _ _ ?_
      refine Evo2.va ok 8 _ _ ?_
      refine Evo2.va ok 9 _ _ ?_
      refine Evo2.va ok 10 _ _ ?_
      refine Evo2.done (by decide +kernel) (fun wz gz => ?_)
      have AZ := Chg.trans AC1 (Chg.grow gz)
      replace H := Lib.hid (H.out.grow (FE.out _ _) gz)
      dsimp only [PostN] 
      (repeat apply Exists.intro) 
      exact ⟨rfl, rfl, H⟩
    ·
      rintro A W5 ⟨x135, x136, x137, x138, x139, x140, x141, x142, x143, LL, rfl, hLL, H8⟩
      replace H := Lib.hid (Hold.choose1 H8.out hLL)
      clear H8 hLL
      go_wp2_with ((refine Mem.load1 0 (t := 9) rfl rfl rfl Try.underlying9 rfl H.out.mem rfl rfl ?_))
      refine (C2.out _ _ _ _ H.out).mono ?_
      rintro e ws17 ⟨rfl, hst⟩
      replace H := Lib.hid hst
      clear hst
      go_wp2_with ((refine Hold.storeAll 1 (t := 23) (FE.out g _) rfl rfl rfl rfl (n := 6) (by kernel_rfl) (Hold.alloc' H.out (FE.out g _) _ _ rfl) rfl rfl rfl rfl ?_; intro wm18 HMm Cwm18))
      simp only [K0, K1, L1, L2, K2, K3, K4, K5, K6, K7, Nat.reduceAdd, Nat.reduceSub] at HMm
      replace H := Lib.hid HMm
      clear HMm
      refine Stay.go ?_
      go_wp2_with fail
      go_ret
      exact ⟨rfl, H.out.below⟩
end Go.Proofs.Ytgiihgpnmcchdaa
