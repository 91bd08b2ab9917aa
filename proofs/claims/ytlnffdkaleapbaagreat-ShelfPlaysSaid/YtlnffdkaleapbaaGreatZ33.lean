/- My own texts ShPutC, ShPutR, laid in one file. -/
import Derived.Test.YtlnffdkaleapbaaGreatZ32

/- shelf's PutConfig. -/
namespace Go.Proofs.YtlnffdkaleapbaaGreat
set_option maxRecDepth 100000
set_option linter.unusedVariables false
set_option linter.unusedSimpArgs false
set_option linter.unnecessarySimpa false
open Go.RowKit Go.MapV Go.Maps

def cfgB (c d : Cfg) : Bool := (c.nm.toList == d.nm.toList) && (c.im == d.im) && (c.co == d.co) && (c.mn == d.mn) && (c.mx == d.mx) && (c.gr == d.gr)
theorem cfgB_iff {c d : Cfg} : cfgB c d = true ↔ c = d := by
  obtain ⟨a, b, e, f, g, h⟩ := c
  obtain ⟨a', b', e', f', g', h'⟩ := d
  unfold cfgB
  simp only [Bool.and_eq_true]
  rw [eqS_iff]
  simp only [beq_iff_eq, Cfg.mk.injEq, and_assoc]
theorem run_neq_cfg (n1 : ByteArray) (a1 a2 a3 a4 a5 : Int) (n2 : ByteArray) (b1 b2 b3 b4 b5 : Int) (w : World) :
    (binOp .neq 31 (.agg #[.string n1, .int .i64 a1, .int .i64 a2, .int .i64 a3, .int .i64 a4, .int .i64 a5]) (.agg #[.string n2, .int .i64 b1, .int .i64 b2, .int .i64 b3, .int .i64 b4, .int .i64 b5])).run Tryz.prog w = .ok (.bool (!cfgB ⟨n1, a1, a2, a3, a4, a5⟩ ⟨n2, b1, b2, b3, b4, b5⟩)) w := by
  go_simp
  unfold cfgB
  by_cases h0 : n1.toList = n2.toList <;> by_cases h1 : a1 = b1 <;> by_cases h2 : a2 = b2 <;> by_cases h3 : a3 = b3 <;> by_cases h4 : a4 = b4 <;> by_cases h5 : a5 = b5 <;> simp [h0, h1, h2, h3, h4, h5]
theorem last_of (s : Sh) (nm : ByteArray) : ∃ (d : Cfg) (dv : Int) (was : Bool), ((objC s nm).map ObC.val).getD zC = .agg #[.string d.nm, .int .i64 d.im, .int .i64 d.co, .int .i64 d.mn, .int .i64 d.mx, .int .i64 d.gr, .int .i64 dv] ∧ (objC s nm).isSome = was ∧ ∀ c : Cfg, ((s.cf nm).map (·.1) == some c) = (was && cfgB d c) := by
  unfold objC
  cases h : s.cf nm with
  | none => exact ⟨⟨⟨#[]⟩, 0, 0, 0, 0, 0⟩, 0, false, rfl, rfl, fun c => rfl⟩
  | some p =>
    obtain ⟨d, dv⟩ := p
    refine ⟨d, dv, true, rfl, rfl, fun c => ?_⟩
    rw [Bool.true_and, Bool.eq_iff_iff, cfgB_iff, beq_iff_eq]
    simp
theorem chg_new {W w' : World} (h : Chg (fun k => W.heap.size ≤ k) W w') : Grow.G W w' := h.toGrow (fun k hk h => by omega)
/-- What a call on a shelf leaves. -/
def ShEnd (w w' : World) (g : Nat) (F : Nat → Prop) (s' : Sh) : Prop := ∃ F', ShAt w' g F' s' ∧ Chg F w w' ∧ Fresh w F F'
theorem ShEnd.same {w w' : World} {g : Nat} {F : Nat → Prop} {s : Sh} (h : ShAt w g F s) (c : Grow.G w w') : ShEnd w w' g F s := ⟨F, h.grow c, Chg.grow c, Fresh.refl _ _⟩
theorem hkG {w : World} {g : Nat} {F : Nat → Prop} {s : Sh} {mc mr mg : Option Nat} {fr : ByteArray → Option ObR} (h : Hid (ShIn w g F s mc mr mg fr)) : ¬ (w.heap.size = g ∨ some w.heap.size = mc) := by
  intro e
  rcases e with e | e
  · have := h.out.hb.lt; omega
  · have := h.out.lt _ (h.out.fc _ e.symm); omega
set_option maxHeartbeats 4000000 in
theorem sputC_any (g : Nat) (F : Nat → Prop) (s : Sh) (c : Cfg) (v : Int) (w : World) (hS : ShAt w g F s) (hc : c.nm.size ≤ 140737488351232) (hn : s.n < 1099511627776) :
    Calls Tryz.prog 9 #[pt g, c.v, .int .i64 v] w fun e w' => e = .returned (.tuple #[.int .i64 (s.numOf (s.putC c v)), .int .i64 (s.putC c v)]) ∧ ShEnd w w' g F (s.aftC c v) := by
  have HS := Lib.hid hS
  have SC := Lib.hid (fun w => config_any c w (by unfold maxLen; omega))
  have OC := Lib.hid (fun w => ownC_any c w hc)
  by_cases hE : c.err = 0
  · have HE := Lib.hid hE
    rw [hE] at SC
    have hPC : Hid (s.putC c v = mayP (verO (s.cf c.nm)) v) := Lib.hid (by unfold Sh.putC; rw [if_pos hE])
    obtain ⟨mc, mr, mg, fr, hI⟩ := hS
    have HI := Lib.hid hI
    have hnl : c.nm.size ≤ maxLen := by unfold maxLen; omega
    obtain ⟨d, dv, was, hval, hwas, hsame⟩ := last_of s c.nm
    have GV := Lib.hid (fun (w' : World) (h : Grow.G w w') => (show Calls Tryz.prog 24 #[.pointer (some ⟨g, 1, none⟩), .string c.nm] w' fun e w'' => e = .returned (.tuple #[.agg #[.string d.nm, .int .i64 d.im, .int .i64 d.co, .int .i64 d.mn, .int .i64 d.mx, .int .i64 d.gr, .int .i64 dv], .bool was]) ∧ Grow.G w' w'' from by
      have := getC_any g 1 mc s.n (objC s) c.nm w' (evd (hI.grow h).hb (i := 1) rfl) (hI.grow h).hb.lt (hI.grow h).hc hnl
      rwa [hval, hwas] at this))
    have hsame := hsame c
    have HW : Hid (s.wasC c = (was && cfgB d c)) := Lib.hid hsame
    have hgl := hI.hb.lt
    obtain ⟨er, her⟩ : ∃ er, mayP (verO (s.cf c.nm)) v = er := ⟨_, rfl⟩
    rw [her] at hPC
    have HER : Hid (mayP ((objC s c.nm).map ObC.v) v = er) := Lib.hid (by rw [objC_v]; exact her)
    have PN := Lib.hid (fun (w' : World) (h : Grow.G w w') (h0 : er ≠ 0) => putC_no g s.n mc mr mg s.n (objC s) c.nm ⟨c, 0⟩ v w' (hI.grow h).hb (hI.grow h).hc hnl er HER.out h0)
    have PY := Lib.hid (fun (w' : World) (h : Grow.G w w') (h0 : er = 0) => putC_yes g s.n mc mr mg s.n (objC s) c.nm ⟨c, 0⟩ v w' (hI.grow h).hb (hI.grow h).hc hnl (HER.out.trans h0) (by unfold maxLen; omega) (by omega))
    unfold ObC.base at PN PY
    unfold ObC.at at PY
    dsimp only at PN PY
    have RQ := run_neq_cfg d.nm d.im d.co d.mn d.mx d.gr c.nm c.im c.co c.mn c.mx c.gr
    have hdc : cfgB ⟨d.nm, d.im, d.co, d.mn, d.mx, d.gr⟩ ⟨c.nm, c.im, c.co, c.mn, c.mx, c.gr⟩ = cfgB d c := rfl
    rw [hdc] at RQ
    generalize cfgB d c = same at *
    clear hI hval hwas hE hsame her hdc
    obtain ⟨nm, im, co, mn, mx, gr⟩ := c
    obtain ⟨dn, d1, d2, d3, d4, d5⟩ := d
    unfold Cfg.v at *
    dsimp only at *
    go_enter Tryz.func9, Tryz.ntmps9
    go_wp2_with fail
    refine (SC.out _).mono ?_
    rintro e wn1 ⟨rfl, hb1⟩
    have HM1 := ((Mem.nil w).alloc' [.string nm, .int .i64 im, .int .i64 co, .int .i64 mn, .int .i64 mx, .int .i64 gr] 31 rfl).grow hb1
    simp only [K0, K1, L1, L2, K2, K3, K4, K5, K6, K7, Nat.reduceAdd, Nat.reduceSub] at HM1
    have HM := Lib.hid HM1
    clear HM1 hb1
    go_wp2_with ((refine Mem.loadAll 0 (t := 31) rfl rfl rfl Tryz.underlying31 (n := 6) (by kernel_rfl) HM.out rfl rfl ?_))
    refine (OC.out _).mono ?_
    rintro e wn2 ⟨rfl, hb2⟩
    replace HM := Lib.hid (HM.out.grow hb2)
    clear hb2
    go_wp2_with ((refine Mem.storeAll 0 (t := 31) rfl rfl rfl rfl (n := 6) (by kernel_rfl) HM.out rfl rfl rfl rfl ?_; intro W2 HMm CW2))
    simp only [K0, K1, L1, L2, K2, K3, K4, K5, K6, K7, Nat.reduceAdd, Nat.reduceSub] at HMm
    replace HM := Lib.hid HMm
    clear HMm
    refine Stay.go ?_
    go_wp2_with fail
    have B2 := Lib.hid (HM.out.blk (i := 0) rfl)
    have KC := Lib.hid (fun (w' : World) (h : Chg (fun k => W2.heap.size ≤ k) W2 w') => (⟨evd (B2.out.grow (chg_new h)) (i := 0) rfl, (B2.out.grow (chg_new h)).lt, trivial⟩ : w'.cell? ⟨w.heap.size, 0, none⟩ = some (.string nm) ∧ w.heap.size < w'.heap.size ∧ True))
    refine Evo2.start' (ℓ := none) (S := Chg (fun k => W2.heap.size ≤ k)) (E := Grow.G) (by kernel_rfl) ⟨Chg.pre _, by decide +kernel, (by intro c a d v w h; cases d <;> exact h), by decide +kernel⟩ (fun ok => ?_)
    refine Evo2.va ok 0 _ _ ?_
    refine Evo2.va ok 1 _ _ ?_
    refine Evo2.va ok 2 _ _ ?_
    refine Evo2.va ok 3 _ _ ?_
    first | (refine Evo2.vl ok 4 KC.out (Chg.refl (fun k => W2.heap.size ≤ k) _) _ _ ?_) | (refine Evo2.va ok 4 _ _ ?_)
    (refine Evo2.cal ok 5 ?_ 24 ?_ ?_ ?_ ?_; rotate_left 2; (focus (intro w'; go_simp <;> with_reducible rfl)); (focus (intro w' g'; with_reducible exact GV.out w' ((show Grow.G w W2 from HM.out.below).trans (chg_new (Chg.trans (Chg.refl (fun k => W2.heap.size ≤ k) _) g'))))); simp only [Act.put, L0, L1, L2])
    refine Evo2.va ok 6 _ _ ?_
    refine Evo2.va ok 7 _ _ ?_
    refine Evo2.va ok 8 _ _ ?_
    refine Evo2.all [9] (by decide +kernel) rfl ?_
    intro wp1 gp1 iq hq
    simp only [List.mem_cons, List.mem_nil_iff, or_false] at hq
    have AP1 := Chg.trans (Chg.refl (fun k => W2.heap.size ≤ k) _) (Chg.grow gp1)
    subst hq
    refine Evo2.runs (by rfl) (by rfl) (fun K' hK' => ?_)
    (try obtain ⟨q1, q2, q3⟩ := KC.out wp1 AP1)
    go_simp
    (try (simp only [Evo.after_value, Evo.after_skip]))
    refine hK'.out _ _ ?_
    clear hK'
    simp only [Act.put, L0, L1, L2]
    (try clear q1 q2 q3)
    refine ⟨.inr (Chg.alloc (Chg.refl _ _) _), ?_⟩
    generalize hG1 : World.alloc wp1 _ = wg1
    have GG1 : Grow.G wp1 wg1 := hG1 ▸ Grow.G.alloc (Grow.G.refl _) _
    have NC1 := (congrArg (fun W : World => W.heap[wp1.heap.size]?) hG1).symm.trans (MapKept.heap_alloc wp1 _).1
    have NL1 : wp1.heap.size < wg1.heap.size := by rw [← hG1]; simp
    clear hG1
    refine Evo2.all [10] (by decide +kernel) rfl ?_
    intro wp2 gp2 iq hq
    simp only [List.mem_cons, List.mem_nil_iff, or_false] at hq
    have AP2 := Chg.trans (Chg.trans AP1 (Chg.grow GG1)) (Chg.grow gp2)
    have NC1 := (gp2.block _ NL1).trans NC1
    have NL1 := Nat.lt_of_lt_of_le NL1 gp2.size
    subst hq
    refine upStoreAll (by rfl) (by rfl) rfl rfl rfl (n := 7) (by kernel_rfl) (NC1) rfl rfl rfl ?_
    intro wc2 BW CW2
    have CH2 : Chg (fun k => W2.heap.size ≤ k) _ _ := CW2.mono (fun j _ e => by have q := AP1.size; have e : j = wp1.heap.size := e; omega)
    refine ⟨.inr CH2, ?_⟩
    simp only [Act.put, L0, L1, L2]
    refine Evo2.va ok 11 _ _ ?_
    refine Evo2.done (by decide +kernel) (fun wz gz => ?_)
    have AZ := Chg.trans (Chg.trans AP2 CH2) (Chg.grow gz)
    rename World => W5
    have G3 := chg_new AZ
    have BW := BW.grow gz
    obtain ⟨kb, hkb⟩ : ∃ kb, wp1.heap.size = kb := ⟨_, rfl⟩
    rw [hkb] at BW
    rw [hkb]
    have hkb2 : w.heap.size < kb := by have := AP1.size; have := B2.out.lt; omega
    have HB := Lib.hid BW
    replace HM := Lib.hid (HM.out.grow G3)
    clear BW hkb AP1 AP2 CW2 CH2 AZ gz gp1 gp2 NC1 NL1 GG1 KC G3
    go_wp2_with fail
    have B6 := Lib.hid (HM.out.blk (i := 0) rfl)
    have CE : (Tryz.prog.info? 31).map (·.size) = some 6 := by kernel_rfl
    by_cases h0 : er = 0
    · subst h0
      have KC := Lib.hid (fun (w' : World) (h : Chg (fun j => j = g ∨ some j = mc) W5 w') => (⟨evd (B6.out.chg h (hkG HI)) (i := 0) rfl, (B6.out.chg h (hkG HI)).lt, trivial⟩ : w'.cell? ⟨w.heap.size, 0, none⟩ = some (.string nm) ∧ w.heap.size < w'.heap.size ∧ True))
      refine Evo2.start' (ℓ := none) (S := Chg (fun j => j = g ∨ some j = mc)) (E := Grow.G) (by kernel_rfl) ⟨Chg.pre _, by decide +kernel, (by intro c a d v w h; cases d <;> exact h), by decide +kernel⟩ (fun ok => ?_)
      refine Evo2.va ok 0 _ _ ?_
      refine Evo2.va ok 1 _ _ ?_
      refine Evo2.va ok 2 _ _ ?_
      refine Evo2.va ok 3 _ _ ?_
      refine Evo2.va ok 4 _ _ ?_
      first | (refine Evo2.val ok 5 ?_ ?_ ?_; rotate_left; (focus (intro w' hg; refine Box.exec_loadAll ?_ Tryz.underlying31 CE (B6.out.chg (Chg.trans (Chg.refl (fun j => j = g ∨ some j = mc) _) hg) (hkG HI)) ?_; (all_goals (first | exact ⟨rfl, rfl⟩ | rfl)))); simp only [Act.put, L0, L1, L2]) | (refine Evo2.vl ok 5 KC.out (Chg.refl (fun j => j = g ∨ some j = mc) _) _ _ ?_) | (refine Evo2.va ok 5 _ _ ?_)
      first | (refine Evo2.val ok 6 ?_ ?_ ?_; rotate_left; (focus (intro w' hg; refine Box.exec_loadAll ?_ Tryz.underlying31 CE (B6.out.chg (Chg.trans (Chg.refl (fun j => j = g ∨ some j = mc) _) hg) (hkG HI)) ?_; (all_goals (first | exact ⟨rfl, rfl⟩ | rfl)))); simp only [Act.put, L0, L1, L2]) | (refine Evo2.vl ok 6 KC.out (Chg.refl (fun j => j = g ∨ some j = mc) _) _ _ ?_) | (refine Evo2.va ok 6 _ _ ?_)
      refine Evo2.va ok 7 _ _ ?_
      refine Evo2.all [8] (by decide +kernel) rfl ?_
      intro wp1 gp1 iq hq
      simp only [List.mem_cons, List.mem_nil_iff, or_false] at hq
      have AP1 := Chg.trans (Chg.refl (fun j => j = g ∨ some j = mc) _) (Chg.grow gp1)
      subst hq
      refine Evo2.enters 25 _ (by rfl) (by rfl) (by go_simp; exact ⟨rfl, rfl⟩) ?_
      refine (PY.out _ ((show Grow.G w W5 from HM.out.below).trans gp1) rfl).mono ?_
      rintro e wc1 ⟨rfl, P9⟩; have CH1 := P9.chg
      refine ⟨_, rfl, .inr CH1, ?_⟩
      have AC1 := Chg.trans AP1 CH1
      simp only [Act.put, L0, L1, L2]
      refine Evo2.va ok 9 _ _ ?_
      refine Evo2.va ok 10 _ _ ?_
      refine Evo2.va ok 11 _ _ ?_
      refine Evo2.va ok 12 _ _ ?_
      refine Evo2.va ok 13 _ _ ?_
      refine Evo2.done (by decide +kernel) (fun wz gz => ?_)
      have AZ := Chg.trans AC1 (Chg.grow gz)
      rename World => W7
      obtain ⟨⟨b', I7⟩, C7, M7⟩ := HI.out.rawC ((show Grow.G w W5 from HM.out.below).trans gp1) HE.out P9
      have C7 := C7.trans (Chg.grow gz)
      have I7 := Lib.hid (I7.grow gz)
      have M7 := Lib.hid (M7.chg (Chg.grow (G := fun _ => False) gz) (fun _ _ => id))
      have F7 := Lib.hid C7
      have fr7 : Hid (Fresh w F (ext F w wc1)) := Lib.hid (ext_fresh _ _ _)
      have B7 := Lib.hid ((B6.out.chg AZ (hkG HI)))
      have K7 : Hid (Blk W7 kb _ _) := Lib.hid ((HB.out.chg AZ (fun e => by
        rcases e with e | e
        · omega
        · have := HI.out.lt _ (HI.out.fc _ e.symm)
          omega)))
      have HW' := HW.out
      have hPC := hPC.out
      have b7 := B7.out
      have k7 := K7.out
      have qb70 := evd b7 (i := 0) rfl
      have zb70 := b7.free 0
      have qb71 := evd b7 (i := 1) rfl
      have zb71 := b7.free 1
      have qb72 := evd b7 (i := 2) rfl
      have zb72 := b7.free 2
      have qb73 := evd b7 (i := 3) rfl
      have zb73 := b7.free 3
      have qb74 := evd b7 (i := 4) rfl
      have zb74 := b7.free 4
      have qb75 := evd b7 (i := 5) rfl
      have zb75 := b7.free 5
      have lb7 := b7.lt
      have qk70 := evd k7 (i := 0) rfl
      have zk70 := k7.free 0
      have qk71 := evd k7 (i := 1) rfl
      have zk71 := k7.free 1
      have qk72 := evd k7 (i := 2) rfl
      have zk72 := k7.free 2
      have qk73 := evd k7 (i := 3) rfl
      have zk73 := k7.free 3
      have qk74 := evd k7 (i := 4) rfl
      have zk74 := k7.free 4
      have qk75 := evd k7 (i := 5) rfl
      have zk75 := k7.free 5
      have qk76 := evd k7 (i := 6) rfl
      have zk76 := k7.free 6
      have lk7 := k7.lt
      clear AZ AP1 P9 CH1 AC1 gz gp1 KC PY PN b7 k7
      by_cases hws : (was && same) = true
      · simp only [Bool.and_eq_true] at hws
        obtain ⟨rfl, rfl⟩ := hws
        go_wp2_with fail
        go_returns
        rw [hPC]
        refine ⟨by unfold Sh.numOf; rw [if_pos rfl]; rfl, ?_⟩
        unfold Sh.aftC Sh.setC
        rw [hPC, if_pos rfl, if_pos (by rw [HW']; rfl)]
        exact ⟨_, ⟨_, _, _, _, I7.out⟩, F7.out, fr7.out⟩
      · have hn9 : s.gn nm ≤ s.n := HI.out.ok.g nm
        have RN := Lib.hid (renew_any g (s.n + 1) (some b') mr mg s.n s.gn nm W7 I7.out.hb M7.out (by unfold maxLen; omega) hnl (by omega))
        have fin : ∀ w9, Renew W7 w9 g (s.n + 1) (some b') mr mg s.n s.gn nm → ShEnd w w9 g F (s.aftC ⟨nm, im, co, mn, mx, gr⟩ v) := fun w9 R9 => by
          obtain ⟨⟨b9, I9⟩, C9⟩ := I7.out.ren (nm := nm) (Nat.lt_succ_of_le hn9) R9 (Nat.le_refl _)
          have C9 : Chg (ext F w wc1) W7 w9 := C9
          unfold Sh.aftC Sh.setC
          rw [hPC, if_pos rfl, if_neg (by rw [HW']; exact hws)]
          exact ⟨_, ⟨_, _, _, _, I9⟩, F7.out.more fr7.out C9, fr7.out.trans (ext_fresh _ _ _) F7.out.size⟩
        have FIN := Lib.hid fin
        clear fin
        have hc2 : was = false ∨ (was = true ∧ same = false) := by cases was <;> cases same <;> simp_all
        clear hws
        rcases hc2 with rfl | ⟨rfl, rfl⟩
        all_goals
          go_wp2_with fail
          refine RN.out.mono ?_
          rintro e w9 ⟨⟨v9, rfl⟩, R9⟩
          have R9 := Lib.hid R9
          go_wp2_with fail
          go_returns
          rw [hPC]
          exact ⟨by unfold Sh.numOf; rw [if_pos rfl]; rfl, by rw [← hPC] at *; exact FIN.out _ R9.out⟩
    · have hne : (er == 0) = false := by simpa using h0
      have KC := Lib.hid (fun (w' : World) (h : Chg (fun _ => False) W5 w') => (⟨evd (B6.out.chg h id) (i := 0) rfl, (B6.out.chg h id).lt, trivial⟩ : w'.cell? ⟨w.heap.size, 0, none⟩ = some (.string nm) ∧ w.heap.size < w'.heap.size ∧ True))
      refine Evo2.start' (ℓ := none) (S := Chg (fun _ => False)) (E := Grow.G) (by kernel_rfl) ⟨Chg.pre _, by decide +kernel, (by intro c a d v w h; cases d <;> exact h), by decide +kernel⟩ (fun ok => ?_)
      refine Evo2.va ok 0 _ _ ?_
      refine Evo2.va ok 1 _ _ ?_
      refine Evo2.va ok 2 _ _ ?_
      refine Evo2.va ok 3 _ _ ?_
      refine Evo2.va ok 4 _ _ ?_
      first | (refine Evo2.val ok 5 ?_ ?_ ?_; rotate_left; (focus (intro w' hg; refine Box.exec_loadAll ?_ Tryz.underlying31 CE (B6.out.chg (Chg.trans (Chg.refl (fun _ => False) _) hg) id) ?_; (all_goals (first | exact ⟨rfl, rfl⟩ | rfl)))); simp only [Act.put, L0, L1, L2]) | (refine Evo2.vl ok 5 KC.out (Chg.refl (fun _ => False) _) _ _ ?_) | (refine Evo2.va ok 5 _ _ ?_)
      first | (refine Evo2.val ok 6 ?_ ?_ ?_; rotate_left; (focus (intro w' hg; refine Box.exec_loadAll ?_ Tryz.underlying31 CE (B6.out.chg (Chg.trans (Chg.refl (fun _ => False) _) hg) id) ?_; (all_goals (first | exact ⟨rfl, rfl⟩ | rfl)))); simp only [Act.put, L0, L1, L2]) | (refine Evo2.vl ok 6 KC.out (Chg.refl (fun _ => False) _) _ _ ?_) | (refine Evo2.va ok 6 _ _ ?_)
      refine Evo2.va ok 7 _ _ ?_
      (refine Evo2.cal ok 8 ?_ 25 ?_ ?_ ?_ ?_; rotate_left 2; (focus (intro w'; go_simp <;> with_reducible rfl)); (focus (intro w' g'; with_reducible exact PN.out w' ((show Grow.G w _ from HM.out.below).trans (chg_noneG (Chg.trans (Chg.refl (fun _ => False) _) g'))) h0)); simp only [Act.put, L0, L1, L2])
      refine Evo2.va ok 9 _ _ ?_
      refine Evo2.va ok 10 _ _ ?_
      refine Evo2.va ok 11 _ _ ?_
      refine Evo2.va ok 12 _ _ ?_
      refine Evo2.va ok 13 _ _ ?_
      refine Evo2.done (by decide +kernel) (fun wz gz => ?_)
      have AZ := Chg.trans (Chg.refl (fun _ => False) _) (Chg.grow gz)
      replace HM := Lib.hid (HM.out.grow (chg_noneG AZ))
      go_wp2_with fail
      go_returns
      rw [hPC.out]
      refine ⟨?_, by unfold Sh.aftC; rw [hPC.out, if_neg h0]; exact ShEnd.same HS.out HM.out.below⟩
      unfold Sh.numOf
      rw [if_neg h0]; rfl
  · have hE2 := Lib.hid hE
    have hPC : s.putC c v = c.err := by unfold Sh.putC; rw [if_neg hE]
    have hAC : s.aftC c v = s := by unfold Sh.aftC; rw [hPC, if_neg hE]
    have hNO : s.numOf c.err = 0 := by unfold Sh.numOf; rw [if_neg hE]
    rw [hPC, hAC, hNO]
    have hne : (c.err != 0) = true := by simpa using hE
    clear hPC hAC hNO hE
    generalize c.err = er at *
    obtain ⟨nm, im, co, mn, mx, gr⟩ := c
    unfold Cfg.v at *
    dsimp only at *
    go_enter Tryz.func9, Tryz.ntmps9
    go_wp2_with fail
    refine (SC.out _).mono ?_
    rintro e wn1 ⟨rfl, hb1⟩
    have HG := Lib.hid ((Grow.G.alloc (Grow.G.refl w) _).trans hb1)
    clear hb1
    go_wp2_with fail
    go_returns
    exact ⟨rfl, ShEnd.same HS.out HG.out⟩

theorem ShIn.ver {w : World} {g : Nat} {F : Nat → Prop} {s : Sh} {mc mr mg : Option Nat} {fr : ByteArray → Option ObR} (h : ShIn w g F s mc mr mg fr) (nm : ByteArray) : (fr nm).map ObR.v = verO (s.rt nm) := by
  rcases h.ht nm with ⟨h1, h2⟩ | ⟨r, v, b, cap, h1, h2, _⟩
  · rw [h1, h2]; rfl
  · rw [h1, h2]; rfl
theorem rt_small {r : Rt} (h : r.err = 0) : r.nm.size ≤ 16 ∧ r.cf.size ≤ 16 ∧ 1 ≤ r.ts.length ∧ r.ts.length ≤ 6 := by
  obtain ⟨h1, h2, h3, h4, _⟩ := routeE_parts h
  rw [inB_iff] at h4
  exact ⟨(of_decide_eq_true h1).2.1, (of_decide_eq_true h2).2.1, by omega, by omega⟩
theorem hkR {w : World} {g : Nat} {F : Nat → Prop} {s : Sh} {mc mr mg : Option Nat} {fr : ByteArray → Option ObR} (h : Hid (ShIn w g F s mc mr mg fr)) : ¬ (w.heap.size = g ∨ some w.heap.size = mr) := by
  intro e
  rcases e with e | e
  · have := h.out.hb.lt; omega
  · have := h.out.lt _ (h.out.fr _ e.symm); omega
set_option maxHeartbeats 4000000 in
theorem sputR_any (g : Nat) (F : Nat → Prop) (s : Sh) (r : Rt) (a : Option Addr) (cap : Nat) (v : Int) (w : World) (hS : ShAt w g F s) (h1 : r.nm.size ≤ 140737488351232) (h2 : r.cf.size ≤ 140737488351232) (hl : r.ts.length ≤ maxLen) (ht : TgtSl w a r.ts) (hk : ∀ i, i < r.ts.length → (r.ts.getD i tg0).ok) (hn : s.n < 1099511627776) :
    Calls Tryz.prog 12 #[pt g, rtV r.nm r.cf (.slice a r.ts.length cap) r.rl, .int .i64 v] w fun e w' => e = .returned (.tuple #[.int .i64 (s.numOf (s.putR r v)), .int .i64 (s.putR r v)]) ∧ ShEnd w w' g F (s.aftR r v) := by
  have HS := Lib.hid hS
  have SC := Lib.hid (fun w h => (show Calls Tryz.prog 29 #[rtV r.nm r.cf (.slice a r.ts.length cap) r.rl] w fun x w' => x = .returned (.int .i64 r.err) ∧ Below w.heap.size w w' from route_any r.nm r.cf a r.ts cap r.rl w (by unfold maxLen; omega) (by unfold maxLen; omega) hl h hk))
  have HT := Lib.hid ht
  by_cases hE : r.err = 0
  · have HE := Lib.hid hE
    obtain ⟨z1, z2, z3, z4⟩ := rt_small hE
    rw [hE] at SC
    have hPC : Hid (s.putR r v = mayP (verO (s.rt r.nm)) v) := Lib.hid (by unfold Sh.putR; rw [if_pos hE])
    obtain ⟨mc, mr, mg, fr, hI⟩ := hS
    have HI := Lib.hid hI
    have hnl : r.nm.size ≤ maxLen := by unfold maxLen; omega
    obtain ⟨b0, off, rfl⟩ : ∃ b0 off, a = some ⟨b0, off, none⟩ := by
      rcases ht with ht | ⟨b, off, ha, _⟩
      · rw [ht] at z3; simp at z3
      · exact ⟨b, off, ha⟩
    have OR := Lib.hid (fun w h => ownR_any r.nm r.cf b0 off r.ts cap r.rl w h1 h2 h hk (by omega) (by omega))
    have hgl := hI.hb.lt
    obtain ⟨er, her⟩ : ∃ er, mayP (verO (s.rt r.nm)) v = er := ⟨_, rfl⟩
    rw [her] at hPC
    have HER : Hid (mayP ((fr r.nm).map ObR.v) v = er) := Lib.hid (by rw [hI.ver]; exact her)
    have PN := Lib.hid (fun (w' : World) (h : Grow.G w w') (b cap : Nat) (h0 : er ≠ 0) => putR_no g s.n mc mr mg s.n fr r.nm ⟨r, b, cap, 0⟩ v w' (hI.grow h).hb (hI.grow h).hr hnl er HER.out h0)
    have PY := Lib.hid (fun (w' : World) (h : Grow.G w w') (b cap : Nat) (h0 : er = 0) => putR_yes g s.n mc mr mg s.n fr r.nm ⟨r, b, cap, 0⟩ v w' (hI.grow h).hb (hI.grow h).hr hnl (HER.out.trans h0) (by unfold maxLen; omega) (by omega))
    unfold ObR.base at PN PY
    unfold ObR.at at PY
    dsimp only at PN PY
    clear hI hE her ht hk
    obtain ⟨nm, cf, ts, rl⟩ := r
    unfold rtV at *
    dsimp only at *
    go_enter Tryz.func12, Tryz.ntmps12
    go_wp2_with fail
    have g0 : Grow.G w (w.alloc (.cells #[.string nm, .string cf, .slice (some ⟨b0, off, none⟩) ts.length cap, .int .i64 rl] 45)) := Grow.G.alloc (Grow.G.refl _) _
    refine (SC.out _ (HT.out.later g0)).mono ?_
    rintro e wn1 ⟨rfl, hb1⟩
    have HM1 := ((Mem.nil w).alloc' [.string nm, .string cf, .slice (some ⟨b0, off, none⟩) ts.length cap, .int .i64 rl] 45 rfl).grow hb1
    simp only [K0, K1, L1, L2, K2, K3, K4, K5, K6, K7, Nat.reduceAdd, Nat.reduceSub] at HM1
    have HM := Lib.hid HM1
    clear HM1 hb1 g0
    go_wp2_with ((refine Mem.loadAll 0 (t := 45) rfl rfl rfl Tryz.underlying45 (n := 4) (by kernel_rfl) HM.out rfl rfl ?_))
    refine (OR.out _ (HT.out.later HM.out.below)).mono ?_
    rintro e wn2 ⟨tb, tc, rfl, hot, hb2⟩
    have hm1 := HM.out.lt (i := 0) rfl
    replace HM := Lib.hid (HM.out.grow hb2)
    obtain ⟨-, tsl, -, tb1, tb2⟩ := own_tgts hot
    have hot : TgtSl wn2 (some ⟨tb, 0, none⟩) ts := tsl
    clear hb2 tsl
    go_wp2_with ((refine Mem.storeAll 0 (t := 45) rfl rfl rfl rfl (n := 4) (by kernel_rfl) HM.out rfl rfl rfl rfl ?_; intro W2 HMm CW2))
    simp only [K0, K1, L1, L2, K2, K3, K4, K5, K6, K7, Nat.reduceAdd, Nat.reduceSub] at HMm
    replace HM := Lib.hid HMm
    clear HMm
    refine Stay.go ?_
    have OT := Lib.hid (hot.chg CW2 (fun b' o' e => by cases e; intro q; have q : tb = w.heap.size := q; omega))
    have tb2 : tb < W2.heap.size := by have := CW2.size; omega
    have tb3 : w.heap.size ≤ tb := by omega
    clear hot
    go_wp2_with fail
    have B6 := Lib.hid (HM.out.blk (i := 0) rfl)
    have CE : (Tryz.prog.info? 45).map (·.size) = some 4 := by kernel_rfl
    by_cases h0 : er = 0
    · subst h0
      have KC := Lib.hid (fun (w' : World) (h : Chg (fun j => j = g ∨ some j = mr) W2 w') => (⟨evd (B6.out.chg h (hkR HI)) (i := 0) rfl, (B6.out.chg h (hkR HI)).lt, trivial⟩ : w'.cell? ⟨w.heap.size, 0, none⟩ = some (.string nm) ∧ w.heap.size < w'.heap.size ∧ True))
      refine Evo2.start' (ℓ := none) (S := Chg (fun j => j = g ∨ some j = mr)) (E := Grow.G) (by kernel_rfl) ⟨Chg.pre _, by decide +kernel, (by intro c a d v w h; cases d <;> exact h), by decide +kernel⟩ (fun ok => ?_)
      refine Evo2.va ok 0 _ _ ?_
      refine Evo2.va ok 1 _ _ ?_
      refine Evo2.va ok 2 _ _ ?_
      refine Evo2.va ok 3 _ _ ?_
      refine Evo2.va ok 4 _ _ ?_
      first | (refine Evo2.val ok 5 ?_ ?_ ?_; rotate_left; (focus (intro w' hg; refine Box.exec_loadAll ?_ Tryz.underlying45 CE (B6.out.chg (Chg.trans (Chg.refl (fun j => j = g ∨ some j = mr) _) hg) (hkR HI)) ?_; (all_goals (first | exact ⟨rfl, rfl⟩ | rfl)))); simp only [Act.put, L0, L1, L2]) | (refine Evo2.vl ok 5 KC.out (Chg.refl (fun j => j = g ∨ some j = mr) _) _ _ ?_) | (refine Evo2.va ok 5 _ _ ?_)
      first | (refine Evo2.val ok 6 ?_ ?_ ?_; rotate_left; (focus (intro w' hg; refine Box.exec_loadAll ?_ Tryz.underlying45 CE (B6.out.chg (Chg.trans (Chg.refl (fun j => j = g ∨ some j = mr) _) hg) (hkR HI)) ?_; (all_goals (first | exact ⟨rfl, rfl⟩ | rfl)))); simp only [Act.put, L0, L1, L2]) | (refine Evo2.vl ok 6 KC.out (Chg.refl (fun j => j = g ∨ some j = mr) _) _ _ ?_) | (refine Evo2.va ok 6 _ _ ?_)
      refine Evo2.va ok 7 _ _ ?_
      refine Evo2.all [8] (by decide +kernel) rfl ?_
      intro wp1 gp1 iq hq
      simp only [List.mem_cons, List.mem_nil_iff, or_false] at hq
      have AP1 := Chg.trans (Chg.refl (fun j => j = g ∨ some j = mr) _) (Chg.grow gp1)
      subst hq
      refine Evo2.enters 31 _ (by rfl) (by rfl) (by go_simp; exact ⟨rfl, rfl⟩) ?_
      refine (PY.out _ ((show Grow.G w W2 from HM.out.below).trans gp1) tb tc rfl).mono ?_
      rintro e wc1 ⟨rfl, P9⟩; have CH1 := P9.chg
      refine ⟨_, rfl, .inr CH1, ?_⟩
      have AC1 := Chg.trans AP1 CH1
      simp only [Act.put, L0, L1, L2]
      refine Evo2.va ok 9 _ _ ?_
      refine Evo2.va ok 10 _ _ ?_
      refine Evo2.va ok 11 _ _ ?_
      refine Evo2.va ok 12 _ _ ?_
      refine Evo2.done (by decide +kernel) (fun wz gz => ?_)
      have AZ := Chg.trans AC1 (Chg.grow gz)
      rename World => W7
      obtain ⟨I7, C7⟩ := HI.out.setR ((show Grow.G w W2 from HM.out.below).trans gp1) HE.out (OT.out.later gp1) tb3 (by have := gp1.size; omega) P9
      have C7 := C7.trans (Chg.grow gz)
      have I7 := Lib.hid (I7.grow gz)
      have F7 := Lib.hid C7
      have fr7 : Hid (Fresh w F (ext F w wc1)) := Lib.hid (ext_fresh _ _ _)
      have hPC := hPC.out
      clear AZ AP1 P9 CH1 AC1 gz gp1 KC PY PN
      go_wp2_with fail
      go_returns
      rw [hPC]
      refine ⟨by unfold Sh.numOf; rw [if_pos rfl]; rfl, ?_⟩
      unfold Sh.aftR
      rw [hPC, if_pos rfl]
      exact ⟨_, I7.out, F7.out, fr7.out⟩
    · have hne : (er == 0) = false := by simpa using h0
      have KC := Lib.hid (fun (w' : World) (h : Chg (fun _ => False) W2 w') => (⟨evd (B6.out.chg h id) (i := 0) rfl, (B6.out.chg h id).lt, trivial⟩ : w'.cell? ⟨w.heap.size, 0, none⟩ = some (.string nm) ∧ w.heap.size < w'.heap.size ∧ True))
      refine Evo2.start' (ℓ := none) (S := Chg (fun _ => False)) (E := Grow.G) (by kernel_rfl) ⟨Chg.pre _, by decide +kernel, (by intro c a d v w h; cases d <;> exact h), by decide +kernel⟩ (fun ok => ?_)
      refine Evo2.va ok 0 _ _ ?_
      refine Evo2.va ok 1 _ _ ?_
      refine Evo2.va ok 2 _ _ ?_
      refine Evo2.va ok 3 _ _ ?_
      refine Evo2.va ok 4 _ _ ?_
      first | (refine Evo2.val ok 5 ?_ ?_ ?_; rotate_left; (focus (intro w' hg; refine Box.exec_loadAll ?_ Tryz.underlying45 CE (B6.out.chg (Chg.trans (Chg.refl (fun _ => False) _) hg) id) ?_; (all_goals (first | exact ⟨rfl, rfl⟩ | rfl)))); simp only [Act.put, L0, L1, L2]) | (refine Evo2.vl ok 5 KC.out (Chg.refl (fun _ => False) _) _ _ ?_) | (refine Evo2.va ok 5 _ _ ?_)
      first | (refine Evo2.val ok 6 ?_ ?_ ?_; rotate_left; (focus (intro w' hg; refine Box.exec_loadAll ?_ Tryz.underlying45 CE (B6.out.chg (Chg.trans (Chg.refl (fun _ => False) _) hg) id) ?_; (all_goals (first | exact ⟨rfl, rfl⟩ | rfl)))); simp only [Act.put, L0, L1, L2]) | (refine Evo2.vl ok 6 KC.out (Chg.refl (fun _ => False) _) _ _ ?_) | (refine Evo2.va ok 6 _ _ ?_)
      refine Evo2.va ok 7 _ _ ?_
      (refine Evo2.cal ok 8 ?_ 31 ?_ ?_ ?_ ?_; rotate_left 2; (focus (intro w'; go_simp <;> with_reducible rfl)); (focus (intro w' g'; with_reducible exact PN.out w' ((show Grow.G w _ from HM.out.below).trans (chg_noneG (Chg.trans (Chg.refl (fun _ => False) _) g'))) tb tc h0)); simp only [Act.put, L0, L1, L2])
      refine Evo2.va ok 9 _ _ ?_
      refine Evo2.va ok 10 _ _ ?_
      refine Evo2.va ok 11 _ _ ?_
      refine Evo2.va ok 12 _ _ ?_
      refine Evo2.done (by decide +kernel) (fun wz gz => ?_)
      have AZ := Chg.trans (Chg.refl (fun _ => False) _) (Chg.grow gz)
      replace HM := Lib.hid (HM.out.grow (chg_noneG AZ))
      go_wp2_with fail
      go_returns
      rw [hPC.out]
      refine ⟨?_, by unfold Sh.aftR; rw [hPC.out, if_neg h0]; exact ShEnd.same HS.out HM.out.below⟩
      unfold Sh.numOf
      rw [if_neg h0]; rfl
  · have hPC : s.putR r v = r.err := by unfold Sh.putR; rw [if_neg hE]
    have hAC : s.aftR r v = s := by unfold Sh.aftR; rw [hPC, if_neg hE]
    have hNO : s.numOf r.err = 0 := by unfold Sh.numOf; rw [if_neg hE]
    rw [hPC, hAC, hNO]
    have hne : (r.err != 0) = true := by simpa using hE
    clear hPC hAC hNO hE ht hk
    generalize r.err = er at *
    obtain ⟨nm, cf, ts, rl⟩ := r
    unfold rtV at *
    dsimp only at *
    go_enter Tryz.func12, Tryz.ntmps12
    go_wp2_with fail
    have g0 : Grow.G w (w.alloc (.cells #[.string nm, .string cf, .slice a ts.length cap, .int .i64 rl] 45)) := Grow.G.alloc (Grow.G.refl _) _
    refine (SC.out _ (HT.out.later g0)).mono ?_
    rintro e wn1 ⟨rfl, hb1⟩
    have HG := Lib.hid (g0.trans hb1)
    clear hb1 g0
    go_wp2_with fail
    go_returns
    exact ⟨rfl, ShEnd.same HS.out HG.out⟩
end Go.Proofs.YtlnffdkaleapbaaGreat
