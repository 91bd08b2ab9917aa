/- My own texts ShGet, ShDrop, laid in one file. -/
import Derived.Test.YtlnffdkaleapbaaGreatZ33

/- shelf's Config, Route. -/
namespace Go.Proofs.YtlnffdkaleapbaaGreat
set_option maxRecDepth 100000
set_option linter.unusedVariables false
set_option linter.unusedSimpArgs false
set_option linter.unnecessarySimpa false
open Go.RowKit Go.MapV Go.Maps

def cfgZ : Cfg := ⟨⟨#[]⟩, 0, 0, 0, 0, 0⟩
/-- What Config tells. -/
def Sh.cfgOf (s : Sh) (nm : ByteArray) : Cfg × Int × Int × Bool := match s.cf nm with
  | none => (cfgZ, 0, 0, false)
  | some (c, v) => (c, v, s.gn nm, true)
set_option maxHeartbeats 4000000 in
theorem scfg_any (g : Nat) (F : Nat → Prop) (s : Sh) (nm : ByteArray) (w : World) (hS : ShAt w g F s) (hs : nm.size ≤ maxLen) :
    Calls Tryz.prog 18 #[pt g, .string nm] w fun e w' => e = .returned (.tuple #[(s.cfgOf nm).1.v, .int .i64 (s.cfgOf nm).2.1, .int .i64 (s.cfgOf nm).2.2.1, .bool (s.cfgOf nm).2.2.2]) ∧ Grow.G w w' := by
  obtain ⟨mc, mr, mg, fr, hI⟩ := hS
  have HI := Lib.hid hI
  have GV := Lib.hid (fun (w' : World) (h : Grow.G w w') => getC_any g 1 mc s.n (objC s) nm w' (evd (hI.grow h).hb (i := 1) rfl) (hI.grow h).hb.lt (hI.grow h).hc hs)
  have hgl := hI.hb.lt
  unfold Sh.cfgOf
  cases hf : s.cf nm with
  | none =>
    have ho : objC s nm = none := by unfold objC; rw [hf]; rfl
    rw [ho] at GV
    simp only [Option.map_none, Option.getD_none, Option.isSome_none] at GV
    clear hI hf ho
    dsimp only
    unfold Cfg.v cfgZ
    dsimp only
    go_enter Tryz.func18, Tryz.ntmps18
    go_wp2_with fail
    refine (GV.out _ (Grow.G.alloc (Grow.G.refl _) _)).mono ?_
    rintro e wn1 ⟨rfl, hb1⟩
    have HM1 := ((Mem.nil w).alloc' [.string ⟨#[]⟩, .int .i64 0, .int .i64 0, .int .i64 0, .int .i64 0, .int .i64 0] 31 rfl).grow hb1
    simp only [K0, K1, L1, L2, K2, K3, K4, K5, K6, K7, Nat.reduceAdd, Nat.reduceSub] at HM1
    have HM := Lib.hid HM1
    clear HM1 hb1
    go_wp2_with ((refine Mem.storeAll 1 (t := 71) rfl rfl rfl rfl (n := 7) (by kernel_rfl) (Mem.alloc' HM.out _ _ rfl) rfl rfl rfl rfl ?_; intro W2 HMm CW2))
    simp only [K0, K1, L1, L2, K2, K3, K4, K5, K6, K7, Nat.reduceAdd, Nat.reduceSub] at HMm
    replace HM := Lib.hid HMm
    clear HMm
    refine Stay.go ?_
    go_wp2_with ((refine Mem.storeAll 0 (t := 31) rfl rfl rfl rfl (n := 6) (by kernel_rfl) HM.out rfl rfl rfl rfl ?_; intro W3 HMm CW3))
    simp only [K0, K1, L1, L2, K2, K3, K4, K5, K6, K7, Nat.reduceAdd, Nat.reduceSub] at HMm
    replace HM := Lib.hid HMm
    clear HMm
    refine Stay.go ?_
    have BF := HM.out.blk (i := 0) rfl
    go_wp2_with fail
    refine bodyPost_ret (v := .tuple #[.agg #[.string ⟨#[]⟩, .int .i64 0, .int .i64 0, .int .i64 0, .int .i64 0, .int .i64 0], .int .i64 0, .int .i64 0, .bool false]) (by simp [results, Tryz.results18, go_sem, BF.cell]) rfl ?_
    exact ⟨rfl, HM.out.below⟩
  | some p =>
    obtain ⟨c, v⟩ := p
    have ho : objC s nm = some ⟨c, v⟩ := by unfold objC; rw [hf]; rfl
    rw [ho] at GV
    simp only [Option.map_some, Option.getD_some, Option.isSome_some] at GV
    unfold ObC.val at GV
    have hok := hI.ok.c nm c v hf
    have hsz := cfg_small hok.2.1
    have OC := Lib.hid (fun w => ownC_any c w (by omega))
    have HV := Lib.hid (g_at s.gn nm)
    clear hI hf ho hok hsz
    obtain ⟨cn, im, co, mn, mx, gr⟩ := c
    unfold Cfg.v at *
    dsimp only at *
    go_enter Tryz.func18, Tryz.ntmps18
    go_wp2_with fail
    refine (GV.out _ (Grow.G.alloc (Grow.G.refl _) _)).mono ?_
    rintro e wn1 ⟨rfl, hb1⟩
    have HM1 := ((Mem.nil w).alloc' [.string ⟨#[]⟩, .int .i64 0, .int .i64 0, .int .i64 0, .int .i64 0, .int .i64 0] 31 rfl).grow hb1
    simp only [K0, K1, L1, L2, K2, K3, K4, K5, K6, K7, Nat.reduceAdd, Nat.reduceSub] at HM1
    have HM := Lib.hid HM1
    clear HM1 hb1
    have hlt0 := HM.out.lt (i := 0) rfl
    go_wp2_with ((refine Mem.storeAll 1 (t := 71) rfl rfl rfl rfl (n := 7) (by kernel_rfl) (Mem.alloc' HM.out _ _ rfl) rfl rfl rfl rfl ?_; intro W2 HMm CW2))
    simp only [K0, K1, L1, L2, K2, K3, K4, K5, K6, K7, Nat.reduceAdd, Nat.reduceSub] at HMm
    replace HM := Lib.hid HMm
    clear HMm
    refine Stay.go ?_
    go_wp2_with fail
    have B0 := Lib.hid (HM.out.blk (i := 0) rfl)
    have B1 := Lib.hid (HM.out.blk (i := 1) rfl)
    have hne : wn1.heap.size ≠ w.heap.size := by omega
    have CE : (Tryz.prog.info? 31).map (·.size) = some 6 := by kernel_rfl
    have I2 := Lib.hid (HI.out.grow HM.out.below)
    have hgn : ¬ g = w.heap.size := by omega
    have hmn : ∀ b, mg = some b → ¬ b = w.heap.size := fun b e => by have := HI.out.lt _ (HI.out.fG b e); omega
    have KC := Lib.hid (fun (w' : World) (h : Chg (fun k => k = w.heap.size) W2 w') => (⟨evd (B1.out.chg h hne) (i := 6) rfl, evd (I2.out.hb.chg h hgn) (i := 3) rfl, (B1.out.chg h hne).lt, (I2.out.hb.chg h hgn).lt, trivial⟩ : w'.cell? ⟨wn1.heap.size, 6, none⟩ = some (.int .i64 (v : Int)) ∧ w'.cell? ⟨g, 3, none⟩ = some (.map mg) ∧ wn1.heap.size < w'.heap.size ∧ g < w'.heap.size ∧ True))
    refine Evo2.start' (ℓ := none) (S := Chg (fun k => k = w.heap.size)) (E := Grow.G) (by kernel_rfl) ⟨Chg.pre _, by decide +kernel, (by intro c a d v w h; cases d <;> exact h), by decide +kernel⟩ (fun ok => ?_)
    refine Evo2.va ok 0 _ _ ?_
    first | (refine Evo2.val ok 1 ?_ ?_ ?_; rotate_left; (focus (intro w' hg; refine Box.exec_load (off := 0) ?_ Tryz.underlying31 CE (B1.out.chg (Chg.trans (Chg.refl (fun k => k = w.heap.size) _) hg) hne) rfl rfl; (all_goals (first | exact ⟨rfl, rfl⟩ | rfl)))); simp only [Act.put, L0, L1, L2]) | (refine Evo2.vl ok 1 KC.out (Chg.refl (fun k => k = w.heap.size) _) _ _ ?_) | (refine Evo2.va ok 1 _ _ ?_)
    (refine Evo2.cal ok 2 ?_ 23 ?_ ?_ ?_ ?_; rotate_left 2; (focus (intro w'; go_simp <;> with_reducible rfl)); (focus (intro w' g'; with_reducible exact OC.out _)); simp only [Act.put, L0, L1, L2])
    refine Evo2.va ok 3 _ _ ?_
    first | (refine Evo2.val ok 4 ?_ ?_ ?_; rotate_left; (focus (intro w' hg; refine Box.exec_load (off := 0) ?_ Tryz.underlying31 CE (B1.out.chg (Chg.trans (Chg.refl (fun k => k = w.heap.size) _) hg) hne) rfl rfl; (all_goals (first | exact ⟨rfl, rfl⟩ | rfl)))); simp only [Act.put, L0, L1, L2]) | (refine Evo2.vl ok 4 KC.out (Chg.refl (fun k => k = w.heap.size) _) _ _ ?_) | (refine Evo2.va ok 4 _ _ ?_)
    refine Evo2.va ok 5 _ _ ?_
    refine Evo2.va ok 6 _ _ ?_
    refine Evo2.va ok 7 _ _ ?_
    first | (refine Evo2.val ok 8 ?_ ?_ ?_; rotate_left; (focus (intro w' hg; refine Box.exec_load (off := 0) ?_ Tryz.underlying31 CE (B1.out.chg (Chg.trans (Chg.refl (fun k => k = w.heap.size) _) hg) hne) rfl rfl; (all_goals (first | exact ⟨rfl, rfl⟩ | rfl)))); simp only [Act.put, L0, L1, L2]) | (refine Evo2.vl ok 8 KC.out (Chg.refl (fun k => k = w.heap.size) _) _ _ ?_) | (refine Evo2.va ok 8 _ _ ?_)
    refine Evo2.va ok 9 _ _ ?_
    first | (refine Evo2.val ok 10 ?_ ?_ ?_; rotate_left; (focus (intro w' hg; refine exec_look1v (.int .i64 (s.gn nm)) (.string nm) ?_ keyedS Tryz.underlying63 zeroI (I2.out.hg.chg (Chg.trans (Chg.refl (fun k => k = w.heap.size) _) hg) hmn) (keyS Tryz.underlying9 hs) HV.out; (all_goals exact ⟨rfl, rfl, rfl, rfl⟩))); simp only [Act.put, L0, L1, L2]) | (refine Evo2.va ok 10 _ _ ?_)
    refine Evo2.all [11] (by decide +kernel) rfl ?_
    intro wp1 gp1 iq hq
    simp only [List.mem_cons, List.mem_nil_iff, or_false] at hq
    have AP1 := Chg.trans (Chg.refl (fun k => k = w.heap.size) _) (Chg.grow gp1)
    subst hq
    refine upStoreAll (by rfl) (by rfl) rfl rfl rfl (n := 6) (by kernel_rfl) (B0.out.grow gp1) rfl rfl rfl ?_
    intro wc1 BW CW1
    have CH1 : Chg (fun k => k = w.heap.size) _ _ := CW1.mono (fun j _ e => e)
    refine ⟨.inr CH1, ?_⟩
    simp only [Act.put, L0, L1, L2]
    refine Evo2.va ok 12 _ _ ?_
    refine Evo2.va ok 13 _ _ ?_
    refine Evo2.va ok 14 _ _ ?_
    refine Evo2.done (by decide +kernel) (fun wz gz => ?_)
    have AZ := Chg.trans (Chg.trans AP1 CH1) (Chg.grow gz)
    have BF := BW.grow gz
    rename World => W4
    have HG := Lib.hid (HM.out.below.trans (AZ.below (B := w.heap.size) HM.out.size (fun k hk e => by have e : k = w.heap.size := e; omega)))
    clear AZ gz BW
    go_wp2_with fail
    refine bodyPost_ret (v := .tuple #[.agg #[.string cn, .int .i64 im, .int .i64 co, .int .i64 mn, .int .i64 mx, .int .i64 gr], .int .i64 v, .int .i64 (s.gn nm), .bool true]) (by simp [results, Tryz.results18, go_sem, BF.cell]) rfl ?_
    exact ⟨rfl, HG.out⟩
set_option maxHeartbeats 4000000 in
theorem srt_none (g : Nat) (F : Nat → Prop) (s : Sh) (nm : ByteArray) (w : World) (hS : ShAt w g F s) (hs : nm.size ≤ maxLen) (hf : s.rt nm = none) :
    Calls Tryz.prog 35 #[pt g, .string nm] w fun e w' => e = .returned (.tuple #[rtV ⟨#[]⟩ ⟨#[]⟩ (.slice none 0 0) 0, .int .i64 0, .bool false]) ∧ Grow.G w w' := by
  obtain ⟨mc, mr, mg, fr, hI⟩ := hS
  have GV := Lib.hid (fun (w' : World) (h : Grow.G w w') => getR_any g 2 mr s.n fr nm w' (evd (hI.grow h).hb (i := 2) rfl) (hI.grow h).hb.lt (hI.grow h).hr hs)
  have ho : fr nm = none := by
    rcases hI.ht nm with ⟨_, h⟩ | ⟨r, v, b, cap, h1, _⟩
    · exact h
    · rw [hf] at h1; cases h1
  have hgl := hI.hb.lt
  rw [ho] at GV
  simp only [Option.map_none, Option.getD_none, Option.isSome_none] at GV
  clear hI hf ho
  unfold rtV
  go_enter Tryz.func35, Tryz.ntmps35
  go_wp2_with fail
  refine (GV.out _ (Grow.G.alloc (Grow.G.refl _) _)).mono ?_
  rintro e wn1 ⟨rfl, hb1⟩
  have HM1 := ((Mem.nil w).alloc' [.string ⟨#[]⟩, .string ⟨#[]⟩, .slice none 0 0, .int .i64 0] 45 rfl).grow hb1
  simp only [K0, K1, L1, L2, K2, K3, K4, K5, K6, K7, Nat.reduceAdd, Nat.reduceSub] at HM1
  have HM := Lib.hid HM1
  clear HM1 hb1
  go_wp2_with ((refine Mem.storeAll 1 (t := 114) rfl rfl rfl rfl (n := 5) (by kernel_rfl) (Mem.alloc' HM.out _ _ rfl) rfl rfl rfl rfl ?_; intro W2 HMm CW2))
  simp only [K0, K1, L1, L2, K2, K3, K4, K5, K6, K7, Nat.reduceAdd, Nat.reduceSub] at HMm
  replace HM := Lib.hid HMm
  clear HMm
  refine Stay.go ?_
  go_wp2_with ((refine Mem.storeAll 0 (t := 45) rfl rfl rfl rfl (n := 4) (by kernel_rfl) HM.out rfl rfl rfl rfl ?_; intro W3 HMm CW3))
  simp only [K0, K1, L1, L2, K2, K3, K4, K5, K6, K7, Nat.reduceAdd, Nat.reduceSub] at HMm
  replace HM := Lib.hid HMm
  clear HMm
  refine Stay.go ?_
  have BF := HM.out.blk (i := 0) rfl
  go_wp2_with fail
  refine bodyPost_ret (v := .tuple #[.agg #[.string ⟨#[]⟩, .string ⟨#[]⟩, .slice none 0 0, .int .i64 0], .int .i64 0, .bool false]) (by simp [results, Tryz.results35, go_sem, BF.cell]) rfl ?_
  exact ⟨rfl, HM.out.below⟩
theorem rt_ok {r : Rt} (h : r.err = 0) : ∀ i, i < r.ts.length → (r.ts.getD i tg0).ok := fun i hi => by
  obtain ⟨_, _, _, _, h5, _⟩ := routeE_parts h
  have he := each_of h5 i hi
  have hn := err_nmd he
  have hp := err_pc he
  generalize r.ts.getD i tg0 = t at *
  unfold Tgt.nmd at hn
  simp only [Bool.and_eq_true, Bool.or_eq_true] at hn
  refine ⟨?_, ?_, ?_⟩
  · rcases hn.1 with h | h
    · have := strE_size h; omega
    · have := revB_size h; omega
  · rcases hn.2 with h | h
    · have := strE_size h; omega
    · have := (of_decide_eq_true h).2.1; omega
  · unfold wf64; omega
set_option maxHeartbeats 4000000 in
theorem srt_some (g : Nat) (F : Nat → Prop) (s : Sh) (nm : ByteArray) (r : Rt) (v : Nat) (w : World) (hS : ShAt w g F s) (hs : nm.size ≤ maxLen) (hf : s.rt nm = some (r, v)) :
    Calls Tryz.prog 35 #[pt g, .string nm] w fun e w' => ∃ b cap, e = .returned (.tuple #[rtV r.nm r.cf (.slice (some ⟨b, 0, none⟩) r.ts.length cap) r.rl, .int .i64 v, .bool true]) ∧ OwnTs w' w.heap.size (.slice (some ⟨b, 0, none⟩) r.ts.length cap) r.ts ∧ Grow.G w w' := by
  obtain ⟨mc, mr, mg, fr, hI⟩ := hS
  have HI := Lib.hid hI
  have GV := Lib.hid (fun (w' : World) (h : Grow.G w w') => getR_any g 2 mr s.n fr nm w' (evd (hI.grow h).hb (i := 2) rfl) (hI.grow h).hb.lt (hI.grow h).hr hs)
  obtain ⟨b, cap, ho, hbt, hTS⟩ : ∃ b cap, fr nm = some ⟨r, b, cap, v⟩ ∧ b < w.heap.size ∧ TgtSl w (some ⟨b, 0, none⟩) r.ts := by
    rcases hI.ht nm with ⟨h, _⟩ | ⟨r', v', b, cap, h1, h2, h3, _, _, _, _, h8⟩
    · rw [hf] at h; cases h
    · rw [hf] at h1; cases h1
      exact ⟨b, cap, h2, hI.lt b h3, h8⟩
  have hgl := hI.hb.lt
  rw [ho] at GV
  simp only [Option.map_some, Option.getD_some, Option.isSome_some] at GV
  unfold ObR.val at GV
  have hok := hI.ok.r nm r v hf
  obtain ⟨z1, z2, z3, z4⟩ := rt_small hok.2.1
  have hko := rt_ok hok.2.1
  have OR := Lib.hid (fun w h => ownR_any r.nm r.cf b 0 r.ts cap r.rl w (by omega) (by omega) h hko (by omega) (by omega))
  have HTS := Lib.hid hTS
  clear hI hf ho hok hko hTS
  obtain ⟨rn, rc, ts, rl⟩ := r
  unfold rtV at *
  dsimp only at *
  go_enter Tryz.func35, Tryz.ntmps35
  go_wp2_with fail
  refine (GV.out _ (Grow.G.alloc (Grow.G.refl _) _)).mono ?_
  rintro e wn1 ⟨rfl, hb1⟩
  have HM1 := ((Mem.nil w).alloc' [.string ⟨#[]⟩, .string ⟨#[]⟩, .slice none 0 0, .int .i64 0] 45 rfl).grow hb1
  simp only [K0, K1, L1, L2, K2, K3, K4, K5, K6, K7, Nat.reduceAdd, Nat.reduceSub] at HM1
  have HM := Lib.hid HM1
  clear HM1 hb1
  have hlt0 := HM.out.lt (i := 0) rfl
  go_wp2_with ((refine Mem.storeAll 1 (t := 114) rfl rfl rfl rfl (n := 5) (by kernel_rfl) (Mem.alloc' HM.out _ _ rfl) rfl rfl rfl rfl ?_; intro W2 HMm CW2))
  simp only [K0, K1, L1, L2, K2, K3, K4, K5, K6, K7, Nat.reduceAdd, Nat.reduceSub] at HMm
  replace HM := Lib.hid HMm
  clear HMm
  refine Stay.go ?_
  go_wp2_with fail
  have B0 := Lib.hid (HM.out.blk (i := 0) rfl)
  have B1 := Lib.hid (HM.out.blk (i := 1) rfl)
  have hne : wn1.heap.size ≠ w.heap.size := by omega
  have CE : (Tryz.prog.info? 45).map (·.size) = some 4 := by kernel_rfl
  have T2 := Lib.hid (HTS.out.later HM.out.below)
  have KC := Lib.hid (fun (w' : World) (h : Chg (fun k => k = w.heap.size) W2 w') => (⟨evd (B1.out.chg h hne) (i := 4) rfl, (B1.out.chg h hne).lt, trivial⟩ : w'.cell? ⟨wn1.heap.size, 4, none⟩ = some (.int .i64 (v : Int)) ∧ wn1.heap.size < w'.heap.size ∧ True))
  refine Evo2.start' (ℓ := none) (S := Chg (fun k => k = w.heap.size)) (E := Grow.G) (by kernel_rfl) ⟨Chg.pre _, by decide +kernel, (by intro c a d v w h; cases d <;> exact h), by decide +kernel⟩ (fun ok => ?_)
  refine Evo2.va ok 0 _ _ ?_
  first | (refine Evo2.val ok 1 ?_ ?_ ?_; rotate_left; (focus (intro w' hg; refine Box.exec_load (off := 0) ?_ Tryz.underlying45 CE (B1.out.chg (Chg.trans (Chg.refl (fun k => k = w.heap.size) _) hg) hne) rfl rfl; (all_goals (first | exact ⟨rfl, rfl⟩ | rfl)))); simp only [Act.put, L0, L1, L2]) | (refine Evo2.vl ok 1 KC.out (Chg.refl (fun k => k = w.heap.size) _) _ _ ?_) | (refine Evo2.va ok 1 _ _ ?_)
  refine Evo2.va ok 3 _ _ ?_
  first | (refine Evo2.val ok 4 ?_ ?_ ?_; rotate_left; (focus (intro w' hg; refine Box.exec_load (off := 0) ?_ Tryz.underlying45 CE (B1.out.chg (Chg.trans (Chg.refl (fun k => k = w.heap.size) _) hg) hne) rfl rfl; (all_goals (first | exact ⟨rfl, rfl⟩ | rfl)))); simp only [Act.put, L0, L1, L2]) | (refine Evo2.vl ok 4 KC.out (Chg.refl (fun k => k = w.heap.size) _) _ _ ?_) | (refine Evo2.va ok 4 _ _ ?_)
  refine Evo2.all [2] (by decide +kernel) rfl ?_
  intro wp1 gp1 iq hq
  simp only [List.mem_cons, List.mem_nil_iff, or_false] at hq
  have AP1 := Chg.trans (Chg.refl (fun k => k = w.heap.size) _) (Chg.grow gp1)
  subst hq
  refine Evo2.enters 30 _ (by rfl) (by rfl) (by go_simp; exact ⟨rfl, rfl⟩) ?_
  refine (OR.out _ (T2.out.later gp1)).mono ?_
  rintro e wc1 ⟨tb, tc, rfl, O9, g9⟩; have CH1 := Chg.grow (G := fun k => k = w.heap.size) g9
  refine ⟨_, rfl, .inr CH1, ?_⟩
  have AC1 := Chg.trans AP1 CH1
  simp only [Act.put, L0, L1, L2]
  refine Evo2.all [5] (by decide +kernel) rfl ?_
  intro wp2 gp2 iq hq
  simp only [List.mem_cons, List.mem_nil_iff, or_false] at hq
  have AP2 := Chg.trans AC1 (Chg.grow gp2)
  subst hq
  refine upStoreAll (by rfl) (by rfl) rfl rfl rfl (n := 4) (by kernel_rfl) (B0.out.grow ((gp1.trans g9).trans gp2)) rfl rfl rfl ?_
  intro wc2 BW CW2
  have CH2 : Chg (fun k => k = w.heap.size) _ _ := CW2.mono (fun j _ e => e)
  refine ⟨.inr CH2, ?_⟩
  simp only [Act.put, L0, L1, L2]
  refine Evo2.va ok 6 _ _ ?_
  refine Evo2.va ok 7 _ _ ?_
  refine Evo2.done (by decide +kernel) (fun wz gz => ?_)
  have AZ := Chg.trans (Chg.trans AP2 CH2) (Chg.grow gz)
  have BF := BW.grow gz
  rename World => W4
  have HG := Lib.hid (HM.out.below.trans (AZ.below (B := w.heap.size) HM.out.size (fun k hk e => by have e : k = w.heap.size := e; omega)))
  have OF : Hid (OwnTs W4 w.heap.size (.slice (some ⟨tb, 0, none⟩) ts.length tc) ts) := Lib.hid (by
    have hb := own_tgts O9
    have s1 := gp1.size
    have s2 := HM.out.size
    have s3 := B0.out.lt
    exact own_base (own_later (CW2.own (own_later O9 gp2) (fun k hk e => by cases hk; have e : tb = w.heap.size := e; omega)) gz) (by omega))
  clear AZ gz BW
  go_wp2_with fail
  refine bodyPost_ret (v := .tuple #[.agg #[.string rn, .string rc, .slice (some ⟨tb, 0, none⟩) ts.length tc, .int .i64 rl], .int .i64 v, .bool true]) (by simp [results, Tryz.results35, go_sem, BF.cell]) rfl ?_
  exact ⟨tb, tc, rfl, OF.out, HG.out⟩

def rowV (g : Nat) (k : Int) : Value := if k = 1 then .iface 75 (.pointer (some ⟨g, 1, none⟩)) else if k = 2 then .iface 89 (.pointer (some ⟨g, 2, none⟩)) else .nilIface
set_option maxHeartbeats 1000000 in
theorem rowOf_any (g : Nat) (k : Int) (w : World) :
    Calls Tryz.prog 33 #[pt g, .int .i64 k] w fun e w' => e = .returned (.tuple #[rowV g k, .bool (decide (k = 1 ∨ k = 2))]) ∧ w = w' := by
  by_cases h1 : k = 1
  · subst h1
    go_enter Tryz.func33, Tryz.ntmps33
    go_wp2_with fail
    go_returns
    exact ⟨rfl, rfl⟩
  · by_cases h2 : k = 2
    · subst h2
      go_enter Tryz.func33, Tryz.ntmps33
      go_wp2_with fail
      go_returns
      exact ⟨rfl, rfl⟩
    · have e1 : (k == 1) = false := by simpa using h1
      have e2 : (k == 2) = false := by simpa using h2
      have hr : Hid (rowV g k = .nilIface) := Lib.hid (by unfold rowV; rw [if_neg h1, if_neg h2])
      have hd : Hid (decide (k = 1 ∨ k = 2) = false) := Lib.hid (by simp [h1, h2])
      clear h1 h2
      go_enter Tryz.func33, Tryz.ntmps33
      go_wp2_with fail
      go_returns
      rw [hr.out, hd.out]
      exact ⟨rfl, rfl⟩
theorem rowOf_C (g : Nat) (w : World) : Calls Tryz.prog 33 #[pt g, .int .i64 1] w fun e w' => e = .returned (.tuple #[.iface 75 (.pointer (some ⟨g, 1, none⟩)), .bool true]) ∧ w = w' := rowOf_any g 1 w
theorem rowOf_R (g : Nat) (w : World) : Calls Tryz.prog 33 #[pt g, .int .i64 2] w fun e w' => e = .returned (.tuple #[.iface 89 (.pointer (some ⟨g, 2, none⟩)), .bool true]) ∧ w = w' := rowOf_any g 2 w
theorem rowOf_no (g : Nat) (k : Int) (w : World) (h1 : k ≠ 1) (h2 : k ≠ 2) : Calls Tryz.prog 33 #[pt g, .int .i64 k] w fun e w' => e = .returned (.tuple #[.nilIface, .bool false]) ∧ w = w' := by
  have h := rowOf_any g k w
  unfold rowV at h
  rw [if_neg h1, if_neg h2, decide_eq_false (fun e => e.elim h1 h2)] at h
  exact h
section
variable {w w2 : World} {g : Nat} {F : Nat → Prop} {s : Sh} {mc mr mg : Option Nat} {fr : ByteArray → Option ObR} {nm : ByteArray}
theorem objC_cut (s : Sh) (nm : ByteArray) : upd (objC s) nm none = objC (s.cut 1 nm) := by
  funext x
  unfold objC Sh.cut upd
  rw [if_pos rfl]
  dsimp only
  split <;> rfl
theorem ShIn.cutC (h : ShIn w g F s mc mr mg fr) (B2 : Blk w2 g (shC (s.n + 1) mc mr mg).toArray shT) (C2 : Chg (fun j => j = g ∨ some j = mc) w w2) (M2 : MapS w2 mc s.n (fC (upd (objC s) nm none))) : ShAt w2 g F (s.cut 1 nm) ∧ Chg F w w2 := by
  have hs2 := C2.size
  have C : Chg F w w2 := C2.mono fun j hj e => by
    rcases e with rfl | e
    · exact h.fg
    · exact h.fc j e.symm
  refine ⟨⟨mc, mr, mg, fr, B2, ?_, (h.hr.chg C2 ?_).mono (Nat.le_succ _), (h.hg.chg C2 ?_).mono (Nat.le_succ _), h.ht.chg C2 (fun k hk => hk) ?_, h.fg, h.fc, h.fr, h.fG, h.d1, h.d2, h.d3, fun k hk => Nat.lt_of_lt_of_le (h.lt k hk) hs2, Sh.ok_cut h.ok 1 nm⟩, C⟩
  · rw [objC_cut] at M2; exact M2.mono (Nat.le_succ _)
  · intro x e q
    rcases q with rfl | q
    · have hm := h.hr; rw [e] at hm; exact MapB.ne hm h.hb rfl
    · exact h.d1 x q.symm e
  · intro x e q
    rcases q with rfl | q
    · have hm := h.hg; rw [e] at hm; exact MapB.ne hm h.hb rfl
    · exact h.d2 x q.symm e
  · intro x h3 h4 h5 h6 h7
    exact ⟨fun q => by rcases q with q | q; exact h4 q; exact h5 q.symm, h5, h6, h7⟩
theorem ShIn.cutR (h : ShIn w g F s mc mr mg fr) (B2 : Blk w2 g (shC (s.n + 1) mc mr mg).toArray shT) (C2 : Chg (fun j => j = g ∨ some j = mr) w w2) (M2 : MapS w2 mr s.n (_root_.Go.Proofs.YtlnffdkaleapbaaGreat.fR (upd fr nm none))) : ShAt w2 g F (s.cut 2 nm) ∧ Chg F w w2 := by
  have hs2 := C2.size
  have C : Chg F w w2 := C2.mono fun j hj e => by
    rcases e with rfl | e
    · exact h.fg
    · exact h.fr j e.symm
  refine ⟨⟨mc, mr, mg, upd fr nm none, B2, (h.hc.chg C2 ?_).mono (Nat.le_succ _), M2.mono (Nat.le_succ _), (h.hg.chg C2 ?_).mono (Nat.le_succ _), ?_, h.fg, h.fc, h.fr, h.fG, h.d1, h.d2, h.d3, fun k hk => Nat.lt_of_lt_of_le (h.lt k hk) hs2, Sh.ok_cut h.ok 2 nm⟩, C⟩
  · intro x e q
    rcases q with rfl | q
    · have hm := h.hc; rw [e] at hm; exact MapB.ne hm h.hb rfl
    · exact h.d1 x e q.symm
  · intro x e q
    rcases q with rfl | q
    · have hm := h.hg; rw [e] at hm; exact MapB.ne hm h.hb rfl
    · exact h.d3 x q.symm e
  · intro x
    by_cases e : x = nm
    · subst e
      exact .inl ⟨upd_at _ _ _, upd_at _ _ _⟩
    · have hx := h.ht.chg (mc' := mc) (mr' := mr) (mg' := mg) (F' := F) C2 (fun k hk => hk) (fun y h3 h4 h5 h6 h7 => ⟨fun q => by rcases q with q | q; exact h4 q; exact h6 q.symm, h5, h6, h7⟩) x
      show (upd s.rt nm _ x = none ∧ upd fr nm _ x = none) ∨ ∃ r' v b' cap', upd s.rt nm _ x = some (r', v) ∧ upd fr nm _ x = some _ ∧ _
      rw [upd_ne _ _ e, upd_ne _ _ e]
      exact hx
end
set_option maxHeartbeats 2000000 in
theorem sdropC (g : Nat) (F : Nat → Prop) (s : Sh) (nm : ByteArray) (v : Int) (w : World) (hS : ShAt w g F s) (hs : nm.size ≤ maxLen) (hn : s.n < 1099511627776) :
    Calls Tryz.prog 14 #[pt g, .int .i64 1, .string nm, .int .i64 v] w fun e w' => e = .returned (.int .i64 (s.drop 1 nm v)) ∧ ShEnd w w' g F (s.aftD 1 nm v) := by
  have HS := Lib.hid hS
  obtain ⟨mc, mr, mg, fr, hI⟩ := hS
  have RO := Lib.hid (rowOf_C g w)
  obtain ⟨er, her⟩ : ∃ er, s.drop 1 nm v = er := ⟨_, rfl⟩
  have hev : heldP ((objC s nm).map ObC.v) v = er := by rw [objC_v, ← her]; rfl
  have hA : Hid (s.aftD 1 nm v = if er = 0 then s.cut 1 nm else s) := Lib.hid (by unfold Sh.aftD; rw [her])
  rw [her]
  by_cases h0 : er = 0
  · subst h0
    have DY := Lib.hid (dropC_yes g mc s.n (objC s) nm v w (evd hI.hb (i := 1) rfl) hI.hb.lt hI.hc hs hev)
    have HI := Lib.hid hI
    have hwr : IntKind.i64.wrap ((s.n : Int) + 1) = (s.n : Int) + 1 := IntWalk.i64_in _ ⟨by omega, by omega⟩
    clear hI her hev
    go_enter Tryz.func14, Tryz.ntmps14
    go_wp2_with fail
    refine RO.out.mono ?_
    rintro e w1 ⟨rfl, rfl⟩
    go_wp2_with fail
    refine DY.out.mono ?_
    rintro e w2 ⟨rfl, M2, C2⟩
    have hmg : ¬ some g = mc := fun e => by
      have hm := HI.out.hc
      rw [← e] at hm
      exact MapB.ne hm HI.out.hb rfl
    have B2 := HI.out.hb.chg C2 hmg
    have q0 : w2.cell? ⟨g, 0, none⟩ = some (.int .i64 (s.n : Int)) := evd B2 (i := 0) rfl
    have f0 := B2.free 0
    have l2 := B2.lt
    have M2 := Lib.hid M2
    have C2 := Lib.hid C2
    have B2 := Lib.hid B2
    go_wp2_with fail
    have B3 := Lib.hid (B2.out.set 0 (.int .i64 ((s.n : Int) + 1)))
    have C3 := Lib.hid (Chg.setCell (G := fun j => j = g) (Chg.refl _ w2) (fun _ => rfl) 0 (.int .i64 ((s.n : Int) + 1)))
    go_returns
    refine ⟨rfl, ?_⟩
    rw [hA.out]
    first | rw [if_pos rfl] | rw [if_pos trivial]
    have C4 : Chg (fun j => j = g ∨ some j = mc) w (w2.setCell ⟨g, 0, none⟩ (.int .i64 ((s.n : Int) + 1))) := (C2.out.mono fun j _ e => .inr e).trans (C3.out.mono fun j _ e => .inl e)
    obtain ⟨h1, h2⟩ := HI.out.cutC (nm := nm) B3.out C4 (M2.out.chg C3.out fun b e q => by have q : b = g := q; subst q; exact hmg e.symm)
    exact ⟨F, h1, h2, Fresh.refl _ _⟩
  · have DN := Lib.hid (dropC_no g mc s.n (objC s) nm v w (evd hI.hb (i := 1) rfl) hI.hb.lt hI.hc hs er hev h0)
    have hne : (er == 0) = false := by simpa using h0
    clear hI her hev
    go_enter Tryz.func14, Tryz.ntmps14
    go_wp2_with fail
    refine RO.out.mono ?_
    rintro e w1 ⟨rfl, rfl⟩
    go_wp2_with fail
    refine DN.out.mono ?_
    rintro e w2 ⟨rfl, hb2⟩
    have HG := Lib.hid hb2
    clear hb2
    go_wp2_with fail
    go_returns
    refine ⟨rfl, ?_⟩
    rw [hA.out, if_neg h0]
    exact ShEnd.same HS.out HG.out
set_option maxHeartbeats 2000000 in
theorem sdropR (g : Nat) (F : Nat → Prop) (s : Sh) (nm : ByteArray) (v : Int) (w : World) (hS : ShAt w g F s) (hs : nm.size ≤ maxLen) (hn : s.n < 1099511627776) :
    Calls Tryz.prog 14 #[pt g, .int .i64 2, .string nm, .int .i64 v] w fun e w' => e = .returned (.int .i64 (s.drop 2 nm v)) ∧ ShEnd w w' g F (s.aftD 2 nm v) := by
  have HS := Lib.hid hS
  obtain ⟨mc, mr, mg, fr, hI⟩ := hS
  have RO := Lib.hid (rowOf_R g w)
  obtain ⟨er, her⟩ : ∃ er, s.drop 2 nm v = er := ⟨_, rfl⟩
  have hev : heldP ((fr nm).map ObR.v) v = er := by rw [hI.ver, ← her]; rfl
  have hA : Hid (s.aftD 2 nm v = if er = 0 then s.cut 2 nm else s) := Lib.hid (by unfold Sh.aftD; rw [her])
  rw [her]
  by_cases h0 : er = 0
  · subst h0
    have DY := Lib.hid (dropR_yes g mr s.n (fr) nm v w (evd hI.hb (i := 2) rfl) hI.hb.lt hI.hr hs hev)
    have HI := Lib.hid hI
    have hwr : IntKind.i64.wrap ((s.n : Int) + 1) = (s.n : Int) + 1 := IntWalk.i64_in _ ⟨by omega, by omega⟩
    clear hI her hev
    go_enter Tryz.func14, Tryz.ntmps14
    go_wp2_with fail
    refine RO.out.mono ?_
    rintro e w1 ⟨rfl, rfl⟩
    go_wp2_with fail
    refine DY.out.mono ?_
    rintro e w2 ⟨rfl, M2, C2⟩
    have hmg : ¬ some g = mr := fun e => by
      have hm := HI.out.hr
      rw [← e] at hm
      exact MapB.ne hm HI.out.hb rfl
    have B2 := HI.out.hb.chg C2 hmg
    have q0 : w2.cell? ⟨g, 0, none⟩ = some (.int .i64 (s.n : Int)) := evd B2 (i := 0) rfl
    have f0 := B2.free 0
    have l2 := B2.lt
    have M2 := Lib.hid M2
    have C2 := Lib.hid C2
    have B2 := Lib.hid B2
    go_wp2_with fail
    have B3 := Lib.hid (B2.out.set 0 (.int .i64 ((s.n : Int) + 1)))
    have C3 := Lib.hid (Chg.setCell (G := fun j => j = g) (Chg.refl _ w2) (fun _ => rfl) 0 (.int .i64 ((s.n : Int) + 1)))
    go_returns
    refine ⟨rfl, ?_⟩
    rw [hA.out]
    first | rw [if_pos rfl] | rw [if_pos trivial]
    have C4 : Chg (fun j => j = g ∨ some j = mr) w (w2.setCell ⟨g, 0, none⟩ (.int .i64 ((s.n : Int) + 1))) := (C2.out.mono fun j _ e => .inr e).trans (C3.out.mono fun j _ e => .inl e)
    obtain ⟨h1, h2⟩ := HI.out.cutR (nm := nm) B3.out C4 (M2.out.chg C3.out fun b e q => by have q : b = g := q; subst q; exact hmg e.symm)
    exact ⟨F, h1, h2, Fresh.refl _ _⟩
  · have DN := Lib.hid (dropR_no g mr s.n (fr) nm v w (evd hI.hb (i := 2) rfl) hI.hb.lt hI.hr hs er hev h0)
    have hne : (er == 0) = false := by simpa using h0
    clear hI her hev
    go_enter Tryz.func14, Tryz.ntmps14
    go_wp2_with fail
    refine RO.out.mono ?_
    rintro e w1 ⟨rfl, rfl⟩
    go_wp2_with fail
    refine DN.out.mono ?_
    rintro e w2 ⟨rfl, hb2⟩
    have HG := Lib.hid hb2
    clear hb2
    go_wp2_with fail
    go_returns
    refine ⟨rfl, ?_⟩
    rw [hA.out, if_neg h0]
    exact ShEnd.same HS.out HG.out
set_option maxHeartbeats 1000000 in
theorem sdrop_no (g : Nat) (F : Nat → Prop) (s : Sh) (k : Int) (nm : ByteArray) (v : Int) (w : World) (hS : ShAt w g F s) (h1 : k ≠ 1) (h2 : k ≠ 2) :
    Calls Tryz.prog 14 #[pt g, .int .i64 k, .string nm, .int .i64 v] w fun e w' => e = .returned (.int .i64 (s.drop k nm v)) ∧ ShEnd w w' g F (s.aftD k nm v) := by
  have HS := Lib.hid hS
  have RO := Lib.hid (rowOf_no g k w h1 h2)
  have hd : s.drop k nm v = 12 := by unfold Sh.drop; rw [if_neg (fun e => e.elim h1 h2)]
  have hA : s.aftD k nm v = s := by unfold Sh.aftD; rw [hd]; rfl
  rw [hd, hA]
  clear h1 h2 hd hA hS
  go_enter Tryz.func14, Tryz.ntmps14
  go_wp2_with fail
  refine RO.out.mono ?_
  rintro e w1 ⟨rfl, rfl⟩
  go_wp2_with fail
  go_returns
  exact ⟨rfl, ShEnd.same HS.out (Grow.G.refl _)⟩
theorem sdrop_any (g : Nat) (F : Nat → Prop) (s : Sh) (k : Int) (nm : ByteArray) (v : Int) (w : World) (hS : ShAt w g F s) (hs : nm.size ≤ maxLen) (hn : s.n < 1099511627776) :
    Calls Tryz.prog 14 #[pt g, .int .i64 k, .string nm, .int .i64 v] w fun e w' => e = .returned (.int .i64 (s.drop k nm v)) ∧ ShEnd w w' g F (s.aftD k nm v) := by
  by_cases h1 : k = 1
  · subst h1; exact sdropC g F s nm v w hS hs hn
  · by_cases h2 : k = 2
    · subst h2; exact sdropR g F s nm v w hS hs hn
    · exact sdrop_no g F s k nm v w hS h1 h2
end Go.Proofs.YtlnffdkaleapbaaGreat
