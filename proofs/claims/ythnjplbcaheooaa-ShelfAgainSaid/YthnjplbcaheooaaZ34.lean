/- My own texts ShDrop, ShGet, laid in one file. -/
import Derived.Test.YthnjplbcaheooaaZ33

/- shelf's Drop. -/
namespace Go.Proofs.Ythnjplbcaheooaa
set_option maxRecDepth 100000
set_option linter.unusedVariables false
set_option linter.unusedSimpArgs false
set_option linter.unnecessarySimpa false
open Go.RowKit Go.MapV Go.Maps

def rowV (g : Nat) (k : Int) : Value := if k = 1 then .iface 82 (.pointer (some ⟨g, 1, none⟩)) else if k = 2 then .iface 92 (.pointer (some ⟨g, 2, none⟩)) else .nilIface
set_option maxHeartbeats 1000000 in
theorem rowOf_any (g : Nat) (k : Int) (w : World) :
    Calls Try.prog 30 #[pt g, .int .i64 k] w fun e w' => e = .returned (.tuple #[rowV g k, .bool (decide (k = 1 ∨ k = 2))]) ∧ w = w' := by
  by_cases h1 : k = 1
  · subst h1
    go_enter Try.func30, Try.ntmps30
    go_wp2_with fail
    go_returns
    exact ⟨rfl, rfl⟩
  · by_cases h2 : k = 2
    · subst h2
      go_enter Try.func30, Try.ntmps30
      go_wp2_with fail
      go_returns
      exact ⟨rfl, rfl⟩
    · have e1 : (k == 1) = false := by simpa using h1
      have e2 : (k == 2) = false := by simpa using h2
      have hr : Hid (rowV g k = .nilIface) := Lib.hid (by unfold rowV; rw [if_neg h1, if_neg h2])
      have hd : Hid (decide (k = 1 ∨ k = 2) = false) := Lib.hid (by simp [h1, h2])
      clear h1 h2
      go_enter Try.func30, Try.ntmps30
      go_wp2_with fail
      go_returns
      rw [hr.out, hd.out]
      exact ⟨rfl, rfl⟩
theorem rowOf_C (g : Nat) (w : World) : Calls Try.prog 30 #[pt g, .int .i64 1] w fun e w' => e = .returned (.tuple #[.iface 82 (.pointer (some ⟨g, 1, none⟩)), .bool true]) ∧ w = w' := rowOf_any g 1 w
theorem rowOf_R (g : Nat) (w : World) : Calls Try.prog 30 #[pt g, .int .i64 2] w fun e w' => e = .returned (.tuple #[.iface 92 (.pointer (some ⟨g, 2, none⟩)), .bool true]) ∧ w = w' := rowOf_any g 2 w
theorem rowOf_no (g : Nat) (k : Int) (w : World) (h1 : k ≠ 1) (h2 : k ≠ 2) : Calls Try.prog 30 #[pt g, .int .i64 k] w fun e w' => e = .returned (.tuple #[.nilIface, .bool false]) ∧ w = w' := by
  have h := rowOf_any g k w
  unfold rowV at h
  rw [if_neg h1, if_neg h2, decide_eq_false (fun e => e.elim h1 h2)] at h
  exact h
section
variable {w w2 : World} {g : Nat} {F : Nat → Prop} {s : Sh} {mc mr mg : Option Nat} {fr : ByteArray → Option ObR} {nm : ByteArray}
end

def cfgZ : Cfg := ⟨⟨#[]⟩, 0, 0, 0, 0, 0⟩
/-- What Config tells. -/
def Sh.cfgOf (s : Sh) (nm : ByteArray) : Cfg × Int × Int × Bool := match s.cf nm with
  | none => (cfgZ, 0, 0, false)
  | some (c, v) => (c, v, s.gn nm, true)
set_option maxHeartbeats 4000000 in
theorem scfg_any (g : Nat) (F : Nat → Prop) (s : Sh) (nm : ByteArray) (w : World) (hS : ShAt w g F s) (hs : nm.size ≤ maxLen) :
    Calls Try.prog 15 #[pt g, .string nm] w fun e w' => e = .returned (.tuple #[(s.cfgOf nm).1.v, .int .i64 (s.cfgOf nm).2.1, .int .i64 (s.cfgOf nm).2.2.1, .bool (s.cfgOf nm).2.2.2]) ∧ Grow.G w w' := by
  obtain ⟨mc, mr, mg, fr, hI⟩ := hS
  have HI := Lib.hid hI
  have GV := Lib.hid (fun (w' : World) (h : Grow.G w w') => getC_any g 1 mc s.n (objC s) nm w' (evd (hI.grow h).hb (i := 1) rfl) (hI.grow h).hb.lt (hI.grow h).hc hs)
  have hgl := hI.hb.lt
  unfold Sh.cfgOf
  cases hf : s.cf nm with
  | none =>
    have ho : objC s nm = none := by unfold objC; rw [hf]; rfl
    rw [ho] at GV
    simp only [Option.map_none, Option.getD_none, Option.isSome_none] at GV
    clear hI hf ho
    dsimp only
    unfold Cfg.v cfgZ
    dsimp only
    go_enter Try.func15, Try.ntmps15
    go_wp2_with fail
    refine (GV.out _ (Grow.G.alloc (Grow.G.refl _) _)).mono ?_
    rintro e wn1 ⟨rfl, hb1⟩
    have HM1 := ((Mem.nil w).alloc' [.string ⟨#[]⟩, .int .i64 0, .int .i64 0, .int .i64 0, .int .i64 0, .int .i64 0] 23 rfl).grow hb1
    simp only [K0, K1, L1, L2, K2, K3, K4, K5, K6, K7, Nat.reduceAdd, Nat.reduceSub] at HM1
    have HM := Lib.hid HM1
    clear HM1 hb1
    go_wp2_with ((refine Mem.storeAll 1 (t := 78) rfl rfl rfl rfl (n := 7) (by kernel_rfl) (Mem.alloc' HM.out _ _ rfl) rfl rfl rfl rfl ?_; intro W2 HMm CW2))
    simp only [K0, K1, L1, L2, K2, K3, K4, K5, K6, K7, Nat.reduceAdd, Nat.reduceSub] at HMm
    replace HM := Lib.hid HMm
    clear HMm
    refine Stay.go ?_
    go_wp2_with ((refine Mem.storeAll 0 (t := 23) rfl rfl rfl rfl (n := 6) (by kernel_rfl) HM.out rfl rfl rfl rfl ?_; intro W3 HMm CW3))
    simp only [K0, K1, L1, L2, K2, K3, K4, K5, K6, K7, Nat.reduceAdd, Nat.reduceSub] at HMm
    replace HM := Lib.hid HMm
    clear HMm
    refine Stay.go ?_
    have BF := HM.out.blk (i := 0) rfl
    go_wp2_with fail
    refine bodyPost_ret (v := .tuple #[.agg #[.string ⟨#[]⟩, .int .i64 0, .int .i64 0, .int .i64 0, .int .i64 0, .int .i64 0], .int .i64 0, .int .i64 0, .bool false]) (by simp [results, Try.results15, go_sem, BF.cell]) rfl ?_
    exact ⟨rfl, HM.out.below⟩
  | some p =>
    obtain ⟨c, v⟩ := p
    have ho : objC s nm = some ⟨c, v⟩ := by unfold objC; rw [hf]; rfl
    rw [ho] at GV
    simp only [Option.map_some, Option.getD_some, Option.isSome_some] at GV
    unfold ObC.val at GV
    have hok := hI.ok.c nm c v hf
    have hsz := cfg_small hok.2.1
    have OC := Lib.hid (fun w => ownC_any c w (by omega))
    have HV := Lib.hid (g_at s.gn nm)
    clear hI hf ho hok hsz
    obtain ⟨cn, im, co, mn, mx, gr⟩ := c
    unfold Cfg.v at *
    dsimp only at *
    go_enter Try.func15, Try.ntmps15
    go_wp2_with fail
    refine (GV.out _ (Grow.G.alloc (Grow.G.refl _) _)).mono ?_
    rintro e wn1 ⟨rfl, hb1⟩
    have HM1 := ((Mem.nil w).alloc' [.string ⟨#[]⟩, .int .i64 0, .int .i64 0, .int .i64 0, .int .i64 0, .int .i64 0] 23 rfl).grow hb1
    simp only [K0, K1, L1, L2, K2, K3, K4, K5, K6, K7, Nat.reduceAdd, Nat.reduceSub] at HM1
    have HM := Lib.hid HM1
    clear HM1 hb1
    have hlt0 := HM.out.lt (i := 0) rfl
    go_wp2_with ((refine Mem.storeAll 1 (t := 78) rfl rfl rfl rfl (n := 7) (by kernel_rfl) (Mem.alloc' HM.out _ _ rfl) rfl rfl rfl rfl ?_; intro W2 HMm CW2))
    simp only [K0, K1, L1, L2, K2, K3, K4, K5, K6, K7, Nat.reduceAdd, Nat.reduceSub] at HMm
    replace HM := Lib.hid HMm
    clear HMm
    refine Stay.go ?_
    go_wp2_with fail
    have B0 := Lib.hid (HM.out.blk (i := 0) rfl)
    have B1 := Lib.hid (HM.out.blk (i := 1) rfl)
    have hne : wn1.heap.size ≠ w.heap.size := by omega
    have CE : (Try.prog.info? 23).map (·.size) = some 6 := by kernel_rfl
    have I2 := Lib.hid (HI.out.grow HM.out.below)
    have hgn : ¬ g = w.heap.size := by omega
    have hmn : ∀ b, mg = some b → ¬ b = w.heap.size := fun b e => by have := HI.out.lt _ (HI.out.fG b e); omega
    have KC := Lib.hid (fun (w' : World) (h : Chg (fun k => k = w.heap.size) W2 w') => (⟨evd (B1.out.chg h hne) (i := 6) rfl, evd (I2.out.hb.chg h hgn) (i := 3) rfl, (B1.out.chg h hne).lt, (I2.out.hb.chg h hgn).lt, trivial⟩ : w'.cell? ⟨wn1.heap.size, 6, none⟩ = some (.int .i64 (v : Int)) ∧ w'.cell? ⟨g, 3, none⟩ = some (.map mg) ∧ wn1.heap.size < w'.heap.size ∧ g < w'.heap.size ∧ True))
    refine Evo2.start' (ℓ := none) (S := Chg (fun k => k = w.heap.size)) (E := Grow.G) (by kernel_rfl) ⟨Chg.pre _, by decide +kernel, (by intro c a d v w h; cases d <;> exact h), by decide +kernel⟩ (fun ok => ?_)
    refine Evo2.va ok 0 _ _ ?_
    first | (refine Evo2.val ok 1 ?_ ?_ ?_; rotate_left; (focus (intro w' hg; refine Box.exec_load (off := 0) ?_ Try.underlying23 CE (B1.out.chg (Chg.trans (Chg.refl (fun k => k = w.heap.size) _) hg) hne) rfl rfl; (all_goals (first | exact ⟨rfl, rfl⟩ | rfl)))); simp only [Act.put, L0, L1, L2]) | (refine Evo2.vl ok 1 KC.out (Chg.refl (fun k => k = w.heap.size) _) _ _ ?_) | (refine Evo2.va ok 1 _ _ ?_)
    (refine Evo2.cal ok 2 ?_ 26 ?_ ?_ ?_ ?_; rotate_left 2; (focus (intro w'; go_simp <;> with_reducible rfl)); (focus (intro w' g'; with_reducible exact OC.out _)); simp only [Act.put, L0, L1, L2])
    refine Evo2.va ok 3 _ _ ?_
    first | (refine Evo2.val ok 4 ?_ ?_ ?_; rotate_left; (focus (intro w' hg; refine Box.exec_load (off := 0) ?_ Try.underlying23 CE (B1.out.chg (Chg.trans (Chg.refl (fun k => k = w.heap.size) _) hg) hne) rfl rfl; (all_goals (first | exact ⟨rfl, rfl⟩ | rfl)))); simp only [Act.put, L0, L1, L2]) | (refine Evo2.vl ok 4 KC.out (Chg.refl (fun k => k = w.heap.size) _) _ _ ?_) | (refine Evo2.va ok 4 _ _ ?_)
    refine Evo2.va ok 5 _ _ ?_
    refine Evo2.va ok 6 _ _ ?_
    refine Evo2.va ok 7 _ _ ?_
    first | (refine Evo2.val ok 8 ?_ ?_ ?_; rotate_left; (focus (intro w' hg; refine Box.exec_load (off := 0) ?_ Try.underlying23 CE (B1.out.chg (Chg.trans (Chg.refl (fun k => k = w.heap.size) _) hg) hne) rfl rfl; (all_goals (first | exact ⟨rfl, rfl⟩ | rfl)))); simp only [Act.put, L0, L1, L2]) | (refine Evo2.vl ok 8 KC.out (Chg.refl (fun k => k = w.heap.size) _) _ _ ?_) | (refine Evo2.va ok 8 _ _ ?_)
    refine Evo2.va ok 9 _ _ ?_
    first | (refine Evo2.val ok 10 ?_ ?_ ?_; rotate_left; (focus (intro w' hg; refine exec_look1v (.int .i64 (s.gn nm)) (.string nm) ?_ keyedS Try.underlying72 zeroI (I2.out.hg.chg (Chg.trans (Chg.refl (fun k => k = w.heap.size) _) hg) hmn) (keyS Try.underlying9 hs) HV.out; (all_goals exact ⟨rfl, rfl, rfl, rfl⟩))); simp only [Act.put, L0, L1, L2]) | (refine Evo2.va ok 10 _ _ ?_)
    refine Evo2.all [11] (by decide +kernel) rfl ?_
    intro wp1 gp1 iq hq
    simp only [List.mem_cons, List.mem_nil_iff, or_false] at hq
    have AP1 := Chg.trans (Chg.refl (fun k => k = w.heap.size) _) (Chg.grow gp1)
    subst hq
    refine upStoreAll (by rfl) (by rfl) rfl rfl rfl (n := 6) (by kernel_rfl) (B0.out.grow gp1) rfl rfl rfl ?_
    intro wc1 BW CW1
    have CH1 : Chg (fun k => k = w.heap.size) _ _ := CW1.mono (fun j _ e => e)
    refine ⟨.inr CH1, ?_⟩
    simp only [Act.put, L0, L1, L2]
    refine Evo2.va ok 12 _ _ ?_
    refine Evo2.va ok 13 _ _ ?_
    refine Evo2.va ok 14 _ _ ?_
    refine Evo2.done (by decide +kernel) (fun wz gz => ?_)
    have AZ := Chg.trans (Chg.trans AP1 CH1) (Chg.grow gz)
    have BF := BW.grow gz
    rename World => W4
    have HG := Lib.hid (HM.out.below.trans (AZ.below (B := w.heap.size) HM.out.size (fun k hk e => by have e : k = w.heap.size := e; omega)))
    clear AZ gz BW
    go_wp2_with fail
    refine bodyPost_ret (v := .tuple #[.agg #[.string cn, .int .i64 im, .int .i64 co, .int .i64 mn, .int .i64 mx, .int .i64 gr], .int .i64 v, .int .i64 (s.gn nm), .bool true]) (by simp [results, Try.results15, go_sem, BF.cell]) rfl ?_
    exact ⟨rfl, HG.out⟩
end Go.Proofs.Ythnjplbcaheooaa
