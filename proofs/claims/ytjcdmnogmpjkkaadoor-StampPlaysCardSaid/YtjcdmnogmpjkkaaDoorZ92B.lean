/- My own texts BpAM, BpAU, BpB, laid in one file. -/
import Derived.Test.YtjcdmnogmpjkkaaDoorZ92A
import Derived.Test.YtjcdmnogmpjkkaaDoorZ29
import Derived.Test.YtjcdmnogmpjkkaaDoorZ1
import Derived.Handy

/- The program's ledgers: added to (damper/api.Config). -/
namespace Go.Proofs.YtjcdmnogmpjkkaaDoor
set_option maxRecDepth 100000
set_option linter.unusedVariables false
set_option linter.unusedSimpArgs false
set_option linter.unnecessarySimpa false
open Go.RowKit Go.MapV Go.Maps

/-- What a ledger is behind an addition. -/
def AddM (w w' : World) (g n nt : Nat) (x2 x3 : Value) (ma mt : Option Nat) (f' h' : Lit → Option Value) : Prop :=
  ∃ a t, Blk w' g [.map (some a), .map (some t), x2, x3].toArray bookT ∧ MapB Tryd.prog markT w' a (n + 1) f' ∧ MapB Tryd.prog 9 w' t (nt + 1) h' ∧ a ≠ t ∧ Chg (fun j => j = g ∨ ma = some j ∨ mt = some j) w w' ∧ (ma = some a ∨ w.heap.size ≤ a) ∧ (mt = some t ∨ w.heap.size ≤ t)
theorem run_nil12M (m : Option Nat) (w : World) : (binOp .eql 62 (.map m) (.map none)).run Tryd.prog w = .ok (.bool m.isNone) w := by
  cases m <;> kernel_rfl
set_option maxHeartbeats 4000000 in
theorem addM_no (g : Nat) (m : Option Nat) (n : Nat) (f : Lit → Option Value) (s : ByteArray) (k : Int) (c1 : ByteArray) (c2 c3 c4 c5 c6 : Int) (d1 : ByteArray) (d2 d3 d4 d5 d6 : Int) (w : World) (hc : w.cell? ⟨g, 0, none⟩ = some (.map m)) (hg : g < w.heap.size) (hm : MapN Tryd.prog markT w m n f) (hs : s.size ≤ maxLen) (hk : wf64 k)
    (hv : (f (markL s k)).getD (.agg #[.string ⟨#[]⟩, .int .i64 0, .int .i64 0, .int .i64 0, .int .i64 0, .int .i64 0]) = .agg #[.string d1, .int .i64 d2, .int .i64 d3, .int .i64 d4, .int .i64 d5, .int .i64 d6]) (hb : (f (markL s k)).isSome = true) :
    Calls Tryd.prog 31 #[.pointer (some ⟨g, 0, none⟩), .agg #[.string s, .int .i64 k], .agg #[.string c1, .int .i64 c2, .int .i64 c3, .int .i64 c4, .int .i64 c5, .int .i64 c6]] w fun e w' => e = .returned (.bool false) ∧ Grow.G w w' := by
  have GV := Lib.hid (fun (w' : World) (h : Grow.G w w') => getM_any g 0 m n f s k d1 d2 d3 d4 d5 d6 true w' (cell_later h hc) (Nat.lt_of_lt_of_le hg h.size) (hm.grow h) hs hk hv hb)
  clear hc hm hv hb
  go_enter Tryd.func31, Tryd.ntmps31
  go_wp2_with fail
  refine (GV.out _ (Grow.G.alloc (Grow.G.alloc (Grow.G.refl _) _) _)).mono ?_
  rintro e wn1 ⟨rfl, hb1⟩
  have HM1 := (((Mem.nil w).alloc' [.string s, .int .i64 k] 75 rfl).alloc' [.string c1, .int .i64 c2, .int .i64 c3, .int .i64 c4, .int .i64 c5, .int .i64 c6] 33 (g := w.heap.size + 1) (by simp)).grow hb1
  simp only [K0, K1, L1, L2, K2, K3, K4, K5, K6, K7, Nat.reduceAdd, Nat.reduceSub] at HM1
  have HM := Lib.hid HM1
  clear HM1 hb1
  go_wp2_with ((refine Mem.storeAll 2 (t := 33) rfl rfl rfl rfl (n := 6) (by kernel_rfl) (Mem.alloc' HM.out _ _ rfl) rfl rfl rfl rfl ?_; intro W2 HMm CW2))
  simp only [K0, K1, L1, L2, K2, K3, K4, K5, K6, K7, Nat.reduceAdd, Nat.reduceSub] at HMm
  replace HM := Lib.hid HMm
  clear HMm
  refine Stay.go ?_
  go_wp2_with fail
  go_ret
  exact ⟨rfl, HM.out.below⟩
set_option maxHeartbeats 8000000 in
theorem addM_yes (g : Nat) (ma mt : Option Nat) (n nt : Nat) (f f' h h' : Lit → Option Value) (s : ByteArray) (k M : Int) (c1 : ByteArray) (c2 c3 c4 c5 c6 : Int) (x2 x3 : Value) (w : World) (hb : Blk w g [.map ma, .map mt, x2, x3].toArray bookT) (hm : MapN Tryd.prog markT w ma n f) (hmt : MapN Tryd.prog 9 w mt nt h) (hmm : ma = none ∧ mt = none ∨ ∃ a t, ma = some a ∧ mt = some t ∧ a ≠ t)
    (hs : s.size ≤ maxLen) (hk : wf64 k) (hn1 : n < maxLen) (hn2 : nt < maxLen) (hn : f (markL s k) = none) (hf1 : f' (markL s k) = some (.agg #[.string c1, .int .i64 c2, .int .i64 c3, .int .i64 c4, .int .i64 c5, .int .i64 c6])) (hf2 : ∀ x, x ≠ markL s k → f' x = f x) (hcv : (h (strK s)).getD (.int .i64 0) = .int .i64 M) (ht1 : h' (strK s) = some (.int .i64 (max M k))) (ht2 : ∀ x, x ≠ strK s → h' x = h x) :
    Calls Tryd.prog 31 #[.pointer (some ⟨g, 0, none⟩), .agg #[.string s, .int .i64 k], .agg #[.string c1, .int .i64 c2, .int .i64 c3, .int .i64 c4, .int .i64 c5, .int .i64 c6]] w fun e w' => e = .returned (.bool true) ∧ AddM w w' g n nt x2 x3 ma mt f' h' := by
  have KM := keyM hs hk
  unfold markV at KM
  have KM := Lib.hid KM
  have c0 : w.cell? ⟨g, 0, none⟩ = some (.map ma) := Blk.at (cs := [.map ma, .map mt, x2, x3]) (k := 0) hb rfl
  have GV := Lib.hid (fun (w' : World) (h : Grow.G w w') => getM_any g 0 ma n f s k ⟨#[]⟩ 0 0 0 0 0 false w' (cell_later h c0) (Nat.lt_of_lt_of_le hb.lt h.size) (hm.grow h) hs hk (by rw [hn]; rfl) (by rw [hn]; rfl))
  have CS : (Tryd.prog.info? 75).map (·.size) = some 2 := by kernel_rfl
  have CE : (Tryd.prog.info? 33).map (·.size) = some 6 := by kernel_rfl
  have HFV := Lib.hid hf1
  have HFO := Lib.hid hf2
  have HCV := Lib.hid hcv
  have HTV := Lib.hid ht1
  have HTO := Lib.hid ht2
  have HB := Lib.hid hb
  have hgl := hb.lt
  have HMA := Lib.hid hm
  have HMT := Lib.hid hmt
  have hn0 := hn
  clear c0 hn hf1 hf2 hcv ht1 ht2 hb hm hmt hk
  have hmk := @run_makeMap Tryd.prog
  rcases hmm with ⟨rfl, rfl⟩ | ⟨a, t, rfl, rfl, hat⟩
  · have HN := run_nil12M none
    simp only [Option.isNone_none] at HN
    go_enter Tryd.func31, Tryd.ntmps31
    go_wp2_with fail
    refine (GV.out _ (Grow.G.alloc (Grow.G.alloc (Grow.G.refl _) _) _)).mono ?_
    rintro e wn1 ⟨rfl, hb1⟩
    have HM1 := (((Mem.nil w).alloc' [.string s, .int .i64 k] 75 rfl).alloc' [.string c1, .int .i64 c2, .int .i64 c3, .int .i64 c4, .int .i64 c5, .int .i64 c6] 33 (g := w.heap.size + 1) (by simp)).grow hb1
    simp only [K0, K1, L1, L2, K2, K3, K4, K5, K6, K7, Nat.reduceAdd, Nat.reduceSub] at HM1
    have HM := Lib.hid HM1
    clear HM1 hb1
    go_wp2_with ((refine Mem.storeAll 2 (t := 33) rfl rfl rfl rfl (n := 6) (by kernel_rfl) (Mem.alloc' HM.out _ _ rfl) rfl rfl rfl rfl ?_; intro W2 HMm CW2))
    simp only [K0, K1, L1, L2, K2, K3, K4, K5, K6, K7, Nat.reduceAdd, Nat.reduceSub] at HMm
    replace HM := Lib.hid HMm
    clear HMm
    refine Stay.go ?_
    have h2l := HM.out.lt (i := 1) rfl
    have GB0 := HB.out.grow HM.out.below
    have c0 : W2.cell? ⟨g, 0, none⟩ = some (.map none) := Blk.at (cs := [.map none, .map none, x2, x3]) (k := 0) GB0 rfl
    have f0 := GB0.free 0
    have c1 : W2.cell? ⟨g, 1, none⟩ = some (.map none) := Blk.at (cs := [.map none, .map none, x2, x3]) (k := 1) GB0 rfl
    have f1 := GB0.free 1
    have hgW : g < W2.heap.size := GB0.lt
    have hwW : w.heap.size + 1 < W2.heap.size := h2l
    obtain ⟨wa, hwa⟩ : ∃ wa, wa = (W2.setCell ⟨g, 0, none⟩ (.map (some W2.heap.size))).setCell ⟨g, 1, none⟩ (.map (some (W2.heap.size + 1))) := ⟨_, rfl⟩
    obtain ⟨w1, hw1⟩ : ∃ w1, w1 = (wa.alloc (.map #[] 0)).alloc (.map #[] 0) := ⟨_, rfl⟩
    have hsa : wa.heap.size = W2.heap.size := by rw [hwa]; simp
    have hgg : Grow.G wa w1 := by rw [hw1]; exact Grow.G.alloc (Grow.G.alloc (Grow.G.refl _) _) _
    have MB : MapB Tryd.prog markT w1 W2.heap.size 0 (fun _ => none) := by
      have := (MapB.made wa Tryd.prog markT).chg (Chg.grow (G := fun _ => False) (Grow.G.alloc (Grow.G.refl _) (.map #[] 0))) id
      rw [hsa, ← hw1] at this; exact this
    have TB : MapB Tryd.prog 9 w1 (W2.heap.size + 1) 0 (fun _ => none) := by
      have := MapB.made (wa.alloc (.map #[] 0)) Tryd.prog 9
      rw [World.size_alloc, hsa, ← hw1] at this; exact this
    have GB := ((GB0.set 0 (.map (some W2.heap.size))).set 1 (.map (some (W2.heap.size + 1))))
    rw [← hwa] at GB
    have GB := GB.grow hgg
    have CW0 : Chg (fun j => j = g) W2 w1 := (show Chg (fun j => j = g) W2 wa from by rw [hwa]; exact Chg.setCell (G := fun j => j = g) (Chg.setCell (G := fun j => j = g) (Chg.refl _ _) (fun _ => rfl) _ _) (fun _ => rfl) _ _).trans (Chg.grow hgg)
    have OB := Lib.hid ((HM.out.blk (i := 0) rfl).chg CW0 (by omega))
    have EB := Lib.hid ((HM.out.blk (i := 1) rfl).chg CW0 (by omega))
    have CH : Hid (Chg (fun j => j = g ∨ (none : Option Nat) = some j ∨ (none : Option Nat) = some j) w w1) := Lib.hid ((Chg.grow HM.out.below).trans (CW0.mono fun j _ e => .inl e))
    rw [hwa] at hw1
    have hW := Lib.hid hw1
    have GB : Hid (Blk w1 g [.map (some W2.heap.size), .map (some (W2.heap.size + 1)), x2, x3].toArray bookT) := Lib.hid GB
    have MB := Lib.hid ((MB.same (f' := f) HMA.out).mono (Nat.zero_le n))
    have TB := Lib.hid ((TB.same (f' := h) HMT.out).mono (Nat.zero_le nt))
    have hws := HM.out.below.size
    clear hw1 hwa hsa hgg CW0 GB0 HMA HMT HB
    go_wp2_with fail
    rw [← hW.out]
    clear hW c0 c1 f0 f1
    clear HM
    have hat : W2.heap.size ≠ W2.heap.size + 1 := by omega
    generalize ha : W2.heap.size = a at *
    obtain ⟨t, htt⟩ : ∃ t, t = a + 1 := ⟨_, rfl⟩
    rw [← htt] at GB TB hat
    have htg : g < t := by omega
    have htw : w.heap.size + 1 < t := by omega
    clear htt ha
    clear hn0
    have KC := Lib.hid (fun (w' : World) (h : Chg (fun _ => False) w1 w') => (⟨h.cell (Blk.at (cs := [.map (some a), .map (some t), x2, x3]) (k := 0) GB.out rfl) id, trivial⟩ : w'.cell? ⟨g, 0, none⟩ = some (.map (some a)) ∧ True))
    refine Evo2.start' (ℓ := some 6) (S := Chg (fun _ => False)) (E := Grow.G) (by kernel_rfl) ⟨Chg.pre _, by decide +kernel, (by intro c a d v w h; cases d <;> exact h), by decide +kernel⟩ (fun ok => ?_)
    refine Evo2.va ok 0 _ _ ?_
    refine Evo2.va ok 1 _ _ ?_
    refine Evo2.va ok 2 _ _ ?_
    first | (refine Evo2.vl ok 3 KC.out (Chg.refl (fun _ => False) _) _ _ ?_) | (refine Evo2.va ok 3 _ _ ?_)
    first | (refine Evo2.val ok 4 ?_ ?_ ?_; rotate_left; (focus (intro w' hg; refine Box.exec_loadAll ?_ Tryd.underlying75 CS (OB.out.chg (Chg.trans (Chg.refl (fun _ => False) _) hg) id) ?_; (all_goals (first | exact ⟨rfl, rfl⟩ | rfl)))); simp only [Act.put, L0, L1, L2]) | (refine Evo2.vl ok 4 KC.out (Chg.refl (fun _ => False) _) _ _ ?_) | (refine Evo2.va ok 4 _ _ ?_)
    first | (refine Evo2.val ok 5 ?_ ?_ ?_; rotate_left; (focus (intro w' hg; refine Box.exec_loadAll ?_ Tryd.underlying33 CE (EB.out.chg (Chg.trans (Chg.refl (fun _ => False) _) hg) id) ?_; (all_goals (first | exact ⟨rfl, rfl⟩ | rfl)))); simp only [Act.put, L0, L1, L2]) | (refine Evo2.vl ok 5 KC.out (Chg.refl (fun _ => False) _) _ _ ?_) | (refine Evo2.va ok 5 _ _ ?_)
    refine Evo2.all [6] (by decide +kernel) rfl ?_
    intro wp1 gp1 iq hq
    simp only [List.mem_cons, List.mem_nil_iff, or_false] at hq
    have AP1 := Chg.trans (Chg.refl (fun _ => False) _) (Chg.grow gp1)
    subst hq
    refine MapV.up (by rfl) (by rfl) rfl (key := .agg #[.string s, .int .i64 k]) keyedM Tryd.underlying62 rfl (MB.out.chg AP1 id) hn1 rfl rfl KM.out HFV.out HFO.out ?_
    intro wm OM CM
    refine ⟨.inl (by first | rfl | trivial), ?_⟩
    simp only [Act.put, L0, L1, L2]
    refine Evo2.done (by decide +kernel) (fun wz gz => ?_)
    have AZ := AP1
    have hch : Chg (fun j => j = a) w1 wz := (AZ.mono fun _ _ h => h.elim).trans (CM.trans (Chg.grow gz))
    have MB2 := Lib.hid (OM.chg (Chg.grow (G := fun _ => False) gz) id)
    have OB2 := Lib.hid (OB.out.chg hch (by omega))
    have EB2 := Lib.hid (EB.out.chg hch (by omega))
    have GB2 := Lib.hid (GB.out.chg hch (by omega))
    have TB2 := Lib.hid (TB.out.chg hch (by omega))
    have HC2 := Lib.hid hch
    clear hch OM CM gz AZ KC GB OB EB TB MB
    go_wp2_with fail
    have KC := Lib.hid (fun (w' : World) (h : Chg (fun _ => False) wz w') => (⟨h.cell (Blk.at (cs := [.map (some a), .map (some t), x2, x3]) (k := 1) GB2.out rfl) id, h.cell (Blk.at (cs := [.string s, .int .i64 k]) (k := 0) OB2.out rfl) id, h.cell (Blk.at (cs := [.string s, .int .i64 k]) (k := 1) OB2.out rfl) id, trivial⟩ : w'.cell? ⟨g, 1, none⟩ = some (.map (some t)) ∧ w'.cell? ⟨w.heap.size, 0, none⟩ = some (.string s) ∧ w'.cell? ⟨w.heap.size, 1, none⟩ = some (.int .i64 k) ∧ True))
    refine Evo2.start' (ℓ := some 16) (S := Chg (fun _ => False)) (E := Grow.G) (by kernel_rfl) ⟨Chg.pre _, by decide +kernel, (by intro c a d v w h; cases d <;> exact h), by decide +kernel⟩ (fun ok => ?_)
    refine Evo2.va ok 0 _ _ ?_
    refine Evo2.va ok 1 _ _ ?_
    refine Evo2.va ok 2 _ _ ?_
    first | (refine Evo2.vl ok 3 KC.out (Chg.refl (fun _ => False) _) _ _ ?_) | (refine Evo2.va ok 3 _ _ ?_)
    refine Evo2.va ok 4 _ _ ?_
    first | (refine Evo2.vl ok 5 KC.out (Chg.refl (fun _ => False) _) _ _ ?_) | (refine Evo2.va ok 5 _ _ ?_)
    refine Evo2.va ok 6 _ _ ?_
    refine Evo2.va ok 7 _ _ ?_
    refine Evo2.va ok 8 _ _ ?_
    first | (refine Evo2.vl ok 9 KC.out (Chg.refl (fun _ => False) _) _ _ ?_) | (refine Evo2.va ok 9 _ _ ?_)
    refine Evo2.va ok 10 _ _ ?_
    first | (refine Evo2.vl ok 11 KC.out (Chg.refl (fun _ => False) _) _ _ ?_) | (refine Evo2.va ok 11 _ _ ?_)
    first | (refine Evo2.val ok 12 ?_ ?_ ?_; rotate_left; (focus (intro w' hg; refine exec_look1v (.int .i64 M) (.string s) ?_ keyedS12 Tryd.underlying63 zeroI12 (MapB.mapN12 (TB2.out.chg (Chg.trans (Chg.refl (fun _ => False) _) hg) id)) (keyS Tryd.underlying9 hs) HCV.out; (all_goals exact ⟨rfl, rfl, rfl, rfl⟩))); simp only [Act.put, L0, L1, L2]) | (refine Evo2.va ok 12 _ _ ?_)
    refine Evo2.va ok 13 _ _ ?_
    first | (refine Evo2.vl ok 14 KC.out (Chg.refl (fun _ => False) _) _ _ ?_) | (refine Evo2.va ok 14 _ _ ?_)
    refine Evo2.va ok 15 _ _ ?_
    refine Evo2.all [16] (by decide +kernel) rfl ?_
    intro wp1 gp1 iq hq
    simp only [List.mem_cons, List.mem_nil_iff, or_false] at hq
    have AP1 := Chg.trans (Chg.refl (fun _ => False) _) (Chg.grow gp1)
    subst hq
    refine MapV.up (by rfl) (by rfl) rfl (key := .string s) keyedS12 Tryd.underlying63 rfl (TB2.out.chg AP1 id) hn2 rfl rfl (keyS Tryd.underlying9 hs) HTV.out HTO.out ?_
    intro wm OM CM
    refine ⟨.inl (by first | rfl | trivial), ?_⟩
    simp only [Act.put, L0, L1, L2]
    refine Evo2.done (by decide +kernel) (fun wz gz => ?_)
    have AZ := AP1
    have hch : Chg (fun j => j = t) _ wz := (AZ.mono fun _ _ h => h.elim).trans (CM.trans (Chg.grow gz))
    have MB3 := Lib.hid (MB2.out.chg hch (by omega))
    have GB3 := Lib.hid (GB2.out.chg hch (by omega))
    have TB3 := Lib.hid (OM.chg (Chg.grow (G := fun _ => False) gz) id)
    have HC3 := Lib.hid hch
    clear hch OM CM gz AZ KC GB2 OB2 EB2 TB2 MB2
    go_wp2_with fail
    go_ret
    refine ⟨rfl, a, t, GB3.out, MB3.out, TB3.out, hat, ?_, .inr (by omega), .inr (by omega)⟩
    refine (CH.out.join HC2.out ?_).join HC3.out ?_
    · intro j hj e; have e : j = _ := e
      omega
    · intro j hj e; have e : j = _ := e
      omega
  · have HN := run_nil12M (some a)
    simp only [Option.isNone_some] at HN
    have hal : a < w.heap.size := HMA.out.lt a rfl
    have htl : t < w.heap.size := HMT.out.lt t rfl
    have hag : a ≠ g := (show MapB Tryd.prog markT w a n f from HMA.out).ne HB.out
    have htg : t ≠ g := (show MapB Tryd.prog 9 w t nt h from HMT.out).ne HB.out
    go_enter Tryd.func31, Tryd.ntmps31
    go_wp2_with fail
    refine (GV.out _ (Grow.G.alloc (Grow.G.alloc (Grow.G.refl _) _) _)).mono ?_
    rintro e wn1 ⟨rfl, hb1⟩
    have HM1 := (((Mem.nil w).alloc' [.string s, .int .i64 k] 75 rfl).alloc' [.string c1, .int .i64 c2, .int .i64 c3, .int .i64 c4, .int .i64 c5, .int .i64 c6] 33 (g := w.heap.size + 1) (by simp)).grow hb1
    simp only [K0, K1, L1, L2, K2, K3, K4, K5, K6, K7, Nat.reduceAdd, Nat.reduceSub] at HM1
    have HM := Lib.hid HM1
    clear HM1 hb1
    go_wp2_with ((refine Mem.storeAll 2 (t := 33) rfl rfl rfl rfl (n := 6) (by kernel_rfl) (Mem.alloc' HM.out _ _ rfl) rfl rfl rfl rfl ?_; intro w1 HMm Cw1))
    simp only [K0, K1, L1, L2, K2, K3, K4, K5, K6, K7, Nat.reduceAdd, Nat.reduceSub] at HMm
    replace HM := Lib.hid HMm
    clear HMm
    refine Stay.go ?_
    have GB := Lib.hid (HB.out.grow HM.out.below)
    have c0 : w1.cell? ⟨g, 0, none⟩ = some (.map (some a)) := Blk.at (cs := [.map (some a), .map (some t), x2, x3]) (k := 0) GB.out rfl
    have hgW : g < w1.heap.size := GB.out.lt
    go_wp2_with fail
    have OB := Lib.hid (HM.out.blk (i := 0) rfl)
    have EB := Lib.hid (HM.out.blk (i := 1) rfl)
    have MB := Lib.hid (show MapB Tryd.prog markT w1 a n f from HMA.out.grow HM.out.below)
    have TB := Lib.hid (show MapB Tryd.prog 9 w1 t nt h from HMT.out.grow HM.out.below)
    have CH : Hid (Chg (fun j => j = g ∨ some a = some j ∨ some t = some j) w w1) := Lib.hid (Chg.grow HM.out.below)
    clear HM HMA HMT HB c0
    clear hn0
    have KC := Lib.hid (fun (w' : World) (h : Chg (fun _ => False) w1 w') => (⟨h.cell (Blk.at (cs := [.map (some a), .map (some t), x2, x3]) (k := 0) GB.out rfl) id, trivial⟩ : w'.cell? ⟨g, 0, none⟩ = some (.map (some a)) ∧ True))
    refine Evo2.start' (ℓ := some 6) (S := Chg (fun _ => False)) (E := Grow.G) (by kernel_rfl) ⟨Chg.pre _, by decide +kernel, (by intro c a d v w h; cases d <;> exact h), by decide +kernel⟩ (fun ok => ?_)
    refine Evo2.va ok 0 _ _ ?_
    refine Evo2.va ok 1 _ _ ?_
    refine Evo2.va ok 2 _ _ ?_
    first | (refine Evo2.vl ok 3 KC.out (Chg.refl (fun _ => False) _) _ _ ?_) | (refine Evo2.va ok 3 _ _ ?_)
    first | (refine Evo2.val ok 4 ?_ ?_ ?_; rotate_left; (focus (intro w' hg; refine Box.exec_loadAll ?_ Tryd.underlying75 CS (OB.out.chg (Chg.trans (Chg.refl (fun _ => False) _) hg) id) ?_; (all_goals (first | exact ⟨rfl, rfl⟩ | rfl)))); simp only [Act.put, L0, L1, L2]) | (refine Evo2.vl ok 4 KC.out (Chg.refl (fun _ => False) _) _ _ ?_) | (refine Evo2.va ok 4 _ _ ?_)
    first | (refine Evo2.val ok 5 ?_ ?_ ?_; rotate_left; (focus (intro w' hg; refine Box.exec_loadAll ?_ Tryd.underlying33 CE (EB.out.chg (Chg.trans (Chg.refl (fun _ => False) _) hg) id) ?_; (all_goals (first | exact ⟨rfl, rfl⟩ | rfl)))); simp only [Act.put, L0, L1, L2]) | (refine Evo2.vl ok 5 KC.out (Chg.refl (fun _ => False) _) _ _ ?_) | (refine Evo2.va ok 5 _ _ ?_)
    refine Evo2.all [6] (by decide +kernel) rfl ?_
    intro wp1 gp1 iq hq
    simp only [List.mem_cons, List.mem_nil_iff, or_false] at hq
    have AP1 := Chg.trans (Chg.refl (fun _ => False) _) (Chg.grow gp1)
    subst hq
    refine MapV.up (by rfl) (by rfl) rfl (key := .agg #[.string s, .int .i64 k]) keyedM Tryd.underlying62 rfl (MB.out.chg AP1 id) hn1 rfl rfl KM.out HFV.out HFO.out ?_
    intro wm OM CM
    refine ⟨.inl (by first | rfl | trivial), ?_⟩
    simp only [Act.put, L0, L1, L2]
    refine Evo2.done (by decide +kernel) (fun wz gz => ?_)
    have AZ := AP1
    have hch : Chg (fun j => j = a) w1 wz := (AZ.mono fun _ _ h => h.elim).trans (CM.trans (Chg.grow gz))
    have MB2 := Lib.hid (OM.chg (Chg.grow (G := fun _ => False) gz) id)
    have OB2 := Lib.hid (OB.out.chg hch (by omega))
    have EB2 := Lib.hid (EB.out.chg hch (by omega))
    have GB2 := Lib.hid (GB.out.chg hch (by omega))
    have TB2 := Lib.hid (TB.out.chg hch (by omega))
    have HC2 := Lib.hid hch
    clear hch OM CM gz AZ KC GB OB EB TB MB
    go_wp2_with fail
    have KC := Lib.hid (fun (w' : World) (h : Chg (fun _ => False) wz w') => (⟨h.cell (Blk.at (cs := [.map (some a), .map (some t), x2, x3]) (k := 1) GB2.out rfl) id, h.cell (Blk.at (cs := [.string s, .int .i64 k]) (k := 0) OB2.out rfl) id, h.cell (Blk.at (cs := [.string s, .int .i64 k]) (k := 1) OB2.out rfl) id, trivial⟩ : w'.cell? ⟨g, 1, none⟩ = some (.map (some t)) ∧ w'.cell? ⟨w.heap.size, 0, none⟩ = some (.string s) ∧ w'.cell? ⟨w.heap.size, 1, none⟩ = some (.int .i64 k) ∧ True))
    refine Evo2.start' (ℓ := some 16) (S := Chg (fun _ => False)) (E := Grow.G) (by kernel_rfl) ⟨Chg.pre _, by decide +kernel, (by intro c a d v w h; cases d <;> exact h), by decide +kernel⟩ (fun ok => ?_)
    refine Evo2.va ok 0 _ _ ?_
    refine Evo2.va ok 1 _ _ ?_
    refine Evo2.va ok 2 _ _ ?_
    first | (refine Evo2.vl ok 3 KC.out (Chg.refl (fun _ => False) _) _ _ ?_) | (refine Evo2.va ok 3 _ _ ?_)
    refine Evo2.va ok 4 _ _ ?_
    first | (refine Evo2.vl ok 5 KC.out (Chg.refl (fun _ => False) _) _ _ ?_) | (refine Evo2.va ok 5 _ _ ?_)
    refine Evo2.va ok 6 _ _ ?_
    refine Evo2.va ok 7 _ _ ?_
    refine Evo2.va ok 8 _ _ ?_
    first | (refine Evo2.vl ok 9 KC.out (Chg.refl (fun _ => False) _) _ _ ?_) | (refine Evo2.va ok 9 _ _ ?_)
    refine Evo2.va ok 10 _ _ ?_
    first | (refine Evo2.vl ok 11 KC.out (Chg.refl (fun _ => False) _) _ _ ?_) | (refine Evo2.va ok 11 _ _ ?_)
    first | (refine Evo2.val ok 12 ?_ ?_ ?_; rotate_left; (focus (intro w' hg; refine exec_look1v (.int .i64 M) (.string s) ?_ keyedS12 Tryd.underlying63 zeroI12 (MapB.mapN12 (TB2.out.chg (Chg.trans (Chg.refl (fun _ => False) _) hg) id)) (keyS Tryd.underlying9 hs) HCV.out; (all_goals exact ⟨rfl, rfl, rfl, rfl⟩))); simp only [Act.put, L0, L1, L2]) | (refine Evo2.va ok 12 _ _ ?_)
    refine Evo2.va ok 13 _ _ ?_
    first | (refine Evo2.vl ok 14 KC.out (Chg.refl (fun _ => False) _) _ _ ?_) | (refine Evo2.va ok 14 _ _ ?_)
    refine Evo2.va ok 15 _ _ ?_
    refine Evo2.all [16] (by decide +kernel) rfl ?_
    intro wp1 gp1 iq hq
    simp only [List.mem_cons, List.mem_nil_iff, or_false] at hq
    have AP1 := Chg.trans (Chg.refl (fun _ => False) _) (Chg.grow gp1)
    subst hq
    refine MapV.up (by rfl) (by rfl) rfl (key := .string s) keyedS12 Tryd.underlying63 rfl (TB2.out.chg AP1 id) hn2 rfl rfl (keyS Tryd.underlying9 hs) HTV.out HTO.out ?_
    intro wm OM CM
    refine ⟨.inl (by first | rfl | trivial), ?_⟩
    simp only [Act.put, L0, L1, L2]
    refine Evo2.done (by decide +kernel) (fun wz gz => ?_)
    have AZ := AP1
    have hch : Chg (fun j => j = t) _ wz := (AZ.mono fun _ _ h => h.elim).trans (CM.trans (Chg.grow gz))
    have MB3 := Lib.hid (MB2.out.chg hch (by omega))
    have GB3 := Lib.hid (GB2.out.chg hch (by omega))
    have TB3 := Lib.hid (OM.chg (Chg.grow (G := fun _ => False) gz) id)
    have HC3 := Lib.hid hch
    clear hch OM CM gz AZ KC GB2 OB2 EB2 TB2 MB2
    go_wp2_with fail
    go_ret
    refine ⟨rfl, a, t, GB3.out, MB3.out, TB3.out, hat, ?_, .inl rfl, .inl rfl⟩
    refine (CH.out.join HC2.out ?_).join HC3.out ?_
    · intro j hj e; have e : j = _ := e
      exact .inr (.inl (by rw [e]))
    · intro j hj e; have e : j = _ := e
      exact .inr (.inr (by rw [e]))

/-- What a ledger is behind an addition. -/
def AddU (w w' : World) (g n nt : Nat) (x0 x1 : Value) (ma mt : Option Nat) (f' h' : Lit → Option Value) : Prop :=
  ∃ a t, Blk w' g [x0, x1, .map (some a), .map (some t)].toArray bookT ∧ MapB Tryd.prog markT w' a (n + 1) f' ∧ MapB Tryd.prog 9 w' t (nt + 1) h' ∧ a ≠ t ∧ Chg (fun j => j = g ∨ ma = some j ∨ mt = some j) w w' ∧ (ma = some a ∨ w.heap.size ≤ a) ∧ (mt = some t ∨ w.heap.size ≤ t)
theorem run_nil12U (m : Option Nat) (w : World) : (binOp .eql 66 (.map m) (.map none)).run Tryd.prog w = .ok (.bool m.isNone) w := by
  cases m <;> kernel_rfl
set_option maxHeartbeats 4000000 in
theorem addU_no (g : Nat) (m : Option Nat) (n : Nat) (f : Lit → Option Value) (s : ByteArray) (k : Int) (w : World) (hc : w.cell? ⟨g, 2, none⟩ = some (.map m)) (hg : g < w.heap.size) (hm : MapN Tryd.prog markT w m n f) (hs : s.size ≤ maxLen) (hk : wf64 k)
    (hv : (f (markL s k)).getD (.agg #[]) = .agg #[]) (hb : (f (markL s k)).isSome = true) :
    Calls Tryd.prog 35 #[.pointer (some ⟨g, 2, none⟩), .agg #[.string s, .int .i64 k], .agg #[]] w fun e w' => e = .returned (.bool false) ∧ Grow.G w w' := by
  have GV := Lib.hid (fun (w' : World) (h : Grow.G w w') => getU_any g 2 m n f s k true w' (cell_later h hc) (Nat.lt_of_lt_of_le hg h.size) (hm.grow h) hs hk hv hb)
  clear hc hm hv hb
  go_enter Tryd.func35, Tryd.ntmps35
  go_wp2_with fail
  refine (GV.out _ (Grow.G.alloc (Grow.G.alloc (Grow.G.refl _) _) _)).mono ?_
  rintro e wn1 ⟨rfl, hb1⟩
  have HM1 := (((Mem.nil w).alloc' [.string s, .int .i64 k] 75 rfl).alloc' [] 80 (g := w.heap.size + 1) (by simp)).grow hb1
  simp only [K0, K1, L1, L2, K2, K3, K4, K5, K6, K7, Nat.reduceAdd, Nat.reduceSub] at HM1
  have HM := Lib.hid HM1
  clear HM1 hb1
  go_wp2_with ((refine Mem.storeAll 2 (t := 80) rfl rfl rfl rfl (n := 0) (by kernel_rfl) (Mem.alloc' HM.out _ _ rfl) rfl rfl rfl rfl ?_; intro W2 HMm CW2))
  simp only [K0, K1, L1, L2, K2, K3, K4, K5, K6, K7, Nat.reduceAdd, Nat.reduceSub] at HMm
  replace HM := Lib.hid HMm
  clear HMm
  refine Stay.go ?_
  go_wp2_with fail
  go_ret
  exact ⟨rfl, HM.out.below⟩
set_option maxHeartbeats 8000000 in
theorem addU_yes (g : Nat) (ma mt : Option Nat) (n nt : Nat) (f f' h h' : Lit → Option Value) (s : ByteArray) (k M : Int) (x0 x1 : Value) (w : World) (hb : Blk w g [x0, x1, .map ma, .map mt].toArray bookT) (hm : MapN Tryd.prog markT w ma n f) (hmt : MapN Tryd.prog 9 w mt nt h) (hmm : ma = none ∧ mt = none ∨ ∃ a t, ma = some a ∧ mt = some t ∧ a ≠ t)
    (hs : s.size ≤ maxLen) (hk : wf64 k) (hn1 : n < maxLen) (hn2 : nt < maxLen) (hn : f (markL s k) = none) (hf1 : f' (markL s k) = some (.agg #[])) (hf2 : ∀ x, x ≠ markL s k → f' x = f x) (hcv : (h (strK s)).getD (.int .i64 0) = .int .i64 M) (ht1 : h' (strK s) = some (.int .i64 (max M k))) (ht2 : ∀ x, x ≠ strK s → h' x = h x) :
    Calls Tryd.prog 35 #[.pointer (some ⟨g, 2, none⟩), .agg #[.string s, .int .i64 k], .agg #[]] w fun e w' => e = .returned (.bool true) ∧ AddU w w' g n nt x0 x1 ma mt f' h' := by
  have KM := keyM hs hk
  unfold markV at KM
  have KM := Lib.hid KM
  have c0 : w.cell? ⟨g, 2, none⟩ = some (.map ma) := Blk.at (cs := [x0, x1, .map ma, .map mt]) (k := 2) hb rfl
  have GV := Lib.hid (fun (w' : World) (h : Grow.G w w') => getU_any g 2 ma n f s k false w' (cell_later h c0) (Nat.lt_of_lt_of_le hb.lt h.size) (hm.grow h) hs hk (by rw [hn]; rfl) (by rw [hn]; rfl))
  have CS : (Tryd.prog.info? 75).map (·.size) = some 2 := by kernel_rfl
  have CE : (Tryd.prog.info? 80).map (·.size) = some 0 := by kernel_rfl
  have HFV := Lib.hid hf1
  have HFO := Lib.hid hf2
  have HCV := Lib.hid hcv
  have HTV := Lib.hid ht1
  have HTO := Lib.hid ht2
  have HB := Lib.hid hb
  have hgl := hb.lt
  have HMA := Lib.hid hm
  have HMT := Lib.hid hmt
  have hn0 := hn
  clear c0 hn hf1 hf2 hcv ht1 ht2 hb hm hmt hk
  have hmk := @run_makeMap Tryd.prog
  rcases hmm with ⟨rfl, rfl⟩ | ⟨a, t, rfl, rfl, hat⟩
  · have HN := run_nil12U none
    simp only [Option.isNone_none] at HN
    go_enter Tryd.func35, Tryd.ntmps35
    go_wp2_with fail
    refine (GV.out _ (Grow.G.alloc (Grow.G.alloc (Grow.G.refl _) _) _)).mono ?_
    rintro e wn1 ⟨rfl, hb1⟩
    have HM1 := (((Mem.nil w).alloc' [.string s, .int .i64 k] 75 rfl).alloc' [] 80 (g := w.heap.size + 1) (by simp)).grow hb1
    simp only [K0, K1, L1, L2, K2, K3, K4, K5, K6, K7, Nat.reduceAdd, Nat.reduceSub] at HM1
    have HM := Lib.hid HM1
    clear HM1 hb1
    go_wp2_with ((refine Mem.storeAll 2 (t := 80) rfl rfl rfl rfl (n := 0) (by kernel_rfl) (Mem.alloc' HM.out _ _ rfl) rfl rfl rfl rfl ?_; intro W2 HMm CW2))
    simp only [K0, K1, L1, L2, K2, K3, K4, K5, K6, K7, Nat.reduceAdd, Nat.reduceSub] at HMm
    replace HM := Lib.hid HMm
    clear HMm
    refine Stay.go ?_
    have h2l := HM.out.lt (i := 1) rfl
    have GB0 := HB.out.grow HM.out.below
    have c0 : W2.cell? ⟨g, 2, none⟩ = some (.map none) := Blk.at (cs := [x0, x1, .map none, .map none]) (k := 2) GB0 rfl
    have f0 := GB0.free 2
    have c1 : W2.cell? ⟨g, 3, none⟩ = some (.map none) := Blk.at (cs := [x0, x1, .map none, .map none]) (k := 3) GB0 rfl
    have f1 := GB0.free 3
    have hgW : g < W2.heap.size := GB0.lt
    have hwW : w.heap.size + 1 < W2.heap.size := h2l
    obtain ⟨wa, hwa⟩ : ∃ wa, wa = (W2.setCell ⟨g, 2, none⟩ (.map (some W2.heap.size))).setCell ⟨g, 3, none⟩ (.map (some (W2.heap.size + 1))) := ⟨_, rfl⟩
    obtain ⟨w1, hw1⟩ : ∃ w1, w1 = (wa.alloc (.map #[] 0)).alloc (.map #[] 0) := ⟨_, rfl⟩
    have hsa : wa.heap.size = W2.heap.size := by rw [hwa]; simp
    have hgg : Grow.G wa w1 := by rw [hw1]; exact Grow.G.alloc (Grow.G.alloc (Grow.G.refl _) _) _
    have MB : MapB Tryd.prog markT w1 W2.heap.size 0 (fun _ => none) := by
      have := (MapB.made wa Tryd.prog markT).chg (Chg.grow (G := fun _ => False) (Grow.G.alloc (Grow.G.refl _) (.map #[] 0))) id
      rw [hsa, ← hw1] at this; exact this
    have TB : MapB Tryd.prog 9 w1 (W2.heap.size + 1) 0 (fun _ => none) := by
      have := MapB.made (wa.alloc (.map #[] 0)) Tryd.prog 9
      rw [World.size_alloc, hsa, ← hw1] at this; exact this
    have GB := ((GB0.set 2 (.map (some W2.heap.size))).set 3 (.map (some (W2.heap.size + 1))))
    rw [← hwa] at GB
    have GB := GB.grow hgg
    have CW0 : Chg (fun j => j = g) W2 w1 := (show Chg (fun j => j = g) W2 wa from by rw [hwa]; exact Chg.setCell (G := fun j => j = g) (Chg.setCell (G := fun j => j = g) (Chg.refl _ _) (fun _ => rfl) _ _) (fun _ => rfl) _ _).trans (Chg.grow hgg)
    have OB := Lib.hid ((HM.out.blk (i := 0) rfl).chg CW0 (by omega))
    have EB := Lib.hid ((HM.out.blk (i := 1) rfl).chg CW0 (by omega))
    have CH : Hid (Chg (fun j => j = g ∨ (none : Option Nat) = some j ∨ (none : Option Nat) = some j) w w1) := Lib.hid ((Chg.grow HM.out.below).trans (CW0.mono fun j _ e => .inl e))
    rw [hwa] at hw1
    have hW := Lib.hid hw1
    have GB : Hid (Blk w1 g [x0, x1, .map (some W2.heap.size), .map (some (W2.heap.size + 1))].toArray bookT) := Lib.hid GB
    have MB := Lib.hid ((MB.same (f' := f) HMA.out).mono (Nat.zero_le n))
    have TB := Lib.hid ((TB.same (f' := h) HMT.out).mono (Nat.zero_le nt))
    have hws := HM.out.below.size
    clear hw1 hwa hsa hgg CW0 GB0 HMA HMT HB
    go_wp2_with fail
    rw [← hW.out]
    clear hW c0 c1 f0 f1
    clear HM
    have hat : W2.heap.size ≠ W2.heap.size + 1 := by omega
    generalize ha : W2.heap.size = a at *
    obtain ⟨t, htt⟩ : ∃ t, t = a + 1 := ⟨_, rfl⟩
    rw [← htt] at GB TB hat
    have htg : g < t := by omega
    have htw : w.heap.size + 1 < t := by omega
    clear htt ha
    clear hn0
    have KC := Lib.hid (fun (w' : World) (h : Chg (fun _ => False) w1 w') => (⟨h.cell (Blk.at (cs := [x0, x1, .map (some a), .map (some t)]) (k := 2) GB.out rfl) id, trivial⟩ : w'.cell? ⟨g, 2, none⟩ = some (.map (some a)) ∧ True))
    refine Evo2.start' (ℓ := some 6) (S := Chg (fun _ => False)) (E := Grow.G) (by kernel_rfl) ⟨Chg.pre _, by decide +kernel, (by intro c a d v w h; cases d <;> exact h), by decide +kernel⟩ (fun ok => ?_)
    refine Evo2.va ok 0 _ _ ?_
    refine Evo2.va ok 1 _ _ ?_
    refine Evo2.va ok 2 _ _ ?_
    first | (refine Evo2.vl ok 3 KC.out (Chg.refl (fun _ => False) _) _ _ ?_) | (refine Evo2.va ok 3 _ _ ?_)
    first | (refine Evo2.val ok 4 ?_ ?_ ?_; rotate_left; (focus (intro w' hg; refine Box.exec_loadAll ?_ Tryd.underlying75 CS (OB.out.chg (Chg.trans (Chg.refl (fun _ => False) _) hg) id) ?_; (all_goals (first | exact ⟨rfl, rfl⟩ | rfl)))); simp only [Act.put, L0, L1, L2]) | (refine Evo2.vl ok 4 KC.out (Chg.refl (fun _ => False) _) _ _ ?_) | (refine Evo2.va ok 4 _ _ ?_)
    first | (refine Evo2.val ok 5 ?_ ?_ ?_; rotate_left; (focus (intro w' hg; refine Box.exec_loadAll ?_ Tryd.underlying80 CE (EB.out.chg (Chg.trans (Chg.refl (fun _ => False) _) hg) id) ?_; (all_goals (first | exact ⟨rfl, rfl⟩ | rfl)))); simp only [Act.put, L0, L1, L2]) | (refine Evo2.vl ok 5 KC.out (Chg.refl (fun _ => False) _) _ _ ?_) | (refine Evo2.va ok 5 _ _ ?_)
    refine Evo2.all [6] (by decide +kernel) rfl ?_
    intro wp1 gp1 iq hq
    simp only [List.mem_cons, List.mem_nil_iff, or_false] at hq
    have AP1 := Chg.trans (Chg.refl (fun _ => False) _) (Chg.grow gp1)
    subst hq
    refine MapV.up (by rfl) (by rfl) rfl (key := .agg #[.string s, .int .i64 k]) keyedM Tryd.underlying66 rfl (MB.out.chg AP1 id) hn1 rfl rfl KM.out HFV.out HFO.out ?_
    intro wm OM CM
    refine ⟨.inl (by first | rfl | trivial), ?_⟩
    simp only [Act.put, L0, L1, L2]
    refine Evo2.done (by decide +kernel) (fun wz gz => ?_)
    have AZ := AP1
    have hch : Chg (fun j => j = a) w1 wz := (AZ.mono fun _ _ h => h.elim).trans (CM.trans (Chg.grow gz))
    have MB2 := Lib.hid (OM.chg (Chg.grow (G := fun _ => False) gz) id)
    have OB2 := Lib.hid (OB.out.chg hch (by omega))
    have EB2 := Lib.hid (EB.out.chg hch (by omega))
    have GB2 := Lib.hid (GB.out.chg hch (by omega))
    have TB2 := Lib.hid (TB.out.chg hch (by omega))
    have HC2 := Lib.hid hch
    clear hch OM CM gz AZ KC GB OB EB TB MB
    go_wp2_with fail
    have KC := Lib.hid (fun (w' : World) (h : Chg (fun _ => False) wz w') => (⟨h.cell (Blk.at (cs := [x0, x1, .map (some a), .map (some t)]) (k := 3) GB2.out rfl) id, h.cell (Blk.at (cs := [.string s, .int .i64 k]) (k := 0) OB2.out rfl) id, h.cell (Blk.at (cs := [.string s, .int .i64 k]) (k := 1) OB2.out rfl) id, trivial⟩ : w'.cell? ⟨g, 3, none⟩ = some (.map (some t)) ∧ w'.cell? ⟨w.heap.size, 0, none⟩ = some (.string s) ∧ w'.cell? ⟨w.heap.size, 1, none⟩ = some (.int .i64 k) ∧ True))
    refine Evo2.start' (ℓ := some 16) (S := Chg (fun _ => False)) (E := Grow.G) (by kernel_rfl) ⟨Chg.pre _, by decide +kernel, (by intro c a d v w h; cases d <;> exact h), by decide +kernel⟩ (fun ok => ?_)
    refine Evo2.va ok 0 _ _ ?_
    refine Evo2.va ok 1 _ _ ?_
    refine Evo2.va ok 2 _ _ ?_
    first | (refine Evo2.vl ok 3 KC.out (Chg.refl (fun _ => False) _) _ _ ?_) | (refine Evo2.va ok 3 _ _ ?_)
    refine Evo2.va ok 4 _ _ ?_
    first | (refine Evo2.vl ok 5 KC.out (Chg.refl (fun _ => False) _) _ _ ?_) | (refine Evo2.va ok 5 _ _ ?_)
    refine Evo2.va ok 6 _ _ ?_
    refine Evo2.va ok 7 _ _ ?_
    refine Evo2.va ok 8 _ _ ?_
    first | (refine Evo2.vl ok 9 KC.out (Chg.refl (fun _ => False) _) _ _ ?_) | (refine Evo2.va ok 9 _ _ ?_)
    refine Evo2.va ok 10 _ _ ?_
    first | (refine Evo2.vl ok 11 KC.out (Chg.refl (fun _ => False) _) _ _ ?_) | (refine Evo2.va ok 11 _ _ ?_)
    first | (refine Evo2.val ok 12 ?_ ?_ ?_; rotate_left; (focus (intro w' hg; refine exec_look1v (.int .i64 M) (.string s) ?_ keyedS12 Tryd.underlying63 zeroI12 (MapB.mapN12 (TB2.out.chg (Chg.trans (Chg.refl (fun _ => False) _) hg) id)) (keyS Tryd.underlying9 hs) HCV.out; (all_goals exact ⟨rfl, rfl, rfl, rfl⟩))); simp only [Act.put, L0, L1, L2]) | (refine Evo2.va ok 12 _ _ ?_)
    refine Evo2.va ok 13 _ _ ?_
    first | (refine Evo2.vl ok 14 KC.out (Chg.refl (fun _ => False) _) _ _ ?_) | (refine Evo2.va ok 14 _ _ ?_)
    refine Evo2.va ok 15 _ _ ?_
    refine Evo2.all [16] (by decide +kernel) rfl ?_
    intro wp1 gp1 iq hq
    simp only [List.mem_cons, List.mem_nil_iff, or_false] at hq
    have AP1 := Chg.trans (Chg.refl (fun _ => False) _) (Chg.grow gp1)
    subst hq
    refine MapV.up (by rfl) (by rfl) rfl (key := .string s) keyedS12 Tryd.underlying63 rfl (TB2.out.chg AP1 id) hn2 rfl rfl (keyS Tryd.underlying9 hs) HTV.out HTO.out ?_
    intro wm OM CM
    refine ⟨.inl (by first | rfl | trivial), ?_⟩
    simp only [Act.put, L0, L1, L2]
    refine Evo2.done (by decide +kernel) (fun wz gz => ?_)
    have AZ := AP1
    have hch : Chg (fun j => j = t) _ wz := (AZ.mono fun _ _ h => h.elim).trans (CM.trans (Chg.grow gz))
    have MB3 := Lib.hid (MB2.out.chg hch (by omega))
    have GB3 := Lib.hid (GB2.out.chg hch (by omega))
    have TB3 := Lib.hid (OM.chg (Chg.grow (G := fun _ => False) gz) id)
    have HC3 := Lib.hid hch
    clear hch OM CM gz AZ KC GB2 OB2 EB2 TB2 MB2
    go_wp2_with fail
    go_ret
    refine ⟨rfl, a, t, GB3.out, MB3.out, TB3.out, hat, ?_, .inr (by omega), .inr (by omega)⟩
    refine (CH.out.join HC2.out ?_).join HC3.out ?_
    · intro j hj e; have e : j = _ := e
      omega
    · intro j hj e; have e : j = _ := e
      omega
  · have HN := run_nil12U (some a)
    simp only [Option.isNone_some] at HN
    have hal : a < w.heap.size := HMA.out.lt a rfl
    have htl : t < w.heap.size := HMT.out.lt t rfl
    have hag : a ≠ g := (show MapB Tryd.prog markT w a n f from HMA.out).ne HB.out
    have htg : t ≠ g := (show MapB Tryd.prog 9 w t nt h from HMT.out).ne HB.out
    go_enter Tryd.func35, Tryd.ntmps35
    go_wp2_with fail
    refine (GV.out _ (Grow.G.alloc (Grow.G.alloc (Grow.G.refl _) _) _)).mono ?_
    rintro e wn1 ⟨rfl, hb1⟩
    have HM1 := (((Mem.nil w).alloc' [.string s, .int .i64 k] 75 rfl).alloc' [] 80 (g := w.heap.size + 1) (by simp)).grow hb1
    simp only [K0, K1, L1, L2, K2, K3, K4, K5, K6, K7, Nat.reduceAdd, Nat.reduceSub] at HM1
    have HM := Lib.hid HM1
    clear HM1 hb1
    go_wp2_with ((refine Mem.storeAll 2 (t := 80) rfl rfl rfl rfl (n := 0) (by kernel_rfl) (Mem.alloc' HM.out _ _ rfl) rfl rfl rfl rfl ?_; intro w1 HMm Cw1))
    simp only [K0, K1, L1, L2, K2, K3, K4, K5, K6, K7, Nat.reduceAdd, Nat.reduceSub] at HMm
    replace HM := Lib.hid HMm
    clear HMm
    refine Stay.go ?_
    have GB := Lib.hid (HB.out.grow HM.out.below)
    have c0 : w1.cell? ⟨g, 2, none⟩ = some (.map (some a)) := Blk.at (cs := [x0, x1, .map (some a), .map (some t)]) (k := 2) GB.out rfl
    have hgW : g < w1.heap.size := GB.out.lt
    go_wp2_with fail
    have OB := Lib.hid (HM.out.blk (i := 0) rfl)
    have EB := Lib.hid (HM.out.blk (i := 1) rfl)
    have MB := Lib.hid (show MapB Tryd.prog markT w1 a n f from HMA.out.grow HM.out.below)
    have TB := Lib.hid (show MapB Tryd.prog 9 w1 t nt h from HMT.out.grow HM.out.below)
    have CH : Hid (Chg (fun j => j = g ∨ some a = some j ∨ some t = some j) w w1) := Lib.hid (Chg.grow HM.out.below)
    clear HM HMA HMT HB c0
    clear hn0
    have KC := Lib.hid (fun (w' : World) (h : Chg (fun _ => False) w1 w') => (⟨h.cell (Blk.at (cs := [x0, x1, .map (some a), .map (some t)]) (k := 2) GB.out rfl) id, trivial⟩ : w'.cell? ⟨g, 2, none⟩ = some (.map (some a)) ∧ True))
    refine Evo2.start' (ℓ := some 6) (S := Chg (fun _ => False)) (E := Grow.G) (by kernel_rfl) ⟨Chg.pre _, by decide +kernel, (by intro c a d v w h; cases d <;> exact h), by decide +kernel⟩ (fun ok => ?_)
    refine Evo2.va ok 0 _ _ ?_
    refine Evo2.va ok 1 _ _ ?_
    refine Evo2.va ok 2 _ _ ?_
    first | (refine Evo2.vl ok 3 KC.out (Chg.refl (fun _ => False) _) _ _ ?_) | (refine Evo2.va ok 3 _ _ ?_)
    first | (refine Evo2.val ok 4 ?_ ?_ ?_; rotate_left; (focus (intro w' hg; refine Box.exec_loadAll ?_ Tryd.underlying75 CS (OB.out.chg (Chg.trans (Chg.refl (fun _ => False) _) hg) id) ?_; (all_goals (first | exact ⟨rfl, rfl⟩ | rfl)))); simp only [Act.put, L0, L1, L2]) | (refine Evo2.vl ok 4 KC.out (Chg.refl (fun _ => False) _) _ _ ?_) | (refine Evo2.va ok 4 _ _ ?_)
    first | (refine Evo2.val ok 5 ?_ ?_ ?_; rotate_left; (focus (intro w' hg; refine Box.exec_loadAll ?_ Tryd.underlying80 CE (EB.out.chg (Chg.trans (Chg.refl (fun _ => False) _) hg) id) ?_; (all_goals (first | exact ⟨rfl, rfl⟩ | rfl)))); simp only [Act.put, L0, L1, L2]) | (refine Evo2.vl ok 5 KC.out (Chg.refl (fun _ => False) _) _ _ ?_) | (refine Evo2.va ok 5 _ _ ?_)
    refine Evo2.all [6] (by decide +kernel) rfl ?_
    intro wp1 gp1 iq hq
    simp only [List.mem_cons, List.mem_nil_iff, or_false] at hq
    have AP1 := Chg.trans (Chg.refl (fun _ => False) _) (Chg.grow gp1)
    subst hq
    refine MapV.up (by rfl) (by rfl) rfl (key := .agg #[.string s, .int .i64 k]) keyedM Tryd.underlying66 rfl (MB.out.chg AP1 id) hn1 rfl rfl KM.out HFV.out HFO.out ?_
    intro wm OM CM
    refine ⟨.inl (by first | rfl | trivial), ?_⟩
    simp only [Act.put, L0, L1, L2]
    refine Evo2.done (by decide +kernel) (fun wz gz => ?_)
    have AZ := AP1
    have hch : Chg (fun j => j = a) w1 wz := (AZ.mono fun _ _ h => h.elim).trans (CM.trans (Chg.grow gz))
    have MB2 := Lib.hid (OM.chg (Chg.grow (G := fun _ => False) gz) id)
    have OB2 := Lib.hid (OB.out.chg hch (by omega))
    have EB2 := Lib.hid (EB.out.chg hch (by omega))
    have GB2 := Lib.hid (GB.out.chg hch (by omega))
    have TB2 := Lib.hid (TB.out.chg hch (by omega))
    have HC2 := Lib.hid hch
    clear hch OM CM gz AZ KC GB OB EB TB MB
    go_wp2_with fail
    have KC := Lib.hid (fun (w' : World) (h : Chg (fun _ => False) wz w') => (⟨h.cell (Blk.at (cs := [x0, x1, .map (some a), .map (some t)]) (k := 3) GB2.out rfl) id, h.cell (Blk.at (cs := [.string s, .int .i64 k]) (k := 0) OB2.out rfl) id, h.cell (Blk.at (cs := [.string s, .int .i64 k]) (k := 1) OB2.out rfl) id, trivial⟩ : w'.cell? ⟨g, 3, none⟩ = some (.map (some t)) ∧ w'.cell? ⟨w.heap.size, 0, none⟩ = some (.string s) ∧ w'.cell? ⟨w.heap.size, 1, none⟩ = some (.int .i64 k) ∧ True))
    refine Evo2.start' (ℓ := some 16) (S := Chg (fun _ => False)) (E := Grow.G) (by kernel_rfl) ⟨Chg.pre _, by decide +kernel, (by intro c a d v w h; cases d <;> exact h), by decide +kernel⟩ (fun ok => ?_)
    refine Evo2.va ok 0 _ _ ?_
    refine Evo2.va ok 1 _ _ ?_
    refine Evo2.va ok 2 _ _ ?_
    first | (refine Evo2.vl ok 3 KC.out (Chg.refl (fun _ => False) _) _ _ ?_) | (refine Evo2.va ok 3 _ _ ?_)
    refine Evo2.va ok 4 _ _ ?_
    first | (refine Evo2.vl ok 5 KC.out (Chg.refl (fun _ => False) _) _ _ ?_) | (refine Evo2.va ok 5 _ _ ?_)
    refine Evo2.va ok 6 _ _ ?_
    refine Evo2.va ok 7 _ _ ?_
    refine Evo2.va ok 8 _ _ ?_
    first | (refine Evo2.vl ok 9 KC.out (Chg.refl (fun _ => False) _) _ _ ?_) | (refine Evo2.va ok 9 _ _ ?_)
    refine Evo2.va ok 10 _ _ ?_
    first | (refine Evo2.vl ok 11 KC.out (Chg.refl (fun _ => False) _) _ _ ?_) | (refine Evo2.va ok 11 _ _ ?_)
    first | (refine Evo2.val ok 12 ?_ ?_ ?_; rotate_left; (focus (intro w' hg; refine exec_look1v (.int .i64 M) (.string s) ?_ keyedS12 Tryd.underlying63 zeroI12 (MapB.mapN12 (TB2.out.chg (Chg.trans (Chg.refl (fun _ => False) _) hg) id)) (keyS Tryd.underlying9 hs) HCV.out; (all_goals exact ⟨rfl, rfl, rfl, rfl⟩))); simp only [Act.put, L0, L1, L2]) | (refine Evo2.va ok 12 _ _ ?_)
    refine Evo2.va ok 13 _ _ ?_
    first | (refine Evo2.vl ok 14 KC.out (Chg.refl (fun _ => False) _) _ _ ?_) | (refine Evo2.va ok 14 _ _ ?_)
    refine Evo2.va ok 15 _ _ ?_
    refine Evo2.all [16] (by decide +kernel) rfl ?_
    intro wp1 gp1 iq hq
    simp only [List.mem_cons, List.mem_nil_iff, or_false] at hq
    have AP1 := Chg.trans (Chg.refl (fun _ => False) _) (Chg.grow gp1)
    subst hq
    refine MapV.up (by rfl) (by rfl) rfl (key := .string s) keyedS12 Tryd.underlying63 rfl (TB2.out.chg AP1 id) hn2 rfl rfl (keyS Tryd.underlying9 hs) HTV.out HTO.out ?_
    intro wm OM CM
    refine ⟨.inl (by first | rfl | trivial), ?_⟩
    simp only [Act.put, L0, L1, L2]
    refine Evo2.done (by decide +kernel) (fun wz gz => ?_)
    have AZ := AP1
    have hch : Chg (fun j => j = t) _ wz := (AZ.mono fun _ _ h => h.elim).trans (CM.trans (Chg.grow gz))
    have MB3 := Lib.hid (MB2.out.chg hch (by omega))
    have GB3 := Lib.hid (GB2.out.chg hch (by omega))
    have TB3 := Lib.hid (OM.chg (Chg.grow (G := fun _ => False) gz) id)
    have HC3 := Lib.hid hch
    clear hch OM CM gz AZ KC GB2 OB2 EB2 TB2 MB2
    go_wp2_with fail
    go_ret
    refine ⟨rfl, a, t, GB3.out, MB3.out, TB3.out, hat, ?_, .inl rfl, .inl rfl⟩
    refine (CH.out.join HC2.out ?_).join HC3.out ?_
    · intro j hj e; have e : j = _ := e
      exact .inr (.inl (by rw [e]))
    · intro j hj e; have e : j = _ := e
      exact .inr (.inr (by rw [e]))
end Go.Proofs.YtjcdmnogmpjkkaaDoor

/- The program's books as a state; New, Proved, Latest, Get. -/
namespace Go.Proofs.YtjcdmnogmpjkkaaDoor
set_option maxRecDepth 100000
set_option linter.unusedVariables false
set_option linter.unusedSimpArgs false
set_option linter.unnecessarySimpa false
open Go.RowKit Go.MapV Go.Maps

structure BkIn (w : World) (g : Nat) (l : List Rv) (ma mt pa pt : Option Nat) : Prop where
  ok : BkOk l
  hb : Blk w g [.map ma, .map mt, .map pa, .map pt].toArray bookT
  m1 : MapN Tryd.prog markT w ma l.length (fK allR cfgV l)
  m2 : MapN Tryd.prog 9 w mt l.length (onS (topS mineM l))
  m3 : MapN Tryd.prog markT w pa (l.countP Rv.pr) (fK Rv.pr unitV l)
  m4 : MapN Tryd.prog 9 w pt (l.countP Rv.pr) (onS (topS mineR l))
  e1 : ma = none ∧ mt = none ∨ ∃ a t, ma = some a ∧ mt = some t ∧ a ≠ t
  e2 : pa = none ∧ pt = none ∨ ∃ a t, pa = some a ∧ pt = some t ∧ a ≠ t
  ap : ∀ j, (ma = some j ∨ mt = some j) → ¬ (pa = some j ∨ pt = some j)
def BkFt (g : Nat) (ma mt pa pt : Option Nat) (k : Nat) : Prop := k = g ∨ (ma = some k ∨ mt = some k) ∨ (pa = some k ∨ pt = some k)
section
variable {w w' : World} {g : Nat} {l : List Rv} {ma mt pa pt : Option Nat}
theorem BkIn.lt (h : BkIn w g l ma mt pa pt) : ∀ k, BkFt g ma mt pa pt k → k < w.heap.size := by
  rintro k (rfl | (q | q) | (q | q))
  · exact h.hb.lt
  · exact h.m1.lt k q
  · exact h.m2.lt k q
  · exact h.m3.lt k q
  · exact h.m4.lt k q
theorem BkIn.ne (h : BkIn w g l ma mt pa pt) : ∀ k, (ma = some k ∨ mt = some k) ∨ (pa = some k ∨ pt = some k) → k ≠ g := by
  have h1 := h.m1; have h2 := h.m2; have h3 := h.m3; have h4 := h.m4
  rintro k ((rfl | rfl) | (rfl | rfl))
  · exact MapB.ne h1 h.hb
  · exact MapB.ne h2 h.hb
  · exact MapB.ne h3 h.hb
  · exact MapB.ne h4 h.hb
theorem BkIn.chg {G : Nat → Prop} (h : BkIn w g l ma mt pa pt) (c : Chg G w w') (hs : ∀ k, BkFt g ma mt pa pt k → ¬ G k) : BkIn w' g l ma mt pa pt where
  ok := h.ok
  hb := h.hb.chg c (hs g (.inl rfl))
  m1 := h.m1.chg c fun b e => hs b (.inr (.inl (.inl e)))
  m2 := h.m2.chg c fun b e => hs b (.inr (.inl (.inr e)))
  m3 := h.m3.chg c fun b e => hs b (.inr (.inr (.inl e)))
  m4 := h.m4.chg c fun b e => hs b (.inr (.inr (.inr e)))
  e1 := h.e1
  e2 := h.e2
  ap := h.ap
theorem BkIn.grow (h : BkIn w g l ma mt pa pt) (c : Grow.G w w') : BkIn w' g l ma mt pa pt := h.chg (Chg.grow (G := fun _ => False) c) fun _ _ => id
end
/-- The program's book that says what l is. -/
def BkB (g : Nat) (l : List Rv) : Hp := fun w F => ∃ ma mt pa pt, BkIn w g l ma mt pa pt ∧ ∀ k, F k ↔ BkFt g ma mt pa pt k
theorem BkB.foot (g : Nat) (l : List Rv) : Foot (BkB g l) where
  lt := fun ⟨ma, mt, pa, pt, h, e⟩ k hk => h.lt k ((e k).1 hk)
  frame := fun ⟨ma, mt, pa, pt, h, e⟩ c hs => ⟨ma, mt, pa, pt, h.chg c fun k hk => hs k ((e k).2 hk), e⟩
theorem markOf_at (rv s : ByteArray) (n : Int) (w : World) (hs : rv.size ≤ 140737488351232) (h : IsRev rv s n ∨ s = ⟨#[]⟩ ∧ n = 0 ∧ ∀ c m, ¬ IsRev rv c m) :
    Calls Tryd.prog 33 #[.string rv] w fun e w' => e = .returned (.agg #[.string s, .int .i64 n]) ∧ Grow.G w w' := by
  refine (markOf_any rv w hs).mono ?_
  rintro e w' ⟨s', n', _, h', rfl, g⟩
  obtain ⟨rfl, rfl⟩ : s' = s ∧ n' = n := by
    rcases h with h | ⟨rfl, rfl, h⟩ <;> rcases h' with h' | ⟨rfl, rfl, h'⟩
    · exact h'.unique h
    · exact absurd h (h' _ _)
    · exact absurd h' (h _ _)
    · exact ⟨rfl, rfl⟩
  exact ⟨rfl, g⟩
theorem BkIn.nil {w : World} {g : Nat} (hb : Blk w g [.map none, .map none, .map none, .map none].toArray bookT) : BkIn w g [] none none none none where
  ok := BkOk.nil
  hb := hb
  m1 := fun kl => by cases kl <;> rfl
  m2 := fun kl => by cases kl <;> rfl
  m3 := fun kl => by cases kl <;> rfl
  m4 := fun kl => by cases kl <;> rfl
  e1 := .inl ⟨rfl, rfl⟩
  e2 := .inl ⟨rfl, rfl⟩
  ap := fun j h => by simp at h
set_option maxHeartbeats 1000000 in
theorem bnew_any (w : World) : Calls Tryd.prog 12 #[] w fun e w' => e = .returned (pz w.heap.size) ∧ Blk w' w.heap.size [.map none, .map none, .map none, .map none].toArray bookT ∧ Grow.G w w' := by
  go_enter Tryd.func12, Tryd.ntmps12
  go_wp2_with fail
  go_ret
  exact ⟨rfl, Blk.new w _ _, Grow.G.alloc (Grow.G.refl _) _⟩
set_option maxHeartbeats 4000000 in
theorem bproved_any (g : Nat) (l : List Rv) (ma mt pa pt : Option Nat) (rv : ByteArray) (w : World) (h : BkIn w g l ma mt pa pt) (hs : rv.size ≤ 140737488351232) :
    Calls Tryd.prog 22 #[pz g, .string rv] w fun e w' => e = .returned (.bool (prvK l rv)) ∧ Grow.G w w' := by
  obtain ⟨s, n, ⟨hz, hn⟩, hm⟩ := mark_of rv
  have e1 := findG_pr h.ok hm
  have e2 := fK_at (p := Rv.pr) (v := unitV) h.ok (s := s) (n := n) (by unfold maxLen; omega) hn
  have hg := h.hb.lt
  have MO := Lib.hid (fun w => markOf_at rv s n w hs hm)
  have GV := Lib.hid (fun (w' : World) (q : Grow.G w w') => getU_any g 2 pa _ (fK Rv.pr unitV l) s n (prvK l rv) w' (cell_later q (Blk.at (cs := [.map ma, .map mt, .map pa, .map pt]) (k := 2) h.hb rfl)) (Nat.lt_of_lt_of_le hg q.size) (h.m3.grow q) (by unfold maxLen; omega) hn
    (by rw [e2]; cases findG Rv.pr l s n <;> rfl) (by rw [e2, Option.isSome_map]; exact e1))
  clear e1 e2 h hm hz hn
  generalize prvK l rv = b at *
  go_enter Tryd.func22, Tryd.ntmps22
  go_wp2_with fail
  refine Evo2.start' (ℓ := none) (S := Chg (fun j => w.heap.size ≤ j)) (E := Grow.G) (by kernel_rfl) ⟨Chg.pre _, by decide +kernel, (by intro c a d v w h; cases d <;> exact h), by decide +kernel⟩ (fun ok => ?_)
  refine Evo2.va ok 0 _ _ ?_
  refine Evo2.va ok 1 _ _ ?_
  refine Evo2.va ok 2 _ _ ?_
  refine Evo2.va ok 3 _ _ ?_
  (refine Evo2.cal ok 4 ?_ 33 ?_ ?_ ?_ ?_; rotate_left 2; (focus (intro w'; go_simp <;> with_reducible rfl)); (focus (intro w' g'; with_reducible exact MO.out w')); simp only [Act.put, L0, L1, L2])
  (refine Evo2.cal ok 5 ?_ 43 ?_ ?_ ?_ ?_; rotate_left 2; (focus (intro w'; go_simp <;> with_reducible rfl)); (focus (intro w' g'; with_reducible exact GV.out w' ((Chg.trans (Chg.refl (fun j => w.heap.size ≤ j) _) g').toGrow (fun j hj (h : w.heap.size ≤ j) => by omega)))); simp only [Act.put, L0, L1, L2])
  refine Evo2.va ok 6 _ _ ?_
  refine Evo2.va ok 7 _ _ ?_
  refine Evo2.va ok 8 _ _ ?_
  refine Evo2.all [9] (by decide +kernel) rfl ?_
  intro wp1 gp1 iq hq
  simp only [List.mem_cons, List.mem_nil_iff, or_false] at hq
  have AP1 := Chg.trans (Chg.refl (fun j => w.heap.size ≤ j) _) (Chg.grow gp1)
  subst hq
  refine Evo2.runs (by rfl) (by rfl) (fun K' hK' => ?_)
  go_simp
  (try (simp only [Evo.after_value, Evo.after_skip]))
  refine hK'.out _ _ ?_
  clear hK'
  simp only [Act.put, L0, L1, L2]
  refine ⟨.inr (Chg.alloc (Chg.refl _ _) _), ?_⟩
  generalize hG1 : World.alloc wp1 _ = wg1
  have GG1 : Grow.G wp1 wg1 := hG1 ▸ Grow.G.alloc (Grow.G.refl _) _
  have NC1 := (congrArg (fun W : World => W.heap[wp1.heap.size]?) hG1).symm.trans (MapKept.heap_alloc wp1 _).1
  have NL1 : wp1.heap.size < wg1.heap.size := by rw [← hG1]; simp
  clear hG1
  refine Evo2.all [10] (by decide +kernel) rfl ?_
  intro wp2 gp2 iq hq
  simp only [List.mem_cons, List.mem_nil_iff, or_false] at hq
  have AP2 := Chg.trans (Chg.trans AP1 (Chg.grow GG1)) (Chg.grow gp2)
  have NC1 := (gp2.block _ NL1).trans NC1
  have NL1 := Nat.lt_of_lt_of_le NL1 gp2.size
  subst hq
  refine upStoreAll (by rfl) (by rfl) rfl rfl rfl (n := 0) (by kernel_rfl) (NC1) rfl rfl rfl ?_
  intro wc2 BZ CW2
  have CH2 : Chg (fun j => w.heap.size ≤ j) _ _ := CW2.mono (fun j _ e => by have e : j = _ := e; show _ ≤ j; have := AP1.size; omega)
  refine ⟨.inr CH2, ?_⟩
  simp only [Act.put, L0, L1, L2]
  refine Evo2.va ok 11 _ _ ?_
  refine Evo2.done (by decide +kernel) (fun wz gz => ?_)
  have AZ := Chg.trans (Chg.trans AP2 CH2) (Chg.grow gz)
  have GZ := AZ.toGrow (fun j hj (h : w.heap.size ≤ j) => by omega)
  clear AZ gz BZ
  go_wp2_with fail
  go_ret
  exact ⟨rfl, GZ⟩
set_option maxHeartbeats 4000000 in
theorem blatest_any (g : Nat) (l : List Rv) (ma mt pa pt : Option Nat) (s : ByteArray) (w : World) (h : BkIn w g l ma mt pa pt) (hs : s.size ≤ 140737488351232) (ht : Tab w) :
    Calls Tryd.prog 23 #[pz g, .string s] w fun e w' => e = .returned (.tuple #[.string (latM l s), .string (latR l s)]) ∧ Grow.G w w' := by
  have hg := h.hb.lt
  have b1 := topN_bd (m := mineM) h.ok s
  have b2 := topN_bd (m := mineR) h.ok s
  have L1 := Lib.hid (fun (w' : World) (q : Grow.G w w') => latestM_any g 0 mt _ _ s (latM l s) (topI mineM l s) w' (cell_later q (Blk.at (cs := [.map ma, .map mt, .map pa, .map pt]) (k := 1) h.hb rfl)) (Nat.lt_of_lt_of_le hg q.size) (h.m2.grow q) hs (topS_get _ _ _) (by unfold wf64; omega) (topN_name h.ok s fun r q => mineM_nm r q) (ht.below q))
  have L2 := Lib.hid (fun (w' : World) (q : Grow.G w w') => latestU_any g 2 pt _ _ s (latR l s) (topI mineR l s) w' (cell_later q (Blk.at (cs := [.map ma, .map mt, .map pa, .map pt]) (k := 3) h.hb rfl)) (Nat.lt_of_lt_of_le hg q.size) (h.m4.grow q) hs (topS_get _ _ _) (by unfold wf64; omega) (topN_name h.ok s fun r q => mineR_nm r q) (ht.below q))
  have Q1 := L1
  have Q2 := L2
  clear L1 L2 h b1 b2 ht
  generalize latM l s = x at *
  generalize latR l s = y at *
  go_enter Tryd.func23, Tryd.ntmps23
  go_wp2_with fail
  refine Evo2.start' (ℓ := none) (S := Chg (fun _ => False)) (E := Grow.G) (by kernel_rfl) ⟨Chg.pre _, by decide +kernel, (by intro c a d v w h; cases d <;> exact h), by decide +kernel⟩ (fun ok => ?_)
  refine Evo2.va ok 0 _ _ ?_
  refine Evo2.va ok 1 _ _ ?_
  refine Evo2.va ok 2 _ _ ?_
  refine Evo2.va ok 3 _ _ ?_
  (refine Evo2.cal ok 4 ?_ 44 ?_ ?_ ?_ ?_; rotate_left 2; (focus (intro w'; go_simp <;> with_reducible rfl)); (focus (intro w' g'; with_reducible exact Q1.out w' ((Chg.trans (Chg.refl (fun _ => False) _) g').toGrow (fun _ _ => id)))); simp only [Act.put, L0, L1, L2])
  refine Evo2.va ok 5 _ _ ?_
  refine Evo2.va ok 6 _ _ ?_
  refine Evo2.va ok 7 _ _ ?_
  refine Evo2.va ok 8 _ _ ?_
  (refine Evo2.cal ok 9 ?_ 45 ?_ ?_ ?_ ?_; rotate_left 2; (focus (intro w'; go_simp <;> with_reducible rfl)); (focus (intro w' g'; with_reducible exact Q2.out w' ((Chg.trans (Chg.refl (fun _ => False) _) g').toGrow (fun _ _ => id)))); simp only [Act.put, L0, L1, L2])
  refine Evo2.va ok 10 _ _ ?_
  refine Evo2.va ok 11 _ _ ?_
  refine Evo2.done (by decide +kernel) (fun wz gz => ?_)
  have AZ := Chg.trans (Chg.refl (fun _ => False) _) (Chg.grow gz)
  have GZ := AZ.toGrow (fun _ _ => id)
  clear AZ gz
  go_wp2_with fail
  go_returns
  exact ⟨rfl, GZ⟩
set_option maxHeartbeats 4000000 in
theorem bget_none (g : Nat) (l : List Rv) (ma mt pa pt : Option Nat) (rv : ByteArray) (w : World) (h : BkIn w g l ma mt pa pt) (hs : rv.size ≤ 140737488351232) (hf : findK l rv = none) :
    Calls Tryd.prog 21 #[pz g, .string rv] w fun e w' => e = .returned (.tuple #[.agg rvZ.cells.toArray, .bool false]) ∧ Grow.G w w' := by
  obtain ⟨s, n, ⟨hz, hn⟩, hm⟩ := mark_of rv
  have e1 := findG_all h.ok hm
  have e2 := fK_at (p := allR) (v := cfgV) h.ok (s := s) (n := n) (by unfold maxLen; omega) hn
  rw [e1, hf] at e2
  have hg := h.hb.lt
  have MO := Lib.hid (fun w => markOf_at rv s n w hs hm)
  have GV := Lib.hid (fun (w' : World) (q : Grow.G w w') => getM_any g 0 ma _ (fK allR cfgV l) s n ⟨#[]⟩ 0 0 0 0 0 false w' (cell_later q (Blk.at (cs := [.map ma, .map mt, .map pa, .map pt]) (k := 0) h.hb rfl)) (Nat.lt_of_lt_of_le hg q.size) (h.m1.grow q) (by unfold maxLen; omega) hn
    (by rw [e2]; rfl) (by rw [e2]; rfl))
  clear e1 e2 h hm hz hn hf
  have CS : (Tryd.prog.info? 75).map (·.size) = some 2 := by kernel_rfl
  unfold rvZ Rv.cells
  dsimp only
  go_enter Tryd.func21, Tryd.ntmps21
  go_wp2_with fail
  refine (MO.out _).mono ?_
  rintro e wn1 ⟨rfl, hb1⟩
  have HM1 := ((Mem.nil w).alloc' [.string ⟨#[]⟩, .int .i64 0, .string ⟨#[]⟩, .int .i64 0, .int .i64 0, .int .i64 0, .int .i64 0, .int .i64 0] 46 rfl).grow hb1
  simp only [K0, K1, L1, L2, K2, K3, K4, K5, K6, K7, Nat.reduceAdd, Nat.reduceSub] at HM1
  have HM := Lib.hid HM1
  clear HM1 hb1
  go_wp2_with ((refine Mem.storeAll 1 (t := 75) rfl rfl rfl rfl (n := 2) (by kernel_rfl) (Mem.alloc' HM.out _ _ rfl) rfl rfl rfl rfl ?_; intro W2 HMm CW2))
  simp only [K0, K1, L1, L2, K2, K3, K4, K5, K6, K7, Nat.reduceAdd, Nat.reduceSub] at HMm
  replace HM := Lib.hid HMm
  clear HMm
  refine Stay.go ?_
  have hlt1 := HM.out.lt (i := 1) rfl
  have hlt0 := HM.out.lt (i := 0) rfl
  go_wp2_with fail
  refine Evo2.start' (ℓ := none) (S := Chg (fun j => W2.heap.size ≤ j)) (E := Grow.G) (by kernel_rfl) ⟨Chg.pre _, by decide +kernel, (by intro c a d v w h; cases d <;> exact h), by decide +kernel⟩ (fun ok => ?_)
  refine Evo2.va ok 0 _ _ ?_
  refine Evo2.va ok 1 _ _ ?_
  refine Evo2.va ok 2 _ _ ?_
  first | (refine Evo2.val ok 3 ?_ ?_ ?_; rotate_left; (focus (intro w' hg; refine Box.exec_loadAll ?_ Tryd.underlying75 CS ((HM.out.blk (i := 1) rfl).chg (Chg.trans (Chg.refl (fun j => W2.heap.size ≤ j) _) hg) (by omega)) ?_; (all_goals (first | exact ⟨rfl, rfl⟩ | rfl)))); simp only [Act.put, L0, L1, L2]) | (refine Evo2.va ok 3 _ _ ?_)
  (refine Evo2.cal ok 4 ?_ 34 ?_ ?_ ?_ ?_; rotate_left 2; (focus (intro w'; go_simp <;> with_reducible rfl)); (focus (intro w' g'; with_reducible exact GV.out w' (Grow.G.trans HM.out.below ((Chg.trans (Chg.refl (fun j => W2.heap.size ≤ j) _) g').toGrow (fun j hj (h : W2.heap.size ≤ j) => by omega))))); simp only [Act.put, L0, L1, L2])
  refine Evo2.va ok 5 _ _ ?_
  refine Evo2.va ok 6 _ _ ?_
  refine Evo2.va ok 7 _ _ ?_
  refine Evo2.all [8] (by decide +kernel) rfl ?_
  intro wp1 gp1 iq hq
  simp only [List.mem_cons, List.mem_nil_iff, or_false] at hq
  have AP1 := Chg.trans (Chg.refl (fun j => W2.heap.size ≤ j) _) (Chg.grow gp1)
  subst hq
  refine Evo2.runs (by rfl) (by rfl) (fun K' hK' => ?_)
  go_simp
  (try (simp only [Evo.after_value, Evo.after_skip]))
  refine hK'.out _ _ ?_
  clear hK'
  simp only [Act.put, L0, L1, L2]
  refine ⟨.inr (Chg.alloc (Chg.refl _ _) _), ?_⟩
  generalize hG1 : World.alloc wp1 _ = wg1
  have GG1 : Grow.G wp1 wg1 := hG1 ▸ Grow.G.alloc (Grow.G.refl _) _
  have NC1 := (congrArg (fun W : World => W.heap[wp1.heap.size]?) hG1).symm.trans (MapKept.heap_alloc wp1 _).1
  have NL1 : wp1.heap.size < wg1.heap.size := by rw [← hG1]; simp
  clear hG1
  refine Evo2.all [9] (by decide +kernel) rfl ?_
  intro wp2 gp2 iq hq
  simp only [List.mem_cons, List.mem_nil_iff, or_false] at hq
  have AP2 := Chg.trans (Chg.trans AP1 (Chg.grow GG1)) (Chg.grow gp2)
  have NC1 := (gp2.block _ NL1).trans NC1
  have NL1 := Nat.lt_of_lt_of_le NL1 gp2.size
  subst hq
  refine upStoreAll (by rfl) (by rfl) rfl rfl rfl (n := 6) (by kernel_rfl) (NC1) rfl rfl rfl ?_
  intro wc2 BZ CW2
  have CH2 : Chg (fun j => W2.heap.size ≤ j) _ _ := CW2.mono (fun j _ e => by have e : j = _ := e; show _ ≤ j; have := AP1.size; omega)
  refine ⟨.inr CH2, ?_⟩
  simp only [Act.put, L0, L1, L2]
  refine Evo2.va ok 10 _ _ ?_
  refine Evo2.done (by decide +kernel) (fun wz gz => ?_)
  have AZ := Chg.trans (Chg.trans AP2 CH2) (Chg.grow gz)
  have GZ := AZ.toGrow (fun j hj (h : W2.heap.size ≤ j) => by omega)
  have HM := Lib.hid (HM.out.grow GZ)
  clear AZ gz BZ GZ hlt0 hlt1
  go_wp2_with ((refine Mem.storeAll 0 (t := 46) rfl rfl rfl rfl (n := 8) (by kernel_rfl) HM.out rfl rfl rfl rfl ?_; intro wm2 HMm Cwm2))
  simp only [K0, K1, L1, L2, K2, K3, K4, K5, K6, K7, Nat.reduceAdd, Nat.reduceSub] at HMm
  replace HM := Lib.hid HMm
  clear HMm
  refine Stay.go ?_
  have BF := HM.out.blk (i := 0) rfl
  go_wp2_with fail
  refine bodyPost_ret (v := .tuple #[.agg #[.string ⟨#[]⟩, .int .i64 0, .string ⟨#[]⟩, .int .i64 0, .int .i64 0, .int .i64 0, .int .i64 0, .int .i64 0], .bool false]) (by simp [results, Tryd.results21, go_sem, BF.cell]) rfl ?_
  exact ⟨rfl, HM.out.below⟩
end Go.Proofs.YtjcdmnogmpjkkaaDoor
