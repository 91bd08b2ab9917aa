/- My own texts LvS, LvT, LoT, Leq, laid in one file. -/
import Derived.Test.YtjhfjjkfnmnkgaaZ98C
import Derived.Test.YtjhfjjkfnmnkgaaZ37
import Derived.Test.YtjhfjjkfnmnkgaaZ2
import Derived.Test.YtjhfjjkfnmnkgaaZ29
import Derived.RangeFuncNested
import Derived.RangeFuncBound
import Derived.Shelf.Abstract
import Derived.Shelf.RegionOpen
import Derived.OwnWalkIn
import Derived.TacticsInMore
import Derived.LoopNIn
import Derived.LoopIn
import Derived.Test.YtjhfjjkfnmnkgaaZ42

/- Rows copied by way of slices.Values: lead.owned at damper/api.Share (written by tools/gen_own.py). -/
namespace Go.Proofs.Ytjhfjjkfnmnkgaa
set_option maxRecDepth 100000
set_option linter.unusedVariables false
set_option linter.unusedSimpArgs false
set_option linter.unnecessarySimpa false
open Go.RowKit Go.Args
attribute [local go_sem] Oper.semAt_some

def enS (x : Shr) : Array Value := #[.agg (Shr.cells x).toArray]
def OkS (l pre : List Shr) (x : Shr) (_ : World) : Prop := pre = l.take pre.length ∧ l[pre.length]? = some x
/-- The blocks that it reads. -/
def VpS (l : List Shr) (a : Option Addr) (bb : Nat) (k : Nat) : Prop := Iter.blkOf l a k ∨ k = bb
structure ViS (l : List Shr) (a : Option Addr) (c bb : Nat) (W : World) : Prop where
  sl : SlOf W Shr.cells 2 a l
  bx : Blk W bb #[.slice a l.length c] 37
section
variable {l : List Shr} {a : Option Addr} {c bb : Nat} {A B : World}
theorem ViS.keep (h : ViS l a c bb A) (k : Iter.KeepP (VpS l a bb) A B) : ViS l a c bb B := ⟨k.slOf h.sl (fun _ h => .inl h), k.blk h.bx (.inr rfl)⟩
theorem ViS.grow (h : ViS l a c bb A) (g : Grow.G A B) : ViS l a c bb B := h.keep (Iter.KeepP.grow g)
theorem ViS.lt (h : ViS l a c bb A) {k : Nat} (hk : VpS l a bb k) : k < A.heap.size := by
  rcases hk with q | rfl
  · exact q.lt h.sl (fun x => by simp [Shr.cells])
  · exact h.bx.lt
end
theorem valuesS_any (a : Option Addr) (n c : Nat) (w : World) : Calls Try.prog 41 #[.slice a n c] w fun e w' => e = .returned (.func (.func 54) #[] #[pz w.heap.size]) ∧ Blk w' w.heap.size #[.slice a n c] 37 ∧ Grow.G w w' := by
  go_enter Try.func41, Try.ntmps41
  go_wp2_with fail
  go_ret
  exact ⟨rfl, Blk.new w _ _, Grow.G.alloc (Grow.G.refl _) _⟩
set_option maxHeartbeats 4000000 in
theorem valuesS_seq (bb : Nat) (a : Option Addr) (c : Nat) (l : List Shr) (w : World) (h : ViS l a c bb w) (hll : l.length ≤ 1000000) :
    Iter.Seq Try.prog 54 #[pz bb] enS (OkS l) (Iter.KeepP (VpS l a bb)) (fun xs => xs = l) w := by
  intro ln J Jx W hG hJ hJx hY h0
  have HI0 := Lib.hid (h.grow hG)
  have b0 := Blk.at (cs := [Value.slice a l.length c]) (k := 0) HI0.out.bx rfl
  have hbb := HI0.out.bx.lt
  have HJ := Lib.hid hJ
  have HY := Lib.hid hY
  have H0 := Lib.hid h0
  clear h hG hJ hJx hY h0
  refine (callsIn_wide (n := 0)).1 ?_
  refine callsIn_of_wp Try.func54 rfl trivial ?_
  simp only [Try.ntmps54, List.size_toArray, List.length_cons, List.length_nil, Nat.reduceAdd, Nat.reduceSub, Array.replicate_succ, Array.replicate_zero, List.push_toArray, List.append_toArray, List.nil_append, List.cons_append]
  gi_wp2_with fail
  clear b0
  gi_loopw [7] (fun i wr => ∃ (pre : List Shr) (k : Nat), k ≤ l.length ∧ i = .int .i64 k ∧ Hid (pre = l.take k ∧ ViS l a c bb wr ∧ J pre wr)) (fun i _ => l.length - (_root_.Go.RowKit.intOf i).toNat)
  case atStart => exact ⟨[], 0, by omega, rfl, Lib.hid ⟨by simp, HI0.out, H0.out⟩⟩
  case round =>
    obtain ⟨pre, k, hk, rfl, HI⟩ := hrel
    by_cases hlt : k < l.length
    · obtain ⟨s, hs⟩ : ∃ s, l[k]? = some s := ⟨_, List.getElem?_eq_getElem hlt⟩
      obtain ⟨hpl, hri, hj⟩ := HI.out
      have hpk : pre.length = k := by rw [hpl, List.length_take]; omega
      obtain ⟨b, off, rfl, hcc⟩ := hri.sl.spot hlt
      have c0 := hcc k s hs 0 _ rfl
      have c1 := hcc k s hs 1 _ rfl
      rw [Nat.add_zero] at c0
      obtain ⟨x, y⟩ := s
      dsimp only at c0 c1
      have hk1 : IntKind.i64.wrap ((k : Int) + 1) = (k : Int) + 1 := IntWalk.i64_in _ ⟨by omega, by omega⟩
      have d0 : decide ((k : Int) < (l.length : Int)) = true := decide_eq_true (by omega)
      have k1 : (0 : Int) ≤ (k : Int) := by omega
      have k2 : (k : Int) < (l.length : Int) := by omega
      have g1 := Grow.G.alloc (Grow.G.refl wr) (.cells #[.string x, .int .i64 y] 53)
      obtain ⟨fn, tmps, assign, body, hy, hR⟩ := HY.out pre ⟨x, y⟩ _ (HJ.out _ _ _ hj g1) ⟨by rw [hpk]; exact hpl, by rw [hpk]; exact hs⟩
      unfold enS Shr.cells at hy
      (try dsimp only at hy)
      have HN := Lib.hid (And.intro (show pre ++ [(⟨x, y⟩ : Shr)] = l.take (k + 1) by rw [List.take_add_one, hs, ← hpl]; rfl) (hri.grow g1))
      clear hpl hri hj HI hcc hs g1
      gi_wp2_with fail
      refine ⟨rfl, hR.mono ?_⟩
      rintro e w3 (⟨rfl, hj3, hk3⟩ | ⟨rfl, hx3⟩)
      · have HK := Lib.hid (And.intro hj3 hk3)
        clear hj3 hk3 hR hy
        gi_wp2_with fail
        go_roundw
        case rel => exact ⟨pre ++ [_], k + 1, by omega, by go_num, Lib.hid ⟨HN.out.1, HN.out.2.keep HK.out.2, HK.out.1⟩⟩
        case measure => simp [_root_.Go.RowKit.intOf]; omega
      · have HX := Lib.hid hx3
        clear hx3 hR hy
        gi_wp2_with fail
        refine bodyPost_ret (results_none rfl _ _ _) rfl ?_
        exact ⟨⟨_, rfl⟩, .inr ⟨_, HX.out⟩⟩
    · have d0 : decide ((k : Int) < (l.length : Int)) = false := decide_eq_false (by omega)
      obtain ⟨hpl, hri, hj⟩ := HI.out
      have HN := Lib.hid (And.intro hj (show pre = l by rw [hpl]; exact List.take_of_length_le (by omega)))
      clear hpl hri hj HI
      gi_wp2_with fail
      go_end0
      exact ⟨⟨_, rfl⟩, .inl ⟨pre, HN.out.2, HN.out.1⟩⟩
def SzS (s : Shr) : Prop := s.rev.size ≤ 100000
set_option maxHeartbeats 2000000 in
theorem ownS_any (s : Shr) (w : World) (hz : SzS s) : Calls Try.prog 42 #[.agg (Shr.cells s).toArray] w fun e w' => e = .returned (.agg (Shr.cells s).toArray) ∧ Grow.G w w' := by
  obtain ⟨x, y⟩ := s
  unfold SzS at hz
  unfold Shr.cells
  dsimp only at *
  have CL := Lib.hid (fun w => clone_any x w (by omega))
  clear hz
  go_enter Try.func42, Try.ntmps42
  go_wp2_with fail
  refine (CL.out _).mono ?_
  rintro e wn1 ⟨rfl, hb1⟩
  have HM1 := (((Mem.nil w).alloc' [.string x, .int .i64 y] 53 rfl).alloc' [.string ⟨#[]⟩, .int .i64 0] 53 (g := w.heap.size + 1) (by simp)).grow hb1
  simp only [K0, K1, L1, L2, K2, K3, K4, K5, K6, K7, Nat.reduceAdd, Nat.reduceSub] at HM1
  have HM := Lib.hid HM1
  clear HM1 hb1
  go_wp2_with ((refine Mem.store 0 (t := 9) rfl rfl rfl rfl (vs := [.string x]) rfl (n := 1) (by kernel_rfl) HM.out rfl rfl (by simp) rfl ?_; intro wm1 HMm Cwm1))
  simp only [K0, K1, L1, L2, K2, K3, K4, K5, K6, K7, Nat.reduceAdd, Nat.reduceSub] at HMm
  replace HM := Lib.hid HMm
  clear HMm
  refine Stay.go ?_
  go_wp2_with (first | (refine Mem.loadAll 0 (t := 53) rfl rfl rfl Try.underlying53 (n := 2) (by kernel_rfl) HM.out rfl rfl ?_) | (refine Mem.storeAll 1 (t := 53) rfl rfl rfl rfl (n := 2) (by kernel_rfl) HM.out rfl rfl rfl rfl ?_; intro wm2 HMm Cwm2))
  simp only [K0, K1, L1, L2, K2, K3, K4, K5, K6, K7, Nat.reduceAdd, Nat.reduceSub] at HMm
  replace HM := Lib.hid HMm
  clear HMm
  refine Stay.go ?_
  have BF := HM.out.blk (i := 1) rfl
  go_wp2_with fail
  refine bodyPost_ret (v := .agg #[.string x, .int .i64 y]) (by simp [results, Try.results42, go_sem, BF.cell]) rfl ?_
  exact ⟨rfl, HM.out.below⟩
/-- What has been copied. -/
def OwS (w : World) (f : Value) (l pre : List Shr) (W : World) : Prop :=
  ∃ v, Blk W (w.heap.size + 1) #[v] 37 ∧ Blk W w.heap.size #[f] 84 ∧ W.ownsRow w.heap.size 53 2 v pre.length ((l.take pre.length).flatMap Shr.cells) ∧ pre.length ≤ l.length ∧ Below w.heap.size w W
set_option maxHeartbeats 4000000 in
theorem ownedS_any (bb : Nat) (a : Option Addr) (c : Nat) (l : List Shr) (w : World) (h : ViS l a c bb w) (hl : l.length ≤ 1000) (hz : ∀ s, s ∈ l → SzS s) :
    Calls Try.prog 40 #[.func (.func 54) #[] #[pz bb], .func (.func 42) #[] #[]] w fun e w' => ∃ v, e = .returned v ∧ w'.ownsRow w.heap.size 53 2 v l.length (l.flatMap Shr.cells) ∧ Grow.G w w' := by
  have HV := Lib.hid h
  have HZ := Lib.hid hz
  clear h hz
  refine (callsIn_wide (n := 0)).1 ?_
  refine callsIn_of_wp_marks Try.func40 rfl trivial ?_
  simp only [Try.ntmps40, List.size_toArray, List.length_cons, List.length_nil, Nat.reduceAdd, Nat.reduceSub, Array.replicate_succ, Array.replicate_zero, List.push_toArray, List.append_toArray, List.nil_append, List.cons_append]
  gi_wp2_with fail
  obtain ⟨w1, hw1⟩ : ∃ w1, w1 = (w.alloc (.cells #[.func (.func 42) #[] #[]] 84)).alloc (.cells #[.slice none 0 0] 37) := ⟨_, rfl⟩
  have BF : Blk w1 w.heap.size #[.func (.func 42) #[] #[]] 84 := by rw [hw1]; exact (Blk.new w _ _).alloc _
  have B1 : Blk w1 (w.heap.size + 1) #[.slice none 0 0] 37 := by
    have := Blk.new (w.alloc (.cells #[.func (.func 42) #[] #[]] 84)) #[.slice none 0 0] 37
    rw [World.size_alloc, ← hw1] at this; exact this
  have GA : Grow.G w w1 := by rw [hw1]; exact Grow.G.alloc (Grow.G.alloc (Grow.G.refl _) _) _
  rw [← hw1]
  have hsz : w1.heap.size = w.heap.size + 2 := by rw [hw1]; simp
  clear hw1
  refine Iter.range (gf := 54) (lb := #[pz bb]) (encs := enS) (Ok := OkS l) (Kp := Iter.KeepP (VpS l a bb)) (S := fun xs => xs = l) rfl (enters_of Try.func54 (by kernel_rfl) rfl) (valuesS_seq bb a c l w1 (HV.out.grow GA) (by omega)) (Grow.G.refl _) (fun _ => rfl) (fun s x A B h b => h) Iter.KeepP.trans (fun h => Iter.KeepP.book h (fun k hk => (HV.out.grow GA).lt hk))
    (OwS w (.func (.func 42) #[] #[]) l) (fun _ _ _ => False) ?hI (fun _ _ _ _ h _ => h) ?h0 ?round ?done (fun _ _ _ h => h.elim)
  case hI =>
    rintro s A B ⟨v, hv, hf, ho, hn, hB⟩ hbk
    exact ⟨v, hv.book hbk, hf.book hbk, own_book' ho hbk, hn, hB.trans (hbk.below.mono (by have := hB.size; omega))⟩
  case h0 => exact ⟨_, B1, BF, World.ownsRow_nil _ _ _ _, Nat.zero_le _, GA⟩
  case round =>
    rintro ln pre x W hl2 ⟨v, hv, hf, ho, hn, hB⟩ hok
    simp only [enS, Iter.zip1, List.setIfInBounds_toArray, List.set_cons_zero, List.set_cons_succ]
    have hxm := HZ.out x (List.mem_of_getElem? hok.2)
    have OWN := Lib.hid (fun w => ownS_any x w hxm)
    have TS : Hid ((l.take (pre ++ [x]).length).flatMap Shr.cells = (l.take pre.length).flatMap Shr.cells ++ Shr.cells x) := Lib.hid (by
      rw [List.length_append, List.length_singleton, List.take_add_one, hok.2, List.flatMap_append]; simp)
    have hlt : pre.length < l.length := (List.getElem?_eq_some_iff.1 hok.2).1
    obtain ⟨x, y⟩ := x
    unfold Shr.cells at OWN
    dsimp only at OWN
    simp only [Shr.cells]
    gi_wp2_with fail
    have g1 := Grow.G.alloc (Grow.G.refl W) (.cells #[.string x, .int .i64 y] 53)
    refine ⟨g1, fun W₂ hbk _ => ?_⟩
    have V2 := (hv.grow g1).book hbk
    have F2 := (hf.grow g1).book hbk
    have O2 := own_book' (own_later ho g1) hbk
    have BW := (hB.trans (Below.mono g1 hB.size)).trans (hbk.below.mono (by have := hB.size; have := g1.size; omega))
    have Q2 := (Blk.new W #[.string x, .int .i64 y] 53).book hbk
    have NV : ¬ v.ownBlock = some (w.heap.size + 1) := own_blk_types O2 V2 (by decide)
    have NF : ¬ v.ownBlock = some w.heap.size := own_blk_types O2 F2 (by decide)
    have NQ : ¬ v.ownBlock = some W.heap.size := fun e => by have := (ho.lt _ e).2; omega
    have KC := Lib.hid (fun (w' : World) (h : Chg (fun k => v.ownBlock = some k) W₂ w') => (⟨h.cell (Blk.at (cs := [v]) (k := 0) V2 rfl) NV, h.cell (Blk.at (cs := [Value.func (.func 42) #[] #[]]) (k := 0) F2 rfl) NF, h.cell (Blk.at (cs := [.string x, .int .i64 y]) (k := 0) Q2 rfl) NQ, h.cell (Blk.at (cs := [.string x, .int .i64 y]) (k := 1) Q2 rfl) NQ, trivial⟩ : w'.cell? ⟨w.heap.size + 1, 0, none⟩ = some v ∧ w'.cell? ⟨w.heap.size, 0, none⟩ = some (.func (.func 42) #[] #[]) ∧ w'.cell? ⟨W.heap.size, 0, none⟩ = some (.string x) ∧ w'.cell? ⟨W.heap.size, 1, none⟩ = some (.int .i64 y) ∧ True))
    obtain ⟨i0, hi, hz0, hz1, hz2⟩ := info_parts infoShr
    have HIN := Lib.hid hi; have HZ0 := Lib.hid hz0; have HZ1 := Lib.hid hz1; have HZ2 := Lib.hid hz2
    have HO : Hid (W₂.ownsRow w.heap.size 53 2 v pre.length ((l.take pre.length).flatMap Shr.cells)) := Lib.hid O2
    have H := Lib.hid (And.intro V2 (And.intro F2 (And.intro BW (And.intro NV NF))))
    have sW2 := BW.size
    clear V2 O2 F2 BW hbk hok hv hf hB ho NV NF NQ Q2 g1 hi hz0 hz1 hz2 hxm
    gi_wp2_with fail
    refine Round.region (ℓ := some 6) (S := Chg (fun k => v.ownBlock = some k)) (E := Grow.G) (by kernel_rfl) (by decide +kernel) ⟨Chg.pre _, by decide +kernel, (by intro c a d v w h; cases d <;> exact h), by decide +kernel⟩ (fun ok => ?_)
    first | (refine Evo2.vl ok 0 KC.out (Chg.refl (fun k => v.ownBlock = some k) _) _ _ ?_) | (refine Evo2.va ok 0 _ _ ?_)
    first | (refine Evo2.vl ok 1 KC.out (Chg.refl (fun k => v.ownBlock = some k) _) _ _ ?_) | (refine Evo2.va ok 1 _ _ ?_)
    first | (refine Evo2.vl ok 2 KC.out (Chg.refl (fun k => v.ownBlock = some k) _) _ _ ?_) | (refine Evo2.va ok 2 _ _ ?_)
    (refine Evo2.cal ok 3 ?_ 42 ?_ ?_ ?_ ?_; rotate_left 2; (focus (intro w'; go_simp <;> with_reducible rfl)); (focus (intro w' g'; with_reducible exact OWN.out w')); simp only [Act.put, L0, L1, L2])
    refine Evo2.all [4] (by decide +kernel) rfl ?_
    intro wp1 gp1 iq hq
    simp only [List.mem_cons, List.mem_nil_iff, or_false] at hq
    have AP1 := Chg.trans (Chg.refl (fun k => v.ownBlock = some k) _) (Chg.grow gp1)
    subst hq
    refine Evo2.runs (by rfl) (by rfl) (fun K' hK' => ?_)
    (try obtain ⟨q1, q2, q3, q4⟩ := KC.out wp1 AP1)
    go_simp
    (try (simp only [Evo.after_value, Evo.after_skip]))
    refine hK'.out _ _ ?_
    clear hK'
    simp only [Act.put, L0, L1, L2]
    (try clear q1 q2 q3 q4)
    refine ⟨.inr (Chg.alloc (Chg.refl _ _) _), ?_⟩
    generalize hG1 : World.alloc wp1 _ = wg1
    have GG1 : Grow.G wp1 wg1 := hG1 ▸ Grow.G.alloc (Grow.G.refl _) _
    have NC1 := (congrArg (fun W : World => W.heap[wp1.heap.size]?) hG1).symm.trans (MapKept.heap_alloc wp1 _).1
    have NL1 : wp1.heap.size < wg1.heap.size := by rw [← hG1]; simp
    clear hG1
    refine Evo2.all [5] (by decide +kernel) rfl ?_
    intro wp2 gp2 iq hq
    simp only [List.mem_cons, List.mem_nil_iff, or_false] at hq
    have AP2 := Chg.trans (Chg.trans AP1 (Chg.grow GG1)) (Chg.grow gp2)
    have NC1 := (gp2.block _ NL1).trans NC1
    have NL1 := Nat.lt_of_lt_of_le NL1 gp2.size
    subst hq
    refine Fr.own_fr (by rfl) (by rfl) (Operand.tmp 9) (Operand.tmp 13) 37 (by rfl) w.heap.size 53 i0 (.agg #[.string ⟨#[]⟩, .int .i64 0]) 2 24 Try.underlying37 HIN.out HZ0.out HZ1.out HZ2.out rfl (by decide) _ _ _ (by rfl) (own_later HO.out ?_) _ 1 1 [.string x, .int .i64 y] (by rfl) rfl (news_at NC1) ?_ ?_ ?_ ?_ ?_ 
    · exact gp1.trans (GG1.trans gp2) 
    · (intro u hu; simp at hu; rcases hu with rfl | rfl <;> rfl) 
    · unfold maxLen; omega 
    · omega 
    · have := AP2.size; omega
    intro vw2 wc2 OW2 fr2
    obtain ⟨g9, c9, rfl, hg9⟩ := own_some OW2 (by omega); have CH2 : Chg (fun k => v.ownBlock = some k) _ _ := Chg.ofFr fr2
    refine ⟨.inr CH2, ?_⟩
    have AC2 := Chg.trans AP2 CH2
    simp only [Act.put, L0, L1, L2]
    refine Evo2.all [6] (by decide +kernel) rfl ?_
    intro wp3 gp3 iq hq
    simp only [List.mem_cons, List.mem_nil_iff, or_false] at hq
    have AP3 := Chg.trans AC2 (Chg.grow gp3)
    subst hq
    refine Evo2.runs (by rfl) (by rfl) (fun K' hK' => ?_)
    (try obtain ⟨q1, q2, q3, q4⟩ := KC.out wp3 AP3)
    have BQ := H.out.1.chg AP3 H.out.2.2.2.1; have gl := BQ.lt; have e0 := Blk.at (cs := [v]) (k := 0) BQ rfl; have f0 := BQ.free 0; clear BQ
    go_simp
    (try (simp only [Evo.after_value, Evo.after_skip]))
    refine hK'.out _ _ ?_
    clear hK'
    simp only [Act.put, L0, L1, L2]
    (try clear gl e0 f0)
    (try clear q1 q2 q3 q4)
    refine ⟨.inl (by first | rfl | trivial), ?_⟩
    refine Evo2.done (by decide +kernel) (fun wz gz => ?_)
    obtain ⟨V2, F2, BW, NV, NF⟩ := H.out
    have V4 := V2.chg AP3 NV
    have F4 := F2.chg AP3 NF
    have CS : Chg (fun k => k = w.heap.size + 1) wp3 (wp3.setCell ⟨w.heap.size + 1, 0, none⟩ (.slice (some ⟨g9, 0, none⟩) (pre.length + 1) c9)) := Chg.setCell (G := fun k => k = w.heap.size + 1) (Chg.refl _ _) (fun _ => rfl) _ _
    have VZ := (V4.set 0 (.slice (some ⟨g9, 0, none⟩) (pre.length + 1) c9)).grow gz
    have FZ := (F4.chg CS (fun q => by omega)).grow gz
    have RW3 := own_later OW2 gp3
    have RZ := own_later (CS.own RW3 (fun k hk q => by have q : k = w.heap.size + 1 := q; subst q; exact own_blk_types RW3 V4 (by decide) hk)) gz
    have hrow : ∀ k, v.ownBlock = some k → w.heap.size ≤ k := fun k hk => (HO.out.lt k hk).1
    have RT : Iter.Rest w1.heap.size W₂ wz := (AP3.rest (fun k _ q o ho => own_cells' HO.out q ho)).trans ((Iter.Rest.setCell _ _ _).trans (Iter.Rest.grow gz))
    have BZ := (AP3.below (B := w.heap.size) BW.size (fun k hk q => by have := hrow k q; omega)).trans ((CS.below (B := w.heap.size) (by have := AP3.size; omega) (fun k hk q => by have q : k = w.heap.size + 1 := q; omega)).trans (Below.mono gz (by have := AP3.size; have := CS.size; omega)))
    have KZ : Iter.KeepP (VpS l a bb) W₂ wz := ⟨BZ.size, fun k hk hk2 => BZ.block k (HV.out.lt hk)⟩
    have RES := Lib.hid (And.intro VZ (And.intro FZ (And.intro RZ (And.intro RT (And.intro (BW.trans BZ) KZ)))))
    clear VZ FZ RZ RT BZ KZ hrow RW3 CS V4 F4 V2 F2 BW NV NF gz gp1 gp2 gp3 GG1 AP1 AP2 AP3 CH2 OW2 fr2 NC1 NL1 ok
    dsimp only [Round.Calm]
    gi_wp2_with fail
    obtain ⟨q1, q2, q3, q4, q5, q6⟩ := RES.out
    refine ⟨q4, q6, _, q1, q2, ?_, by rw [List.length_append, List.length_singleton]; omega, q5⟩
    rw [TS.out, List.length_append, List.length_singleton]
    exact q3
  case done =>
    rintro xs W hS ⟨v, hv, hf, ho, hn, hB⟩ hD
    replace hS : xs = l := hS
    subst hS
    rw [List.take_length] at ho
    have v0 := Blk.at (cs := [v]) (k := 0) hv rfl
    have HP := Lib.hid ho
    have HB := Lib.hid hB
    have HDD := Lib.hid hD
    clear ho hB hv hf hD
    gi_wp2_with fail
    have sW := HB.out.size
    refine ⟨by simp, .inl ⟨_, _, rfl, run_takeDeferred HDD.out, ?_⟩⟩
    have BK : Iter.Book w.heap.size W (W.putObj w1.heap.size (.deferred none)) := Iter.Book.putObj _ HDD.out rfl (by omega)
    exact ⟨v, by simp [results, Try.results40, go_sem], v, rfl, own_book' HP.out BK, HB.out.trans (BK.below.mono (by omega))⟩
end Go.Proofs.Ytjhfjjkfnmnkgaa

/- Rows copied by way of slices.Values: lead.owned at damper/api.TagTo (written by tools/gen_own.py). -/
namespace Go.Proofs.Ytjhfjjkfnmnkgaa
set_option maxRecDepth 100000
set_option linter.unusedVariables false
set_option linter.unusedSimpArgs false
set_option linter.unnecessarySimpa false
open Go.RowKit Go.Args
attribute [local go_sem] Oper.semAt_some

def enT (x : Tgo) : Array Value := #[.agg (Tgo.cells x).toArray]
def OkT (l pre : List Tgo) (x : Tgo) (_ : World) : Prop := pre = l.take pre.length ∧ l[pre.length]? = some x
/-- The blocks that it reads. -/
def VpT (l : List Tgo) (a : Option Addr) (bb : Nat) (k : Nat) : Prop := Iter.blkOf l a k ∨ k = bb
structure ViT (l : List Tgo) (a : Option Addr) (c bb : Nat) (W : World) : Prop where
  sl : SlOf W Tgo.cells 2 a l
  bx : Blk W bb #[.slice a l.length c] 38
section
variable {l : List Tgo} {a : Option Addr} {c bb : Nat} {A B : World}
theorem ViT.keep (h : ViT l a c bb A) (k : Iter.KeepP (VpT l a bb) A B) : ViT l a c bb B := ⟨k.slOf h.sl (fun _ h => .inl h), k.blk h.bx (.inr rfl)⟩
theorem ViT.grow (h : ViT l a c bb A) (g : Grow.G A B) : ViT l a c bb B := h.keep (Iter.KeepP.grow g)
theorem ViT.lt (h : ViT l a c bb A) {k : Nat} (hk : VpT l a bb k) : k < A.heap.size := by
  rcases hk with q | rfl
  · exact q.lt h.sl (fun x => by simp [Tgo.cells])
  · exact h.bx.lt
end
theorem valuesT_any (a : Option Addr) (n c : Nat) (w : World) : Calls Try.prog 44 #[.slice a n c] w fun e w' => e = .returned (.func (.func 55) #[] #[pz w.heap.size]) ∧ Blk w' w.heap.size #[.slice a n c] 38 ∧ Grow.G w w' := by
  go_enter Try.func44, Try.ntmps44
  go_wp2_with fail
  go_ret
  exact ⟨rfl, Blk.new w _ _, Grow.G.alloc (Grow.G.refl _) _⟩
set_option maxHeartbeats 4000000 in
theorem valuesT_seq (bb : Nat) (a : Option Addr) (c : Nat) (l : List Tgo) (w : World) (h : ViT l a c bb w) (hll : l.length ≤ 1000000) :
    Iter.Seq Try.prog 55 #[pz bb] enT (OkT l) (Iter.KeepP (VpT l a bb)) (fun xs => xs = l) w := by
  intro ln J Jx W hG hJ hJx hY h0
  have HI0 := Lib.hid (h.grow hG)
  have b0 := Blk.at (cs := [Value.slice a l.length c]) (k := 0) HI0.out.bx rfl
  have hbb := HI0.out.bx.lt
  have HJ := Lib.hid hJ
  have HY := Lib.hid hY
  have H0 := Lib.hid h0
  clear h hG hJ hJx hY h0
  refine (callsIn_wide (n := 0)).1 ?_
  refine callsIn_of_wp Try.func55 rfl trivial ?_
  simp only [Try.ntmps55, List.size_toArray, List.length_cons, List.length_nil, Nat.reduceAdd, Nat.reduceSub, Array.replicate_succ, Array.replicate_zero, List.push_toArray, List.append_toArray, List.nil_append, List.cons_append]
  gi_wp2_with fail
  clear b0
  gi_loopw [7] (fun i wr => ∃ (pre : List Tgo) (k : Nat), k ≤ l.length ∧ i = .int .i64 k ∧ Hid (pre = l.take k ∧ ViT l a c bb wr ∧ J pre wr)) (fun i _ => l.length - (_root_.Go.RowKit.intOf i).toNat)
  case atStart => exact ⟨[], 0, by omega, rfl, Lib.hid ⟨by simp, HI0.out, H0.out⟩⟩
  case round =>
    obtain ⟨pre, k, hk, rfl, HI⟩ := hrel
    by_cases hlt : k < l.length
    · obtain ⟨s, hs⟩ : ∃ s, l[k]? = some s := ⟨_, List.getElem?_eq_getElem hlt⟩
      obtain ⟨hpl, hri, hj⟩ := HI.out
      have hpk : pre.length = k := by rw [hpl, List.length_take]; omega
      obtain ⟨b, off, rfl, hcc⟩ := hri.sl.spot hlt
      have c0 := hcc k s hs 0 _ rfl
      have c1 := hcc k s hs 1 _ rfl
      rw [Nat.add_zero] at c0
      obtain ⟨x, y⟩ := s
      dsimp only at c0 c1
      have hk1 : IntKind.i64.wrap ((k : Int) + 1) = (k : Int) + 1 := IntWalk.i64_in _ ⟨by omega, by omega⟩
      have d0 : decide ((k : Int) < (l.length : Int)) = true := decide_eq_true (by omega)
      have k1 : (0 : Int) ≤ (k : Int) := by omega
      have k2 : (k : Int) < (l.length : Int) := by omega
      have g1 := Grow.G.alloc (Grow.G.refl wr) (.cells #[.string x, .string y] 55)
      obtain ⟨fn, tmps, assign, body, hy, hR⟩ := HY.out pre ⟨x, y⟩ _ (HJ.out _ _ _ hj g1) ⟨by rw [hpk]; exact hpl, by rw [hpk]; exact hs⟩
      unfold enT Tgo.cells at hy
      (try dsimp only at hy)
      have HN := Lib.hid (And.intro (show pre ++ [(⟨x, y⟩ : Tgo)] = l.take (k + 1) by rw [List.take_add_one, hs, ← hpl]; rfl) (hri.grow g1))
      clear hpl hri hj HI hcc hs g1
      gi_wp2_with fail
      refine ⟨rfl, hR.mono ?_⟩
      rintro e w3 (⟨rfl, hj3, hk3⟩ | ⟨rfl, hx3⟩)
      · have HK := Lib.hid (And.intro hj3 hk3)
        clear hj3 hk3 hR hy
        gi_wp2_with fail
        go_roundw
        case rel => exact ⟨pre ++ [_], k + 1, by omega, by go_num, Lib.hid ⟨HN.out.1, HN.out.2.keep HK.out.2, HK.out.1⟩⟩
        case measure => simp [_root_.Go.RowKit.intOf]; omega
      · have HX := Lib.hid hx3
        clear hx3 hR hy
        gi_wp2_with fail
        refine bodyPost_ret (results_none rfl _ _ _) rfl ?_
        exact ⟨⟨_, rfl⟩, .inr ⟨_, HX.out⟩⟩
    · have d0 : decide ((k : Int) < (l.length : Int)) = false := decide_eq_false (by omega)
      obtain ⟨hpl, hri, hj⟩ := HI.out
      have HN := Lib.hid (And.intro hj (show pre = l by rw [hpl]; exact List.take_of_length_le (by omega)))
      clear hpl hri hj HI
      gi_wp2_with fail
      go_end0
      exact ⟨⟨_, rfl⟩, .inl ⟨pre, HN.out.2, HN.out.1⟩⟩
def SzT (s : Tgo) : Prop := s.tag.size ≤ 100000 ∧ s.rev.size ≤ 100000
set_option maxHeartbeats 2000000 in
theorem ownT_any (s : Tgo) (w : World) (hz : SzT s) : Calls Try.prog 45 #[.agg (Tgo.cells s).toArray] w fun e w' => e = .returned (.agg (Tgo.cells s).toArray) ∧ Grow.G w w' := by
  obtain ⟨x, y⟩ := s
  unfold SzT at hz
  unfold Tgo.cells
  dsimp only at *
  have CX := Lib.hid (fun w => clone_any x w (by omega))
  have CY := Lib.hid (fun w => clone_any y w (by omega))
  clear hz
  obtain ⟨W, hW⟩ : ∃ W, W = (w.alloc (.cells #[.string x, .string y] 55)).alloc (.cells #[.string ⟨#[]⟩, .string ⟨#[]⟩] 55) := ⟨_, rfl⟩
  have HM : Hid (Mem w W [(w.heap.size, [.string x, .string y], 55), (w.heap.size + 1, [.string ⟨#[]⟩, .string ⟨#[]⟩], 55)]) := Lib.hid (by rw [hW]; exact Mem.alloc' (Mem.alloc' (Mem.nil w) _ _ rfl) _ _ (g := w.heap.size + 1) (by simp))
  have KC := Lib.hid (fun (w' : World) (h : Chg (fun _ => False) W w') => (⟨h.cell (HM.out.cell (i := 0) (o := 0) rfl rfl) id, h.cell (HM.out.cell (i := 0) (o := 1) rfl rfl) id, trivial⟩ : w'.cell? ⟨w.heap.size, 0, none⟩ = some (.string x) ∧ w'.cell? ⟨w.heap.size, 1, none⟩ = some (.string y) ∧ True))
  have BT := Lib.hid (HM.out.blk (i := 1) rfl)
  go_enter Try.func45, Try.ntmps45
  go_wp2_with fail
  rw [← hW]
  clear hW
  refine Evo2.start' (ℓ := some 7) (S := Chg (fun _ => False)) (E := Grow.G) (by kernel_rfl) ⟨Chg.pre _, by decide +kernel, (by intro c a d v w h; cases d <;> exact h), by decide +kernel⟩ (fun ok => ?_)
  refine Evo2.va ok 0 _ _ ?_
  first | (refine Evo2.vl ok 1 KC.out (Chg.refl (fun _ => False) _) _ _ ?_) | (refine Evo2.va ok 1 _ _ ?_)
  (refine Evo2.cal ok 2 ?_ 48 ?_ ?_ ?_ ?_; rotate_left 2; (focus (intro w'; go_simp <;> with_reducible rfl)); (focus (intro w' g'; with_reducible exact CX.out w')); simp only [Act.put, L0, L1, L2])
  refine Evo2.va ok 3 _ _ ?_
  first | (refine Evo2.vl ok 4 KC.out (Chg.refl (fun _ => False) _) _ _ ?_) | (refine Evo2.va ok 4 _ _ ?_)
  (refine Evo2.cal ok 5 ?_ 48 ?_ ?_ ?_ ?_; rotate_left 2; (focus (intro w'; go_simp <;> with_reducible rfl)); (focus (intro w' g'; with_reducible exact CY.out w')); simp only [Act.put, L0, L1, L2])
  refine Evo2.va ok 6 _ _ ?_
  refine Evo2.all [7] (by decide +kernel) rfl ?_
  intro wp1 gp1 iq hq
  simp only [List.mem_cons, List.mem_nil_iff, or_false] at hq
  have AP1 := Chg.trans (Chg.refl (fun _ => False) _) (Chg.grow gp1)
  subst hq
  refine upStoreAll (by rfl) (by rfl) rfl rfl rfl (n := 2) (by kernel_rfl) (BT.out.chg AP1 id) rfl rfl rfl ?_
  intro wc1 BZ CW1
  refine ⟨.inl (by first | rfl | trivial), ?_⟩
  simp only [Act.put, L0, L1, L2]
  refine Evo2.done (by decide +kernel) (fun wz gz => ?_)
  have AZ := AP1
  have BF := Blk.grow BZ gz
  have GF : Grow.G w wz := ((show Below w.heap.size w wp1 from Grow.G.trans HM.out.below (AZ.toGrow (fun _ _ => id))).trans (CW1.below (B := w.heap.size) (by have := AP1.size; have := HM.out.below.size; omega) (fun k hk q => by have q : k = w.heap.size + 1 := q; omega))).trans (Below.mono gz (by have := AP1.size; have := CW1.size; have := HM.out.below.size; omega))
  clear AZ BZ gz CW1
  go_wp2_with fail
  refine bodyPost_ret (v := .agg #[.string x, .string y]) (by simp [results, Try.results45, go_sem, BF.cell]) rfl ?_
  exact ⟨rfl, GF⟩
/-- What has been copied. -/
def OwT (w : World) (f : Value) (l pre : List Tgo) (W : World) : Prop :=
  ∃ v, Blk W (w.heap.size + 1) #[v] 38 ∧ Blk W w.heap.size #[f] 89 ∧ W.ownsRow w.heap.size 55 2 v pre.length ((l.take pre.length).flatMap Tgo.cells) ∧ pre.length ≤ l.length ∧ Below w.heap.size w W
set_option maxHeartbeats 4000000 in
theorem ownedT_any (bb : Nat) (a : Option Addr) (c : Nat) (l : List Tgo) (w : World) (h : ViT l a c bb w) (hl : l.length ≤ 1000) (hz : ∀ s, s ∈ l → SzT s) :
    Calls Try.prog 43 #[.func (.func 55) #[] #[pz bb], .func (.func 45) #[] #[]] w fun e w' => ∃ v, e = .returned v ∧ w'.ownsRow w.heap.size 55 2 v l.length (l.flatMap Tgo.cells) ∧ Grow.G w w' := by
  have HV := Lib.hid h
  have HZ := Lib.hid hz
  clear h hz
  refine (callsIn_wide (n := 0)).1 ?_
  refine callsIn_of_wp_marks Try.func43 rfl trivial ?_
  simp only [Try.ntmps43, List.size_toArray, List.length_cons, List.length_nil, Nat.reduceAdd, Nat.reduceSub, Array.replicate_succ, Array.replicate_zero, List.push_toArray, List.append_toArray, List.nil_append, List.cons_append]
  gi_wp2_with fail
  obtain ⟨w1, hw1⟩ : ∃ w1, w1 = (w.alloc (.cells #[.func (.func 45) #[] #[]] 89)).alloc (.cells #[.slice none 0 0] 38) := ⟨_, rfl⟩
  have BF : Blk w1 w.heap.size #[.func (.func 45) #[] #[]] 89 := by rw [hw1]; exact (Blk.new w _ _).alloc _
  have B1 : Blk w1 (w.heap.size + 1) #[.slice none 0 0] 38 := by
    have := Blk.new (w.alloc (.cells #[.func (.func 45) #[] #[]] 89)) #[.slice none 0 0] 38
    rw [World.size_alloc, ← hw1] at this; exact this
  have GA : Grow.G w w1 := by rw [hw1]; exact Grow.G.alloc (Grow.G.alloc (Grow.G.refl _) _) _
  rw [← hw1]
  have hsz : w1.heap.size = w.heap.size + 2 := by rw [hw1]; simp
  clear hw1
  refine Iter.range (gf := 55) (lb := #[pz bb]) (encs := enT) (Ok := OkT l) (Kp := Iter.KeepP (VpT l a bb)) (S := fun xs => xs = l) rfl (enters_of Try.func55 (by kernel_rfl) rfl) (valuesT_seq bb a c l w1 (HV.out.grow GA) (by omega)) (Grow.G.refl _) (fun _ => rfl) (fun s x A B h b => h) Iter.KeepP.trans (fun h => Iter.KeepP.book h (fun k hk => (HV.out.grow GA).lt hk))
    (OwT w (.func (.func 45) #[] #[]) l) (fun _ _ _ => False) ?hI (fun _ _ _ _ h _ => h) ?h0 ?round ?done (fun _ _ _ h => h.elim)
  case hI =>
    rintro s A B ⟨v, hv, hf, ho, hn, hB⟩ hbk
    exact ⟨v, hv.book hbk, hf.book hbk, own_book' ho hbk, hn, hB.trans (hbk.below.mono (by have := hB.size; omega))⟩
  case h0 => exact ⟨_, B1, BF, World.ownsRow_nil _ _ _ _, Nat.zero_le _, GA⟩
  case round =>
    rintro ln pre x W hl2 ⟨v, hv, hf, ho, hn, hB⟩ hok
    simp only [enT, Iter.zip1, List.setIfInBounds_toArray, List.set_cons_zero, List.set_cons_succ]
    have hxm := HZ.out x (List.mem_of_getElem? hok.2)
    have OWN := Lib.hid (fun w => ownT_any x w hxm)
    have TS : Hid ((l.take (pre ++ [x]).length).flatMap Tgo.cells = (l.take pre.length).flatMap Tgo.cells ++ Tgo.cells x) := Lib.hid (by
      rw [List.length_append, List.length_singleton, List.take_add_one, hok.2, List.flatMap_append]; simp)
    have hlt : pre.length < l.length := (List.getElem?_eq_some_iff.1 hok.2).1
    obtain ⟨x, y⟩ := x
    unfold Tgo.cells at OWN
    dsimp only at OWN
    simp only [Tgo.cells]
    gi_wp2_with fail
    have g1 := Grow.G.alloc (Grow.G.refl W) (.cells #[.string x, .string y] 55)
    refine ⟨g1, fun W₂ hbk _ => ?_⟩
    have V2 := (hv.grow g1).book hbk
    have F2 := (hf.grow g1).book hbk
    have O2 := own_book' (own_later ho g1) hbk
    have BW := (hB.trans (Below.mono g1 hB.size)).trans (hbk.below.mono (by have := hB.size; have := g1.size; omega))
    have Q2 := (Blk.new W #[.string x, .string y] 55).book hbk
    have NV : ¬ v.ownBlock = some (w.heap.size + 1) := own_blk_types O2 V2 (by decide)
    have NF : ¬ v.ownBlock = some w.heap.size := own_blk_types O2 F2 (by decide)
    have NQ : ¬ v.ownBlock = some W.heap.size := fun e => by have := (ho.lt _ e).2; omega
    have KC := Lib.hid (fun (w' : World) (h : Chg (fun k => v.ownBlock = some k) W₂ w') => (⟨h.cell (Blk.at (cs := [v]) (k := 0) V2 rfl) NV, h.cell (Blk.at (cs := [Value.func (.func 45) #[] #[]]) (k := 0) F2 rfl) NF, h.cell (Blk.at (cs := [.string x, .string y]) (k := 0) Q2 rfl) NQ, h.cell (Blk.at (cs := [.string x, .string y]) (k := 1) Q2 rfl) NQ, trivial⟩ : w'.cell? ⟨w.heap.size + 1, 0, none⟩ = some v ∧ w'.cell? ⟨w.heap.size, 0, none⟩ = some (.func (.func 45) #[] #[]) ∧ w'.cell? ⟨W.heap.size, 0, none⟩ = some (.string x) ∧ w'.cell? ⟨W.heap.size, 1, none⟩ = some (.string y) ∧ True))
    obtain ⟨i0, hi, hz0, hz1, hz2⟩ := info_parts infoTgo
    have HIN := Lib.hid hi; have HZ0 := Lib.hid hz0; have HZ1 := Lib.hid hz1; have HZ2 := Lib.hid hz2
    have HO : Hid (W₂.ownsRow w.heap.size 55 2 v pre.length ((l.take pre.length).flatMap Tgo.cells)) := Lib.hid O2
    have H := Lib.hid (And.intro V2 (And.intro F2 (And.intro BW (And.intro NV NF))))
    have sW2 := BW.size
    clear V2 O2 F2 BW hbk hok hv hf hB ho NV NF NQ Q2 g1 hi hz0 hz1 hz2 hxm
    gi_wp2_with fail
    refine Round.region (ℓ := some 6) (S := Chg (fun k => v.ownBlock = some k)) (E := Grow.G) (by kernel_rfl) (by decide +kernel) ⟨Chg.pre _, by decide +kernel, (by intro c a d v w h; cases d <;> exact h), by decide +kernel⟩ (fun ok => ?_)
    first | (refine Evo2.vl ok 0 KC.out (Chg.refl (fun k => v.ownBlock = some k) _) _ _ ?_) | (refine Evo2.va ok 0 _ _ ?_)
    first | (refine Evo2.vl ok 1 KC.out (Chg.refl (fun k => v.ownBlock = some k) _) _ _ ?_) | (refine Evo2.va ok 1 _ _ ?_)
    first | (refine Evo2.vl ok 2 KC.out (Chg.refl (fun k => v.ownBlock = some k) _) _ _ ?_) | (refine Evo2.va ok 2 _ _ ?_)
    (refine Evo2.cal ok 3 ?_ 45 ?_ ?_ ?_ ?_; rotate_left 2; (focus (intro w'; go_simp <;> with_reducible rfl)); (focus (intro w' g'; with_reducible exact OWN.out w')); simp only [Act.put, L0, L1, L2])
    refine Evo2.all [4] (by decide +kernel) rfl ?_
    intro wp1 gp1 iq hq
    simp only [List.mem_cons, List.mem_nil_iff, or_false] at hq
    have AP1 := Chg.trans (Chg.refl (fun k => v.ownBlock = some k) _) (Chg.grow gp1)
    subst hq
    refine Evo2.runs (by rfl) (by rfl) (fun K' hK' => ?_)
    (try obtain ⟨q1, q2, q3, q4⟩ := KC.out wp1 AP1)
    go_simp
    (try (simp only [Evo.after_value, Evo.after_skip]))
    refine hK'.out _ _ ?_
    clear hK'
    simp only [Act.put, L0, L1, L2]
    (try clear q1 q2 q3 q4)
    refine ⟨.inr (Chg.alloc (Chg.refl _ _) _), ?_⟩
    generalize hG1 : World.alloc wp1 _ = wg1
    have GG1 : Grow.G wp1 wg1 := hG1 ▸ Grow.G.alloc (Grow.G.refl _) _
    have NC1 := (congrArg (fun W : World => W.heap[wp1.heap.size]?) hG1).symm.trans (MapKept.heap_alloc wp1 _).1
    have NL1 : wp1.heap.size < wg1.heap.size := by rw [← hG1]; simp
    clear hG1
    refine Evo2.all [5] (by decide +kernel) rfl ?_
    intro wp2 gp2 iq hq
    simp only [List.mem_cons, List.mem_nil_iff, or_false] at hq
    have AP2 := Chg.trans (Chg.trans AP1 (Chg.grow GG1)) (Chg.grow gp2)
    have NC1 := (gp2.block _ NL1).trans NC1
    have NL1 := Nat.lt_of_lt_of_le NL1 gp2.size
    subst hq
    refine Fr.own_fr (by rfl) (by rfl) (Operand.tmp 9) (Operand.tmp 13) 38 (by rfl) w.heap.size 55 i0 (.agg #[.string ⟨#[]⟩, .string ⟨#[]⟩]) 2 32 Try.underlying38 HIN.out HZ0.out HZ1.out HZ2.out rfl (by decide) _ _ _ (by rfl) (own_later HO.out ?_) _ 1 1 [.string x, .string y] (by rfl) rfl (news_at NC1) ?_ ?_ ?_ ?_ ?_ 
    · exact gp1.trans (GG1.trans gp2) 
    · (intro u hu; simp at hu; rcases hu with rfl | rfl <;> rfl) 
    · unfold maxLen; omega 
    · omega 
    · have := AP2.size; omega
    intro vw2 wc2 OW2 fr2
    obtain ⟨g9, c9, rfl, hg9⟩ := own_some OW2 (by omega); have CH2 : Chg (fun k => v.ownBlock = some k) _ _ := Chg.ofFr fr2
    refine ⟨.inr CH2, ?_⟩
    have AC2 := Chg.trans AP2 CH2
    simp only [Act.put, L0, L1, L2]
    refine Evo2.all [6] (by decide +kernel) rfl ?_
    intro wp3 gp3 iq hq
    simp only [List.mem_cons, List.mem_nil_iff, or_false] at hq
    have AP3 := Chg.trans AC2 (Chg.grow gp3)
    subst hq
    refine Evo2.runs (by rfl) (by rfl) (fun K' hK' => ?_)
    (try obtain ⟨q1, q2, q3, q4⟩ := KC.out wp3 AP3)
    have BQ := H.out.1.chg AP3 H.out.2.2.2.1; have gl := BQ.lt; have e0 := Blk.at (cs := [v]) (k := 0) BQ rfl; have f0 := BQ.free 0; clear BQ
    go_simp
    (try (simp only [Evo.after_value, Evo.after_skip]))
    refine hK'.out _ _ ?_
    clear hK'
    simp only [Act.put, L0, L1, L2]
    (try clear gl e0 f0)
    (try clear q1 q2 q3 q4)
    refine ⟨.inl (by first | rfl | trivial), ?_⟩
    refine Evo2.done (by decide +kernel) (fun wz gz => ?_)
    obtain ⟨V2, F2, BW, NV, NF⟩ := H.out
    have V4 := V2.chg AP3 NV
    have F4 := F2.chg AP3 NF
    have CS : Chg (fun k => k = w.heap.size + 1) wp3 (wp3.setCell ⟨w.heap.size + 1, 0, none⟩ (.slice (some ⟨g9, 0, none⟩) (pre.length + 1) c9)) := Chg.setCell (G := fun k => k = w.heap.size + 1) (Chg.refl _ _) (fun _ => rfl) _ _
    have VZ := (V4.set 0 (.slice (some ⟨g9, 0, none⟩) (pre.length + 1) c9)).grow gz
    have FZ := (F4.chg CS (fun q => by omega)).grow gz
    have RW3 := own_later OW2 gp3
    have RZ := own_later (CS.own RW3 (fun k hk q => by have q : k = w.heap.size + 1 := q; subst q; exact own_blk_types RW3 V4 (by decide) hk)) gz
    have hrow : ∀ k, v.ownBlock = some k → w.heap.size ≤ k := fun k hk => (HO.out.lt k hk).1
    have RT : Iter.Rest w1.heap.size W₂ wz := (AP3.rest (fun k _ q o ho => own_cells' HO.out q ho)).trans ((Iter.Rest.setCell _ _ _).trans (Iter.Rest.grow gz))
    have BZ := (AP3.below (B := w.heap.size) BW.size (fun k hk q => by have := hrow k q; omega)).trans ((CS.below (B := w.heap.size) (by have := AP3.size; omega) (fun k hk q => by have q : k = w.heap.size + 1 := q; omega)).trans (Below.mono gz (by have := AP3.size; have := CS.size; omega)))
    have KZ : Iter.KeepP (VpT l a bb) W₂ wz := ⟨BZ.size, fun k hk hk2 => BZ.block k (HV.out.lt hk)⟩
    have RES := Lib.hid (And.intro VZ (And.intro FZ (And.intro RZ (And.intro RT (And.intro (BW.trans BZ) KZ)))))
    clear VZ FZ RZ RT BZ KZ hrow RW3 CS V4 F4 V2 F2 BW NV NF gz gp1 gp2 gp3 GG1 AP1 AP2 AP3 CH2 OW2 fr2 NC1 NL1 ok
    dsimp only [Round.Calm]
    gi_wp2_with fail
    obtain ⟨q1, q2, q3, q4, q5, q6⟩ := RES.out
    refine ⟨q4, q6, _, q1, q2, ?_, by rw [List.length_append, List.length_singleton]; omega, q5⟩
    rw [TS.out, List.length_append, List.length_singleton]
    exact q3
  case done =>
    rintro xs W hS ⟨v, hv, hf, ho, hn, hB⟩ hD
    replace hS : xs = l := hS
    subst hS
    rw [List.take_length] at ho
    have v0 := Blk.at (cs := [v]) (k := 0) hv rfl
    have HP := Lib.hid ho
    have HB := Lib.hid hB
    have HDD := Lib.hid hD
    clear ho hB hv hf hD
    gi_wp2_with fail
    have sW := HB.out.size
    refine ⟨by simp, .inl ⟨_, _, rfl, run_takeDeferred HDD.out, ?_⟩⟩
    have BK : Iter.Book w.heap.size W (W.putObj w1.heap.size (.deferred none)) := Iter.Book.putObj _ HDD.out rfl (by omega)
    exact ⟨v, by simp [results, Try.results43, go_sem], v, rfl, own_book' HP.out BK, HB.out.trans (BK.below.mono (by omega))⟩
end Go.Proofs.Ytjhfjjkfnmnkgaa

/- lead.ownTable: a table by itself. -/
namespace Go.Proofs.Ytjhfjjkfnmnkgaa
set_option maxRecDepth 100000
set_option linter.unusedVariables false
set_option linter.unusedSimpArgs false
set_option linter.unnecessarySimpa false
open Go.RowKit Go.Args

set_option maxHeartbeats 16000000 in
theorem ownTable_any (a : Option Addr) (l : List Shr) (c : Nat) (b : Option Addr) (m : List Tgo) (d : Nat) (w : World) (ha : ShSl w a l) (hb : TgSl w b m) (hl : l.length ≤ 1000) (hm : m.length ≤ 1000) (zl : ∀ s, s ∈ l → SzS s) (zm : ∀ s, s ∈ m → SzT s) :
    Calls Try.prog 30 #[.agg #[.slice a l.length c, .slice b m.length d]] w fun e w' => ∃ va vb, e = .returned (.agg #[va, vb]) ∧ CopyT w w' l m va vb := by
  obtain ⟨W, hW⟩ : ∃ W, W = (w.alloc (.cells #[.slice a l.length c, .slice b m.length d] tablT13)).alloc (.cells #[.slice none 0 0, .slice none 0 0] tablT13) := ⟨_, rfl⟩
  have HM : Hid (Mem w W [(w.heap.size, [.slice a l.length c, .slice b m.length d], tablT13), (w.heap.size + 1, [.slice none 0 0, .slice none 0 0], tablT13)]) := Lib.hid (by rw [hW]; exact Mem.alloc' (Mem.alloc' (Mem.nil w) _ _ rfl) _ _ (g := w.heap.size + 1) (by simp))
  have hws : W.heap.size = w.heap.size + 2 := by rw [hW]; simp
  have KC := Lib.hid (fun (w' : World) (h : Chg (fun _ => False) W w') => (⟨h.cell (HM.out.cell (i := 0) (o := 0) rfl rfl) id, h.cell (HM.out.cell (i := 0) (o := 1) rfl rfl) id, trivial⟩ : w'.cell? ⟨w.heap.size, 0, none⟩ = some (.slice a l.length c) ∧ w'.cell? ⟨w.heap.size, 1, none⟩ = some (.slice b m.length d) ∧ True))
  have VS := Lib.hid (fun w => valuesS_any a l.length c w)
  have VT := Lib.hid (fun w => valuesT_any b m.length d w)
  have OS := Lib.hid (fun (bb : Nat) (w' : World) (h : Blk w' bb #[.slice a l.length c] 37) (g : Grow.G W w') => ownedS_any bb a c l w' ⟨SlOf.later (SlOf.later ha HM.out.below) g, h⟩ hl zl)
  have OT := Lib.hid (fun (bb : Nat) (w' : World) (h : Blk w' bb #[.slice b m.length d] 38) (g : Grow.G W w') => ownedT_any bb b d m w' ⟨SlOf.later (SlOf.later hb HM.out.below) g, h⟩ hm zm)
  have BT := Lib.hid (HM.out.blk (i := 1) rfl)
  clear ha hb zl zm
  go_enter Try.func30, Try.ntmps30
  go_wp2_with fail
  rw [← hW]
  clear hW
  refine Evo2.start' (ℓ := some 9) (S := Chg (fun _ => False)) (E := Grow.G) (by kernel_rfl) ⟨Chg.pre _, by decide +kernel, (by intro c a d v w h; cases d <;> exact h), by decide +kernel⟩ (fun ok => ?_)
  refine Evo2.va ok 0 _ _ ?_
  first | (refine Evo2.vl ok 1 KC.out (Chg.refl (fun _ => False) _) _ _ ?_) | (refine Evo2.va ok 1 _ _ ?_)
  refine Evo2.va ok 4 _ _ ?_
  first | (refine Evo2.vl ok 5 KC.out (Chg.refl (fun _ => False) _) _ _ ?_) | (refine Evo2.va ok 5 _ _ ?_)
  refine Evo2.all [2] (by decide +kernel) rfl ?_
  intro wp1 gp1 iq hq
  simp only [List.mem_cons, List.mem_nil_iff, or_false] at hq
  have AP1 := Chg.trans (Chg.refl (fun _ => False) _) (Chg.grow gp1)
  (try replace VB := Lib.hid (VB.out.grow gp1)); (try replace RO := Lib.hid (own_later RO.out gp1)); (try replace RP := Lib.hid (own_later RP.out gp1))
  subst hq
  refine Evo2.enters 41 _ (by rfl) (by rfl) (by go_simp; exact ⟨rfl, rfl⟩) ?_
  refine (VS.out wp1).mono ?_
  rintro e wc1 ⟨rfl, hvb, hg⟩; have CH1 := Chg.grow (G := fun _ => False) hg; have VB := Lib.hid hvb; clear hvb
  refine ⟨_, rfl, .inr CH1, ?_⟩
  have AC1 := Chg.trans AP1 CH1
  simp only [Act.put, L0, L1, L2]
  refine Evo2.all [3] (by decide +kernel) rfl ?_
  intro wp2 gp2 iq hq
  simp only [List.mem_cons, List.mem_nil_iff, or_false] at hq
  have AP2 := Chg.trans AC1 (Chg.grow gp2)
  (try replace VB := Lib.hid (VB.out.grow gp2)); (try replace RO := Lib.hid (own_later RO.out gp2)); (try replace RP := Lib.hid (own_later RP.out gp2))
  subst hq
  refine Evo2.enters 40 _ (by rfl) (by rfl) (by go_simp; exact ⟨rfl, rfl⟩) ?_
  refine (OS.out wp1.heap.size wp2 VB.out (Chg.toGrow AP2 (fun _ _ => id))).mono ?_
  rintro e wc2 ⟨u, rfl, ho, hg⟩; obtain ⟨ua, uc, rfl⟩ := own_shape ho; have CH2 := Chg.grow (G := fun _ => False) hg; have RO := Lib.hid (own_base ho AP2.size)
  refine ⟨_, rfl, .inr CH2, ?_⟩
  have AC2 := Chg.trans AP2 CH2
  simp only [Act.put, L0, L1, L2]
  refine Evo2.all [6] (by decide +kernel) rfl ?_
  intro wp3 gp3 iq hq
  simp only [List.mem_cons, List.mem_nil_iff, or_false] at hq
  have AP3 := Chg.trans AC2 (Chg.grow gp3)
  (try replace VB := Lib.hid (VB.out.grow gp3)); (try replace RO := Lib.hid (own_later RO.out gp3)); (try replace RP := Lib.hid (own_later RP.out gp3))
  subst hq
  refine Evo2.enters 44 _ (by rfl) (by rfl) (by go_simp; exact ⟨rfl, rfl⟩) ?_
  refine (VT.out wp3).mono ?_
  rintro e wc3 ⟨rfl, hvb, hg⟩; have CH3 := Chg.grow (G := fun _ => False) hg; replace RO := Lib.hid (own_later RO.out hg); have VB := Lib.hid hvb; clear hvb
  refine ⟨_, rfl, .inr CH3, ?_⟩
  have AC3 := Chg.trans AP3 CH3
  simp only [Act.put, L0, L1, L2]
  refine Evo2.all [7] (by decide +kernel) rfl ?_
  intro wp4 gp4 iq hq
  simp only [List.mem_cons, List.mem_nil_iff, or_false] at hq
  have AP4 := Chg.trans AC3 (Chg.grow gp4)
  (try replace VB := Lib.hid (VB.out.grow gp4)); (try replace RO := Lib.hid (own_later RO.out gp4)); (try replace RP := Lib.hid (own_later RP.out gp4))
  subst hq
  refine Evo2.enters 43 _ (by rfl) (by rfl) (by go_simp; exact ⟨rfl, rfl⟩) ?_
  refine (OT.out wp3.heap.size wp4 VB.out (Chg.toGrow AP4 (fun _ _ => id))).mono ?_
  rintro e wc4 ⟨u, rfl, ho2, hg⟩; obtain ⟨xa, xc, rfl⟩ := own_shape ho2; have CH4 := Chg.grow (G := fun _ => False) hg; have NE : Hid (∀ k, (Value.slice ua l.length uc).ownBlock = some k → ¬ (Value.slice xa m.length xc).ownBlock = some k) := Lib.hid (fun k q1 q2 => by have := (RO.out.lt k q1).2; have := (ho2.lt k q2).1; omega); have RP := Lib.hid (own_base ho2 AP4.size); replace RO := Lib.hid (own_later RO.out hg)
  refine ⟨_, rfl, .inr CH4, ?_⟩
  have AC4 := Chg.trans AP4 CH4
  simp only [Act.put, L0, L1, L2]
  refine Evo2.va ok 8 _ _ ?_
  refine Evo2.all [9] (by decide +kernel) rfl ?_
  intro wp5 gp5 iq hq
  simp only [List.mem_cons, List.mem_nil_iff, or_false] at hq
  have AP5 := Chg.trans AC4 (Chg.grow gp5)
  (try replace VB := Lib.hid (VB.out.grow gp5)); (try replace RO := Lib.hid (own_later RO.out gp5)); (try replace RP := Lib.hid (own_later RP.out gp5))
  subst hq
  refine upStoreAll (by rfl) (by rfl) rfl rfl rfl (n := 2) (by kernel_rfl) (BT.out.chg AP5 id) rfl rfl rfl ?_
  intro wc5 BZ CW5
  refine ⟨.inl (by first | rfl | trivial), ?_⟩
  simp only [Act.put, L0, L1, L2]
  refine Evo2.done (by decide +kernel) (fun wz gz => ?_)
  have AZ := AP5
  have BF := Blk.grow BZ gz
  have s5 := AP5.size
  have q1 : ∀ k, (Value.slice ua l.length uc).ownBlock = some k → ¬ k = w.heap.size + 1 := fun k hk => by have := (RO.out.lt k hk).1; omega
  have q2 : ∀ k, (Value.slice xa m.length xc).ownBlock = some k → ¬ k = w.heap.size + 1 := fun k hk => by have := (RP.out.lt k hk).1; omega
  have GF : Grow.G w wz := ((show Below w.heap.size w wp5 from Grow.G.trans HM.out.below (AZ.toGrow (fun _ _ => id))).trans (CW5.below (B := w.heap.size) (by omega) (fun k hk q => by have q : k = w.heap.size + 1 := q; omega))).trans (Below.mono gz (by have := CW5.size; omega))
  have RES : Hid (CopyT w wz l m (.slice ua l.length uc) (.slice xa m.length xc)) := Lib.hid ⟨own_base (own_later (CW5.own RO.out q1) gz) (by omega), own_base (own_later (CW5.own RP.out q2) gz) (by omega), NE.out, GF⟩
  clear AZ BZ gz CW5 RO RP NE GF q1 q2
  go_wp2_with fail
  refine bodyPost_ret (v := .agg #[.slice ua l.length uc, .slice xa m.length xc]) (by simp [results, Try.results30, go_sem, BF.cell]) rfl ?_
  exact ⟨_, _, rfl, RES.out⟩

set_option maxRecDepth 100000 in
set_option maxHeartbeats 1000000 in
theorem equalS_any (a a' : Option Addr) (xs ys : List Shr) (c c' : Nat) (w : World) (hl : xs.length ≤ 1000000) (ht : SlOf w Shr.cells 2 a xs) (ht' : SlOf w Shr.cells 2 a' ys) :
    Calls Try.prog 46 #[.slice a xs.length c, .slice a' ys.length c'] w fun x w' => x = .returned (.bool (sameShr xs ys)) ∧ Grow.G w w' := by
  have HT := Lib.hid ht
  have HT' := Lib.hid ht'
  clear ht ht'
  by_cases hn : xs.length = ys.length
  · have hn1 : (xs.length != ys.length) = false := by simpa using hn
    have HN := Lib.hid hn
    clear hn
    go_enter Try.func46, Try.ntmps46
    go_wp2
    go_loopw [13] (fun i wr => ∃ k : Nat, k ≤ xs.length ∧ i = .int .i64 k ∧ Hid (Grow.G w wr) ∧ Hid (∀ j, j < k → shrB (xs.getD j shr0) (ys.getD j shr0) = true)) (fun i _ => xs.length - (intOf i).toNat)
    case atStart => exact ⟨0, by omega, rfl, Grow.G.refl _, fun j h => by omega⟩
    case round =>
      obtain ⟨k, hk, rfl, G, H0⟩ := hrel
      by_cases hlt : k < xs.length
      · have hlt' : k < ys.length := by have := HN.out; omega
        obtain ⟨b, off, rfl, hat⟩ := (HT.out.later G.out).spot hlt
        obtain ⟨b', off', rfl, hat'⟩ := (HT'.out.later G.out).spot hlt'
        have NO := Lib.hid (fun h => sameL_no (d := shr0) (q := shrB) (ys := ys) hlt h)
        have H1 : Hid (∀ j, j < k + 1 → j ≠ k → shrB (xs.getD j shr0) (ys.getD j shr0) = true) := Lib.hid (fun j h1 h2 => H0.out j (by omega))
        obtain ⟨t, hs⟩ : ∃ t, xs[k]? = some t := ⟨_, List.getElem?_eq_getElem hlt⟩
        obtain ⟨t', hs'⟩ : ∃ t', ys[k]? = some t' := ⟨_, List.getElem?_eq_getElem hlt'⟩
        have E1 : Hid (xs.getD k shr0 = t) := Lib.hid (by simp [List.getD, hs])
        have E2 : Hid (ys.getD k shr0 = t') := Lib.hid (by simp [List.getD, hs'])
        have c0 : ∀ w', Grow.G wr w' → w'.cell? ⟨b, off + k * 2, none⟩ = some (.string t.rev) := fun w' g => cell_later g (hat k _ hs 0 _ rfl)
        have c1 : ∀ w', Grow.G wr w' → w'.cell? ⟨b, off + k * 2 + 1, none⟩ = some (.int .i64 t.w) := fun w' g => cell_later g (hat k _ hs 1 _ rfl)
        have d0 : ∀ w', Grow.G wr w' → w'.cell? ⟨b', off' + k * 2, none⟩ = some (.string t'.rev) := fun w' g => cell_later g (hat' k _ hs' 0 _ rfl)
        have d1 : ∀ w', Grow.G wr w' → w'.cell? ⟨b', off' + k * 2 + 1, none⟩ = some (.int .i64 t'.w) := fun w' g => cell_later g (hat' k _ hs' 1 _ rfl)
        have k1 : (0 : Int) ≤ (k : Int) := by omega
        have k2 : (k : Int) < (xs.length : Int) := by omega
        have k3 : (k : Int) < (ys.length : Int) := by omega
        have t0 : decide ((k : Int) < (xs.length : Int)) = true := decide_eq_true (by omega)
        have hk1 : IntKind.i64.wrap ((k : Int) + 1) = (k : Int) + 1 := IntWalk.i64_in _ ⟨by omega, by omega⟩
        obtain ⟨m0, m1⟩ := t
        obtain ⟨m0', m1'⟩ := t'
        simp only at c0 d0 c1 d1
        have RN := run_neq_shr m0 m0' m1 m1'
        clear hat hat' hs hs' hlt hlt'
        go_wp2_with fail
        refine Grow.region_seqT (by kernel_rfl) (by kernel_rfl) (by intro c a d v w h; cases d <;> exact h) (by kernel_rfl) ?_
        repeat (first
          | (refine Grow.seqT.value ?_ (by rfl) ?_ ?_; rotate_left; (intro w' hg; go_simp <;> with_reducible rfl); simp only [Act.put, L0, L1, L2])
          | (refine Grow.seqT.value ?_ (by rfl) ?_ ?_; rotate_left; (intro w' hg; have ⟨hgc, hgf, hgz⟩ := bcell hg; go_simp <;> with_reducible rfl); simp only [Act.put, L0, L1, L2])
          | (refine Grow.seqT.value ?_ (by rfl) ?_ ?_; rotate_left; (intro w' hg; go_simp; rw [if_neg (by omega)]); simp only [Act.put, L0, L1, L2])
          | (refine Grow.seqT.idle (by rfl) ?_; simp only [Act.put, L0, L1, L2])
          )
        refine Grow.seqT.done (fun w4 g4 => ?_)
        clear c0 d0 c1 d1 RN
        generalize hq : shrB ⟨m0, m1⟩ ⟨m0', m1'⟩ = q at *
        have HQ := Lib.hid hq
        clear hq
        cases q with
        | true =>
          go_wp2_with fail
          go_roundw
          case rel => exact ⟨k + 1, by omega, by go_num, Grow.G.trans G.out g4, fun j hj => by
            by_cases e : j = k
            · rw [e, E1.out, E2.out]; exact HQ.out
            · exact H1.out j hj e⟩
          case measure => simp [intOf]; omega
        | false =>
          go_wp2_with fail
          go_ret
          exact ⟨ret_bool (NO.out (by rw [E1.out, E2.out]; exact HQ.out)).symm, Grow.G.trans G.out g4⟩
      · have t0 : decide ((k : Int) < (xs.length : Int)) = false := decide_eq_false (by omega)
        have Y := Lib.hid (sameL_yes HN.out (fun i hi => H0.out i (by omega)))
        go_wp2_with fail
        go_ret
        exact ⟨ret_bool Y.out.symm, G.out⟩
  · have hn1 : (xs.length != ys.length) = true := by simpa using hn
    have Y := Lib.hid (sameL_len (d := shr0) (q := shrB) hn)
    clear hn
    go_enter Try.func46, Try.ntmps46
    go_wp2
    go_ret
    exact ⟨ret_bool Y.out.symm, Grow.G.refl _⟩
end Go.Proofs.Ytjhfjjkfnmnkgaa
