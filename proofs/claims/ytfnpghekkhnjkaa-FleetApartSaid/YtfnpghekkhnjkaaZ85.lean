/- My own texts FpF, FpC, laid in one file. -/
import Derived.Test.YtfnpghekkhnjkaaZ84
import Derived.Test.YtfnpghekkhnjkaaZ37
import Derived.Test.YtfnpghekkhnjkaaZ29

/- The program's fleet: what fit yields: those of each that may be drained. -/
namespace Go.Proofs.Ytfnpghekkhnjkaa
set_option maxRecDepth 100000
set_option linter.unusedVariables false
set_option linter.unusedSimpArgs false
set_option linter.unnecessarySimpa false
open Go.RowKit Go.MapV Go.Maps
attribute [local go_sem] Oper.semAt_some

theorem fit_new (g : Nat) (rv : ByteArray) (w : World) : Calls Try.prog 29 #[pz g, .string rv] w fun e w' => ∃ b1 b2, e = .returned (.func (.func 53) #[] #[pz b1, pz b2]) ∧ w.heap.size ≤ b1 ∧ w.heap.size ≤ b2 ∧ Blk w' b1 #[pz g] 25 ∧ Blk w' b2 #[.string rv] 9 ∧ Grow.G w w' := by
  go_enter Try.func29, Try.ntmps29
  go_wp2
  go_ret
  refine ⟨w.heap.size, w.heap.size + 1, rfl, Nat.le_refl _, Nat.le_succ _, (Blk.new w _ _).alloc _, ?_, ?_⟩
  · have := Blk.new (w.alloc (.cells #[pz g] 25)) #[.string rv] 9
    rwa [World.size_alloc] at this
  (repeat (first | with_reducible exact Grow.G.refl _ | with_reducible exact Below.refl _ _ | with_reducible refine Grow.G.alloc ?_ _ | with_reducible refine Grow.G.trans ?_ hb1 | ((with_reducible refine Below.setCell ?_ ?_ _); rotate_left; (focus (first | omega | (simp; done) | (simp; omega)))) | with_reducible assumption | with_reducible refine Grow.G.trans ?_ (by with_reducible assumption)))
theorem round_in {F : Fence} {n : Nat} {P : Program} {l l' : Nat} {f : FuncId} {tmps : Array Value} {assign body : Code} {w : World} {R : Ending → World → Prop} (h : RoundIn F n P l f tmps assign body w R) : RoundIn (F.inRound l') n P l f tmps assign body w R := h
/-- Those that may be drained. -/
def fitL (l : List Po) (rv : ByteArray) : List Po := (eachL l rv).filter Po.act
/-- The iterator's own blocks, and those of the one that it goes by. -/
def pqO (a b c : Nat) (p : Nat → Prop) (k : Nat) : Prop := p k ∨ k = a ∨ k = b ∨ k = c
theorem prv_pq {n m a b c : Nat} {p : Nat → Prop} {W : World} (h : Iter.Prv n p W) (hn : m ≤ n) (ha : m ≤ a) (hb : m ≤ b) (hc : m ≤ c) {x y z : Array Value} {T U V : TypeId} (h1 : Blk W a x T) (h2 : Blk W b y U) (h3 : Blk W c z V) : Iter.Prv m (pqO a b c p) W := by
  rintro k (hk | rfl | rfl | rfl)
  · exact h.mono hn k hk
  · exact ⟨ha, _, h1, rfl⟩
  · exact ⟨hb, _, h2, rfl⟩
  · exact ⟨hc, _, h3, rfl⟩
set_option maxHeartbeats 16000000 in
theorem fit_seq (b1 b2 g : Nat) (rv : ByteArray) (F : Nat → Prop) (r n : Int) (mp ma : Nat) (lm : List PM) (w : World) (h1 : Blk w b1 #[pz g] 25) (h2 : Blk w b2 #[.string rv] 9) (hs : FlRd w F g r n mp ma lm) (ok : PosOk (lm.map PM.h)) (hl : lm.length ≤ 1000) (hw : ∀ m, m ∈ lm → wf64 m.h.id) :
    Iter.SeqQ Try.prog 53 #[pz b1, pz b2] lkE (LkOk (fitL (lm.map PM.h) rv)) (Iter.KeepP (fun k => F k ∨ k = b1 ∨ k = b2)) (fun xs => xs = fitL (lm.map PM.h) rv) w := by
  intro ln J Jx W hG hJ hJx hY h0
  have S0 := Lib.hid (hs.grow hG)
  have a0 := Blk.at (cs := [pz g]) (k := 0) (h1.grow hG) rfl
  have a1 := Blk.at (cs := [Value.string rv]) (k := 0) (h2.grow hG) rfl
  have l1 := (h1.grow hG).lt
  have l2 := (h2.grow hG).lt
  have HEN := Lib.hid (fun w => each_new g rv w)
  have HJ := Lib.hid hJ
  have HJX := Lib.hid hJx
  have HY := Lib.hid hY
  have H0 := Lib.hid h0
  have HOK := Lib.hid ok
  have HWF := Lib.hid hw
  clear h1 h2 hs hG hJ hJx hY h0 ok hw
  refine (callsIn_wide (n := 0)).1 ?_
  refine callsIn_of_wp_marks Try.func53 rfl trivial ?_
  simp only [Try.ntmps53, List.size_toArray, List.length_cons, List.length_nil, Nat.reduceAdd, Nat.reduceSub, Array.replicate_succ, Array.replicate_zero, List.push_toArray, List.append_toArray, List.nil_append, List.cons_append]
  gi_wp2_with fail
  refine ⟨trivial, rfl, (callsIn_wide.2 (HEN.out _)).mono ?_⟩
  rintro e w1 ⟨c1, c2, rfl, hc1, hc2, k1, k2, hg1⟩
  have X1 := (Blk.new W #[.func (.yield ln) #[] #[]] 91).grow hg1
  have GA := (Grow.G.alloc (Grow.G.refl W) (.cells #[.func (.yield ln) #[] #[]] 91)).trans hg1
  simp only [World.size_alloc] at hc1 hc2
  have SQ := each_seq c1 c2 g rv F r n mp ma lm w1 k1 k2 (S0.out.grow GA) HOK.out hl HWF.out
  have S1 := Lib.hid (S0.out.grow GA)
  have hw1 : W.heap.size < w1.heap.size := X1.lt
  have k1l := k1.lt
  have k2l := k2.lt
  clear hg1 a0 a1
  gi_wp2_with fail
  refine Iter.rangeQ (gf := 60) (lb := #[pz c1, pz c2]) (encs := lkE) (Ok := LkOk (eachL (lm.map PM.h) rv)) (Kp := Iter.KeepP (fun k => F k ∨ k = c1 ∨ k = c2)) (S := fun xs => xs = eachL (lm.map PM.h) rv) rfl (enters_of Try.func60 (by kernel_rfl) rfl) SQ (Grow.G.refl _) (fun _ => rfl) (fun s x A B h b => h) Iter.KeepP.trans (fun h => Iter.KeepP.book h (fun k hk => by
      rcases hk with hk | rfl | rfl
      · exact S1.out.lt k hk
      · exact k1l
      · exact k2l))
    (fun p pre A => J (pqO W.heap.size c1 c2 p) (pre.filter Po.act) A ∧ Blk A W.heap.size #[.func (.yield ln) #[] #[]] 91) (fun p c _ A => c = .ret ∧ ∃ q, Jx (pqO W.heap.size c1 c2 p) q A) ?hI ?hIx ?h0 ?round ?done ?stop
  case hI =>
    rintro p s A B ⟨hj, hx⟩ hbk
    exact ⟨HJ.out _ _ _ _ hj (hbk.mono (by omega)), hx.book hbk⟩
  case hIx =>
    rintro p c s A B ⟨hc, q, hx⟩ hbk
    exact ⟨hc, q, HJX.out _ _ _ _ hx (hbk.mono (by omega))⟩
  case h0 =>
    rintro p W' hg' hpv
    exact ⟨H0.out _ W' (GA.trans hg') (prv_pq hpv (by omega) (Nat.le_refl _) (by omega) (by omega) (X1.grow hg') (k1.grow hg') (k2.grow hg')), X1.grow hg'⟩
  case round =>
    rintro p l pre x A hl2 ⟨hj, hx⟩ hok hpv
    simp only [lkE, Iter.zip1, List.setIfInBounds_toArray, List.set_cons_zero, List.set_cons_succ]
    unfold Po.look
    gi_wp2_with fail
    have g1 := Grow.G.alloc (Grow.G.refl A) (.cells #[.int .i64 x.id, .int .i64 x.p.st, .int .i64 x.load] lookT)
    refine ⟨g1, fun W₂ hbk _ => ?_⟩
    have Q2 := (Blk.new A #[.int .i64 x.id, .int .i64 x.p.st, .int .i64 x.load] lookT).book hbk
    have X2 := (hx.grow g1).book hbk
    have J2 := HJ.out _ _ _ _ hj (((Iter.Book.grow g1).trans hbk).mono (n' := W.heap.size) (by omega))
    have q0 := Blk.at (cs := [Value.int .i64 x.id, .int .i64 x.p.st, .int .i64 x.load]) (k := 0) Q2 rfl
    have q1 := Blk.at (cs := [Value.int .i64 x.id, .int .i64 x.p.st, .int .i64 x.load]) (k := 1) Q2 rfl
    have q2 := Blk.at (cs := [Value.int .i64 x.id, .int .i64 x.p.st, .int .i64 x.load]) (k := 2) Q2 rfl
    have x0 := Blk.at (cs := [Value.func (.yield ln) #[] #[]]) (k := 0) X2 rfl
    have ql := Q2.lt
    have xl := X2.lt
    by_cases hact : x.p.st = 1 ∨ x.p.st = 2
    · have LKO := pre_at (f := Po.act) hok.2 (act_iff.2 hact)
      rw [← hok.1] at LKO
      have LKS : Hid (pre.filter Po.act ++ [x] = (pre ++ [x]).filter Po.act) := Lib.hid (by rw [List.filter_append, List.filter_cons_of_pos (act_iff.2 hact)]; rfl)
      obtain ⟨fn, tmps, assign, body, hy, hR⟩ := HY.out _ _ x W₂ J2 LKO
      unfold lkE Po.look at hy
      have HX := Lib.hid X2
      clear LKO J2 hok hbk g1 Q2 X2 hj hx
      obtain ⟨st, hst⟩ : ∃ st, x.p.st = st := ⟨_, rfl⟩
      rw [hst] at hact hy q1 ⊢
      clear hst
      rcases hact with rfl | rfl
      all_goals
        gi_wp2_with fail
        refine ⟨rfl, round_in (hR.mono ?_)⟩
        rintro e w3 (⟨rfl, hj3, hp3, hk3, hr3⟩ | ⟨rfl, hx3, hr3⟩)
        · have RES := Lib.hid (And.intro hr3 (And.intro hp3 (And.intro hk3 hj3)))
          clear hr3 hp3 hk3 hj3 hR hy
          gi_wp2_with fail
          obtain ⟨z1, z2, z3, z4⟩ := RES.out
          refine ⟨z1.mono (by omega), fun k hk => z2 k (.inl hk), ⟨z3.1, fun k hk hs => ?_⟩, LKS.out ▸ z4, (z2 _ (.inr (.inl rfl))).trans HX.out⟩
          rcases hk with hk | rfl | rfl
          · exact z3.2 k (.inl hk) hs
          · exact z2 _ (.inr (.inr (.inl rfl)))
          · exact z2 _ (.inr (.inr (.inr rfl)))
        · have RES := Lib.hid (And.intro hr3 hx3)
          clear hr3 hx3 hR hy
          gi_wp2_with fail
          exact ⟨RES.out.1.mono (by omega), rfl, _, RES.out.2⟩
    · have LKS : Hid ((pre ++ [x]).filter Po.act = pre.filter Po.act) := Lib.hid (by rw [List.filter_append, List.filter_cons_of_neg (fun q => hact (act_iff.1 q))]; simp)
      have d1 : (x.p.st == 1) = false := by simpa using fun q => hact (.inl q)
      have d2 : (x.p.st == 2) = false := by simpa using fun q => hact (.inr q)
      have HX := Lib.hid (And.intro J2 X2)
      clear J2 hok hbk g1 Q2 X2 hj hx hact
      gi_wp2_with fail
      refine ⟨fun f hf => (by cases hf), ?_⟩
      gi_wp2_with fail
      refine ⟨Iter.Rest.refl _ _, fun k _ => rfl, ⟨Nat.le_refl _, fun k _ _ => rfl⟩, ?_, HX.out.2⟩
      rw [LKS.out]
      exact HX.out.1
  case done =>
    rintro p xs A hS ⟨hj, hx⟩ hD
    replace hS : xs = eachL (lm.map PM.h) rv := hS
    have BK : Iter.Book W.heap.size A (A.putObj w1.heap.size (.deferred none)) := (Iter.Book.putObj (n := w1.heap.size) _ hD rfl (Nat.le_refl _)).mono (by omega)
    have JZ := Lib.hid (HJ.out _ _ _ _ hj BK)
    have HDD := Lib.hid hD
    rw [hS] at JZ
    clear hj hx hD BK hS
    gi_wp2_with fail
    refine ⟨by simp, .inl ⟨_, _, rfl, run_takeDeferred HDD.out, ?_⟩⟩
    exact ⟨.tuple #[], by simp [results, Try.results53, go_sem], ⟨_, rfl⟩, _, .inl ⟨_, rfl, JZ.out⟩⟩
  case stop =>
    rintro p c pre A ⟨rfl, q, hx⟩ hD
    have BK : Iter.Book W.heap.size A (A.putObj w1.heap.size (.deferred none)) := (Iter.Book.putObj (n := w1.heap.size) _ hD rfl (Nat.le_refl _)).mono (by omega)
    have JZ := Lib.hid (HJX.out _ _ _ _ hx BK)
    have HDD := Lib.hid hD
    clear hx hD BK
    gi_wp2_with fail
    refine ⟨by simp, .inl ⟨_, _, rfl, run_takeDeferred HDD.out, ?_⟩⟩
    exact ⟨.tuple #[], by simp [results, Try.results53, go_sem], ⟨_, rfl⟩, _, .inr ⟨_, JZ.out⟩⟩
end Go.Proofs.Ytfnpghekkhnjkaa

/- What an iterator over pods yields, collected: AppendSeq, Collect. -/
namespace Go.Proofs.Ytfnpghekkhnjkaa
set_option maxRecDepth 100000
set_option linter.unusedVariables false
set_option linter.unusedSimpArgs false
set_option linter.unnecessarySimpa false
open Go.RowKit Go.Args
attribute [local go_sem] Oper.semAt_some

theorem infoLook : (Try.prog.info? lookT).map (fun i => (i.zero, i.size, i.bytes)) = some (some (.agg #[.int .i64 0, .int .i64 0, .int .i64 0]), 3, 24) := by kernel_rfl
theorem keep_belowO {p : Nat → Prop} {N : Nat} {A B : World} (h : Below N A B) (hN : N ≤ A.heap.size) (hp : ∀ k, p k → k < N) : Iter.KeepP p A B := ⟨h.size, fun k hk _ => h.block k (hp k hk)⟩
/-- What has been collected. -/
def ColO (w : World) (L : List Po) (p : Nat → Prop) (pre : List Po) (W : World) : Prop :=
  ∃ v, Blk W w.heap.size #[v] 31 ∧ W.ownsRow w.heap.size lookT 3 v pre.length (looks pre) ∧ pre.length ≤ L.length ∧ (∀ k, p k → v.ownBlock ≠ some k ∧ k ≠ w.heap.size) ∧ Below w.heap.size w W
set_option maxHeartbeats 4000000 in
theorem appseq_any (gf : FuncId) (lb : Array Value) (eg : ∀ args w, (callFunc gf args).run Try.prog w = .ok (.enter gf args) w) (F : Nat → Prop) (L : List Po) (w : World) (hF : ∀ k, F k → k < w.heap.size) (hL : L.length ≤ 1000)
    (hseq : Iter.SeqQ Try.prog gf lb lkE (LkOk L) (Iter.KeepP F) (fun xs => xs = L) w) :
    Calls Try.prog 59 #[.slice none 0 0, .func (.func gf) #[] lb] w fun e w' => ∃ v, e = .returned v ∧ w'.ownsRow w.heap.size lookT 3 v L.length (looks L) ∧ Grow.G w w' := by
  have HF := Lib.hid hF
  refine (callsIn_wide (n := 0)).1 ?_
  refine callsIn_of_wp_marks Try.func59 rfl trivial ?_
  simp only [Try.ntmps59, List.size_toArray, List.length_cons, List.length_nil, Nat.reduceAdd, Nat.reduceSub, Array.replicate_succ, Array.replicate_zero, List.push_toArray, List.append_toArray, List.nil_append, List.cons_append]
  gi_wp2_with fail
  have B1 := Blk.new w #[.slice none 0 0] 31
  have GA := Grow.G.alloc (Grow.G.refl w) (.cells #[.slice none 0 0] 31)
  obtain ⟨w1, hw1⟩ : ∃ w1, w1 = w.alloc (.cells #[.slice none 0 0] 31) := ⟨_, rfl⟩
  rw [← hw1] at B1 GA ⊢
  have hsz : w1.heap.size = w.heap.size + 1 := by rw [hw1]; simp
  clear hw1
  refine Iter.rangeQ (gf := gf) (lb := lb) (encs := lkE) (Ok := LkOk L) (Kp := Iter.KeepP F) (S := fun xs => xs = L) rfl eg hseq GA (fun _ => rfl) (fun s x A B h b => h) Iter.KeepP.trans (fun h => Iter.KeepP.book h (fun k hk => by have := HF.out k hk; omega))
    (ColO w L) (fun _ _ _ _ => False) ?hI (fun _ _ _ _ _ h _ => h) ?h0 ?round ?done (fun _ _ _ _ h => h.elim)
  case hI =>
    rintro p s A B ⟨v, hv, ho, hn, hp, hB⟩ hbk
    exact ⟨v, hv.book hbk, own_book' ho hbk, hn, hp, hB.trans (hbk.below.mono (by have := hB.size; omega))⟩
  case h0 =>
    rintro p W' hg' hpv
    exact ⟨_, B1.grow hg', World.ownsRow_nil _ _ _ _, Nat.zero_le _, fun k hk => ⟨fun e => (by cases e), (by have := (hpv k hk).1; omega)⟩, GA.trans hg'⟩
  case round =>
    rintro p ln pre x W hl2 ⟨v, hv, ho, hn, hp, hB⟩ hok hpv
    simp only [lkE, Iter.zip1, List.setIfInBounds_toArray, List.set_cons_zero, List.set_cons_succ]
    unfold Po.look
    have hx : looks (pre ++ [x]) = looks pre ++ [.int .i64 x.id, .int .i64 x.p.st, .int .i64 x.load] := by unfold looks; rw [List.flatMap_append]; rfl
    have hlt : pre.length < L.length := (List.getElem?_eq_some_iff.1 hok.2).1
    obtain ⟨y1, hy1⟩ : ∃ y, x.id = y := ⟨_, rfl⟩
    obtain ⟨y2, hy2⟩ : ∃ y, x.p.st = y := ⟨_, rfl⟩
    obtain ⟨y3, hy3⟩ : ∃ y : Int, (x.load : Int) = y := ⟨_, rfl⟩
    rw [hy1, hy2, hy3] at hx ⊢
    clear hy1 hy2 hy3
    gi_wp2_with fail
    have g1 := Grow.G.alloc (Grow.G.refl W) (.cells #[.int .i64 y1, .int .i64 y2, .int .i64 y3] 49)
    refine ⟨g1, fun W₂ hbk _ => ?_⟩
    have V2 := (hv.grow g1).book hbk
    have O2 := own_book' (own_later ho g1) hbk
    have BW := (hB.trans (Below.mono g1 hB.size)).trans (hbk.below.mono (by have := hB.size; have := g1.size; omega))
    have Q2 := (Blk.new W #[.int .i64 y1, .int .i64 y2, .int .i64 y3] lookT).book hbk
    have HPV := Lib.hid ((hpv.book (Iter.Book.grow (n := 0) g1)).book hbk)
    have NV : ¬ v.ownBlock = some w.heap.size := own_blk_types O2 V2 (by decide)
    have v0 := Blk.at (cs := [v]) (k := 0) V2 rfl
    have q0 := Blk.at (cs := [Value.int .i64 y1, .int .i64 y2, .int .i64 y3]) (k := 0) Q2 rfl
    have q1 := Blk.at (cs := [Value.int .i64 y1, .int .i64 y2, .int .i64 y3]) (k := 1) Q2 rfl
    have q2 := Blk.at (cs := [Value.int .i64 y1, .int .i64 y2, .int .i64 y3]) (k := 2) Q2 rfl
    obtain ⟨i0, hi, hz0, hz1, hz2⟩ := info_parts infoLook
    have H := Lib.hid (And.intro V2 (And.intro O2 (And.intro BW (And.intro hp NV))))
    have HXX := Lib.hid hx
    have sW2 := BW.size
    clear V2 O2 BW hbk hok hv hB ho NV Q2 g1 hp hx hpv
    gi_wp2_with (gi_at_builtin; refine Fr.wpListIn_append_fr _ rfl _ _ 31 rfl w.heap.size lookT i0 (.agg #[.int .i64 0, .int .i64 0, .int .i64 0]) 3 24 Try.underlying31 hi hz0 hz1 hz2 rfl (by decide) _ _ _ rfl (own_later H.out.2.1 (Grow.G.alloc (Grow.G.refl _) _)) ⟨W₂.heap.size, 0, none⟩ 1 1 [.int .i64 y1, .int .i64 y2, .int .i64 y3] rfl rfl (news_new _ _ _ _ rfl) (by intro u hu; simp at hu; rcases hu with rfl | rfl | rfl <;> rfl) (by unfold maxLen; omega) (by omega) (by simp; omega) ?_; intro v' w' hown hfr; obtain ⟨g9, c9, rfl, hg9⟩ := own_some hown (by omega); have V3 := (H.out.1.grow (Grow.G.alloc (Grow.G.refl _) _)).chg (Chg.ofFr hfr) H.out.2.2.2.2; have e0 := Blk.at (cs := [v]) (k := 0) V3 rfl; have f0 := V3.free 0; have l0 := V3.lt; have AP := Chg.trans (Chg.grow (Grow.G.alloc (Grow.G.refl _) _)) (Chg.ofFr hfr); have HW := Lib.hid (And.intro V3 (And.intro AP (And.intro hown hfr))); clear V3 AP hown hfr)
    obtain ⟨V3, AP, OW, FR⟩ := HW.out
    obtain ⟨V2, O2, BW, hp, NV⟩ := H.out
    have CS : Chg (fun k => k = w.heap.size) w' (w'.setCell ⟨w.heap.size, 0, none⟩ (.slice (some ⟨g9, 0, none⟩) (pre.length + 1) c9)) := Chg.setCell (G := fun k => k = w.heap.size) (Chg.refl _ _) (fun _ => rfl) _ _
    have VZ := V3.set 0 (.slice (some ⟨g9, 0, none⟩) (pre.length + 1) c9)
    have RZ := CS.own OW (fun k hk q => by have q : k = w.heap.size := q; subst q; exact own_blk_types OW V3 (by decide) hk)
    have hrow : ∀ k, v.ownBlock = some k → w.heap.size ≤ k := fun k hk => (O2.lt k hk).1
    have BZ := (AP.below (B := w.heap.size) BW.size (fun k hk q => by have := hrow k q; omega)).trans (CS.below (B := w.heap.size) (by have := AP.size; omega) (fun k hk q => by have q : k = w.heap.size := q; omega))
    have PLT : ∀ k, p k → k < W₂.heap.size := fun k hk => by
      obtain ⟨_, o, ho, _⟩ := HPV.out k hk
      exact (Array.getElem?_eq_some_iff.1 ho).1
    refine ⟨(AP.rest (fun k _ q o ho => own_cells' O2 q ho)).trans (Iter.Rest.setCell _ _ _), fun k hk => ?_, keep_belowO BZ BW.size HF.out, _, VZ, ?_, by rw [List.length_append, List.length_singleton]; omega, fun k hk => ?_, BW.trans BZ⟩
    · have h1 := PLT k hk
      have h2 := hp k hk
      rw [CS.block k (by have := AP.size; omega) h2.2, AP.block k h1 (fun q => h2.1 q)]
    · rw [HXX.out, List.length_append, List.length_singleton]
      exact RZ
    · have h1 := PLT k hk
      have h2 := hp k hk
      exact ⟨fun e => (FR.keep (by rw [World.size_alloc]; omega) (fun e => h2.1 e.symm)).2 e.symm, h2.2⟩
  case done =>
    rintro p xs W hS ⟨v, hv, ho, hn, hp, hB⟩ hD
    replace hS : xs = L := hS
    rw [hS] at ho
    have v0 := Blk.at (cs := [v]) (k := 0) hv rfl
    have HP := Lib.hid ho
    have HB := Lib.hid hB
    have HDD := Lib.hid hD
    clear ho hB hv hD hS hp
    gi_wp2_with fail
    have sW := HB.out.size
    refine ⟨by simp, .inl ⟨_, _, rfl, run_takeDeferred HDD.out, ?_⟩⟩
    have BK : Iter.Book w.heap.size W (W.putObj w1.heap.size (.deferred none)) := Iter.Book.putObj _ HDD.out rfl (by omega)
    exact ⟨v, by simp [results, Try.results59, go_sem], v, rfl, own_book' HP.out BK, HB.out.trans (BK.below.mono (by omega))⟩
set_option maxHeartbeats 1000000 in
theorem collect_any (gf : FuncId) (lb : Array Value) (eg : ∀ args w, (callFunc gf args).run Try.prog w = .ok (.enter gf args) w) (F : Nat → Prop) (L : List Po) (w : World) (hF : ∀ k, F k → k < w.heap.size) (hL : L.length ≤ 1000)
    (hseq : Iter.SeqQ Try.prog gf lb lkE (LkOk L) (Iter.KeepP F) (fun xs => xs = L) w) :
    Calls Try.prog 34 #[.func (.func gf) #[] lb] w fun e w' => ∃ v, e = .returned v ∧ w'.ownsRow w.heap.size lookT 3 v L.length (looks L) ∧ Grow.G w w' := by
  have AS := Lib.hid (appseq_any gf lb eg F L w hF hL hseq)
  clear hseq hF
  go_enter Try.func34, Try.ntmps34
  go_wp2_with fail
  refine AS.out.mono ?_
  rintro e w1 ⟨v, rfl, ho, hg⟩
  have HO := Lib.hid (And.intro ho hg)
  clear ho hg AS
  go_wp2_with fail
  go_ret
  exact ⟨v, rfl, HO.out.1, HO.out.2⟩
end Go.Proofs.Ytfnpghekkhnjkaa
