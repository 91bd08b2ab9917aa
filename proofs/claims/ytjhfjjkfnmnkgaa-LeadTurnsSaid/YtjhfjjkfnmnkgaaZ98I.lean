/- My own texts LpM, LpK, laid in one file. -/
import Derived.Test.YtjhfjjkfnmnkgaaZ98G
import Derived.Test.YtjhfjjkfnmnkgaaZ98C
import Derived.Test.YtjhfjjkfnmnkgaaZ98B
import Derived.Test.YtjhfjjkfnmnkgaaZ98A
import Derived.Test.YtjhfjjkfnmnkgaaZ29
import Derived.Test.YtjhfjjkfnmnkgaaZ2

/- The program's roller in memory; New, Table, Drop. -/
namespace Go.Proofs.Ytjhfjjkfnmnkgaa
set_option maxRecDepth 100000
set_option linter.unusedVariables false
set_option linter.unusedSimpArgs false
set_option linter.unnecessarySimpa false
open Go.RowKit Go.Args Go.MapV Go.Maps

abbrev lrT13 : TypeId := 64
def WM.val (m : WM) : Value := .agg #[m.f, m.t, .int .i64 m.x.si, .int .i64 m.x.wh, m.s, m.g]
abbrev zW13 : Value := .agg #[.slice none 0 0, .slice none 0 0, .int .i64 0, .int .i64 0, .slice none 0 0, .slice none 0 0]
theorem zeroW13 (w : World) : (zeroValue 71).run Try.prog w = .ok zW13 w := by kernel_rfl
theorem keyed13 : Keyed Try.prog 9 := string_keyed Try.underlying9
def fW (f : ByteArray → Option WM) : Lit → Option Value := onS fun s => (f s).map WM.val
def MpF (mb : Option Nat) (n : Nat) (f : ByteArray → Option WM) : Hp := fun w F => MapN Try.prog 9 w mb n (fW f) ∧ ∀ k, F k ↔ mb = some k
theorem MpF.foot (mb : Option Nat) (n : Nat) (f : ByteArray → Option WM) : Foot (MpF mb n f) where
  lt := fun ⟨h, e⟩ k hk => h.lt k ((e k).1 hk)
  frame := fun ⟨h, e⟩ c hs => ⟨h.chg c (fun b hb => hs b ((e b).2 hb)), e⟩
def RowsW (w : World) (m : WM) : Prop := ShR w m.f m.x.fr ∧ ShR w m.t m.x.to ∧ ShR w m.s m.x.sh ∧ TgR w m.g m.x.tg
theorem RowsW.lt {w : World} {m : WM} (h : RowsW w m) {k : Nat} (hk : WrK m k) : k < w.heap.size := by
  rcases hk with q | q | q | q
  · exact (h.1.lt k q).2
  · exact (h.2.1.lt k q).2
  · exact (h.2.2.1.lt k q).2
  · exact (h.2.2.2.lt k q).2
theorem RowsW.chg {w w' : World} {m : WM} {G : Nat → Prop} (h : RowsW w m) (c : Chg G w w') (hs : ∀ k, WrK m k → ¬ G k) : RowsW w' m :=
  ⟨c.own h.1 fun k q => hs k (.inl q), c.own h.2.1 fun k q => hs k (.inr (.inl q)), c.own h.2.2.1 fun k q => hs k (.inr (.inr (.inl q))), c.own h.2.2.2 fun k q => hs k (.inr (.inr (.inr q)))⟩
/-- The rows of all ways: no one writes to them. -/
def AllR (f : ByteArray → Option WM) : Hp := fun w F => (∀ s m, f s = some m → RowsW w m) ∧ ∀ k, F k ↔ ∃ s m, f s = some m ∧ WrK m k
theorem AllR.foot (f : ByteArray → Option WM) : Foot (AllR f) where
  lt := fun ⟨h, e⟩ k hk => by obtain ⟨s, m, h1, h2⟩ := (e k).1 hk; exact (h s m h1).lt h2
  frame := fun ⟨h, e⟩ c hs => ⟨fun s m h1 => (h s m h1).chg c fun k hk => hs k ((e k).2 ⟨s, m, h1, hk⟩), e⟩
def PlS (g : Nat) (mb : Option Nat) (nw : Int) (n : Nat) (f : ByteArray → Option WM) : Hp := Sep (BlkF g [.map mb, .int .i64 nw] lrT13) (Sep (MpF mb n f) (AllR f))
theorem PlS.foot (g : Nat) (mb : Option Nat) (nw : Int) (n : Nat) (f : ByteArray → Option WM) : Foot (PlS g mb nw n f) := (BlkF.foot _ _ _).sep ((MpF.foot _ _ _).sep (AllR.foot _))
/-- The program's roller that has these ways; no more than c have been laid. -/
def PlP (g : Nat) (l : List Wa) (nw : Int) (c : Nat) : Hp := fun w F => ∃ (mb : Option Nat) (n : Nat) (f : ByteArray → Option WM), n ≤ c ∧ (∀ s, (f s).map WM.x = findW l s) ∧ PlS g mb nw n f w F
theorem PlP.foot (g : Nat) (l : List Wa) (nw : Int) (c : Nat) : Foot (PlP g l nw c) where
  lt := fun ⟨mb, n, f, _, _, h⟩ => (PlS.foot g mb nw n f).lt h
  frame := fun ⟨mb, n, f, h1, h2, h⟩ c hs => ⟨mb, n, f, h1, h2, (PlS.foot g mb nw n f).frame h c hs⟩
section
variable {w w' w0 : World} {L : List MBox} {B : Hp} {F : Nat → Prop} {g n c : Nat} {nw : Int} {mb : Option Nat} {f : ByteArray → Option WM} {l : List Wa}
theorem hold_plopen (h : Hold w0 w L (Sep (PlP g l nw c) B)) : ∃ mb n f, n ≤ c ∧ (∀ s, (f s).map WM.x = findW l s) ∧ Hold w0 w L (Sep (PlS g mb nw n f) B) := by
  obtain ⟨F, ⟨F1, F2, ⟨mb, n, f, h1, h2, hs⟩, b, ap, e⟩, k1, k2⟩ := h.st
  exact ⟨mb, n, f, h1, h2, h.mem, F, ⟨F1, F2, hs, b, ap, e⟩, k1, k2⟩
theorem hold_plclose (h : Hold w0 w L (Sep (PlS g mb nw n f) B)) (h1 : n ≤ c) (h2 : ∀ s, (f s).map WM.x = findW l s) : Hold w0 w L (Sep (PlP g l nw c) B) :=
  h.map fun F h => h.over fun F h => ⟨mb, n, f, h1, h2, h⟩
theorem PlS.hb (h : PlS g mb nw n f w F) : Blk w g ([.map mb, .int .i64 nw] : List Value).toArray lrT13 := by obtain ⟨F1, F2, a, _⟩ := h; exact a.1
theorem PlS.hm (h : PlS g mb nw n f w F) : MapN Try.prog 9 w mb n (fW f) := by obtain ⟨F1, F2, _, ⟨F3, F4, a, _⟩, _⟩ := h; exact a.1
theorem PlS.hr (h : PlS g mb nw n f w F) {s : ByteArray} {m : WM} (e : f s = some m) : RowsW w m := by obtain ⟨F1, F2, _, ⟨F3, F4, _, a, _⟩, _⟩ := h; exact a.1 s m e
theorem hold_plS (h : Hold w0 w L (Sep (PlS g mb nw n f) B)) : ∃ F, PlS g mb nw n f w F := by
  obtain ⟨F, ⟨F1, F2, a, _⟩, _⟩ := h.st
  exact ⟨F1, a⟩
/-- A new one. -/
theorem pl_new (h : Hold w0 w L B) (hB : Foot B) : Hold w0 (w.alloc (.cells #[.map none, .int .i64 0] lrT13)) L (Sep (PlP w.heap.size [] 0 0) B) := by
  refine h.beside hB (F₁ := fun k => k = w.heap.size) (Grow.G.alloc (Grow.G.refl _) _) ⟨none, 0, fun _ => none, Nat.le_refl _, fun s => rfl, fun k => k = w.heap.size, fun k => False, ⟨Blk.new w _ _, fun k => Iff.rfl⟩, ⟨fun k => False, fun k => False, ⟨(fun kl => (show fW (fun _ => none) kl = none by unfold fW; exact onS_none)), fun k => ⟨False.elim, fun q => (by cases q)⟩⟩, ⟨fun s m e => (by cases e), fun k => ⟨False.elim, fun ⟨s, m, e, _⟩ => (by cases e)⟩⟩, fun k q => q.elim, fun k => by simp⟩, fun k q1 q2 => q2.elim, fun k => by simp⟩ (fun k hk => by have hk : k = w.heap.size := hk; omega)
end
theorem hold_plnew {w0 w : World} {L : List MBox} {B : Hp} (h : Hold w0 w L B) (hB : Foot B) :
    Calls Try.prog 11 #[] w fun e w' => ∃ g, e = .returned (pz g) ∧ Hold w0 w' L (Sep (PlP g [] 0 0) B) := by
  have H := Lib.hid (pl_new h hB)
  clear h hB
  go_enter Try.func11, Try.ntmps11
  go_wp2_with fail
  go_ret
  exact ⟨_, rfl, H.out⟩
set_option maxHeartbeats 4000000 in
/-- What is told of a name. -/
theorem pltable_any (g : Nat) (s : ByteArray) (hs : s.size ≤ maxLen) (mb : Option Nat) (nw : Int) (n : Nat) (f : ByteArray → Option WM) (b : Bool) (fa : Option Addr) (fn fc : Nat) (ta : Option Addr) (tn tc : Nat) (si wh : Int) (sa : Option Addr) (sl : List Shr) (sc : Nat) (ga : Option Addr) (gl : List Tgo) (gc : Nat) (w : World)
    (hb : Blk w g ([.map mb, .int .i64 nw] : List Value).toArray lrT13) (hm : MapN Try.prog 9 w mb n (fW f)) (hv : ((f s).map WM.val).getD zW13 = .agg #[.slice fa fn fc, .slice ta tn tc, .int .i64 si, .int .i64 wh, .slice sa sl.length sc, .slice ga gl.length gc]) (hc : ((f s).map WM.val).isSome = b)
    (h1 : ShSl w sa sl) (h2 : TgSl w ga gl) (l1 : sl.length ≤ 1000) (l2 : gl.length ≤ 1000) (z1 : ∀ s, s ∈ sl → SzS s) (z2 : ∀ s, s ∈ gl → SzT s) :
    Calls Try.prog 20 #[pz g, .string s] w fun e w' => ∃ va vb, e = .returned (.tuple #[.agg #[va, vb], .bool b]) ∧ CopyT w w' sl gl va vb := by
  have c0 := Blk.at hb (k := 0) rfl
  have hgl := hb.lt
  have HV := Lib.hid hv
  have HC := Lib.hid hc
  have HMn := Lib.hid (hm.grow (Grow.G.alloc (Grow.G.refl w) (.cells #[.slice none 0 0, .slice none 0 0] tablT13)))
  have OT := Lib.hid (fun w' (q : Grow.G w w') => ownTable_any sa sl sc ga gl gc w' (SlOf.later h1 q) (SlOf.later h2 q) l1 l2 z1 z2)
  clear hv hc hm h1 h2 z1 z2 hb
  go_enter Try.func20, Try.ntmps20
  go_wp2_with (at_lookup; refine look2v (.agg #[.slice fa fn fc, .slice ta tn tc, .int .i64 si, .int .i64 wh, .slice sa sl.length sc, .slice ga gl.length gc]) b rfl rfl keyed13 Try.underlying62 zeroW13 rfl HMn.out rfl (keyS Try.underlying9 hs) HV.out HC.out ?_)
  obtain ⟨W2, hW2⟩ : ∃ W2, W2 = (w.alloc (.cells #[.slice none 0 0, .slice none 0 0] tablT13)).alloc (.cells #[.slice fa fn fc, .slice ta tn tc, .int .i64 si, .int .i64 wh, .slice sa sl.length sc, .slice ga gl.length gc] 71) := ⟨_, rfl⟩
  have HM : Hid (Mem w W2 [(w.heap.size, [.slice none 0 0, .slice none 0 0], tablT13), (w.heap.size + 1, [.slice fa fn fc, .slice ta tn tc, .int .i64 si, .int .i64 wh, .slice sa sl.length sc, .slice ga gl.length gc], 71)]) := Lib.hid (by rw [hW2]; exact Mem.alloc' (Mem.alloc' (Mem.nil w) _ _ rfl) _ _ (g := w.heap.size + 1) (by simp))
  have HMl : Hid (w.heap.size + 1 < W2.heap.size) := Lib.hid (HM.out.lt (i := 1) rfl)
  go_wp2_with fail
  rw [← hW2]
  clear hW2
  refine (OT.out _ HM.out.below).mono ?_
  rintro e w3 ⟨va, vb, rfl, hc⟩
  obtain ⟨ra, rc, rfl⟩ := own_shape hc.1
  obtain ⟨za, zc, rfl⟩ := own_shape hc.2.1
  have HM := Lib.hid (HM.out.grow hc.2.2.2)
  have HC := Lib.hid hc
  have hz : w.heap.size + 1 < W2.heap.size := HMl.out
  clear hc OT
  go_wp2_with ((refine Mem.storeAll 0 (t := 40) rfl rfl rfl rfl (n := 2) (by kernel_rfl) HM.out rfl rfl rfl rfl ?_; intro W4 HMm CW4))
  simp only [K0, K1, L1, L2, K2, K3, K4, K5, K6, K7, Nat.reduceAdd, Nat.reduceSub] at HMm
  replace HM := Lib.hid HMm
  clear HMm
  refine Stay.go ?_
  have BF := HM.out.blk (i := 0) rfl
  go_wp2_with fail
  refine bodyPost_ret (v := .tuple #[.agg #[.slice ra sl.length rc, .slice za gl.length zc], .bool b]) (by simp [results, Try.results20, go_sem, BF.cell]) rfl ?_
  exact ⟨_, _, rfl, own_base (CW4.own HC.out.1 (fun k hk q => by have := (HC.out.1.lt k hk).1; have q : k = w.heap.size := q; omega)) (by omega), own_base (CW4.own HC.out.2.1 (fun k hk q => by have := (HC.out.2.1.lt k hk).1; have q : k = w.heap.size := q; omega)) (by omega), HC.out.2.2.1, HM.out.below⟩

def updW (f : ByteArray → Option WM) (s : ByteArray) (m : WM) : ByteArray → Option WM := fun x => if x = s then some m else f x
theorem run_nil13 (m : Option Nat) (w : World) : (binOp .eql 62 (.map m) (.map none)).run Try.prog w = .ok (.bool m.isNone) w := by
  cases m <;> kernel_rfl
theorem PlS.kept {w w' : World} {F : Nat → Prop} {g b n : Nat} {nw now : Int} {mb : Option Nat} {f : ByteArray → Option WM} {m : WM} {s : ByteArray} {N : Hp} (h : Sep (PlS g mb nw n f) N w F) (rw0 : RowsW w m) (hk : ∀ F2, N w F2 → ∀ k, WrK m k → (∃ s0 m0, f s0 = some m0 ∧ WrK m0 k) ∨ F2 k) (hb : Blk w' g ([.map (some b), .int .i64 now] : List Value).toArray lrT13)
    (hm : MapN Try.prog 9 w' (some b) (n + 1) (fW (updW f s m))) (c : Chg (fun j => j = g ∨ mb = some j) w w') (hbn : mb = some b ∨ w.heap.size ≤ b) : EndS w w' F (PlS g (some b) now (n + 1) (updW f s m)) := by
  obtain ⟨F1, F2, ⟨Fg, Fx, ⟨hg, eg⟩, ⟨Fm, Fr, ⟨hm0, em⟩, ⟨hr, er⟩, apmr, cx⟩, apg, c1⟩, hN, ap, cF⟩ := h
  have hgl := hg.lt
  have inG : ∀ k, k = g → F1 k := fun k e => (c1 k).2 (.inl ((eg k).2 e))
  have inM : ∀ k, mb = some k → F1 k := fun k e => (c1 k).2 (.inr ((cx k).2 (.inl ((em k).2 e))))
  have inR : ∀ k s' m', f s' = some m' → WrK m' k → F1 k := fun k s' m' e q => (c1 k).2 (.inr ((cx k).2 (.inr ((er k).2 ⟨s', m', e, q⟩))))
  have rowsC : ∀ s' m', updW f s m s' = some m' → ∀ k, WrK m' k → (k < w.heap.size ∧ ¬ k = g ∧ ¬ mb = some k) ∧ F k := by
    intro s' m' e k q
    unfold updW at e
    split at e
    · cases e
      rcases hk F2 hN k q with ⟨s0, m0, e0, q0⟩ | h2
      · refine ⟨⟨rw0.lt q, fun e2 => ?_, fun e2 => ?_⟩, (cF k).2 (.inl (inR k s0 m0 e0 q0))⟩
        · exact apg k ((eg k).2 e2) ((cx k).2 (.inr ((er k).2 ⟨s0, m0, e0, q0⟩)))
        · exact apmr k ((em k).2 e2) ((er k).2 ⟨s0, m0, e0, q0⟩)
      · exact ⟨⟨rw0.lt q, fun e => ap k (inG k e) h2, fun e => ap k (inM k e) h2⟩, (cF k).2 (.inr h2)⟩
    · refine ⟨⟨(hr s' m' e).lt q, fun e2 => ?_, fun e2 => ?_⟩, (cF k).2 (.inl (inR k s' m' e q))⟩
      · exact apg k ((eg k).2 e2) ((cx k).2 (.inr ((er k).2 ⟨s', m', e, q⟩)))
      · exact apmr k ((em k).2 e2) ((er k).2 ⟨s', m', e, q⟩)
  have hgb : ¬ g = b := by
    rcases hbn with e | e
    · exact fun q => apg g ((eg g).2 rfl) ((cx g).2 (.inl ((em g).2 (by rw [e, q]))))
    · omega
  have hrow : ∀ s' m', updW f s m s' = some m' → RowsW w m' := by
    intro s' m' e
    unfold updW at e
    split at e
    · cases e; exact rw0
    · exact hr s' m' e
  refine ⟨fun k => k = g ∨ (k = b ∨ ∃ s' m', updW f s m s' = some m' ∧ WrK m' k), ⟨fun k => k = g, fun k => k = b ∨ ∃ s' m', updW f s m s' = some m' ∧ WrK m' k, ⟨hb, fun k => Iff.rfl⟩, ⟨fun k => k = b, fun k => ∃ s' m', updW f s m s' = some m' ∧ WrK m' k, ⟨hm, fun k => ⟨fun e => by rw [e], fun e => (Option.some.inj e).symm⟩⟩, ⟨fun s' m' e => (hrow s' m' e).chg c fun k q z => ?_, fun k => Iff.rfl⟩, ?_, fun k => Iff.rfl⟩, ?_, fun k => Iff.rfl⟩, ?_, ?_⟩
  · have := (rowsC s' m' e k q).1
    rcases z with z | z
    · exact this.2.1 z
    · exact this.2.2 z
  · rintro k e ⟨s', m', e', q⟩
    have e : k = b := e
    have := (rowsC s' m' e' k q).1
    rcases hbn with z | z
    · exact this.2.2 (by rw [z, e])
    · omega
  · rintro k e (e' | ⟨s', m', e', q⟩)
    · have e : k = g := e
      exact hgb (e.symm.trans e')
    · exact (rowsC s' m' e' k q).1.2.1 e
  · exact c.sub fun k z => (cF k).2 (.inl (z.elim (inG k) (inM k)))
  · rintro k (e | e | ⟨s', m', e, q⟩)
    · exact .inl ((cF k).2 (.inl (inG k e)))
    · rcases hbn with z | z
      · exact .inl ((cF k).2 (.inl (inM k (by rw [z, e]))))
      · exact .inr (by omega)
    · exact .inl (rowsC s' m' e k q).2
set_option maxHeartbeats 8000000 in
theorem plkeep_any (g : Nat) (s : ByteArray) (hs : s.size ≤ 100000) (mb : Option Nat) (nw : Int) (n : Nat) (f f' : Lit → Option Value) (fa : Option Addr) (fn fc : Nat) (ta : Option Addr) (tn tc : Nat) (si wh : Int) (sa : Option Addr) (sn sc : Nat) (ga : Option Addr) (gn gc : Nat) (now : Int) (w : World)
    (hb : Blk w g ([.map mb, .int .i64 nw] : List Value).toArray lrT13) (hm : MapN Try.prog 9 w mb n f) (hn : n ≤ 100000) (h1 : f' (strK s) = some (.agg #[.slice fa fn fc, .slice ta tn tc, .int .i64 si, .int .i64 wh, .slice sa sn sc, .slice ga gn gc])) (h2 : ∀ x, x ≠ strK s → f' x = f x) :
    Calls Try.prog 32 #[pz g, .string s, .agg #[.slice fa fn fc, .slice ta tn tc, .int .i64 si, .int .i64 wh, .slice sa sn sc, .slice ga gn gc], .int .i64 now] w fun e w' => ∃ b, e = .returned (.tuple #[]) ∧ Blk w' g ([.map (some b), .int .i64 now] : List Value).toArray lrT13 ∧ MapN Try.prog 9 w' (some b) (n + 1) f' ∧ Chg (fun j => j = g ∨ mb = some j) w w' ∧ (mb = some b ∨ w.heap.size ≤ b) := by
  have CLN := Lib.hid (fun w => clone_any s w (by omega))
  have hsm : s.size ≤ maxLen := by unfold maxLen; omega
  have hn1 : n < maxLen := by unfold maxLen; omega
  have HFV := Lib.hid h1
  have HFO := Lib.hid h2
  have hgl := hb.lt
  have hmk := @run_makeMap Try.prog
  have CE : (Try.prog.info? 71).map (·.size) = some 6 := by kernel_rfl
  cases mb with
  | none =>
    have HN := run_nil13 none
    simp only [Option.isNone_none] at HN
    have HF0 := Lib.hid (show ∀ kl, f kl = none from hm)
    have z0 := hb.free 0
    have y0 := Blk.at hb (k := 0) rfl
    obtain ⟨wa, hwa⟩ : ∃ wa, wa = w.setCell ⟨g, 0, none⟩ (.map (some (w.heap.size + 1))) := ⟨_, rfl⟩
    obtain ⟨w1, hw1⟩ : ∃ w1, w1 = (wa.alloc (.cells #[.slice fa fn fc, .slice ta tn tc, .int .i64 si, .int .i64 wh, .slice sa sn sc, .slice ga gn gc] 71)).alloc (.map #[] 0) := ⟨_, rfl⟩
    have hsa : wa.heap.size = w.heap.size := by rw [hwa]; simp
    have hgg : Grow.G wa w1 := by rw [hw1]; exact Grow.G.alloc (Grow.G.alloc (Grow.G.refl _) _) _
    have MB : MapB Try.prog 9 w1 (w.heap.size + 1) 0 (fun _ => none) := by
      have := MapB.made (wa.alloc (.cells #[.slice fa fn fc, .slice ta tn tc, .int .i64 si, .int .i64 wh, .slice sa sn sc, .slice ga gn gc] 71)) Try.prog 9
      rw [World.size_alloc, hsa, ← hw1] at this; exact this
    have TB : Blk w1 w.heap.size #[.slice fa fn fc, .slice ta tn tc, .int .i64 si, .int .i64 wh, .slice sa sn sc, .slice ga gn gc] 71 := by
      rw [hw1, ← hsa]; exact (Blk.new wa _ _).alloc _
    have GB := hb.set 0 (.map (some (w.heap.size + 1)))
    rw [← hwa] at GB
    have GB : Hid (Blk w1 g [.map (some (w.heap.size + 1)), .int .i64 nw].toArray lrT13) := Lib.hid (GB.grow hgg)
    have CW0 : Hid (Chg (fun j => j = g) w w1) := Lib.hid ((show Chg (fun j => j = g) w wa from by rw [hwa]; exact Chg.setCell (G := fun j => j = g) (Chg.refl _ _) (fun _ => rfl) _ _).trans (Chg.grow hgg))
    have hws : w.heap.size + 1 < w1.heap.size := MB.lt
    have MB := Lib.hid ((MB.same (f' := f) HF0.out).mono (Nat.zero_le n))
    have TB := Lib.hid TB
    rw [hwa] at hw1
    have hW := Lib.hid hw1
    clear hw1 hwa hsa hgg hb hm h1 h2 HF0
    go_enter Try.func32, Try.ntmps32
    go_wp2_with fail
    rw [← hW.out]
    clear hW y0 z0
    have KC := Lib.hid (fun (w' : World) (h : Chg (fun _ => False) w1 w') => (⟨h.cell (Blk.at GB.out (k := 0) rfl) id, trivial⟩ : w'.cell? ⟨g, 0, none⟩ = some (.map (some (w.heap.size + 1))) ∧ True))
    refine Evo2.start' (ℓ := some 7) (S := Chg (fun _ => False)) (E := Grow.G) (by kernel_rfl) ⟨Chg.pre _, by decide +kernel, (by intro c a d v w h; cases d <;> exact h), by decide +kernel⟩ (fun ok => ?_)
    refine Evo2.va ok 0 _ _ ?_
    refine Evo2.va ok 1 _ _ ?_
    refine Evo2.va ok 2 _ _ ?_
    first | (refine Evo2.vl ok 3 KC.out (Chg.refl (fun _ => False) _) _ _ ?_) | (refine Evo2.va ok 3 _ _ ?_)
    refine Evo2.va ok 4 _ _ ?_
    (refine Evo2.cal ok 5 ?_ 48 ?_ ?_ ?_ ?_; rotate_left 2; (focus (intro w'; go_simp <;> with_reducible rfl)); (focus (intro w' g'; with_reducible exact CLN.out _)); simp only [Act.put, L0, L1, L2])
    first | (refine Evo2.val ok 6 ?_ ?_ ?_; rotate_left; (focus (intro w' hg; refine Box.exec_loadAll ?_ Try.underlying71 CE (TB.out.chg (Chg.trans (Chg.refl (fun _ => False) _) hg) id) ?_; (all_goals (first | exact ⟨rfl, rfl⟩ | rfl)))); simp only [Act.put, L0, L1, L2]) | (refine Evo2.vl ok 6 KC.out (Chg.refl (fun _ => False) _) _ _ ?_) | (refine Evo2.va ok 6 _ _ ?_)
    refine Evo2.all [7] (by decide +kernel) rfl ?_
    intro wp1 gp1 iq hq
    simp only [List.mem_cons, List.mem_nil_iff, or_false] at hq
    have AP1 := Chg.trans (Chg.refl (fun _ => False) _) (Chg.grow gp1)
    subst hq
    refine MapV.up (by rfl) (by rfl) rfl (key := .string s) keyed13 Try.underlying62 rfl (MB.out.chg AP1 id) hn1 rfl rfl (keyS Try.underlying9 hsm) HFV.out HFO.out ?_
    intro wm OM CM
    refine ⟨.inl (by first | rfl | trivial), ?_⟩
    simp only [Act.put, L0, L1, L2]
    refine Evo2.done (by decide +kernel) (fun wz gz => ?_)
    have AZ := AP1
    have hch : Chg (fun j => j = w.heap.size + 1) w1 wz := (AZ.mono fun _ _ h => h.elim).trans (CM.trans (Chg.grow gz))
    have MB2 := Lib.hid (OM.chg (Chg.grow (G := fun _ => False) gz) id)
    have GB2 := GB.out.chg hch (by omega)
    have z1 := GB2.free 1
    have y1 := Blk.at GB2 (k := 1) rfl
    have hl2 := GB2.lt
    have GB3 := Lib.hid (GB2.set 1 (.int .i64 now))
    have HC2 := Lib.hid hch
    clear hch OM CM gz AZ KC GB TB MB GB2
    go_wp2_with fail
    go_end0
    have C3 : Chg (fun j => j = g) wz (wz.setCell ⟨g, 1, none⟩ (.int .i64 now)) := Chg.setCell (G := fun j => j = g) (Chg.refl _ _) (fun _ => rfl) _ _
    refine ⟨w.heap.size + 1, rfl, GB3.out, MB2.out.chg C3 (by omega), ?_, .inr (by omega)⟩
    refine (Chg.join (CW0.out.mono fun j _ e => Or.inl e) HC2.out ?_).join C3 ?_
    · intro j hj e; have e : j = w.heap.size + 1 := e
      omega
    · exact fun j hj e => .inl e
  | some b =>
    have HN := run_nil13 (some b)
    simp only [Option.isNone_some] at HN
    have hm : MapB Try.prog 9 w b n f := hm
    have hbl := hm.lt
    have hgb : b ≠ g := hm.ne hb
    have y0 := Blk.at hb (k := 0) rfl
    obtain ⟨w1, hw1⟩ : ∃ w1, w1 = w.alloc (.cells #[.slice fa fn fc, .slice ta tn tc, .int .i64 si, .int .i64 wh, .slice sa sn sc, .slice ga gn gc] 71) := ⟨_, rfl⟩
    have hgg : Grow.G w w1 := by rw [hw1]; exact Grow.G.alloc (Grow.G.refl _) _
    have MB := Lib.hid (hm.chg (Chg.grow (G := fun _ => False) hgg) id)
    have TB : Hid (Blk w1 w.heap.size #[.slice fa fn fc, .slice ta tn tc, .int .i64 si, .int .i64 wh, .slice sa sn sc, .slice ga gn gc] 71) := Lib.hid (by rw [hw1]; exact Blk.new w _ _)
    have GB : Hid (Blk w1 g [.map (some b), .int .i64 nw].toArray lrT13) := Lib.hid (hb.grow hgg)
    have GG := Lib.hid hgg
    have hW := Lib.hid hw1
    clear hw1 hgg hb hm h1 h2
    go_enter Try.func32, Try.ntmps32
    go_wp2_with fail
    rw [← hW.out]
    clear hW y0
    have KC := Lib.hid (fun (w' : World) (h : Chg (fun _ => False) w1 w') => (⟨h.cell (Blk.at GB.out (k := 0) rfl) id, trivial⟩ : w'.cell? ⟨g, 0, none⟩ = some (.map (some b)) ∧ True))
    refine Evo2.start' (ℓ := some 7) (S := Chg (fun _ => False)) (E := Grow.G) (by kernel_rfl) ⟨Chg.pre _, by decide +kernel, (by intro c a d v w h; cases d <;> exact h), by decide +kernel⟩ (fun ok => ?_)
    refine Evo2.va ok 0 _ _ ?_
    refine Evo2.va ok 1 _ _ ?_
    refine Evo2.va ok 2 _ _ ?_
    first | (refine Evo2.vl ok 3 KC.out (Chg.refl (fun _ => False) _) _ _ ?_) | (refine Evo2.va ok 3 _ _ ?_)
    refine Evo2.va ok 4 _ _ ?_
    (refine Evo2.cal ok 5 ?_ 48 ?_ ?_ ?_ ?_; rotate_left 2; (focus (intro w'; go_simp <;> with_reducible rfl)); (focus (intro w' g'; with_reducible exact CLN.out _)); simp only [Act.put, L0, L1, L2])
    first | (refine Evo2.val ok 6 ?_ ?_ ?_; rotate_left; (focus (intro w' hg; refine Box.exec_loadAll ?_ Try.underlying71 CE (TB.out.chg (Chg.trans (Chg.refl (fun _ => False) _) hg) id) ?_; (all_goals (first | exact ⟨rfl, rfl⟩ | rfl)))); simp only [Act.put, L0, L1, L2]) | (refine Evo2.vl ok 6 KC.out (Chg.refl (fun _ => False) _) _ _ ?_) | (refine Evo2.va ok 6 _ _ ?_)
    refine Evo2.all [7] (by decide +kernel) rfl ?_
    intro wp1 gp1 iq hq
    simp only [List.mem_cons, List.mem_nil_iff, or_false] at hq
    have AP1 := Chg.trans (Chg.refl (fun _ => False) _) (Chg.grow gp1)
    subst hq
    refine MapV.up (by rfl) (by rfl) rfl (key := .string s) keyed13 Try.underlying62 rfl (MB.out.chg AP1 id) hn1 rfl rfl (keyS Try.underlying9 hsm) HFV.out HFO.out ?_
    intro wm OM CM
    refine ⟨.inl (by first | rfl | trivial), ?_⟩
    simp only [Act.put, L0, L1, L2]
    refine Evo2.done (by decide +kernel) (fun wz gz => ?_)
    have AZ := AP1
    have hch : Chg (fun j => j = b) w1 wz := (AZ.mono fun _ _ h => h.elim).trans (CM.trans (Chg.grow gz))
    have MB2 := Lib.hid (OM.chg (Chg.grow (G := fun _ => False) gz) id)
    have GB2 := GB.out.chg hch (fun e => hgb e.symm)
    have z1 := GB2.free 1
    have y1 := Blk.at GB2 (k := 1) rfl
    have hl2 := GB2.lt
    have GB3 := Lib.hid (GB2.set 1 (.int .i64 now))
    have HC2 := Lib.hid hch
    clear hch OM CM gz AZ KC GB TB MB GB2
    go_wp2_with fail
    go_end0
    have C3 : Chg (fun j => j = g) wz (wz.setCell ⟨g, 1, none⟩ (.int .i64 now)) := Chg.setCell (G := fun j => j = g) (Chg.refl _ _) (fun _ => rfl) _ _
    refine ⟨b, rfl, GB3.out, MB2.out.chg C3 (fun e => hgb e), ?_, .inl rfl⟩
    refine (Chg.join (G := fun j => j = g ∨ some b = some j) (Chg.grow GG.out) HC2.out ?_).join C3 ?_
    · exact fun j hj e => .inr (by have e : j = b := e; rw [e])
    · exact fun j hj e => .inl e
section
variable {w0 w : World} {L : List MBox} {B : Hp} {g n : Nat} {nw now : Int} {mb : Option Nat} {f : ByteArray → Option WM} {m : WM}
theorem fW_upd (f : ByteArray → Option WM) (s : ByteArray) (m : WM) : fW (updW f s m) (strK s) = some m.val ∧ ∀ x, x ≠ strK s → fW (updW f s m) x = fW f x := by
  refine ⟨?_, onS_ne fun x hx => ?_⟩
  · show (updW f s m s).map WM.val = _
    unfold updW
    rw [if_pos rfl]; rfl
  · show (updW f s m x).map WM.val = _
    unfold updW
    rw [if_neg hx]
theorem hold_plkeep {N : Hp} (s : ByteArray) (hs : s.size ≤ 100000) (h : Hold w0 w L (Sep (PlS g mb nw n f) (Sep N B))) (hB : Foot B) (rw0 : RowsW w m) (hk : ∀ F2, N w F2 → ∀ k, WrK m k → (∃ s0 m0, f s0 = some m0 ∧ WrK m0 k) ∨ F2 k) (hn : n ≤ 100000) :
    Calls Try.prog 32 #[pz g, .string s, m.val, .int .i64 now] w fun e w' => e = .returned (.tuple #[]) ∧ ∃ b, Hold w0 w' L (Sep (PlS g (some b) now (n + 1) (updW f s m)) B) := by
  obtain ⟨F, ⟨F1, F2, hp, _⟩, _⟩ := h.st
  obtain ⟨x, p, mf, mt, ms, mg⟩ := m
  have r1 : ShR w mf x.fr := rw0.1
  have r2 : ShR w mt x.to := rw0.2.1
  have r3 : ShR w ms x.sh := rw0.2.2.1
  have r4 : TgR w mg x.tg := rw0.2.2.2
  obtain ⟨fa, fc, rfl⟩ := own_shape r1
  obtain ⟨ta, tc, rfl⟩ := own_shape r2
  obtain ⟨sa, sc, rfl⟩ := own_shape r3
  obtain ⟨ga, gc, rfl⟩ := own_shape r4
  obtain ⟨u1, u2⟩ := fW_upd f s ⟨x, p, .slice fa x.fr.length fc, .slice ta x.to.length tc, .slice sa x.sh.length sc, .slice ga x.tg.length gc⟩
  refine (plkeep_any g s hs mb nw n (fW f) _ fa x.fr.length fc ta x.to.length tc x.si x.wh sa x.sh.length sc ga x.tg.length gc now w hp.hb hp.hm hn u1 u2).mono ?_
  rintro e w' ⟨b, rfl, q1, q2, q3, q4⟩
  refine ⟨rfl, b, ?_⟩
  exact (h.map fun F h => Sep.assoc' h).step (Sep.stepL hB fun F h => PlS.kept h rw0 hk q1 q2 q3 q4)
end
end Go.Proofs.Ytjhfjjkfnmnkgaa
