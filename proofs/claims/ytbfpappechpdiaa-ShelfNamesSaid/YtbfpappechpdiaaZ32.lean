/- My own texts ShRenew, ShS, OwnRt, laid in one file. -/
import Derived.Test.YtbfpappechpdiaaZ30
import Derived.Test.YtbfpappechpdiaaZ31
import Derived.Test.YtbfpappechpdiaaZ8
import Derived.Test.YtbfpappechpdiaaZ17
import Derived.Test.YtbfpappechpdiaaZ2

/- shelf's renew. -/
namespace Go.Proofs.Ytbfpappechpdiaa
set_option maxRecDepth 100000
set_option linter.unusedVariables false
set_option linter.unusedSimpArgs false
set_option linter.unnecessarySimpa false
open Go.RowKit Go.MapV Go.Maps

theorem g_at (gn : ByteArray → Nat) (nm : ByteArray) : (fG gn (strK nm)).getD (.int .i64 0) = .int .i64 (gn nm) := by
  show (gVal (gn nm)).getD _ = _
  unfold gVal
  split
  · rename_i h; rw [h]; rfl
  · rfl
theorem g_upd (gn : ByteArray → Nat) (nm : ByteArray) : fG (upd gn nm (gn nm + 1)) (strK nm) = some (.int .i64 ((gn nm : Int) + 1)) := by
  show gVal (upd gn nm _ nm) = _
  rw [upd_at]
  unfold gVal
  rw [if_neg (by omega)]
  rfl
theorem g_other (gn : ByteArray → Nat) (nm : ByteArray) (k : Nat) : ∀ x, x ≠ strK nm → fG (upd gn nm k) x = fG gn x := onS_ne fun x hx => by rw [upd_ne _ _ hx]
/-- The generations behind one more. -/
def Renew (w w' : World) (g n : Nat) (mc mr mg : Option Nat) (k : Nat) (gn : ByteArray → Nat) (nm : ByteArray) : Prop :=
  ∃ b, Blk w' g (shC n mc mr (some b)).toArray shT ∧ MapS w' (some b) (k + 1) (fG (upd gn nm (gn nm + 1))) ∧ Chg (fun j => j = g ∨ some j = mg) w w' ∧ (mg = some b ∨ w.heap.size ≤ b)
set_option maxHeartbeats 1000000 in
theorem renew_any (g n : Nat) (mc mr mg : Option Nat) (k : Nat) (gn : ByteArray → Nat) (nm : ByteArray) (w : World) (hb : Blk w g (shC n mc mr mg).toArray shT) (hm : MapS w mg k (fG gn)) (hk : k < maxLen) (hs : nm.size ≤ maxLen) (hn : gn nm < 4611686018427387904) :
    Calls Try.prog 23 #[pt g, .string nm] w fun e w' => (∃ v, e = .returned v) ∧ Renew w w' g n mc mr mg k gn nm := by
  have HV := Lib.hid (g_at gn nm)
  have HU := Lib.hid (g_upd gn nm)
  have HO := Lib.hid (g_other gn nm (gn nm + 1))
  have hM := Lib.hid hm
  have hB := Lib.hid hb
  have hg := hb.lt
  have c0 : w.cell? ⟨g, 3, none⟩ = some (.map mg) := (hb.cell 3).trans rfl
  have f0 := hb.free 3
  have hwr : IntKind.i64.wrap ((gn nm : Int) + 1) = (gn nm : Int) + 1 := IntWalk.i64_in _ ⟨by omega, by omega⟩
  generalize (gn nm : Int) = z at *
  clear hm hb
  cases hmc : mg with
  | none =>
    subst hmc
    have hmm := @run_makeMap Try.prog
    have HN := run_nilI none
    simp only [Option.isNone_none] at HN
    obtain ⟨w1, hw1⟩ : ∃ w1, w1 = (w.setCell ⟨g, 3, none⟩ (.map (some w.heap.size))).alloc (.map #[] 0) := ⟨_, rfl⟩
    have MB : MapB Try.prog 9 w1 w.heap.size 0 (fun _ => none) := by
      have := MapB.made (w.setCell ⟨g, 3, none⟩ (.map (some w.heap.size))) Try.prog 9
      rw [← hw1] at this; simpa using this
    have FN : ∀ kl, fG gn kl = none := hM.out
    have MB := Lib.hid (MB.same (f' := fG gn) FN)
    have GB := Lib.hid ((hB.out.set 3 (.map (some w.heap.size))).alloc (.map #[] 0))
    have CH : Chg (fun j => j = g) w w1 := by rw [hw1]; exact (Chg.setCell (G := fun j => j = g) (Chg.refl _ _) (fun _ => rfl) _ _).alloc _
    rw [← hw1] at GB
    have CH := Lib.hid CH
    have hs1 : Hid (w1.heap.size = w.heap.size + 1) := Lib.hid (by rw [hw1]; simp)
    have hW := Lib.hid hw1
    clear hw1 FN
    have MN := Lib.hid (show MapS w1 (some w.heap.size) 0 (fG gn) from MB.out)
    go_enter Try.func23, Try.ntmps23
    go_wp2_with (first
      | (at_lookup; rw [← hW.out]; refine look1v _ rfl rfl keyedS Try.underlying61 zeroI rfl MN.out rfl (keyS Try.underlying9 hs) HV.out ?_)
      | (at_mapUpdate; refine MapV.put (key := .string nm) rfl rfl keyedS Try.underlying61 rfl MB.out (by unfold maxLen; omega) rfl rfl (keyS Try.underlying9 hs) HU.out HO.out ?_; intro w9 M9 C9; have M9 := Lib.hid M9; have C9 := Lib.hid C9))
    go_returns
    have h1 := hs1.out
    have hlt := hB.out.lt
    refine ⟨⟨_, rfl⟩, w.heap.size, GB.out.chg C9.out (by omega), MapB.mono M9.out (by omega), ?_, .inr (Nat.le_refl _)⟩
    exact (CH.out.mono fun j _ h => .inl h).join C9.out fun j hj e => by have e : j = w.heap.size := e; omega
  | some b =>
    rw [hmc] at c0 hM
    have MB := Lib.hid (show MapB Try.prog 9 w b k (fG gn) from hM.out)
    have hbl := MB.out.lt
    have hbg := MB.out.ne hB.out
    have HN := run_nilI (some b)
    simp only [Option.isNone_some] at HN
    go_enter Try.func23, Try.ntmps23
    go_wp2_with (first
      | (at_lookup; refine look1v _ rfl rfl keyedS Try.underlying61 zeroI rfl hM.out rfl (keyS Try.underlying9 hs) HV.out ?_)
      | (at_mapUpdate; refine MapV.put (key := .string nm) rfl rfl keyedS Try.underlying61 rfl MB.out hk rfl rfl (keyS Try.underlying9 hs) HU.out HO.out ?_; intro w9 M9 C9; have M9 := Lib.hid M9; have C9 := Lib.hid C9))
    go_returns
    refine ⟨⟨_, rfl⟩, b, (hB.out.chg C9.out (by omega)) |> fun h => (by rw [hmc] at h; exact h), M9.out, ?_, .inl rfl⟩
    exact C9.out.mono fun j _ e => .inr (congrArg some e)

def objC (s : Sh) : ByteArray → Option ObC := fun x => (s.cf x).map fun p => ⟨p.1, p.2⟩
theorem objC_v (s : Sh) (nm : ByteArray) : (objC s nm).map ObC.v = verO (s.cf nm) := by
  unfold objC verO
  rw [Option.map_map]; rfl
/-- The routes that there are, each with targets of its own. -/
def RtsAt (w : World) (g : Nat) (F : Nat → Prop) (mc mr mg : Option Nat) (rt : ByteArray → Option (Rt × Nat)) (fr : ByteArray → Option ObR) : Prop :=
  ∀ x, (rt x = none ∧ fr x = none) ∨ ∃ r v b cap, rt x = some (r, v) ∧ fr x = some ⟨r, b, cap, v⟩ ∧ F b ∧ b ≠ g ∧ mc ≠ some b ∧ mr ≠ some b ∧ mg ≠ some b ∧ TgtSl w (some ⟨b, 0, none⟩) r.ts
structure ShIn (w : World) (g : Nat) (F : Nat → Prop) (s : Sh) (mc mr mg : Option Nat) (fr : ByteArray → Option ObR) : Prop where
  hb : Blk w g (shC s.n mc mr mg).toArray shT
  hc : MapS w mc s.n (fC (objC s))
  hr : MapS w mr s.n (fR fr)
  hg : MapS w mg s.n (fG s.gn)
  ht : RtsAt w g F mc mr mg s.rt fr
  fg : F g
  fc : ∀ b, mc = some b → F b
  fr : ∀ b, mr = some b → F b
  fG : ∀ b, mg = some b → F b
  d1 : ∀ b, mc = some b → mr ≠ some b
  d2 : ∀ b, mc = some b → mg ≠ some b
  d3 : ∀ b, mr = some b → mg ≠ some b
  lt : ∀ k, F k → k < w.heap.size
  ok : s.ok
def ShAt (w : World) (g : Nat) (F : Nat → Prop) (s : Sh) : Prop := ∃ mc mr mg fr, ShIn w g F s mc mr mg fr
/-- F, and what is new. -/
def ext (F : Nat → Prop) (w w' : World) (k : Nat) : Prop := F k ∨ (w.heap.size ≤ k ∧ k < w'.heap.size)
theorem RtsAt.chg {w w' : World} {g : Nat} {F F' G : Nat → Prop} {mc mr mg mc' mr' mg' : Option Nat} {rt : ByteArray → Option (Rt × Nat)} {fr : ByteArray → Option ObR} (h : RtsAt w g F mc mr mg rt fr) (c : Chg G w w')
    (hF : ∀ k, F k → F' k) (hG : ∀ b, F b → b ≠ g → mc ≠ some b → mr ≠ some b → mg ≠ some b → ¬ G b ∧ mc' ≠ some b ∧ mr' ≠ some b ∧ mg' ≠ some b) : RtsAt w' g F' mc' mr' mg' rt fr := by
  intro x
  rcases h x with h | ⟨r, v, b, cap, h1, h2, h3, h4, h5, h6, h7, h8⟩
  · exact .inl h
  · obtain ⟨a1, a2, a3, a4⟩ := hG b h3 h4 h5 h6 h7
    exact .inr ⟨r, v, b, cap, h1, h2, hF b h3, h4, a2, a3, a4, h8.chg c (fun b' off e => by cases e; exact a1)⟩
theorem ShIn.chg {w w' : World} {g : Nat} {F G : Nat → Prop} {s : Sh} {mc mr mg : Option Nat} {fr : ByteArray → Option ObR} (h : ShIn w g F s mc mr mg fr) (c : Chg G w w') (hG : ∀ k, F k → ¬ G k) : ShIn w' g F s mc mr mg fr :=
  ⟨h.hb.chg c (hG _ h.fg), h.hc.chg c (fun b e => hG _ (h.fc b e)), h.hr.chg c (fun b e => hG _ (h.fr b e)), h.hg.chg c (fun b e => hG _ (h.fG b e)), h.ht.chg c (fun _ => id) (fun b h3 h4 h5 h6 h7 => ⟨hG _ h3, h5, h6, h7⟩), h.fg, h.fc, h.fr, h.fG, h.d1, h.d2, h.d3, fun k hk => Nat.lt_of_lt_of_le (h.lt k hk) c.size, h.ok⟩
theorem ShIn.grow {w w' : World} {g : Nat} {F : Nat → Prop} {s : Sh} {mc mr mg : Option Nat} {fr : ByteArray → Option ObR} (h : ShIn w g F s mc mr mg fr) (c : Grow.G w w') : ShIn w' g F s mc mr mg fr := h.chg (Chg.grow (G := fun _ => False) c) (fun _ _ => id)
theorem ShAt.chg {w w' : World} {g : Nat} {F G : Nat → Prop} {s : Sh} (h : ShAt w g F s) (c : Chg G w w') (hG : ∀ k, F k → ¬ G k) : ShAt w' g F s := by
  obtain ⟨mc, mr, mg, fr, h⟩ := h
  exact ⟨mc, mr, mg, fr, h.chg c hG⟩
theorem ShAt.foot (g : Nat) (s : Sh) : Foot (fun w F => ShAt w g F s) := ⟨fun ⟨_, _, _, _, h⟩ => h.lt, fun h c hG => h.chg c hG⟩
theorem ShAt.grow {w w' : World} {g : Nat} {F : Nat → Prop} {s : Sh} (h : ShAt w g F s) (c : Grow.G w w') : ShAt w' g F s := h.chg (Chg.grow (G := fun _ => False) c) (fun _ _ => id)
theorem ext_lt {F : Nat → Prop} {w w' : World} (h : ∀ k, F k → k < w.heap.size) (hs : w.heap.size ≤ w'.heap.size) : ∀ k, ext F w w' k → k < w'.heap.size := fun k hk => hk.elim (fun h1 => Nat.lt_of_lt_of_le (h k h1) hs) (fun h1 => h1.2)
theorem ext_fresh (F : Nat → Prop) (w w' : World) : Fresh w F (ext F w w') := fun k hk => hk.imp id (fun h => h.1)
theorem ShAt.wide {w : World} {g : Nat} {F F' : Nat → Prop} {s : Sh} (h : ShAt w g F s) (hF : ∀ k, F k → F' k) (hl : ∀ k, F' k → k < w.heap.size) : ShAt w g F' s := by
  obtain ⟨mc, mr, mg, fr, h⟩ := h
  exact ⟨mc, mr, mg, fr, h.hb, h.hc, h.hr, h.hg, h.ht.chg (Chg.refl (fun _ => False) _) hF (fun b _ _ h5 h6 h7 => ⟨id, h5, h6, h7⟩), hF _ h.fg, fun b e => hF _ (h.fc b e), fun b e => hF _ (h.fr b e), fun b e => hF _ (h.fG b e), h.d1, h.d2, h.d3, hl, h.ok⟩
theorem objC_set (s : Sh) (c : Cfg) : upd (objC s) c.nm (some ⟨c, s.n + 1⟩) = objC (s.rawC c) := by
  funext x
  unfold objC Sh.rawC upd
  dsimp only
  split <;> rfl
section
variable {w w1 w2 w3 : World} {g k : Nat} {F : Nat → Prop} {s : Sh} {mc mr mg : Option Nat} {fr : ByteArray → Option ObR}
theorem or_some {m : Option Nat} {b : Nat} {n : Nat} (h : m = some b ∨ n ≤ b) (x : Nat) (hx : m ≠ some x) (hl : x < n) : (some b : Option Nat) ≠ some x := by
  intro e
  cases e
  rcases h with h | h
  · exact hx h
  · omega
theorem PutC.chg {n : Nat} {f : ByteArray → Option ObC} {nm : ByteArray} {ob : ObC} (h : PutC w w1 g n mc mr mg k f nm ob) : Chg (fun j => j = g ∨ some j = mc) w w1 := by obtain ⟨b, _, _, C, _⟩ := h; exact C
theorem PutR.chg {n : Nat} {f : ByteArray → Option ObR} {nm : ByteArray} {ob : ObR} (h : PutR w w1 g n mc mr mg k f nm ob) : Chg (fun j => j = g ∨ some j = mr) w w1 := by obtain ⟨b, _, _, C, _⟩ := h; exact C
theorem Renew.chg {n : Nat} {gn : ByteArray → Nat} {nm : ByteArray} (h : Renew w w1 g n mc mr mg k gn nm) : Chg (fun j => j = g ∨ some j = mg) w w1 := by obtain ⟨b, _, _, C, _⟩ := h; exact C
/-- A configuration put, its generation as it was. -/
theorem ShIn.rawC (h : ShIn w g F s mc mr mg fr) (h1 : Grow.G w w1) {c : Cfg} (hc : c.err = 0) (hp : PutC w1 w2 g (s.n + 1) mc mr mg s.n (objC s) c.nm ⟨c, s.n + 1⟩) : (∃ b, ShIn w2 g (ext F w w2) (s.rawC c) (some b) mr mg fr) ∧ Chg F w w2 ∧ MapS w2 mg s.n (_root_.Go.Proofs.Ytbfpappechpdiaa.fG s.gn) := by
  obtain ⟨b, B2, M2, C2, o2⟩ := hp
  have hs1 := h1.size
  have hs2 := C2.size
  have hlt := h.lt
  have C : Chg F w w2 := (Chg.grow h1).join C2 fun j hj e => by
    rcases e with rfl | e
    · exact h.fg
    · exact h.fc j e.symm
  have hbl := M2.lt b rfl
  have h := h.grow h1
  have nb : ∀ x, mc ≠ some x → x < w1.heap.size → (some b : Option Nat) ≠ some x := fun x hx hl => or_some o2 x hx hl
  have hgk := h.hg.chg C2 (fun x e q => by
    rcases q with rfl | q
    · have hm := h.hg; rw [e] at hm; exact MapB.ne hm h.hb rfl
    · exact h.d2 x q.symm e)
  refine ⟨⟨b, B2, ?_, (h.hr.chg C2 ?_).mono (Nat.le_succ _), hgk.mono (Nat.le_succ _), h.ht.chg C2 (fun k hk => .inl hk) ?_, .inl h.fg, ?_, fun x e => .inl (h.fr x e), fun x e => .inl (h.fG x e), ?_, ?_, h.d3, ext_lt hlt (by omega), Sh.ok_rawC h.ok hc⟩, C, hgk⟩
  · rw [objC_set] at M2; exact M2
  · intro x e q
    rcases q with rfl | q
    · have hm := h.hr; rw [e] at hm; exact MapB.ne hm h.hb rfl
    · exact h.d1 x q.symm e
  · intro x h3 h4 h5 h6 h7
    exact ⟨fun q => by rcases q with q | q; exact h4 q; exact h5 q.symm, nb x h5 (by have := h.lt x h3; omega), h6, h7⟩
  · intro x e
    cases e
    rcases o2 with o2 | o2
    · exact .inl (h.fc _ o2)
    · exact .inr ⟨by omega, hbl⟩
  · intro x e q
    cases e
    rcases o2 with o2 | o2
    · exact h.d1 _ o2 q
    · have := h.lt _ (h.fr _ q); omega
  · intro x e q
    cases e
    rcases o2 with o2 | o2
    · exact h.d2 _ o2 q
    · have := h.lt _ (h.fG _ q); omega
/-- A generation one more. -/
theorem ShIn.ren (h : ShIn w g F s mc mr mg fr) {nm : ByteArray} (hn : s.gn nm < s.n) (hp : Renew w w2 g s.n mc mr mg k s.gn nm) (hk : k + 1 ≤ s.n) : (∃ b, ShIn w2 g (ext F w w2) (s.ren nm) mc mr (some b) fr) ∧ Chg F w w2 := by
  obtain ⟨b, B2, M2, C2, o2⟩ := hp
  have hs2 := C2.size
  have hlt := h.lt
  have C : Chg F w w2 := C2.mono fun j hj e => by
    rcases e with rfl | e
    · exact h.fg
    · exact h.fG j e.symm
  have hbl := M2.lt b rfl
  have nb : ∀ x, mg ≠ some x → x < w.heap.size → (some b : Option Nat) ≠ some x := fun x hx hl => or_some o2 x hx hl
  refine ⟨⟨b, B2, h.hc.chg C2 ?_, h.hr.chg C2 ?_, M2.mono hk, h.ht.chg C2 (fun k hk => .inl hk) ?_, .inl h.fg, fun x e => .inl (h.fc x e), fun x e => .inl (h.fr x e), ?_, h.d1, ?_, ?_, ext_lt hlt (by omega), Sh.ok_ren h.ok hn⟩, C⟩
  · intro x e q
    rcases q with rfl | q
    · have hm := h.hc; rw [e] at hm; exact MapB.ne hm h.hb rfl
    · exact h.d2 x e q.symm
  · intro x e q
    rcases q with rfl | q
    · have hm := h.hr; rw [e] at hm; exact MapB.ne hm h.hb rfl
    · exact h.d3 x e q.symm
  · intro x h3 h4 h5 h6 h7
    exact ⟨fun q => by rcases q with q | q; exact h4 q; exact h7 q.symm, h5, h6, nb x h7 (h.lt x h3)⟩
  · intro x e
    cases e
    rcases o2 with o2 | o2
    · exact .inl (h.fG _ o2)
    · exact .inr ⟨by omega, hbl⟩
  · intro x e q
    cases q
    rcases o2 with o2 | o2
    · exact h.d2 _ e o2
    · have := h.lt _ (h.fc _ e); omega
  · intro x e q
    cases q
    rcases o2 with o2 | o2
    · exact h.d3 _ e o2
    · have := h.lt _ (h.fr _ e); omega
end
end Go.Proofs.Ytbfpappechpdiaa

/- shelf's copies of its own: ownConfig, ownRoute. -/
namespace Go.Proofs.Ytbfpappechpdiaa
set_option maxRecDepth 100000
set_option linter.unusedVariables false
set_option linter.unusedSimpArgs false
set_option linter.unnecessarySimpa false
open Go.RowKit Go.MapV

set_option maxHeartbeats 1000000 in
theorem ownC_any (c : Cfg) (w : World) (hs : c.nm.size ≤ 140737488351232) : Calls Try.prog 20 #[c.v] w fun e w' => e = .returned c.v ∧ Grow.G w w' := by
  obtain ⟨nm, im, co, mn, mx, gr⟩ := c
  unfold Cfg.v
  dsimp only at *
  have CL := Lib.hid (fun w => clone_any nm w (by omega))
  go_enter Try.func20, Try.ntmps20
  go_wp2_with fail
  refine (CL.out _).mono ?_
  rintro e wn1 ⟨rfl, hb1⟩
  have HM1 := (((Mem.nil w).alloc' [.string nm, .int .i64 im, .int .i64 co, .int .i64 mn, .int .i64 mx, .int .i64 gr] 23 rfl).alloc' [.string ⟨#[]⟩, .int .i64 0, .int .i64 0, .int .i64 0, .int .i64 0, .int .i64 0] 23 (g := w.heap.size + 1) (by simp)).grow hb1
  simp only [K0, K1, L1, L2, K2, K3, K4, K5, K6, K7, Nat.reduceAdd, Nat.reduceSub] at HM1
  have HM := Lib.hid HM1
  clear HM1 hb1
  go_wp2_with ((refine Mem.store 0 (t := 9) rfl rfl rfl rfl (vs := [.string nm]) rfl (n := 1) (by kernel_rfl) HM.out rfl rfl (by simp) rfl ?_; intro wm1 HMm Cwm1))
  simp only [K0, K1, L1, L2, K2, K3, K4, K5, K6, K7, Nat.reduceAdd, Nat.reduceSub] at HMm
  replace HM := Lib.hid HMm
  clear HMm
  refine Stay.go ?_
  go_wp2_with (first | (refine Mem.loadAll 0 (t := 23) rfl rfl rfl Try.underlying23 (n := 6) (by kernel_rfl) HM.out rfl rfl ?_) | (refine Mem.storeAll 1 (t := 23) rfl rfl rfl rfl (n := 6) (by kernel_rfl) HM.out rfl rfl rfl rfl ?_; intro wm2 HMm Cwm2))
  simp only [K0, K1, L1, L2, K2, K3, K4, K5, K6, K7, Nat.reduceAdd, Nat.reduceSub] at HMm
  replace HM := Lib.hid HMm
  clear HMm
  refine Stay.go ?_
  have BF := HM.out.blk (i := 1) rfl
  go_wp2_with fail
  refine bodyPost_ret (v := .agg #[.string nm, .int .i64 im, .int .i64 co, .int .i64 mn, .int .i64 mx, .int .i64 gr]) (by simp [results, Try.results20, go_sem, BF.cell]) rfl ?_
  exact ⟨rfl, HM.out.below⟩
theorem chg_noneG {a b : World} (h : Chg (fun _ => False) a b) : Grow.G a b := h.toGrow (fun _ _ => id)
end Go.Proofs.Ytbfpappechpdiaa
