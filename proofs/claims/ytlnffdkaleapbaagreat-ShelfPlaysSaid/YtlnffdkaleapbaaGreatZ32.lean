/- My own texts ShRenew, ShS, OwnRt, laid in one file. -/
import Derived.Test.YtlnffdkaleapbaaGreatZ30
import Derived.Test.YtlnffdkaleapbaaGreatZ31
import Derived.Test.YtlnffdkaleapbaaGreatZ8
import Derived.Test.YtlnffdkaleapbaaGreatZ17
import Derived.Test.YtlnffdkaleapbaaGreatZ2

/- shelf's renew. -/
namespace Go.Proofs.YtlnffdkaleapbaaGreat
set_option maxRecDepth 100000
set_option linter.unusedVariables false
set_option linter.unusedSimpArgs false
set_option linter.unnecessarySimpa false
open Go.RowKit Go.MapV Go.Maps

theorem g_at (gn : ByteArray → Nat) (nm : ByteArray) : (fG gn (strK nm)).getD (.int .i64 0) = .int .i64 (gn nm) := by
  show (gVal (gn nm)).getD _ = _
  unfold gVal
  split
  · rename_i h; rw [h]; rfl
  · rfl
theorem g_upd (gn : ByteArray → Nat) (nm : ByteArray) : fG (upd gn nm (gn nm + 1)) (strK nm) = some (.int .i64 ((gn nm : Int) + 1)) := by
  show gVal (upd gn nm _ nm) = _
  rw [upd_at]
  unfold gVal
  rw [if_neg (by omega)]
  rfl
theorem g_other (gn : ByteArray → Nat) (nm : ByteArray) (k : Nat) : ∀ x, x ≠ strK nm → fG (upd gn nm k) x = fG gn x := onS_ne fun x hx => by rw [upd_ne _ _ hx]
/-- The generations behind one more. -/
def Renew (w w' : World) (g n : Nat) (mc mr mg : Option Nat) (k : Nat) (gn : ByteArray → Nat) (nm : ByteArray) : Prop :=
  ∃ b, Blk w' g (shC n mc mr (some b)).toArray shT ∧ MapS w' (some b) (k + 1) (fG (upd gn nm (gn nm + 1))) ∧ Chg (fun j => j = g ∨ some j = mg) w w' ∧ (mg = some b ∨ w.heap.size ≤ b)
set_option maxHeartbeats 1000000 in
theorem renew_any (g n : Nat) (mc mr mg : Option Nat) (k : Nat) (gn : ByteArray → Nat) (nm : ByteArray) (w : World) (hb : Blk w g (shC n mc mr mg).toArray shT) (hm : MapS w mg k (fG gn)) (hk : k < maxLen) (hs : nm.size ≤ maxLen) (hn : gn nm < 4611686018427387904) :
    Calls Tryz.prog 26 #[pt g, .string nm] w fun e w' => (∃ v, e = .returned v) ∧ Renew w w' g n mc mr mg k gn nm := by
  have HV := Lib.hid (g_at gn nm)
  have HU := Lib.hid (g_upd gn nm)
  have HO := Lib.hid (g_other gn nm (gn nm + 1))
  have hM := Lib.hid hm
  have hB := Lib.hid hb
  have hg := hb.lt
  have c0 : w.cell? ⟨g, 3, none⟩ = some (.map mg) := (hb.cell 3).trans rfl
  have f0 := hb.free 3
  have hwr : IntKind.i64.wrap ((gn nm : Int) + 1) = (gn nm : Int) + 1 := IntWalk.i64_in _ ⟨by omega, by omega⟩
  generalize (gn nm : Int) = z at *
  clear hm hb
  cases hmc : mg with
  | none =>
    subst hmc
    have hmm := @run_makeMap Tryz.prog
    have HN := run_nilI none
    simp only [Option.isNone_none] at HN
    obtain ⟨w1, hw1⟩ : ∃ w1, w1 = (w.setCell ⟨g, 3, none⟩ (.map (some w.heap.size))).alloc (.map #[] 0) := ⟨_, rfl⟩
    have MB : MapB Tryz.prog 9 w1 w.heap.size 0 (fun _ => none) := by
      have := MapB.made (w.setCell ⟨g, 3, none⟩ (.map (some w.heap.size))) Tryz.prog 9
      rw [← hw1] at this; simpa using this
    have FN : ∀ kl, fG gn kl = none := hM.out
    have MB := Lib.hid (MB.same (f' := fG gn) FN)
    have GB := Lib.hid ((hB.out.set 3 (.map (some w.heap.size))).alloc (.map #[] 0))
    have CH : Chg (fun j => j = g) w w1 := by rw [hw1]; exact (Chg.setCell (G := fun j => j = g) (Chg.refl _ _) (fun _ => rfl) _ _).alloc _
    rw [← hw1] at GB
    have CH := Lib.hid CH
    have hs1 : Hid (w1.heap.size = w.heap.size + 1) := Lib.hid (by rw [hw1]; simp)
    have hW := Lib.hid hw1
    clear hw1 FN
    have MN := Lib.hid (show MapS w1 (some w.heap.size) 0 (fG gn) from MB.out)
    go_enter Tryz.func26, Tryz.ntmps26
    go_wp2_with (first
      | (at_lookup; rw [← hW.out]; refine look1v _ rfl rfl keyedS Tryz.underlying63 zeroI rfl MN.out rfl (keyS Tryz.underlying9 hs) HV.out ?_)
      | (at_mapUpdate; refine MapV.put (key := .string nm) rfl rfl keyedS Tryz.underlying63 rfl MB.out (by unfold maxLen; omega) rfl rfl (keyS Tryz.underlying9 hs) HU.out HO.out ?_; intro w9 M9 C9; have M9 := Lib.hid M9; have C9 := Lib.hid C9))
    go_returns
    have h1 := hs1.out
    have hlt := hB.out.lt
    refine ⟨⟨_, rfl⟩, w.heap.size, GB.out.chg C9.out (by omega), MapB.mono M9.out (by omega), ?_, .inr (Nat.le_refl _)⟩
    exact (CH.out.mono fun j _ h => .inl h).join C9.out fun j hj e => by have e : j = w.heap.size := e; omega
  | some b =>
    rw [hmc] at c0 hM
    have MB := Lib.hid (show MapB Tryz.prog 9 w b k (fG gn) from hM.out)
    have hbl := MB.out.lt
    have hbg := MB.out.ne hB.out
    have HN := run_nilI (some b)
    simp only [Option.isNone_some] at HN
    go_enter Tryz.func26, Tryz.ntmps26
    go_wp2_with (first
      | (at_lookup; refine look1v _ rfl rfl keyedS Tryz.underlying63 zeroI rfl hM.out rfl (keyS Tryz.underlying9 hs) HV.out ?_)
      | (at_mapUpdate; refine MapV.put (key := .string nm) rfl rfl keyedS Tryz.underlying63 rfl MB.out hk rfl rfl (keyS Tryz.underlying9 hs) HU.out HO.out ?_; intro w9 M9 C9; have M9 := Lib.hid M9; have C9 := Lib.hid C9))
    go_returns
    refine ⟨⟨_, rfl⟩, b, (hB.out.chg C9.out (by omega)) |> fun h => (by rw [hmc] at h; exact h), M9.out, ?_, .inl rfl⟩
    exact C9.out.mono fun j _ e => .inr (congrArg some e)

def objC (s : Sh) : ByteArray → Option ObC := fun x => (s.cf x).map fun p => ⟨p.1, p.2⟩
theorem objC_v (s : Sh) (nm : ByteArray) : (objC s nm).map ObC.v = verO (s.cf nm) := by
  unfold objC verO
  rw [Option.map_map]; rfl
/-- The routes that there are, each with targets of its own. -/
def RtsAt (w : World) (g : Nat) (F : Nat → Prop) (mc mr mg : Option Nat) (rt : ByteArray → Option (Rt × Nat)) (fr : ByteArray → Option ObR) : Prop :=
  ∀ x, (rt x = none ∧ fr x = none) ∨ ∃ r v b cap, rt x = some (r, v) ∧ fr x = some ⟨r, b, cap, v⟩ ∧ F b ∧ b ≠ g ∧ mc ≠ some b ∧ mr ≠ some b ∧ mg ≠ some b ∧ TgtSl w (some ⟨b, 0, none⟩) r.ts
structure ShIn (w : World) (g : Nat) (F : Nat → Prop) (s : Sh) (mc mr mg : Option Nat) (fr : ByteArray → Option ObR) : Prop where
  hb : Blk w g (shC s.n mc mr mg).toArray shT
  hc : MapS w mc s.n (fC (objC s))
  hr : MapS w mr s.n (fR fr)
  hg : MapS w mg s.n (fG s.gn)
  ht : RtsAt w g F mc mr mg s.rt fr
  fg : F g
  fc : ∀ b, mc = some b → F b
  fr : ∀ b, mr = some b → F b
  fG : ∀ b, mg = some b → F b
  d1 : ∀ b, mc = some b → mr ≠ some b
  d2 : ∀ b, mc = some b → mg ≠ some b
  d3 : ∀ b, mr = some b → mg ≠ some b
  lt : ∀ k, F k → k < w.heap.size
  ok : s.ok
def ShAt (w : World) (g : Nat) (F : Nat → Prop) (s : Sh) : Prop := ∃ mc mr mg fr, ShIn w g F s mc mr mg fr
/-- F, and what is new. -/
def ext (F : Nat → Prop) (w w' : World) (k : Nat) : Prop := F k ∨ (w.heap.size ≤ k ∧ k < w'.heap.size)
theorem RtsAt.chg {w w' : World} {g : Nat} {F F' G : Nat → Prop} {mc mr mg mc' mr' mg' : Option Nat} {rt : ByteArray → Option (Rt × Nat)} {fr : ByteArray → Option ObR} (h : RtsAt w g F mc mr mg rt fr) (c : Chg G w w')
    (hF : ∀ k, F k → F' k) (hG : ∀ b, F b → b ≠ g → mc ≠ some b → mr ≠ some b → mg ≠ some b → ¬ G b ∧ mc' ≠ some b ∧ mr' ≠ some b ∧ mg' ≠ some b) : RtsAt w' g F' mc' mr' mg' rt fr := by
  intro x
  rcases h x with h | ⟨r, v, b, cap, h1, h2, h3, h4, h5, h6, h7, h8⟩
  · exact .inl h
  · obtain ⟨a1, a2, a3, a4⟩ := hG b h3 h4 h5 h6 h7
    exact .inr ⟨r, v, b, cap, h1, h2, hF b h3, h4, a2, a3, a4, h8.chg c (fun b' off e => by cases e; exact a1)⟩
theorem ShIn.chg {w w' : World} {g : Nat} {F G : Nat → Prop} {s : Sh} {mc mr mg : Option Nat} {fr : ByteArray → Option ObR} (h : ShIn w g F s mc mr mg fr) (c : Chg G w w') (hG : ∀ k, F k → ¬ G k) : ShIn w' g F s mc mr mg fr :=
  ⟨h.hb.chg c (hG _ h.fg), h.hc.chg c (fun b e => hG _ (h.fc b e)), h.hr.chg c (fun b e => hG _ (h.fr b e)), h.hg.chg c (fun b e => hG _ (h.fG b e)), h.ht.chg c (fun _ => id) (fun b h3 h4 h5 h6 h7 => ⟨hG _ h3, h5, h6, h7⟩), h.fg, h.fc, h.fr, h.fG, h.d1, h.d2, h.d3, fun k hk => Nat.lt_of_lt_of_le (h.lt k hk) c.size, h.ok⟩
theorem ShIn.grow {w w' : World} {g : Nat} {F : Nat → Prop} {s : Sh} {mc mr mg : Option Nat} {fr : ByteArray → Option ObR} (h : ShIn w g F s mc mr mg fr) (c : Grow.G w w') : ShIn w' g F s mc mr mg fr := h.chg (Chg.grow (G := fun _ => False) c) (fun _ _ => id)
theorem ShAt.chg {w w' : World} {g : Nat} {F G : Nat → Prop} {s : Sh} (h : ShAt w g F s) (c : Chg G w w') (hG : ∀ k, F k → ¬ G k) : ShAt w' g F s := by
  obtain ⟨mc, mr, mg, fr, h⟩ := h
  exact ⟨mc, mr, mg, fr, h.chg c hG⟩
theorem ShAt.foot (g : Nat) (s : Sh) : Foot (fun w F => ShAt w g F s) := ⟨fun ⟨_, _, _, _, h⟩ => h.lt, fun h c hG => h.chg c hG⟩
theorem ShAt.grow {w w' : World} {g : Nat} {F : Nat → Prop} {s : Sh} (h : ShAt w g F s) (c : Grow.G w w') : ShAt w' g F s := h.chg (Chg.grow (G := fun _ => False) c) (fun _ _ => id)
theorem ext_lt {F : Nat → Prop} {w w' : World} (h : ∀ k, F k → k < w.heap.size) (hs : w.heap.size ≤ w'.heap.size) : ∀ k, ext F w w' k → k < w'.heap.size := fun k hk => hk.elim (fun h1 => Nat.lt_of_lt_of_le (h k h1) hs) (fun h1 => h1.2)
theorem ext_fresh (F : Nat → Prop) (w w' : World) : Fresh w F (ext F w w') := fun k hk => hk.imp id (fun h => h.1)
theorem ShAt.wide {w : World} {g : Nat} {F F' : Nat → Prop} {s : Sh} (h : ShAt w g F s) (hF : ∀ k, F k → F' k) (hl : ∀ k, F' k → k < w.heap.size) : ShAt w g F' s := by
  obtain ⟨mc, mr, mg, fr, h⟩ := h
  exact ⟨mc, mr, mg, fr, h.hb, h.hc, h.hr, h.hg, h.ht.chg (Chg.refl (fun _ => False) _) hF (fun b _ _ h5 h6 h7 => ⟨id, h5, h6, h7⟩), hF _ h.fg, fun b e => hF _ (h.fc b e), fun b e => hF _ (h.fr b e), fun b e => hF _ (h.fG b e), h.d1, h.d2, h.d3, hl, h.ok⟩
theorem objC_set (s : Sh) (c : Cfg) : upd (objC s) c.nm (some ⟨c, s.n + 1⟩) = objC (s.rawC c) := by
  funext x
  unfold objC Sh.rawC upd
  dsimp only
  split <;> rfl
section
variable {w w1 w2 w3 : World} {g k : Nat} {F : Nat → Prop} {s : Sh} {mc mr mg : Option Nat} {fr : ByteArray → Option ObR}
theorem or_some {m : Option Nat} {b : Nat} {n : Nat} (h : m = some b ∨ n ≤ b) (x : Nat) (hx : m ≠ some x) (hl : x < n) : (some b : Option Nat) ≠ some x := by
  intro e
  cases e
  rcases h with h | h
  · exact hx h
  · omega
theorem PutC.chg {n : Nat} {f : ByteArray → Option ObC} {nm : ByteArray} {ob : ObC} (h : PutC w w1 g n mc mr mg k f nm ob) : Chg (fun j => j = g ∨ some j = mc) w w1 := by obtain ⟨b, _, _, C, _⟩ := h; exact C
theorem PutR.chg {n : Nat} {f : ByteArray → Option ObR} {nm : ByteArray} {ob : ObR} (h : PutR w w1 g n mc mr mg k f nm ob) : Chg (fun j => j = g ∨ some j = mr) w w1 := by obtain ⟨b, _, _, C, _⟩ := h; exact C
theorem Renew.chg {n : Nat} {gn : ByteArray → Nat} {nm : ByteArray} (h : Renew w w1 g n mc mr mg k gn nm) : Chg (fun j => j = g ∨ some j = mg) w w1 := by obtain ⟨b, _, _, C, _⟩ := h; exact C
/-- A configuration put, its generation as it was. -/
theorem ShIn.rawC (h : ShIn w g F s mc mr mg fr) (h1 : Grow.G w w1) {c : Cfg} (hc : c.err = 0) (hp : PutC w1 w2 g (s.n + 1) mc mr mg s.n (objC s) c.nm ⟨c, s.n + 1⟩) : (∃ b, ShIn w2 g (ext F w w2) (s.rawC c) (some b) mr mg fr) ∧ Chg F w w2 ∧ MapS w2 mg s.n (_root_.Go.Proofs.YtlnffdkaleapbaaGreat.fG s.gn) := by
  obtain ⟨b, B2, M2, C2, o2⟩ := hp
  have hs1 := h1.size
  have hs2 := C2.size
  have hlt := h.lt
  have C : Chg F w w2 := (Chg.grow h1).join C2 fun j hj e => by
    rcases e with rfl | e
    · exact h.fg
    · exact h.fc j e.symm
  have hbl := M2.lt b rfl
  have h := h.grow h1
  have nb : ∀ x, mc ≠ some x → x < w1.heap.size → (some b : Option Nat) ≠ some x := fun x hx hl => or_some o2 x hx hl
  have hgk := h.hg.chg C2 (fun x e q => by
    rcases q with rfl | q
    · have hm := h.hg; rw [e] at hm; exact MapB.ne hm h.hb rfl
    · exact h.d2 x q.symm e)
  refine ⟨⟨b, B2, ?_, (h.hr.chg C2 ?_).mono (Nat.le_succ _), hgk.mono (Nat.le_succ _), h.ht.chg C2 (fun k hk => .inl hk) ?_, .inl h.fg, ?_, fun x e => .inl (h.fr x e), fun x e => .inl (h.fG x e), ?_, ?_, h.d3, ext_lt hlt (by omega), Sh.ok_rawC h.ok hc⟩, C, hgk⟩
  · rw [objC_set] at M2; exact M2
  · intro x e q
    rcases q with rfl | q
    · have hm := h.hr; rw [e] at hm; exact MapB.ne hm h.hb rfl
    · exact h.d1 x q.symm e
  · intro x h3 h4 h5 h6 h7
    exact ⟨fun q => by rcases q with q | q; exact h4 q; exact h5 q.symm, nb x h5 (by have := h.lt x h3; omega), h6, h7⟩
  · intro x e
    cases e
    rcases o2 with o2 | o2
    · exact .inl (h.fc _ o2)
    · exact .inr ⟨by omega, hbl⟩
  · intro x e q
    cases e
    rcases o2 with o2 | o2
    · exact h.d1 _ o2 q
    · have := h.lt _ (h.fr _ q); omega
  · intro x e q
    cases e
    rcases o2 with o2 | o2
    · exact h.d2 _ o2 q
    · have := h.lt _ (h.fG _ q); omega
/-- A generation one more. -/
theorem ShIn.ren (h : ShIn w g F s mc mr mg fr) {nm : ByteArray} (hn : s.gn nm < s.n) (hp : Renew w w2 g s.n mc mr mg k s.gn nm) (hk : k + 1 ≤ s.n) : (∃ b, ShIn w2 g (ext F w w2) (s.ren nm) mc mr (some b) fr) ∧ Chg F w w2 := by
  obtain ⟨b, B2, M2, C2, o2⟩ := hp
  have hs2 := C2.size
  have hlt := h.lt
  have C : Chg F w w2 := C2.mono fun j hj e => by
    rcases e with rfl | e
    · exact h.fg
    · exact h.fG j e.symm
  have hbl := M2.lt b rfl
  have nb : ∀ x, mg ≠ some x → x < w.heap.size → (some b : Option Nat) ≠ some x := fun x hx hl => or_some o2 x hx hl
  refine ⟨⟨b, B2, h.hc.chg C2 ?_, h.hr.chg C2 ?_, M2.mono hk, h.ht.chg C2 (fun k hk => .inl hk) ?_, .inl h.fg, fun x e => .inl (h.fc x e), fun x e => .inl (h.fr x e), ?_, h.d1, ?_, ?_, ext_lt hlt (by omega), Sh.ok_ren h.ok hn⟩, C⟩
  · intro x e q
    rcases q with rfl | q
    · have hm := h.hc; rw [e] at hm; exact MapB.ne hm h.hb rfl
    · exact h.d2 x e q.symm
  · intro x e q
    rcases q with rfl | q
    · have hm := h.hr; rw [e] at hm; exact MapB.ne hm h.hb rfl
    · exact h.d3 x e q.symm
  · intro x h3 h4 h5 h6 h7
    exact ⟨fun q => by rcases q with q | q; exact h4 q; exact h7 q.symm, h5, h6, nb x h7 (h.lt x h3)⟩
  · intro x e
    cases e
    rcases o2 with o2 | o2
    · exact .inl (h.fG _ o2)
    · exact .inr ⟨by omega, hbl⟩
  · intro x e q
    cases q
    rcases o2 with o2 | o2
    · exact h.d2 _ e o2
    · have := h.lt _ (h.fc _ e); omega
  · intro x e q
    cases q
    rcases o2 with o2 | o2
    · exact h.d3 _ e o2
    · have := h.lt _ (h.fr _ e); omega
/-- A route put. -/
theorem ShIn.setR (h : ShIn w g F s mc mr mg fr) (h1 : Grow.G w w1) {r : Rt} (hc : r.err = 0) {tb cap : Nat} (ht : TgtSl w1 (some ⟨tb, 0, none⟩) r.ts) (hb1 : w.heap.size ≤ tb) (hb2 : tb < w1.heap.size)
    (hp : PutR w1 w2 g (s.n + 1) mc mr mg s.n fr r.nm ⟨r, tb, cap, s.n + 1⟩) : ShAt w2 g (ext F w w2) (s.setR r) ∧ Chg F w w2 := by
  obtain ⟨b, B2, M2, C2, o2⟩ := hp
  have hs1 := h1.size
  have hs2 := C2.size
  have hlt := h.lt
  have C : Chg F w w2 := (Chg.grow h1).join C2 fun j hj e => by
    rcases e with rfl | e
    · exact h.fg
    · exact h.fr j e.symm
  have hbl := M2.lt b rfl
  have hgl := h.hb.lt
  have hcl := fun x e => h.lt x (h.fc x e)
  have hrl := fun x e => h.lt x (h.fr x e)
  have hGl := fun x e => h.lt x (h.fG x e)
  have h := h.grow h1
  have nb : ∀ x, mr ≠ some x → x < w1.heap.size → (some b : Option Nat) ≠ some x := fun x hx hl => or_some o2 x hx hl
  have nr : mr ≠ some tb := fun e => by have := hrl _ e; omega
  have ng : tb ≠ g := by omega
  refine ⟨⟨mc, some b, mg, upd fr r.nm (some ⟨r, tb, cap, s.n + 1⟩), B2, (h.hc.chg C2 ?_).mono (Nat.le_succ _), M2, (h.hg.chg C2 ?_).mono (Nat.le_succ _), ?_, .inl h.fg, fun x e => .inl (h.fc x e), ?_, fun x e => .inl (h.fG x e), ?_, h.d2, ?_, ext_lt hlt (by omega), Sh.ok_setR h.ok hc⟩, C⟩
  · intro x e q
    rcases q with rfl | q
    · have hm := h.hc; rw [e] at hm; exact MapB.ne hm h.hb rfl
    · exact h.d1 x e q.symm
  · intro x e q
    rcases q with rfl | q
    · have hm := h.hg; rw [e] at hm; exact MapB.ne hm h.hb rfl
    · exact h.d3 x q.symm e
  · intro x
    by_cases e : x = r.nm
    · subst e
      refine .inr ⟨r, s.n + 1, tb, cap, upd_at _ _ _, upd_at _ _ _, .inr ⟨hb1, by omega⟩, ng, fun e => ?_, nb tb nr hb2, fun e => ?_, ht.chg C2 (fun b' off e => ?_)⟩
      · have := hcl _ e; omega
      · have := hGl _ e; omega
      · cases e
        intro q
        rcases q with q | q
        · exact ng q
        · exact nr q.symm
    · have hx := h.ht.chg (mc' := mc) (mr' := some b) (mg' := mg) (F' := ext F w w2) C2 (fun k hk => .inl hk) (fun y h3 h4 h5 h6 h7 => ⟨fun q => by rcases q with q | q; exact h4 q; exact h6 q.symm, h5, nb y h6 (by have := h.lt y h3; omega), h7⟩) x
      show (upd s.rt r.nm _ x = none ∧ upd fr r.nm _ x = none) ∨ ∃ r' v b' cap', upd s.rt r.nm _ x = some (r', v) ∧ upd fr r.nm _ x = some _ ∧ _
      rw [upd_ne _ _ e, upd_ne _ _ e]
      exact hx
  · intro x e
    cases e
    rcases o2 with o2 | o2
    · exact .inl (h.fr _ o2)
    · exact .inr ⟨by omega, hbl⟩
  · intro x e q
    cases q
    rcases o2 with o2 | o2
    · exact h.d1 _ e o2
    · have := hcl _ e; omega
  · intro x e q
    cases e
    rcases o2 with o2 | o2
    · exact h.d3 _ o2 q
    · have := hGl _ q; omega
end
end Go.Proofs.YtlnffdkaleapbaaGreat

/- shelf's copies of its own: ownConfig, ownRoute. -/
namespace Go.Proofs.YtlnffdkaleapbaaGreat
set_option maxRecDepth 100000
set_option linter.unusedVariables false
set_option linter.unusedSimpArgs false
set_option linter.unnecessarySimpa false
open Go.RowKit Go.MapV

set_option maxHeartbeats 1000000 in
theorem ownC_any (c : Cfg) (w : World) (hs : c.nm.size ≤ 140737488351232) : Calls Tryz.prog 23 #[c.v] w fun e w' => e = .returned c.v ∧ Grow.G w w' := by
  obtain ⟨nm, im, co, mn, mx, gr⟩ := c
  unfold Cfg.v
  dsimp only at *
  have CL := Lib.hid (fun w => clone_any nm w (by omega))
  go_enter Tryz.func23, Tryz.ntmps23
  go_wp2_with fail
  refine (CL.out _).mono ?_
  rintro e wn1 ⟨rfl, hb1⟩
  have HM1 := (((Mem.nil w).alloc' [.string nm, .int .i64 im, .int .i64 co, .int .i64 mn, .int .i64 mx, .int .i64 gr] 31 rfl).alloc' [.string ⟨#[]⟩, .int .i64 0, .int .i64 0, .int .i64 0, .int .i64 0, .int .i64 0] 31 (g := w.heap.size + 1) (by simp)).grow hb1
  simp only [K0, K1, L1, L2, K2, K3, K4, K5, K6, K7, Nat.reduceAdd, Nat.reduceSub] at HM1
  have HM := Lib.hid HM1
  clear HM1 hb1
  go_wp2_with ((refine Mem.store 0 (t := 9) rfl rfl rfl rfl (vs := [.string nm]) rfl (n := 1) (by kernel_rfl) HM.out rfl rfl (by simp) rfl ?_; intro wm1 HMm Cwm1))
  simp only [K0, K1, L1, L2, K2, K3, K4, K5, K6, K7, Nat.reduceAdd, Nat.reduceSub] at HMm
  replace HM := Lib.hid HMm
  clear HMm
  refine Stay.go ?_
  go_wp2_with (first | (refine Mem.loadAll 0 (t := 31) rfl rfl rfl Tryz.underlying31 (n := 6) (by kernel_rfl) HM.out rfl rfl ?_) | (refine Mem.storeAll 1 (t := 31) rfl rfl rfl rfl (n := 6) (by kernel_rfl) HM.out rfl rfl rfl rfl ?_; intro wm2 HMm Cwm2))
  simp only [K0, K1, L1, L2, K2, K3, K4, K5, K6, K7, Nat.reduceAdd, Nat.reduceSub] at HMm
  replace HM := Lib.hid HMm
  clear HMm
  refine Stay.go ?_
  have BF := HM.out.blk (i := 1) rfl
  go_wp2_with fail
  refine bodyPost_ret (v := .agg #[.string nm, .int .i64 im, .int .i64 co, .int .i64 mn, .int .i64 mx, .int .i64 gr]) (by simp [results, Tryz.results23, go_sem, BF.cell]) rfl ?_
  exact ⟨rfl, HM.out.below⟩
theorem run_nilT (a : Addr) (n c : Nat) (w : World) : (binOp .eql 43 (.slice (some a) n c) (.slice none 0 0)).run Tryz.prog w = .ok (.bool false) w := by
  kernel_rfl
set_option maxHeartbeats 1000000 in
theorem sclone_any (b off : Nat) (ts : List Tgt) (c : Nat) (w : World) (ht : TgtSl w (some ⟨b, off, none⟩) ts) (hl : ts.length ≤ 1000) :
    Calls Tryz.prog 53 #[.slice (some ⟨b, off, none⟩) ts.length c] w fun e w' => ∃ sa c', e = .returned (.slice sa ts.length c') ∧ OwnTs w' w.heap.size (.slice sa ts.length c') ts ∧ Grow.G w w' := by
  have HT := Lib.hid ht
  have HN := run_nilT ⟨b, off, none⟩ ts.length c
  clear ht
  go_enter Tryz.func53, Tryz.ntmps53
  go_wp2_with (at_builtin; refine wpList_copyt rfl _ _ rfl rfl rfl ts rfl rfl HT.out hl ?_)
  intro sa c' w' h1 h2
  have h1 := Lib.hid h1
  have h2 := Lib.hid h2
  go_wp2_with fail
  go_ret
  exact ⟨sa, c', rfl, h1.out, h2.out⟩
/-- A store of what lies there. -/
theorem setCell_same {w : World} {g o : Nat} {v : Value} {cs : Array Value} {T : TypeId} (hb : Blk w g cs T) (hv : cs[o]? = some v) : w.setCell ⟨g, o, none⟩ v = w := by
  have e : (w.setCell ⟨g, o, none⟩ v).heap = w.heap := by
    apply Array.ext_getElem?
    intro k
    by_cases hk : k = g
    · subst hk
      have h1 := hb.set o v
      have h2 : cs.setIfInBounds o v = cs := by
        apply Array.ext_getElem?
        intro j
        rw [Array.getElem?_setIfInBounds]
        split
        · rename_i e; subst e; split
          · exact hv.symm
          · rename_i h; rw [Array.getElem?_eq_none (by omega)] at hv; cases hv
        · rfl
      rw [h2] at h1
      exact h1.trans hb.symm
    · simp only [World.setCell, Array.getElem?_modify]
      rw [if_neg (fun e => hk e.symm)]
  have : (w.setCell ⟨g, o, none⟩ v) = { w with heap := (w.setCell ⟨g, o, none⟩ v).heap } := rfl
  rw [this, e]
theorem chg_noneG {a b : World} (h : Chg (fun _ => False) a b) : Grow.G a b := h.toGrow (fun _ _ => id)
theorem own_blk {w : World} {base e sz n : Nat} {v : Value} {xs : List Value} (ho : w.ownsRow base e sz v n xs) (h0 : 0 < n) : ∃ b cap cur, v = .slice (some ⟨b, 0, none⟩) n cap ∧ base ≤ b ∧ Blk w b cur e ∧ ∀ (j : Nat) (x : Value), xs[j]? = some x → cur[j]? = some x := by
  rcases ho.2 with ⟨_, h⟩ | ⟨b, cap, cur, rfl, hb, hg, h3, h4, h5, h6⟩
  · omega
  · refine ⟨b, cap, cur, rfl, hb, hg, fun j x hj => ?_⟩
    rw [← h6, List.getElem?_take] at hj
    split at hj
    · simpa using hj
    · cases hj
set_option maxHeartbeats 4000000 in
theorem ownR_any (nm cf : ByteArray) (b0 off : Nat) (ts : List Tgt) (c : Nat) (rl : Int) (w : World) (hn : nm.size ≤ 140737488351232) (hc : cf.size ≤ 140737488351232) (ht : TgtSl w (some ⟨b0, off, none⟩) ts) (hk : ∀ i, i < ts.length → (ts.getD i tg0).ok) (hl : ts.length ≤ 1000) (h0 : 0 < ts.length) :
    Calls Tryz.prog 30 #[rtV nm cf (.slice (some ⟨b0, off, none⟩) ts.length c) rl] w fun e w' => ∃ b c', e = .returned (rtV nm cf (.slice (some ⟨b, 0, none⟩) ts.length c') rl) ∧ OwnTs w' w.heap.size (.slice (some ⟨b, 0, none⟩) ts.length c') ts ∧ Grow.G w w' := by
  unfold rtV
  have CN := Lib.hid (fun w => clone_any nm w (by omega))
  have CC := Lib.hid (fun w => clone_any cf w (by omega))
  have HT := Lib.hid ht
  have HK := Lib.hid hk
  clear ht hk
  go_enter Tryz.func30, Tryz.ntmps30
  go_wp2_with fail
  obtain ⟨W1, hW1⟩ : ∃ W1, W1 = (w.alloc (.cells #[.string nm, .string cf, .slice (some ⟨b0, off, none⟩) ts.length c, .int .i64 rl] 45)).alloc (.cells #[.string ⟨#[]⟩, .string ⟨#[]⟩, .slice none 0 0, .int .i64 0] 45) := ⟨_, rfl⟩
  rw [← hW1]
  have HM1 := ((Mem.nil w).alloc' [.string nm, .string cf, .slice (some ⟨b0, off, none⟩) ts.length c, .int .i64 rl] 45 rfl).alloc' [.string ⟨#[]⟩, .string ⟨#[]⟩, .slice none 0 0, .int .i64 0] 45 (g := w.heap.size + 1) (by simp)
  simp only [K0, K1, L1, L2, K2, K3, K4, K5, K6, K7, Nat.reduceAdd, Nat.reduceSub] at HM1
  rw [← hW1] at HM1
  have B1 := Lib.hid (HM1.blk (i := 0) rfl)
  have HM := Lib.hid HM1
  clear HM1 hW1
  have KC := Lib.hid (fun (w' : World) (h : Chg (fun _ => False) W1 w') => (⟨(evd (B1.out.chg h id) (i := 0) rfl), (evd (B1.out.chg h id) (i := 1) rfl), (B1.out.chg h id).free 0, (B1.out.chg h id).free 1, (B1.out.chg h id).lt, trivial⟩ : w'.cell? ⟨w.heap.size, 0, none⟩ = some (.string nm) ∧ w'.cell? ⟨w.heap.size, 1, none⟩ = some (.string cf) ∧ w'.frozen? ⟨w.heap.size, 0, none⟩ = false ∧ w'.frozen? ⟨w.heap.size, 1, none⟩ = false ∧ w.heap.size < w'.heap.size ∧ True))
  refine wp_spec (fun a0 A W => ∃ x5 x6 x7 x8 x9 x10 x11 x12 : Value, A = ((((((((a0.put (some 5) x5).put (some 6) x6).put (some 7) x7).put (some 8) x8).put (some 9) x9).put (some 10) x10).put (some 11) x11).put (some 12) x12) ∧ Hid (Chg (fun _ => False) W1 W)) ?_ ?_
  all_goals simp only [Act.put, L0, L1, L2]
  ·
    refine Evo2.start' (ℓ := none) (S := Chg (fun _ => False)) (E := Grow.G) (by kernel_rfl) ⟨Chg.pre _, by decide +kernel, (by intro c a d v w h; cases d <;> exact h), by decide +kernel⟩ (fun ok => ?_)
    refine Evo2.va ok 0 _ _ ?_
    first | (refine Evo2.vl ok 1 KC.out (Chg.refl (fun _ => False) _) _ _ ?_) | (refine Evo2.va ok 1 _ _ ?_)
    (refine Evo2.cal ok 2 ?_ 39 ?_ ?_ ?_ ?_; rotate_left 2; (focus (intro w'; go_simp <;> with_reducible rfl)); (focus (intro w' g'; with_reducible exact CN.out _)); simp only [Act.put, L0, L1, L2])
    refine Evo2.va ok 3 _ _ ?_
    first | (refine Evo2.vl ok 4 KC.out (Chg.refl (fun _ => False) _) _ _ ?_) | (refine Evo2.va ok 4 _ _ ?_)
    (refine Evo2.cal ok 5 ?_ 39 ?_ ?_ ?_ ?_; rotate_left 2; (focus (intro w'; go_simp <;> with_reducible rfl)); (focus (intro w' g'; with_reducible exact CC.out _)); simp only [Act.put, L0, L1, L2])
    refine Evo2.va ok 6 _ _ ?_
    refine Evo2.all [7] (by decide +kernel) rfl ?_
    intro wp1 gp1 iq hq
    simp only [List.mem_cons, List.mem_nil_iff, or_false] at hq
    have AP1 := Chg.trans (Chg.refl (fun _ => False) _) (Chg.grow gp1)
    subst hq
    refine Evo2.runs (by rfl) (by rfl) (fun K' hK' => ?_)
    (try obtain ⟨q1, q2, q3, q4, q5, q6⟩ := KC.out wp1 AP1)
    skip
    go_simp
    (try (simp only [Evo.after_value, Evo.after_skip]))
    refine hK'.out _ _ ?_
    clear hK'
    simp only [Act.put, L0, L1, L2]
    (try clear xx)
    rw [setCell_same (B1.out.chg AP1 id) rfl]
    (try clear q1 q2 q3 q4 q5 q6)
    refine ⟨.inr (by (repeat refine Chg.setCell ?_ (fun _ => by first | rfl | (simp; done) | (simp; omega)) _ _); exact Chg.refl _ _), ?_⟩
    refine Evo2.va ok 8 _ _ ?_
    refine Evo2.all [9] (by decide +kernel) rfl ?_
    intro wp2 gp2 iq hq
    simp only [List.mem_cons, List.mem_nil_iff, or_false] at hq
    have AP2 := Chg.trans (Chg.trans AP1 (by (repeat refine Chg.setCell ?_ (fun _ => by first | rfl | (simp; done) | (simp; omega)) _ _); exact Chg.refl _ _)) (Chg.grow gp2)
    subst hq
    refine Evo2.runs (by rfl) (by rfl) (fun K' hK' => ?_)
    (try obtain ⟨q1, q2, q3, q4, q5, q6⟩ := KC.out wp2 AP2)
    skip
    go_simp
    (try (simp only [Evo.after_value, Evo.after_skip]))
    refine hK'.out _ _ ?_
    clear hK'
    simp only [Act.put, L0, L1, L2]
    (try clear xx)
    rw [setCell_same (B1.out.chg AP2 id) rfl]
    (try clear q1 q2 q3 q4 q5 q6)
    refine ⟨.inr (by (repeat refine Chg.setCell ?_ (fun _ => by first | rfl | (simp; done) | (simp; omega)) _ _); exact Chg.refl _ _), ?_⟩
    refine Evo2.done (by decide +kernel) (fun wz gz => ?_)
    have AZ := Chg.trans (Chg.trans AP2 (by (repeat refine Chg.setCell ?_ (fun _ => by first | rfl | (simp; done) | (simp; omega)) _ _); exact Chg.refl _ _)) (Chg.grow gz)
    all_goals
      dsimp only [PostN]
      (repeat apply Exists.intro)
      exact ⟨rfl, Lib.hid AZ⟩
  rintro A W2 ⟨x5, x6, x7, x8, x9, x10, x11, x12, rfl, C2⟩
  have HM2 := Lib.hid (HM.out.grow (chg_noneG C2.out))
  clear KC B1 HM
  go_wp2_with ((refine Mem.load1 0 (t := 43) rfl rfl rfl Tryz.underlying43 rfl HM2.out rfl rfl ?_))
  have hlt0 := HM2.out.lt (i := 0) rfl
  have hlt1 := HM2.out.lt (i := 1) rfl
  refine (sclone_any b0 off ts c _ (HT.out.later HM2.out.below) hl).mono ?_
  rintro e W3 ⟨sa, c', rfl, h3, g3⟩
  obtain ⟨b, cap, cur, hv, hbw, hbk, hcur⟩ := own_blk h3 h0
  cases hv
  have O3 := Lib.hid h3
  have K3 := Lib.hid (And.intro hbk hcur)
  replace HM2 := Lib.hid (HM2.out.grow g3)
  have hbne : b ≠ w.heap.size := by omega
  have hbne1 : b ≠ w.heap.size + 1 := by omega
  clear h3 g3 hbk hcur
  go_wp2_with ((refine Mem.store 0 (t := 43) rfl rfl rfl rfl (vs := [.slice (some ⟨b, 0, none⟩) ts.length c']) rfl (n := 1) (by kernel_rfl) HM2.out rfl rfl (by simp) rfl ?_; intro W4 HMm CW4))
  simp only [K0, K1, L1, L2, K2, K3, K4, K5, K6, K7, Nat.reduceAdd, Nat.reduceSub] at HMm
  replace HM2 := Lib.hid HMm
  clear HMm
  refine Stay.go ?_
  have O4 : OwnTs W4 w.heap.size (.slice (some ⟨b, 0, none⟩) ts.length c') ts := own_base (CW4.own O3.out (fun k hk e => by cases hk; exact hbne e)) (Nat.le_of_lt hlt0)
  have O4 := Lib.hid O4
  have K4 := Lib.hid (K3.out.1.chg CW4 hbne)
  go_wp2_with ((refine Mem.load1 0 (t := 43) rfl rfl rfl Tryz.underlying43 rfl HM2.out rfl rfl ?_))
  go_loopw [20] (fun i wr => ∃ k : Nat, k ≤ ts.length ∧ i = .int .i64 k ∧ Hid (Grow.G W4 wr)) (fun i _ => ts.length - (intOf i).toNat)
  case atStart => exact ⟨0, Nat.zero_le _, rfl, Lib.hid (Grow.G.refl _)⟩
  case round =>
    obtain ⟨k, hk, rfl, G⟩ := hrel
    by_cases hlt : k < ts.length
    · have f3 := flatT_at ts k hlt
      have ok3 := HK.out k hlt
      generalize ts.getD k tg0 = t at *
      obtain ⟨rv, tg, pc⟩ := t
      obtain ⟨q0, q1, -⟩ := f3
      have q0 := K3.out.2 _ _ q0
      have q1 := K3.out.2 _ _ q1
      have Q := Lib.hid (And.intro q0 q1)
      unfold Tgt.ok at ok3
      dsimp only at ok3 q0 q1
      have CR := Lib.hid (fun w => clone_any rv w (by omega))
      have CT := Lib.hid (fun w => clone_any tg w (by omega))
      have BK := Lib.hid (K4.out.grow G.out)
      have k1 : (0 : Int) ≤ (k : Int) := by omega
      have k2 : (k : Int) < (ts.length : Int) := by omega
      replace HM3 := Lib.hid (HM2.out.grow G.out)
      have KC := Lib.hid (fun (w' : World) (h : Chg (fun _ => False) wr w') => (⟨evd (BK.out.chg h id) Q.out.1, evd (BK.out.chg h id) Q.out.2, (BK.out.chg h id).free _, (BK.out.chg h id).free _, (BK.out.chg h id).lt, trivial⟩ : w'.cell? ⟨b, k * 3, none⟩ = some (.string rv) ∧ w'.cell? ⟨b, k * 3 + 1, none⟩ = some (.string tg) ∧ w'.frozen? ⟨b, k * 3, none⟩ = false ∧ w'.frozen? ⟨b, k * 3 + 1, none⟩ = false ∧ b < w'.heap.size ∧ True))
      clear q0 q1 ok3
      go_wp2_with ((refine Mem.load1 0 (t := 43) rfl rfl rfl Tryz.underlying43 rfl HM3.out rfl rfl ?_))
      refine wp_spec (fun a0 A W => ∃ x27 x28 x29 x30 x31 x32 x33 x34 x35 x36 x37 x38 x39 x40 x41 x42 : Value, A = ((((((((((((((((a0.put (some 27) x27).put (some 28) x28).put (some 29) x29).put (some 30) x30).put (some 31) x31).put (some 32) x32).put (some 33) x33).put (some 34) x34).put (some 35) x35).put (some 36) x36).put (some 37) x37).put (some 38) x38).put (some 39) x39).put (some 40) x40).put (some 41) x41).put (some 42) x42) ∧ Hid (Chg (fun _ => False) wr W)) ?_ ?_
      all_goals simp only [Act.put, L0, L1, L2]
      ·
        refine Evo2.start' (ℓ := none) (S := Chg (fun _ => False)) (E := Grow.G) (by kernel_rfl) ⟨Chg.pre _, by decide +kernel, (by intro c a d v w h; cases d <;> exact h), by decide +kernel⟩ (fun ok => ?_)
        refine Evo2.va ok 0 _ _ ?_
        refine Evo2.va ok 1 _ _ ?_
        refine Evo2.va ok 2 _ _ ?_
        refine Evo2.va ok 3 _ _ ?_
        refine Evo2.va ok 4 _ _ ?_
        first | (refine Evo2.vl ok 5 KC.out (Chg.refl (fun _ => False) _) _ _ ?_) | (refine Evo2.va ok 5 _ _ ?_)
        (refine Evo2.cal ok 6 ?_ 39 ?_ ?_ ?_ ?_; rotate_left 2; (focus (intro w'; go_simp <;> with_reducible rfl)); (focus (intro w' g'; with_reducible exact CR.out _)); simp only [Act.put, L0, L1, L2])
        refine Evo2.va ok 7 _ _ ?_
        refine Evo2.va ok 8 _ _ ?_
        refine Evo2.va ok 9 _ _ ?_
        first | (refine Evo2.vl ok 10 KC.out (Chg.refl (fun _ => False) _) _ _ ?_) | (refine Evo2.va ok 10 _ _ ?_)
        (refine Evo2.cal ok 11 ?_ 39 ?_ ?_ ?_ ?_; rotate_left 2; (focus (intro w'; go_simp <;> with_reducible rfl)); (focus (intro w' g'; with_reducible exact CT.out _)); simp only [Act.put, L0, L1, L2])
        refine Evo2.va ok 12 _ _ ?_
        refine Evo2.va ok 13 _ _ ?_
        refine Evo2.all [14] (by decide +kernel) rfl ?_
        intro wp1 gp1 iq hq
        simp only [List.mem_cons, List.mem_nil_iff, or_false] at hq
        have AP1 := Chg.trans (Chg.refl (fun _ => False) _) (Chg.grow gp1)
        subst hq
        refine Evo2.runs (by rfl) (by rfl) (fun K' hK' => ?_)
        (try obtain ⟨q1, q2, q3, q4, q5, q6⟩ := KC.out wp1 AP1)
        skip
        go_simp
        (try (simp only [Evo.after_value, Evo.after_skip]))
        refine hK'.out _ _ ?_
        clear hK'
        simp only [Act.put, L0, L1, L2]
        (try clear xx)
        rw [setCell_same (BK.out.chg AP1 id) Q.out.1]
        (try clear q1 q2 q3 q4 q5 q6)
        refine ⟨.inr (by (repeat refine Chg.setCell ?_ (fun _ => by first | rfl | (simp; done) | (simp; omega)) _ _); exact Chg.refl _ _), ?_⟩
        refine Evo2.va ok 15 _ _ ?_
        refine Evo2.va ok 16 _ _ ?_
        refine Evo2.all [17] (by decide +kernel) rfl ?_
        intro wp2 gp2 iq hq
        simp only [List.mem_cons, List.mem_nil_iff, or_false] at hq
        have AP2 := Chg.trans (Chg.trans AP1 (by (repeat refine Chg.setCell ?_ (fun _ => by first | rfl | (simp; done) | (simp; omega)) _ _); exact Chg.refl _ _)) (Chg.grow gp2)
        subst hq
        refine Evo2.runs (by rfl) (by rfl) (fun K' hK' => ?_)
        (try obtain ⟨q1, q2, q3, q4, q5, q6⟩ := KC.out wp2 AP2)
        skip
        go_simp
        (try (simp only [Evo.after_value, Evo.after_skip]))
        refine hK'.out _ _ ?_
        clear hK'
        simp only [Act.put, L0, L1, L2]
        (try clear xx)
        rw [setCell_same (BK.out.chg AP2 id) Q.out.2]
        (try clear q1 q2 q3 q4 q5 q6)
        refine ⟨.inr (by (repeat refine Chg.setCell ?_ (fun _ => by first | rfl | (simp; done) | (simp; omega)) _ _); exact Chg.refl _ _), ?_⟩
        refine Evo2.done (by decide +kernel) (fun wz gz => ?_)
        have AZ := Chg.trans (Chg.trans AP2 (by (repeat refine Chg.setCell ?_ (fun _ => by first | rfl | (simp; done) | (simp; omega)) _ _); exact Chg.refl _ _)) (Chg.grow gz)
        all_goals
          dsimp only [PostN]
          (repeat apply Exists.intro)
          exact ⟨rfl, Lib.hid AZ⟩
      rintro A W5 ⟨x27, x28, x29, x30, x31, x32, x33, x34, x35, x36, x37, x38, x39, x40, x41, x42, rfl, C5⟩
      go_wp2_with fail
      go_roundw
      case rel => exact ⟨k + 1, by omega, by go_num, Lib.hid (G.out.trans (chg_noneG C5.out))⟩
      case measure => simp [intOf]; omega
    · obtain rfl : k = ts.length := by omega
      replace HM2 := Lib.hid (HM2.out.grow G.out)
      go_wp2_with (first | (refine Mem.loadAll 0 (t := 45) rfl rfl rfl Tryz.underlying45 (n := 4) (by kernel_rfl) HM2.out rfl rfl ?_) | (refine Mem.storeAll 1 (t := 45) rfl rfl rfl rfl (n := 4) (by kernel_rfl) HM2.out rfl rfl rfl rfl ?_; intro W6 HMm CW6))
      simp only [K0, K1, L1, L2, K2, K3, K4, K5, K6, K7, Nat.reduceAdd, Nat.reduceSub] at HMm
      replace HM2 := Lib.hid HMm
      clear HMm
      refine Stay.go ?_
      have BF := HM2.out.blk (i := 1) rfl
      go_wp2_with fail
      refine bodyPost_ret (v := .agg #[.string nm, .string cf, .slice (some ⟨b, 0, none⟩) ts.length c', .int .i64 rl]) (by simp [results, Tryz.results30, go_sem, BF.cell]) rfl ?_
      exact ⟨b, c', rfl, CW6.own (own_later O4.out G.out) (fun k hk e => by cases hk; exact hbne1 e), HM2.out.below⟩
end Go.Proofs.YtlnffdkaleapbaaGreat
