/- My own texts LrM, LrC, LrT, laid in one file. -/
import Derived.Test.YtjhfjjkfnmnkgaaZ98B
import Derived.Test.YtjhfjjkfnmnkgaaZ63
import Derived.Test.YtjhfjjkfnmnkgaaZ29
import Derived.Test.YtjhfjjkfnmnkgaaZ83
import Derived.Test.YtjhfjjkfnmnkgaaZ2
import Derived.Test.YtjhfjjkfnmnkgaaZ48
import Derived.Test.YtjhfjjkfnmnkgaaZ1
import Derived.Test.YtjhfjjkfnmnkgaaZ98A
import Derived.Test.YtjhfjjkfnmnkgaaZ45

/- The second form's roller in memory. -/
namespace Go.Proofs.Ytjhfjjkfnmnkgaa
set_option maxRecDepth 100000
set_option linter.unusedVariables false
set_option linter.unusedSimpArgs false
set_option linter.unnecessarySimpa false
open Go.RowKit

abbrev wayT13 : TypeId := 66
abbrev rolT13 : TypeId := 29
abbrev wptT13 : TypeId := 67
abbrev shareT13 : TypeId := 53
abbrev tagT13 : TypeId := 55
/-- A way with where it lies: its block, its rows. -/
structure WM where
  x : Wa
  p : Nat
  f : Value
  t : Value
  s : Value
  g : Value
def WM.cells (m : WM) : List Value := [.string m.x.nm, m.f, m.t, .int .i64 m.x.si, .int .i64 m.x.wh, m.s, m.g]
/-- A row of shares, of tags, that no one writes to. -/
def ShR (w : World) (v : Value) (l : List Shr) : Prop := w.ownsRow 0 shareT13 2 v l.length (l.flatMap Shr.cells)
def TgR (w : World) (v : Value) (l : List Tgo) : Prop := w.ownsRow 0 tagT13 2 v l.length (l.flatMap Tgo.cells)
structure WmIn (w : World) (m : WM) : Prop where
  hb : Blk w m.p m.cells.toArray wayT13
  f : ShR w m.f m.x.fr
  t : ShR w m.t m.x.to
  s : ShR w m.s m.x.sh
  g : TgR w m.g m.x.tg
def WrK (m : WM) (k : Nat) : Prop := m.f.ownBlock = some k ∨ m.t.ownBlock = some k ∨ m.s.ownBlock = some k ∨ m.g.ownBlock = some k
/-- A way's rows: they may be one. -/
def WrF (m : WM) : Hp := fun w F => (ShR w m.f m.x.fr ∧ ShR w m.t m.x.to ∧ ShR w m.s m.x.sh ∧ TgR w m.g m.x.tg) ∧ ∀ k, F k ↔ WrK m k
theorem WrF.foot (m : WM) : Foot (WrF m) where
  lt := fun ⟨⟨h1, h2, h3, h4⟩, e⟩ k hk => by
    rcases (e k).1 hk with q | q | q | q
    · exact (h1.lt k q).2
    · exact (h2.lt k q).2
    · exact (h3.lt k q).2
    · exact (h4.lt k q).2
  frame := fun ⟨⟨h1, h2, h3, h4⟩, e⟩ c hs => ⟨⟨c.own h1 fun k q => hs k ((e k).2 (.inl q)), c.own h2 fun k q => hs k ((e k).2 (.inr (.inl q))), c.own h3 fun k q => hs k ((e k).2 (.inr (.inr (.inl q)))), c.own h4 fun k q => hs k ((e k).2 (.inr (.inr (.inr q))))⟩, e⟩
def WmF (m : WM) : Hp := Sep (BlkF m.p m.cells wayT13) (WrF m)
theorem WmF.foot (m : WM) : Foot (WmF m) := (BlkF.foot _ _ _).sep (WrF.foot m)
def wptrs (lm : List WM) : List Value := lm.map fun m => pz m.p
def RolS (g : Nat) (v : Value) (lm : List WM) : Hp := Sep (BlkF g [v] rolT13) (Sep (RowF 0 wptT13 1 v lm.length (wptrs lm)) (SepL WmF lm))
theorem RolS.foot (g : Nat) (v : Value) (lm : List WM) : Foot (RolS g v lm) := (BlkF.foot _ _ _).sep ((RowF.foot _ _ _ _ _ _).sep (SepL.foot WmF.foot lm))
/-- The second form's roller that has these ways. -/
def RolP (g : Nat) (l : List Wa) : Hp := fun w F => ∃ (v : Value) (lm : List WM), lm.map WM.x = l ∧ WaOk l ∧ RolS g v lm w F
theorem RolP.foot (g : Nat) (l : List Wa) : Foot (RolP g l) where
  lt := fun ⟨v, lm, _, _, h⟩ => (RolS.foot g v lm).lt h
  frame := fun ⟨v, lm, h1, h2, h⟩ c hs => ⟨v, lm, h1, h2, (RolS.foot g v lm).frame h c hs⟩
section
variable {w w' : World} {F : Nat → Prop} {g : Nat} {v : Value} {lm : List WM}
theorem RolS.hb (h : RolS g v lm w F) : Blk w g ([v] : List Value).toArray rolT13 := by
  obtain ⟨F1, F2, a, _⟩ := h
  exact a.1
theorem RolS.row (h : RolS g v lm w F) : w.ownsRow 0 wptT13 1 v lm.length (wptrs lm) := by
  obtain ⟨F1, F2, _, ⟨F3, F4, a, _⟩, _⟩ := h
  exact a.1
theorem RolS.ob (h : RolS g v lm w F) {i : Nat} {m : WM} (hi : lm[i]? = some m) : WmIn w m := by
  obtain ⟨F1, F2, _, ⟨F3, F4, _, ⟨Fs, hl, ha, _⟩, _⟩, _⟩ := h
  have hil := (List.getElem?_eq_some_iff.1 hi).1
  obtain ⟨F5, F6, q1, ⟨⟨r1, r2, r3, r4⟩, _⟩, _⟩ := ha i m (Fs[i]'(by omega)) hi (List.getElem?_eq_getElem _)
  exact ⟨q1.1, r1, r2, r3, r4⟩
theorem RolS.at (h : RolS g v lm w F) {i : Nat} {m : WM} (hi : lm[i]? = some m) : ∃ q c, v = .slice (some ⟨q, 0, none⟩) lm.length c ∧ w.cell? ⟨q, i, none⟩ = some (pz m.p) ∧ q < w.heap.size := by
  have ho := h.row
  have hil := (List.getElem?_eq_some_iff.1 hi).1
  rcases ho.2 with ⟨_, h0⟩ | ⟨q, cap, cur, rfl, _, hq, _⟩
  · omega
  · exact ⟨q, cap, rfl, own_cell ho (by unfold wptrs; rw [List.getElem?_map, hi]; rfl), Chg.lt_of hq⟩
theorem RolS.sl (h : RolS g v lm w F) : ∃ a c, v = .slice a lm.length c := own_shape h.row
theorem RolS.grow (h : RolS g v lm w F) (k : Grow.G w w') : RolS g v lm w' F := (RolS.foot g v lm).grow h k
end
def ptrW (o : Option WM) : Value := match o with
  | none => .pointer none
  | some m => pz m.p
def findM13 (lm : List WM) (s : ByteArray) : Option WM := lm.find? fun m => decide (m.x.nm = s)
theorem findM13_map (lm : List WM) (s : ByteArray) : (findM13 lm s).map WM.x = findW (lm.map WM.x) s := by unfold findM13 findW; rw [List.find?_map]; rfl
theorem find_first13 {α : Type} {l : List α} {p : α → Bool} {k : Nat} {m : α} (hm : l[k]? = some m) (hp : p m = true) (hn : ∀ x, x ∈ l.take k → p x = false) : l.find? p = some m := by
  have hk := (List.getElem?_eq_some_iff.1 hm).1
  have e : l = l.take k ++ m :: l.drop (k + 1) := by
    obtain ⟨h1, h2⟩ := List.getElem?_eq_some_iff.1 hm
    rw [← h2, ← List.drop_eq_getElem_cons h1, List.take_append_drop]
  rw [e, List.find?_append, List.find?_eq_none.2 (fun x hx => by rw [hn x hx]; decide)]
  simp [hp]
theorem snoc13 {α : Type} {l : List α} {k : Nat} {m : α} (hm : l[k]? = some m) {q : α → Prop} (h1 : ∀ x, x ∈ l.take k → q x) (h2 : q m) : ∀ x, x ∈ l.take (k + 1) → q x := fun x hx => by
  rw [List.take_add_one, hm] at hx
  rcases List.mem_append.1 hx with hx | hx
  · exact h1 x hx
  · have : x = m := by simpa using hx
    rw [this]; exact h2
set_option maxHeartbeats 4000000 in
theorem rolfind_any (g : Nat) (v : Value) (lm : List WM) (s : ByteArray) (w : World) (F : Nat → Prop) (h : RolS g v lm w F) (hl : lm.length ≤ 1000) :
    Calls Try.prog 33 #[pz g, .string s] w fun e w' => e = .returned (ptrW (findM13 lm s)) ∧ w = w' := by
  obtain ⟨a, c, rfl⟩ := h.sl
  have c0 : w.cell? ⟨g, 0, none⟩ = some (.slice a lm.length c) := (h.hb.cell 0).trans rfl
  have hgl := h.hb.lt
  have HS := Lib.hid h
  clear h
  go_enter Try.func33, Try.ntmps33
  go_wp2_with fail
  go_loopw [5] (fun i wr => ∃ k : Nat, k ≤ lm.length ∧ i = .int .i64 k ∧ wr = w ∧ Hid (∀ m, m ∈ lm.take k → decide (m.x.nm = s) = false)) (fun i _ => lm.length - (_root_.Go.RowKit.intOf i).toNat)
  case atStart => exact ⟨0, by omega, rfl, rfl, Lib.hid (fun p hp => by simp at hp)⟩
  case round =>
    obtain ⟨k, hk, rfl, rfl, HX⟩ := hrel
    by_cases hlt : k < lm.length
    · obtain ⟨m, hm⟩ : ∃ m, lm[k]? = some m := ⟨_, List.getElem?_eq_getElem hlt⟩
      obtain ⟨q, c', e, cr, hql⟩ := HS.out.at hm
      cases e
      have hB := (HS.out.ob hm).hb
      have ck : wr.cell? ⟨m.p, 0, none⟩ = some (.string m.x.nm) := (hB.cell 0).trans rfl
      have hbl := hB.lt
      have d0 : decide ((k : Int) < (lm.length : Int)) = true := decide_eq_true (by omega)
      have hk1 : IntKind.i64.wrap ((k : Int) + 1) = (k : Int) + 1 := IntWalk.i64_in _ ⟨by omega, by omega⟩
      have k1 : (0 : Int) ≤ (k : Int) := by omega
      have k2 : (k : Int) < (lm.length : Int) := by omega
      by_cases e : m.x.nm = s
      · have d1 : (m.x.nm.toList == s.toList) = true := eqS_iff.2 e
        have RES : Hid (ptrW (findM13 lm s) = pz m.p) := Lib.hid (by unfold findM13; rw [find_first13 hm (decide_eq_true e) HX.out]; rfl)
        clear hm hB HX e
        go_wp2_with fail
        go_ret
        rw [RES.out]
        exact ⟨rfl, rfl⟩
      · have d1 : (m.x.nm.toList == s.toList) = false := neS_iff.2 e
        have HX2 := Lib.hid (snoc13 hm HX.out (decide_eq_false e))
        clear hm hB HX e
        go_wp2_with fail
        go_roundw
        case rel => exact ⟨k + 1, by omega, by go_num, trivial, HX2⟩
        case measure => simp [_root_.Go.RowKit.intOf]; omega
    · obtain rfl : k = lm.length := by omega
      have d0 : decide ((lm.length : Int) < (lm.length : Int)) = false := decide_eq_false (by omega)
      have RES : Hid (ptrW (findM13 lm s) = .pointer none) := Lib.hid (by unfold findM13; rw [List.find?_eq_none.2 fun x hx => by rw [HX.out x (by rw [List.take_length]; exact hx)]; decide]; rfl)
      clear HX
      go_wp2_with fail
      go_ret
      rw [RES.out]
      exact ⟨rfl, rfl⟩
end Go.Proofs.Ytjhfjjkfnmnkgaa

/- damperref5.Copy: a table by itself. -/
namespace Go.Proofs.Ytjhfjjkfnmnkgaa
set_option maxRecDepth 100000
set_option linter.unusedVariables false
set_option linter.unusedSimpArgs false
set_option linter.unnecessarySimpa false
open Go.RowKit Go.Args

theorem cells2 {l : List Shr} : (l.flatMap Shr.cells).length = l.length * 2 := by
  induction l with
  | nil => rfl
  | cons x l ih => rw [List.flatMap_cons, List.length_append, ih, List.length_cons]; show 2 + _ = _; omega
theorem cells2t {l : List Tgo} : (l.flatMap Tgo.cells).length = l.length * 2 := by
  induction l with
  | nil => rfl
  | cons x l ih => rw [List.flatMap_cons, List.length_append, ih, List.length_cons]; show 2 + _ = _; omega
theorem ones2 {l : List Shr} : ∀ u, u ∈ l.flatMap Shr.cells → u.oneCell' = true := fun u hu => by
  obtain ⟨s, _, hs⟩ := List.mem_flatMap.1 hu
  unfold Shr.cells at hs
  simp only [List.mem_cons, List.mem_nil_iff, or_false] at hs
  rcases hs with rfl | rfl <;> rfl
theorem ones2t {l : List Tgo} : ∀ u, u ∈ l.flatMap Tgo.cells → u.oneCell' = true := fun u hu => by
  obtain ⟨s, _, hs⟩ := List.mem_flatMap.1 hu
  unfold Tgo.cells at hs
  simp only [List.mem_cons, List.mem_nil_iff, or_false] at hs
  rcases hs with rfl | rfl <;> rfl
abbrev tablT13 : TypeId := 40
/-- A table copied. -/
def CopyT (w W : World) (l : List Shr) (m : List Tgo) (va vb : Value) : Prop :=
  W.ownsRow w.heap.size shareT13 2 va l.length (l.flatMap Shr.cells) ∧ W.ownsRow w.heap.size tagT13 2 vb m.length (m.flatMap Tgo.cells) ∧ (∀ k, va.ownBlock = some k → ¬ vb.ownBlock = some k) ∧ Grow.G w W
theorem copy_done {w W : World} {base : Nat} {l : List Shr} {m : List Tgo} {va vb : Value} (h : TwoT shareT13 2 tagT13 2 W base va l.length (l.flatMap Shr.cells) vb m.length (m.flatMap Tgo.cells)) (hb : w.heap.size ≤ base) (g : Grow.G w W) : CopyT w W l m va vb :=
  ⟨own_base h.l hb, own_base h.r hb, h.ne, g⟩
set_option maxHeartbeats 16000000 in
theorem rcopy_any (a : Option Addr) (l : List Shr) (c : Nat) (b : Option Addr) (m : List Tgo) (d : Nat) (w : World) (ha : Fr.Src w a (l.flatMap Shr.cells)) (hb : Fr.Src w b (m.flatMap Tgo.cells)) (hl : l.length ≤ 1000) (hm : m.length ≤ 1000) :
    Calls Try.prog 18 #[.agg #[.slice a l.length c, .slice b m.length d]] w fun e w' => ∃ va vb, e = .returned (.agg #[va, vb]) ∧ CopyT w w' l m va vb := by
  have SA := Lib.hid ha
  have SB := Lib.hid hb
  obtain ⟨i0, hi, hz0, hz1, hz2⟩ := info_parts infoShr
  obtain ⟨j0, hj, hy0, hy1, hy2⟩ := info_parts infoTgo
  have HI := Lib.hid (And.intro hi (And.intro hz0 (And.intro hz1 hz2)))
  have HJ := Lib.hid (And.intro hj (And.intro hy0 (And.intro hy1 hy2)))
  clear ha hb hi hz0 hz1 hz2 hj hy0 hy1 hy2
  obtain ⟨W, hW⟩ : ∃ W, W = (w.alloc (.cells #[.slice a l.length c, .slice b m.length d] tablT13)).alloc (.cells #[.slice none 0 0, .slice none 0 0] tablT13) := ⟨_, rfl⟩
  have HM : Hid (Mem w W [(w.heap.size, [.slice a l.length c, .slice b m.length d], tablT13), (w.heap.size + 1, [.slice none 0 0, .slice none 0 0], tablT13)]) := Lib.hid (by rw [hW]; exact Mem.alloc' (Mem.alloc' (Mem.nil w) _ _ rfl) _ _ (g := w.heap.size + 1) (by simp))
  have hws : W.heap.size = w.heap.size + 2 := by rw [hW]; simp
  have KC := Lib.hid (fun (w' : World) (h : Chg (fun j => w.heap.size + 1 ≤ j) W w') => (⟨h.cell (HM.out.cell (i := 0) (o := 0) rfl rfl) (by omega), h.cell (HM.out.cell (i := 0) (o := 1) rfl rfl) (by omega), trivial⟩ : w'.cell? ⟨w.heap.size, 0, none⟩ = some (.slice a l.length c) ∧ w'.cell? ⟨w.heap.size, 1, none⟩ = some (.slice b m.length d) ∧ True))
  go_enter Try.func18, Try.ntmps18
  go_wp2_with fail
  rw [← hW]
  clear hW
  have BT := Lib.hid (HM.out.blk (i := 1) rfl)
  have TW := Lib.hid (TwoT.none (T1 := shareT13) (s1 := 2) (T2 := tagT13) (s2 := 2) W)
  refine wp_spec (fun a0 A W => ∃ x3 x4 x5 x6 x7 x8 x9 x10 x11 : Value, ∃ (va vb : Value), A = (((((((((a0.put (some 3) x3).put (some 4) x4).put (some 5) x5).put (some 6) x6).put (some 7) x7).put (some 8) x8).put (some 9) x9).put (some 10) x10).put (some 11) x11) ∧ Hid (Blk W (w.heap.size + 1) [va, vb].toArray tablT13 ∧ CopyT w W l m va vb)) ?_ ?_
  all_goals simp only [Act.put, L0, L1, L2]
  ·
    refine Evo2.start' (ℓ := some 9) (S := Chg (fun j => w.heap.size + 1 ≤ j)) (E := Grow.G) (by kernel_rfl) ⟨Chg.pre _, by decide +kernel, (by intro c a d v w h; cases d <;> exact h), by decide +kernel⟩ (fun ok => ?_)
    refine Evo2.va ok 1 _ _ ?_
    first | (refine Evo2.vl ok 2 KC.out (Chg.refl (fun j => w.heap.size + 1 ≤ j) _) _ _ ?_) | (refine Evo2.va ok 2 _ _ ?_)
    refine Evo2.va ok 5 _ _ ?_
    first | (refine Evo2.vl ok 6 KC.out (Chg.refl (fun j => w.heap.size + 1 ≤ j) _) _ _ ?_) | (refine Evo2.va ok 6 _ _ ?_)
    refine Evo2.all [0, 4] (by decide +kernel) rfl ?_
    intro wp1 gp1 iq hq
    simp only [List.mem_cons, List.mem_nil_iff, or_false] at hq
    have AP1 := Chg.trans (Chg.refl (fun j => w.heap.size + 1 ≤ j) _) (Chg.grow gp1)
    have TW := Lib.hid (TW.out.grow gp1)
    have BT := Lib.hid (BT.out.grow gp1)
    rcases hq with rfl | rfl
    ·
      refine Evo2.runs (by rfl) (by rfl) (fun K' hK' => ?_)
      (try obtain ⟨q1, q2⟩ := KC.out wp1 AP1)
      go_simp
      (try (simp only [Evo.after_value, Evo.after_skip]))
      refine hK'.out _ _ ?_
      clear hK'
      simp only [Act.put, L0, L1, L2]
      (try clear q1 q2)
      refine ⟨.inr (Chg.alloc (Chg.refl _ _) _), ?_⟩
      generalize hG1 : World.alloc wp1 _ = wg1
      have GG1 : Grow.G wp1 wg1 := hG1 ▸ Grow.G.alloc (Grow.G.refl _) _
      have NC1 := (congrArg (fun W : World => W.heap[wp1.heap.size]?) hG1).symm.trans (MapKept.heap_alloc wp1 _).1
      have NL1 : wp1.heap.size < wg1.heap.size := by rw [← hG1]; simp
      clear hG1
      have TW := Lib.hid (TW.out.newL GG1 NC1); have BT := Lib.hid (BT.out.grow GG1)
      refine Evo2.all [3, 4] (by decide +kernel) rfl ?_
      intro wp2 gp2 iq hq
      simp only [List.mem_cons, List.mem_nil_iff, or_false] at hq
      have AP2 := Chg.trans (Chg.trans AP1 (Chg.grow GG1)) (Chg.grow gp2)
      have TW := Lib.hid (TW.out.grow gp2)
      have BT := Lib.hid (BT.out.grow gp2)
      have NC1 := (gp2.block _ NL1).trans NC1
      have NL1 := Nat.lt_of_lt_of_le NL1 gp2.size
      rcases hq with rfl | rfl
      ·
        refine Fr.own_src (by rfl) (by rfl) (Operand.tmp 3) (Operand.tmp 5) 37 (by rfl) W.heap.size shareT13 i0 (.agg #[.string ⟨#[]⟩, .int .i64 0]) 2 24 Try.underlying37 HI.out.1 HI.out.2.1 HI.out.2.2.1 HI.out.2.2.2 rfl (by decide) _ _ _ (by rfl) TW.out.l _ _ _ (l.flatMap Shr.cells) (by rfl) cells2 (SA.out.grow (HM.out.below.trans (AP2.below (B := w.heap.size) (by omega) (fun k hk (q : w.heap.size + 1 ≤ k) => by omega)))) ones2 ?_ ?_ TW.out.b ?_ 
        · (unfold maxLen; omega) 
        · omega
        intro vw2 wc2 OW2 fr2
        have OX2 : wc2.ownsRow W.heap.size shareT13 2 vw2 l.length (l.flatMap Shr.cells) := by {have h := OW2; rwa [Nat.zero_add, List.nil_append] at h}; obtain ⟨sa2, ca2, rfl⟩ := own_shape OX2; have BT := Lib.hid (BT.out.chg (TW.out.chgL fr2) (by omega)); have CH2 := (TW.out.chgL fr2).mono (fun j _ (h : W.heap.size ≤ j) => (by omega : w.heap.size + 1 ≤ j)); have TW := Lib.hid (TW.out.left fr2 OX2)
        refine ⟨.inr CH2, ?_⟩
        have AC2 := Chg.trans AP2 CH2
        simp only [Act.put, L0, L1, L2]
        refine Evo2.all [4] (by decide +kernel) rfl ?_
        intro wp3 gp3 iq hq
        simp only [List.mem_cons, List.mem_nil_iff, or_false] at hq
        have AP3 := Chg.trans AC2 (Chg.grow gp3)
        have TW := Lib.hid (TW.out.grow gp3)
        have BT := Lib.hid (BT.out.grow gp3)
        subst hq
        refine Evo2.runs (by rfl) (by rfl) (fun K' hK' => ?_)
        (try obtain ⟨q1, q2⟩ := KC.out wp3 AP3)
        go_simp
        (try (simp only [Evo.after_value, Evo.after_skip]))
        refine hK'.out _ _ ?_
        clear hK'
        simp only [Act.put, L0, L1, L2]
        (try clear q1 q2)
        refine ⟨.inr (Chg.alloc (Chg.refl _ _) _), ?_⟩
        generalize hG3 : World.alloc wp3 _ = wg3
        have GG3 : Grow.G wp3 wg3 := hG3 ▸ Grow.G.alloc (Grow.G.refl _) _
        have NC3 := (congrArg (fun W : World => W.heap[wp3.heap.size]?) hG3).symm.trans (MapKept.heap_alloc wp3 _).1
        have NL3 : wp3.heap.size < wg3.heap.size := by rw [← hG3]; simp
        clear hG3
        have TW := Lib.hid (TW.out.newR GG3 NC3); have BT := Lib.hid (BT.out.grow GG3)
        refine Evo2.all [7] (by decide +kernel) rfl ?_
        intro wp4 gp4 iq hq
        simp only [List.mem_cons, List.mem_nil_iff, or_false] at hq
        have AP4 := Chg.trans (Chg.trans AP3 (Chg.grow GG3)) (Chg.grow gp4)
        have TW := Lib.hid (TW.out.grow gp4)
        have BT := Lib.hid (BT.out.grow gp4)
        have NC3 := (gp4.block _ NL3).trans NC3
        have NL3 := Nat.lt_of_lt_of_le NL3 gp4.size
        subst hq
        refine Fr.own_src (by rfl) (by rfl) (Operand.tmp 7) (Operand.tmp 9) 38 (by rfl) W.heap.size tagT13 j0 (.agg #[.string ⟨#[]⟩, .string ⟨#[]⟩]) 2 32 Try.underlying38 HJ.out.1 HJ.out.2.1 HJ.out.2.2.1 HJ.out.2.2.2 rfl (by decide) _ _ _ (by rfl) TW.out.r _ _ _ (m.flatMap Tgo.cells) (by rfl) cells2t (SB.out.grow (HM.out.below.trans (AP4.below (B := w.heap.size) (by omega) (fun k hk (q : w.heap.size + 1 ≤ k) => by omega)))) ones2t ?_ ?_ TW.out.b ?_ 
        · (unfold maxLen; omega) 
        · omega
        intro vw4 wc4 OW4 fr4
        have OX4 : wc4.ownsRow W.heap.size tagT13 2 vw4 m.length (m.flatMap Tgo.cells) := by {have h := OW4; rwa [Nat.zero_add, List.nil_append] at h}; obtain ⟨sa4, ca4, rfl⟩ := own_shape OX4; have BT := Lib.hid (BT.out.chg (TW.out.chgR fr4) (by omega)); have CH4 := (TW.out.chgR fr4).mono (fun j _ (h : W.heap.size ≤ j) => (by omega : w.heap.size + 1 ≤ j)); have TW := Lib.hid (TW.out.right fr4 OX4)
        refine ⟨.inr CH4, ?_⟩
        have AC4 := Chg.trans AP4 CH4
        simp only [Act.put, L0, L1, L2]
        refine Evo2.va ok 8 _ _ ?_
        refine Evo2.all [9] (by decide +kernel) rfl ?_
        intro wp5 gp5 iq hq
        simp only [List.mem_cons, List.mem_nil_iff, or_false] at hq
        have AP5 := Chg.trans AC4 (Chg.grow gp5)
        have TW := Lib.hid (TW.out.grow gp5)
        have BT := Lib.hid (BT.out.grow gp5)
        subst hq
        refine upStoreAll (by rfl) (by rfl) rfl rfl rfl (n := 2) (by kernel_rfl) (BT.out) rfl rfl rfl ?_
        intro wc5 BZ CW5
        have CH5 : Chg (fun j => w.heap.size + 1 ≤ j) _ _ := CW5.mono (fun j _ e => by have e : j = _ := e; show _ ≤ j; omega)
        have TW := Lib.hid (TW.out.past CW5 (by omega)); have BT := Lib.hid BZ
        refine ⟨.inl (by first | rfl | trivial), ?_⟩
        simp only [Act.put, L0, L1, L2]
        refine Evo2.done (by decide +kernel) (fun wz gz => ?_)
        have AZ := Chg.trans (Chg.trans AP5 CH5) (Chg.grow gz)
        have TW := Lib.hid (TW.out.grow gz)
        have BT := Lib.hid (BT.out.grow gz)
        dsimp only [PostN] 
        (repeat apply Exists.intro) 
        exact ⟨rfl, Lib.hid ⟨BT.out, copy_done TW.out (by omega) (HM.out.below.trans (AZ.below (B := w.heap.size) (by omega) (fun k hk (q : w.heap.size + 1 ≤ k) => by omega)))⟩⟩
      ·
        refine Evo2.runs (by rfl) (by rfl) (fun K' hK' => ?_)
        (try obtain ⟨q1, q2⟩ := KC.out wp2 AP2)
        go_simp
        (try (simp only [Evo.after_value, Evo.after_skip]))
        refine hK'.out _ _ ?_
        clear hK'
        simp only [Act.put, L0, L1, L2]
        (try clear q1 q2)
        refine ⟨.inr (Chg.alloc (Chg.refl _ _) _), ?_⟩
        generalize hG2 : World.alloc wp2 _ = wg2
        have GG2 : Grow.G wp2 wg2 := hG2 ▸ Grow.G.alloc (Grow.G.refl _) _
        have NC1 := (GG2.block _ NL1).trans NC1
        have NL1 := Nat.lt_of_lt_of_le NL1 GG2.size
        have NC2 := (congrArg (fun W : World => W.heap[wp2.heap.size]?) hG2).symm.trans (MapKept.heap_alloc wp2 _).1
        have NL2 : wp2.heap.size < wg2.heap.size := by rw [← hG2]; simp
        clear hG2
        have TW := Lib.hid (TW.out.newR GG2 NC2); have BT := Lib.hid (BT.out.grow GG2)
        refine Evo2.all [3] (by decide +kernel) rfl ?_
        intro wp3 gp3 iq hq
        simp only [List.mem_cons, List.mem_nil_iff, or_false] at hq
        have AP3 := Chg.trans (Chg.trans AP2 (Chg.grow GG2)) (Chg.grow gp3)
        have TW := Lib.hid (TW.out.grow gp3)
        have BT := Lib.hid (BT.out.grow gp3)
        have NC1 := (gp3.block _ NL1).trans NC1
        have NL1 := Nat.lt_of_lt_of_le NL1 gp3.size
        have NC2 := (gp3.block _ NL2).trans NC2
        have NL2 := Nat.lt_of_lt_of_le NL2 gp3.size
        subst hq
        refine Fr.own_src (by rfl) (by rfl) (Operand.tmp 3) (Operand.tmp 5) 37 (by rfl) W.heap.size shareT13 i0 (.agg #[.string ⟨#[]⟩, .int .i64 0]) 2 24 Try.underlying37 HI.out.1 HI.out.2.1 HI.out.2.2.1 HI.out.2.2.2 rfl (by decide) _ _ _ (by rfl) TW.out.l _ _ _ (l.flatMap Shr.cells) (by rfl) cells2 (SA.out.grow (HM.out.below.trans (AP3.below (B := w.heap.size) (by omega) (fun k hk (q : w.heap.size + 1 ≤ k) => by omega)))) ones2 ?_ ?_ TW.out.b ?_ 
        · (unfold maxLen; omega) 
        · omega
        intro vw3 wc3 OW3 fr3
        have OX3 : wc3.ownsRow W.heap.size shareT13 2 vw3 l.length (l.flatMap Shr.cells) := by {have h := OW3; rwa [Nat.zero_add, List.nil_append] at h}; obtain ⟨sa3, ca3, rfl⟩ := own_shape OX3; have BT := Lib.hid (BT.out.chg (TW.out.chgL fr3) (by omega)); have CH3 := (TW.out.chgL fr3).mono (fun j _ (h : W.heap.size ≤ j) => (by omega : w.heap.size + 1 ≤ j)); have TW := Lib.hid (TW.out.left fr3 OX3)
        refine ⟨.inr CH3, ?_⟩
        have AC3 := Chg.trans AP3 CH3
        simp only [Act.put, L0, L1, L2]
        refine Evo2.all [7] (by decide +kernel) rfl ?_
        intro wp4 gp4 iq hq
        simp only [List.mem_cons, List.mem_nil_iff, or_false] at hq
        have AP4 := Chg.trans AC3 (Chg.grow gp4)
        have TW := Lib.hid (TW.out.grow gp4)
        have BT := Lib.hid (BT.out.grow gp4)
        subst hq
        refine Fr.own_src (by rfl) (by rfl) (Operand.tmp 7) (Operand.tmp 9) 38 (by rfl) W.heap.size tagT13 j0 (.agg #[.string ⟨#[]⟩, .string ⟨#[]⟩]) 2 32 Try.underlying38 HJ.out.1 HJ.out.2.1 HJ.out.2.2.1 HJ.out.2.2.2 rfl (by decide) _ _ _ (by rfl) TW.out.r _ _ _ (m.flatMap Tgo.cells) (by rfl) cells2t (SB.out.grow (HM.out.below.trans (AP4.below (B := w.heap.size) (by omega) (fun k hk (q : w.heap.size + 1 ≤ k) => by omega)))) ones2t ?_ ?_ TW.out.b ?_ 
        · (unfold maxLen; omega) 
        · omega
        intro vw4 wc4 OW4 fr4
        have OX4 : wc4.ownsRow W.heap.size tagT13 2 vw4 m.length (m.flatMap Tgo.cells) := by {have h := OW4; rwa [Nat.zero_add, List.nil_append] at h}; obtain ⟨sa4, ca4, rfl⟩ := own_shape OX4; have BT := Lib.hid (BT.out.chg (TW.out.chgR fr4) (by omega)); have CH4 := (TW.out.chgR fr4).mono (fun j _ (h : W.heap.size ≤ j) => (by omega : w.heap.size + 1 ≤ j)); have TW := Lib.hid (TW.out.right fr4 OX4)
        refine ⟨.inr CH4, ?_⟩
        have AC4 := Chg.trans AP4 CH4
        simp only [Act.put, L0, L1, L2]
        refine Evo2.va ok 8 _ _ ?_
        refine Evo2.all [9] (by decide +kernel) rfl ?_
        intro wp5 gp5 iq hq
        simp only [List.mem_cons, List.mem_nil_iff, or_false] at hq
        have AP5 := Chg.trans AC4 (Chg.grow gp5)
        have TW := Lib.hid (TW.out.grow gp5)
        have BT := Lib.hid (BT.out.grow gp5)
        subst hq
        refine upStoreAll (by rfl) (by rfl) rfl rfl rfl (n := 2) (by kernel_rfl) (BT.out) rfl rfl rfl ?_
        intro wc5 BZ CW5
        have CH5 : Chg (fun j => w.heap.size + 1 ≤ j) _ _ := CW5.mono (fun j _ e => by have e : j = _ := e; show _ ≤ j; omega)
        have TW := Lib.hid (TW.out.past CW5 (by omega)); have BT := Lib.hid BZ
        refine ⟨.inl (by first | rfl | trivial), ?_⟩
        simp only [Act.put, L0, L1, L2]
        refine Evo2.done (by decide +kernel) (fun wz gz => ?_)
        have AZ := Chg.trans (Chg.trans AP5 CH5) (Chg.grow gz)
        have TW := Lib.hid (TW.out.grow gz)
        have BT := Lib.hid (BT.out.grow gz)
        dsimp only [PostN] 
        (repeat apply Exists.intro) 
        exact ⟨rfl, Lib.hid ⟨BT.out, copy_done TW.out (by omega) (HM.out.below.trans (AZ.below (B := w.heap.size) (by omega) (fun k hk (q : w.heap.size + 1 ≤ k) => by omega)))⟩⟩
    ·
      refine Evo2.runs (by rfl) (by rfl) (fun K' hK' => ?_)
      (try obtain ⟨q1, q2⟩ := KC.out wp1 AP1)
      go_simp
      (try (simp only [Evo.after_value, Evo.after_skip]))
      refine hK'.out _ _ ?_
      clear hK'
      simp only [Act.put, L0, L1, L2]
      (try clear q1 q2)
      refine ⟨.inr (Chg.alloc (Chg.refl _ _) _), ?_⟩
      generalize hG1 : World.alloc wp1 _ = wg1
      have GG1 : Grow.G wp1 wg1 := hG1 ▸ Grow.G.alloc (Grow.G.refl _) _
      have NC1 := (congrArg (fun W : World => W.heap[wp1.heap.size]?) hG1).symm.trans (MapKept.heap_alloc wp1 _).1
      have NL1 : wp1.heap.size < wg1.heap.size := by rw [← hG1]; simp
      clear hG1
      have TW := Lib.hid (TW.out.newR GG1 NC1); have BT := Lib.hid (BT.out.grow GG1)
      refine Evo2.all [0] (by decide +kernel) rfl ?_
      intro wp2 gp2 iq hq
      simp only [List.mem_cons, List.mem_nil_iff, or_false] at hq
      have AP2 := Chg.trans (Chg.trans AP1 (Chg.grow GG1)) (Chg.grow gp2)
      have TW := Lib.hid (TW.out.grow gp2)
      have BT := Lib.hid (BT.out.grow gp2)
      have NC1 := (gp2.block _ NL1).trans NC1
      have NL1 := Nat.lt_of_lt_of_le NL1 gp2.size
      subst hq
      refine Evo2.runs (by rfl) (by rfl) (fun K' hK' => ?_)
      (try obtain ⟨q1, q2⟩ := KC.out wp2 AP2)
      go_simp
      (try (simp only [Evo.after_value, Evo.after_skip]))
      refine hK'.out _ _ ?_
      clear hK'
      simp only [Act.put, L0, L1, L2]
      (try clear q1 q2)
      refine ⟨.inr (Chg.alloc (Chg.refl _ _) _), ?_⟩
      generalize hG2 : World.alloc wp2 _ = wg2
      have GG2 : Grow.G wp2 wg2 := hG2 ▸ Grow.G.alloc (Grow.G.refl _) _
      have NC1 := (GG2.block _ NL1).trans NC1
      have NL1 := Nat.lt_of_lt_of_le NL1 GG2.size
      have NC2 := (congrArg (fun W : World => W.heap[wp2.heap.size]?) hG2).symm.trans (MapKept.heap_alloc wp2 _).1
      have NL2 : wp2.heap.size < wg2.heap.size := by rw [← hG2]; simp
      clear hG2
      have TW := Lib.hid (TW.out.newL GG2 NC2); have BT := Lib.hid (BT.out.grow GG2)
      refine Evo2.all [3] (by decide +kernel) rfl ?_
      intro wp3 gp3 iq hq
      simp only [List.mem_cons, List.mem_nil_iff, or_false] at hq
      have AP3 := Chg.trans (Chg.trans AP2 (Chg.grow GG2)) (Chg.grow gp3)
      have TW := Lib.hid (TW.out.grow gp3)
      have BT := Lib.hid (BT.out.grow gp3)
      have NC1 := (gp3.block _ NL1).trans NC1
      have NL1 := Nat.lt_of_lt_of_le NL1 gp3.size
      have NC2 := (gp3.block _ NL2).trans NC2
      have NL2 := Nat.lt_of_lt_of_le NL2 gp3.size
      subst hq
      refine Fr.own_src (by rfl) (by rfl) (Operand.tmp 3) (Operand.tmp 5) 37 (by rfl) W.heap.size shareT13 i0 (.agg #[.string ⟨#[]⟩, .int .i64 0]) 2 24 Try.underlying37 HI.out.1 HI.out.2.1 HI.out.2.2.1 HI.out.2.2.2 rfl (by decide) _ _ _ (by rfl) TW.out.l _ _ _ (l.flatMap Shr.cells) (by rfl) cells2 (SA.out.grow (HM.out.below.trans (AP3.below (B := w.heap.size) (by omega) (fun k hk (q : w.heap.size + 1 ≤ k) => by omega)))) ones2 ?_ ?_ TW.out.b ?_ 
      · (unfold maxLen; omega) 
      · omega
      intro vw3 wc3 OW3 fr3
      have OX3 : wc3.ownsRow W.heap.size shareT13 2 vw3 l.length (l.flatMap Shr.cells) := by {have h := OW3; rwa [Nat.zero_add, List.nil_append] at h}; obtain ⟨sa3, ca3, rfl⟩ := own_shape OX3; have BT := Lib.hid (BT.out.chg (TW.out.chgL fr3) (by omega)); have CH3 := (TW.out.chgL fr3).mono (fun j _ (h : W.heap.size ≤ j) => (by omega : w.heap.size + 1 ≤ j)); have TW := Lib.hid (TW.out.left fr3 OX3)
      refine ⟨.inr CH3, ?_⟩
      have AC3 := Chg.trans AP3 CH3
      simp only [Act.put, L0, L1, L2]
      refine Evo2.all [7] (by decide +kernel) rfl ?_
      intro wp4 gp4 iq hq
      simp only [List.mem_cons, List.mem_nil_iff, or_false] at hq
      have AP4 := Chg.trans AC3 (Chg.grow gp4)
      have TW := Lib.hid (TW.out.grow gp4)
      have BT := Lib.hid (BT.out.grow gp4)
      subst hq
      refine Fr.own_src (by rfl) (by rfl) (Operand.tmp 7) (Operand.tmp 9) 38 (by rfl) W.heap.size tagT13 j0 (.agg #[.string ⟨#[]⟩, .string ⟨#[]⟩]) 2 32 Try.underlying38 HJ.out.1 HJ.out.2.1 HJ.out.2.2.1 HJ.out.2.2.2 rfl (by decide) _ _ _ (by rfl) TW.out.r _ _ _ (m.flatMap Tgo.cells) (by rfl) cells2t (SB.out.grow (HM.out.below.trans (AP4.below (B := w.heap.size) (by omega) (fun k hk (q : w.heap.size + 1 ≤ k) => by omega)))) ones2t ?_ ?_ TW.out.b ?_ 
      · (unfold maxLen; omega) 
      · omega
      intro vw4 wc4 OW4 fr4
      have OX4 : wc4.ownsRow W.heap.size tagT13 2 vw4 m.length (m.flatMap Tgo.cells) := by {have h := OW4; rwa [Nat.zero_add, List.nil_append] at h}; obtain ⟨sa4, ca4, rfl⟩ := own_shape OX4; have BT := Lib.hid (BT.out.chg (TW.out.chgR fr4) (by omega)); have CH4 := (TW.out.chgR fr4).mono (fun j _ (h : W.heap.size ≤ j) => (by omega : w.heap.size + 1 ≤ j)); have TW := Lib.hid (TW.out.right fr4 OX4)
      refine ⟨.inr CH4, ?_⟩
      have AC4 := Chg.trans AP4 CH4
      simp only [Act.put, L0, L1, L2]
      refine Evo2.va ok 8 _ _ ?_
      refine Evo2.all [9] (by decide +kernel) rfl ?_
      intro wp5 gp5 iq hq
      simp only [List.mem_cons, List.mem_nil_iff, or_false] at hq
      have AP5 := Chg.trans AC4 (Chg.grow gp5)
      have TW := Lib.hid (TW.out.grow gp5)
      have BT := Lib.hid (BT.out.grow gp5)
      subst hq
      refine upStoreAll (by rfl) (by rfl) rfl rfl rfl (n := 2) (by kernel_rfl) (BT.out) rfl rfl rfl ?_
      intro wc5 BZ CW5
      have CH5 : Chg (fun j => w.heap.size + 1 ≤ j) _ _ := CW5.mono (fun j _ e => by have e : j = _ := e; show _ ≤ j; omega)
      have TW := Lib.hid (TW.out.past CW5 (by omega)); have BT := Lib.hid BZ
      refine ⟨.inl (by first | rfl | trivial), ?_⟩
      simp only [Act.put, L0, L1, L2]
      refine Evo2.done (by decide +kernel) (fun wz gz => ?_)
      have AZ := Chg.trans (Chg.trans AP5 CH5) (Chg.grow gz)
      have TW := Lib.hid (TW.out.grow gz)
      have BT := Lib.hid (BT.out.grow gz)
      dsimp only [PostN] 
      (repeat apply Exists.intro) 
      exact ⟨rfl, Lib.hid ⟨BT.out, copy_done TW.out (by omega) (HM.out.below.trans (AZ.below (B := w.heap.size) (by omega) (fun k hk (q : w.heap.size + 1 ≤ k) => by omega)))⟩⟩
  ·
    rintro A W6 ⟨x3, x4, x5, x6, x7, x8, x9, x10, x11, va, vb, rfl, RT⟩
    have BF := RT.out.1
    go_wp2_with fail
    refine bodyPost_ret (v := .agg #[va, vb]) (by simp [results, Try.results18, go_sem, BF.cell]) rfl ?_
    exact ⟨va, vb, rfl, RT.out.2⟩
end Go.Proofs.Ytjhfjjkfnmnkgaa

/- The second form's roller: Table. -/
namespace Go.Proofs.Ytjhfjjkfnmnkgaa
set_option maxRecDepth 100000
set_option linter.unusedVariables false
set_option linter.unusedSimpArgs false
set_option linter.unnecessarySimpa false
open Go.RowKit Go.Args

section
variable {w w' w0 : World} {L : List MBox} {A B : Hp} {F : Nat → Prop} {g : Nat} {v : Value} {l : List Wa} {p q lm : List WM} {m : WM}
theorem hold_rolopen (h : Hold w0 w L (Sep (RolP g l) B)) : ∃ v lm, lm.map WM.x = l ∧ WaOk l ∧ Hold w0 w L (Sep (RolS g v lm) B) := by
  obtain ⟨F, ⟨F1, F2, ⟨v, lm, h1, h2, hs⟩, b, ap, e⟩, k1, k2⟩ := h.st
  exact ⟨v, lm, h1, h2, h.mem, F, ⟨F1, F2, hs, b, ap, e⟩, k1, k2⟩
theorem hold_rolclose (h : Hold w0 w L (Sep (RolS g v lm) B)) (h1 : lm.map WM.x = l) (h2 : WaOk l) : Hold w0 w L (Sep (RolP g l) B) :=
  h.map fun F h => h.over fun F h => ⟨v, lm, h1, h2, h⟩
theorem hold_rolS (h : Hold w0 w L (Sep (RolS g v lm) B)) : ∃ F, RolS g v lm w F := by
  obtain ⟨F, ⟨F1, F2, a, _⟩, _⟩ := h.st
  exact ⟨F1, a⟩
/-- The rest of a roller, one way taken out. -/
def RolR (g : Nat) (v : Value) (p : List WM) (m : WM) (q : List WM) : Hp := Sep (BlkF g [v] rolT13) (Sep (RowF 0 wptT13 1 v (p ++ m :: q).length (wptrs (p ++ m :: q))) (SepL WmF (p ++ q)))
theorem RolR.foot (g : Nat) (v : Value) (p : List WM) (m : WM) (q : List WM) : Foot (RolR g v p m q) := (BlkF.foot _ _ _).sep ((RowF.foot _ _ _ _ _ _).sep (SepL.foot WmF.foot _))
theorem RolS.out13 (h : RolS g v (p ++ m :: q) w F) : Sep (WmF m) (RolR g v p m q) w F := by
  have h1 : Sep (BlkF g [v] rolT13) (Sep (RowF 0 wptT13 1 v (p ++ m :: q).length (wptrs (p ++ m :: q))) (Sep (WmF m) (SepL WmF (p ++ q)))) w F :=
    Sep.under h fun F h => h.under fun F h => h.out
  exact (h1.under fun F h => h.rot).rot
theorem RolS.inn13 {m' : WM} (h : Sep (WmF m') (RolR g v p m q) w F) (hp : m'.p = m.p) : RolS g v (p ++ m' :: q) w F := by
  have e1 : wptrs (p ++ m' :: q) = wptrs (p ++ m :: q) := by unfold wptrs; rw [List.map_append, List.map_append, List.map_cons, List.map_cons, hp]
  have e2 : (p ++ m' :: q).length = (p ++ m :: q).length := by rw [List.length_append, List.length_append, List.length_cons, List.length_cons]
  unfold RolS
  rw [e1, e2]
  have h1 : Sep (BlkF g [v] rolT13) (Sep (RowF 0 wptT13 1 v (p ++ m :: q).length (wptrs (p ++ m :: q))) (Sep (WmF m') (SepL WmF (p ++ q)))) w F := (Sep.rot h).under fun F h => h.rot
  exact h1.under fun F h => h.under fun F h => SepL.inn (x := m') h
theorem findM13_split {s : ByteArray} (e : findM13 lm s = some m) : ∃ p q, lm = p ++ m :: q ∧ m.x.nm = s := by
  obtain ⟨i, hi⟩ := List.getElem?_of_mem (List.mem_of_find?_eq_some e)
  have hid := List.find?_some e
  obtain ⟨h1, h2⟩ := List.getElem?_eq_some_iff.1 hi
  exact ⟨lm.take i, lm.drop (i + 1), by rw [← h2, ← List.drop_eq_getElem_cons h1, List.take_append_drop], by simpa using hid⟩
theorem own_src13 {base n sz c : Nat} {T : TypeId} {a : Option Addr} {xs : List Value} (h : w.ownsRow base T sz (.slice a n c) n xs) (h0 : n = 0 → xs = []) : Fr.Src w a xs := by
  rcases h.2 with ⟨h1, h2⟩ | ⟨g, cap, cur, hv, hb, hg, hn, hm, hs, ht⟩
  · injection h1 with e1 e2 e3
    exact .inl ⟨e1, h0 h2⟩
  · injection hv with e1 e2 e3
    subst e1 e3
    refine .inr ⟨_, rfl, fun j u hj => ?_⟩
    have e : (⟨g, 0, none⟩ : Addr).add j = ⟨g, 0 + j, none⟩ := by unfold Addr.add; split <;> simp_all
    rw [e, Nat.zero_add]
    exact own_cell h hj
theorem ShR.src {a : Option Addr} {c : Nat} {l : List Shr} (h : ShR w (.slice a l.length c) l) : Fr.Src w a (l.flatMap Shr.cells) := own_src13 h fun e => by rw [List.eq_nil_of_length_eq_zero e]; rfl
theorem TgR.src {a : Option Addr} {c : Nat} {l : List Tgo} (h : TgR w (.slice a l.length c) l) : Fr.Src w a (l.flatMap Tgo.cells) := own_src13 h fun e => by rw [List.eq_nil_of_length_eq_zero e]; rfl
end
/-- How much there may be in a way. -/
def WSz (x : Wa) : Prop := x.fr.length ≤ 1000 ∧ x.to.length ≤ 1000 ∧ x.sh.length ≤ 1000 ∧ x.tg.length ≤ 1000
section
variable {w0 w : World} {L : List MBox} {B : Hp} {g : Nat} {l : List Wa} {x : Wa}
set_option maxHeartbeats 4000000 in
theorem hold_roltable_no (h : Hold w0 w L (Sep (RolP g l) B)) (hB : Foot B) (s : ByteArray) (hl : l.length ≤ 1000) (h1 : findW l s = none) :
    Calls Try.prog 21 #[pz g, .string s] w fun e w' => e = .returned (.tuple #[.agg #[.slice none 0 0, .slice none 0 0], .bool false]) ∧ Grow.G w w' ∧ Hold w0 w' L (Sep (RolP g l) B) := by
  obtain ⟨v, lm, e1, ok, HS⟩ := hold_rolopen h
  obtain ⟨F, hS⟩ := hold_rolS HS
  have FD := Lib.hid (fun w' (q : Grow.G w w') => rolfind_any g v lm s w' F (hS.grow q) (by rw [← e1, List.length_map] at hl; exact hl))
  have hmap := findM13_map lm s
  rw [e1, h1] at hmap
  have hn : findM13 lm s = none := by cases q : findM13 lm s with
    | none => rfl
    | some _ => rw [q] at hmap; cases hmap
  rw [hn] at FD
  dsimp only [ptrW] at FD
  have FZ := Lib.hid (fun w' (q : Grow.G w w') => h.grow ((RolP.foot g l).sep hB) q)
  clear hS HS h hmap hn h1 e1
  go_enter Try.func21, Try.ntmps21
  go_wp2_with fail
  refine (FD.out _ (Grow.G.alloc (Grow.G.refl _) _)).mono ?_
  rintro e w1 ⟨rfl, rfl⟩
  have HM : Hid (Mem w (w.alloc (.cells #[.slice none 0 0, .slice none 0 0] tablT13)) [(w.heap.size, [.slice none 0 0, .slice none 0 0], tablT13)]) := Lib.hid (Mem.alloc' (Mem.nil w) _ _ rfl)
  go_wp2_with ((refine Mem.storeAll 0 (t := 40) rfl rfl rfl rfl (n := 2) (by kernel_rfl) HM.out rfl rfl rfl rfl ?_; intro wm1 HMm Cwm1))
  simp only [K0, K1, L1, L2, K2, K3, K4, K5, K6, K7, Nat.reduceAdd, Nat.reduceSub] at HMm
  replace HM := Lib.hid HMm
  clear HMm
  refine Stay.go ?_
  have BF := HM.out.blk (i := 0) rfl
  go_wp2_with fail
  refine bodyPost_ret (v := .tuple #[.agg #[.slice none 0 0, .slice none 0 0], .bool false]) (by simp [results, Try.results21, go_sem, BF.cell]) rfl ?_
  exact ⟨rfl, HM.out.below, FZ.out _ HM.out.below⟩
set_option maxHeartbeats 4000000 in
theorem hold_roltable_yes (h : Hold w0 w L (Sep (RolP g l) B)) (hB : Foot B) (s : ByteArray) (hl : l.length ≤ 1000) (hz : ∀ x, x ∈ l → WSz x) (h1 : findW l s = some x) :
    Calls Try.prog 21 #[pz g, .string s] w fun e w' => ∃ va vb, e = .returned (.tuple #[.agg #[va, vb], .bool true]) ∧ CopyT w w' x.sh x.tg va vb ∧ Hold w0 w' L (Sep (RolP g l) B) := by
  obtain ⟨v, lm, e1, ok, HS⟩ := hold_rolopen h
  obtain ⟨F, hS⟩ := hold_rolS HS
  have FD := Lib.hid (fun w' (q : Grow.G w w') => rolfind_any g v lm s w' F (hS.grow q) (by rw [← e1, List.length_map] at hl; exact hl))
  have hmap := findM13_map lm s
  rw [e1, h1] at hmap
  obtain ⟨m, hm, rfl⟩ : ∃ m, findM13 lm s = some m ∧ m.x = x := by cases q : findM13 lm s with
    | none => rw [q] at hmap; cases hmap
    | some m => rw [q] at hmap; exact ⟨m, rfl, Option.some.inj hmap⟩
  rw [hm] at FD
  dsimp only [ptrW] at FD
  obtain ⟨i, hi⟩ := List.getElem?_of_mem (List.mem_of_find?_eq_some hm)
  have hin := hS.ob hi
  have hsz := hz m.x (by rw [← e1]; exact List.mem_map.2 ⟨m, List.mem_of_find?_eq_some hm, rfl⟩)
  obtain ⟨sa, sc, es⟩ := own_shape hin.s
  obtain ⟨ga, gc, eg⟩ := own_shape hin.g
  have hs := hin.s
  have hg := hin.g
  have hb := hin.hb
  rw [es] at hs
  rw [eg] at hg
  have CP := Lib.hid (fun w' (q : Grow.G w w') => rcopy_any sa m.x.sh sc ga m.x.tg gc w' ((ShR.src hs).grow q) ((TgR.src hg).grow q) hsz.2.2.1 hsz.2.2.2)
  have c5 : w.cell? ⟨m.p, 5, none⟩ = some (.slice sa m.x.sh.length sc) := (hb.cell 5).trans (by unfold WM.cells; rw [es]; rfl)
  have c6 : w.cell? ⟨m.p, 6, none⟩ = some (.slice ga m.x.tg.length gc) := (hb.cell 6).trans (by unfold WM.cells; rw [eg]; rfl)
  have hpl := hb.lt
  have FZ := Lib.hid (fun w' (q : Grow.G w w') => h.grow ((RolP.foot g l).sep hB) q)
  clear hS HS h hmap hm h1 e1 hi hin hs hg hb es eg hsz hz
  go_enter Try.func21, Try.ntmps21
  go_wp2_with fail
  refine (FD.out _ (Grow.G.alloc (Grow.G.refl _) _)).mono ?_
  rintro e w1 ⟨rfl, rfl⟩
  have HM : Hid (Mem w (w.alloc (.cells #[.slice none 0 0, .slice none 0 0] tablT13)) [(w.heap.size, [.slice none 0 0, .slice none 0 0], tablT13)]) := Lib.hid (Mem.alloc' (Mem.nil w) _ _ rfl)
  go_wp2_with fail
  refine (CP.out _ HM.out.below).mono ?_
  rintro e w2 ⟨va, vb, rfl, hc⟩
  obtain ⟨xa, xc, rfl⟩ := own_shape hc.1
  obtain ⟨ya, yc, rfl⟩ := own_shape hc.2.1
  have HM := Lib.hid (HM.out.grow hc.2.2.2)
  have HC := Lib.hid hc
  clear hc
  go_wp2_with ((refine Mem.storeAll 0 (t := 40) rfl rfl rfl rfl (n := 2) (by kernel_rfl) HM.out rfl rfl rfl rfl ?_; intro W3 HMm CW3))
  simp only [K0, K1, L1, L2, K2, K3, K4, K5, K6, K7, Nat.reduceAdd, Nat.reduceSub] at HMm
  replace HM := Lib.hid HMm
  clear HMm
  refine Stay.go ?_
  have BF := HM.out.blk (i := 0) rfl
  go_wp2_with fail
  refine bodyPost_ret (v := .tuple #[.agg #[.slice xa m.x.sh.length xc, .slice ya m.x.tg.length yc], .bool true]) (by simp [results, Try.results21, go_sem, BF.cell]) rfl ?_
  have c1 := HC.out.1
  have c2 := HC.out.2.1
  have hk : ∀ k (q : k = w.heap.size), k < w2.heap.size := fun k q => by have := HC.out.2.2.2.size; rw [World.size_alloc] at this; omega
  refine ⟨_, _, rfl, ⟨?_, ?_, HC.out.2.2.1, HM.out.below⟩, FZ.out _ HM.out.below⟩
  · exact own_base (CW3.own c1 (fun k hk q => by have := (c1.lt k hk).1; rw [World.size_alloc] at this; have q : k = w.heap.size := q; omega)) (by rw [World.size_alloc]; omega)
  · exact own_base (CW3.own c2 (fun k hk q => by have := (c2.lt k hk).1; rw [World.size_alloc] at this; have q : k = w.heap.size := q; omega)) (by rw [World.size_alloc]; omega)
end
end Go.Proofs.Ytjhfjjkfnmnkgaa
