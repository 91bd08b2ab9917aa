/- My own texts ScP, laid in one file. -/
import Derived.Test.YtifkombocmdmfaaZ1

/- How many: plain facts. -/
namespace Go.Proofs.Ytifkombocmdmfaa
set_option maxRecDepth 100000
set_option linter.unusedVariables false
set_option linter.unusedSimpArgs false
open Go.RowKit

namespace Sc
def need (s n c : Int) : Int := if n = 0 then 0 else (s + n * c - 1) / (n * c)
def lft (lf b m : Int) : Int := if 2 * m ≤ b then 6 else max 0 (lf - 1)
def w0 (a b wt l : Int) : Int := if 0 < l then max a (max b wt) else a
def w1 (x bs wt id gr : Int) : Int := if x = 0 ∧ (0 < bs ∨ 0 < wt ∧ id < gr) then 1 else x
def clamp (x m rd mn mx : Int) : Int := min (max (max (min x (4 * m)) (rd / 2)) mn) mx
/-- What a scaler is given. -/
structure G where
  wt : Int
  lf : Int
  rd : Int
  bs : Int
  st : Int
  sts : Int
  sh : Int
  shs : Int
  id : Int
/-- What of a configuration counts. -/
structure C where
  co : Int
  mn : Int
  mx : Int
  gr : Int
structure C.ok (c : C) : Prop where
  co : 1 ≤ c.co ∧ c.co ≤ 8
  mx : 1 ≤ c.mx ∧ c.mx ≤ 10
  mn : 0 ≤ c.mn ∧ c.mn ≤ c.mx
  gr : 0 ≤ c.gr ∧ c.gr ≤ 30
structure G.ok (g : G) : Prop where
  wt : 0 ≤ g.wt ∧ g.wt ≤ 10
  lf : 0 ≤ g.lf ∧ g.lf ≤ 6
  rd : 0 ≤ g.rd ∧ g.rd ≤ 30
  bs : 0 ≤ g.bs ∧ g.bs ≤ 10000000
  st : 0 ≤ g.st ∧ g.st ≤ 10000000
  sts : 0 ≤ g.sts ∧ g.sts ≤ 10000000
  sh : 0 ≤ g.sh ∧ g.sh ≤ 10000000
  shs : 0 ≤ g.shs ∧ g.shs ≤ 10000000
  id : 0 ≤ g.id ∧ g.id ≤ 10000000
def a (g : G) (c : C) : Int := need g.st g.sts c.co
def b (g : G) (c : C) : Int := need g.sh g.shs c.co
def m (g : G) : Int := max 1 g.rd
def left (g : G) (c : C) : Int := lft g.lf (b g c) (m g)
def want (g : G) (c : C) : Int := clamp (w1 (w0 (a g c) (b g c) g.wt (left g c)) g.bs g.wt g.id c.gr) (m g) g.rd c.mn c.mx
theorem k0 : 0 ≤ (0 : Int) ∧ (0 : Int) ≤ 10000000 := by decide
theorem k1 : 0 ≤ (1 : Int) ∧ (1 : Int) ≤ 10000000 := by decide
theorem k2 : 0 ≤ (2 : Int) ∧ (2 : Int) ≤ 10000000 := by decide
theorem k6 : 0 ≤ (6 : Int) ∧ (6 : Int) ≤ 10000000 := by decide
theorem k1000 : 0 ≤ (1000 : Int) ∧ (1000 : Int) ≤ 10000000 := by decide
theorem l0 : 0 ≤ (0 : Int) ∧ (0 : Int) ≤ 6 := by decide
theorem mul_bd {n c : Int} (hn : 0 ≤ n ∧ n ≤ 10000000) (hc : 1 ≤ c ∧ c ≤ 8) : n ≤ n * c ∧ n * c ≤ 80000000 := by
  have h1 : n * 1 ≤ n * c := Int.mul_le_mul_of_nonneg_left hc.1 hn.1
  have h2 : n * c ≤ n * 8 := Int.mul_le_mul_of_nonneg_left hc.2 hn.1
  omega
theorem need_bd {s n c : Int} (hs : 0 ≤ s ∧ s ≤ 10000000) (hn : 0 ≤ n ∧ n ≤ 10000000) (hc : 1 ≤ c ∧ c ≤ 8) : 0 ≤ need s n c ∧ need s n c ≤ 90000000 := by
  unfold need
  split
  · omega
  · have hm := mul_bd hn hc
    refine ⟨Int.ediv_nonneg (by omega) (by omega), ?_⟩
    have := Int.ediv_le_self (n * c) (a := s + n * c - 1) (by omega)
    omega
theorem need_mono {s t n c : Int} (hst : s ≤ t) (hn : 0 ≤ n ∧ n ≤ 10000000) (hc : 1 ≤ c ∧ c ≤ 8) : need s n c ≤ need t n c := by
  unfold need
  split
  · omega
  · have hm := mul_bd hn hc
    exact Int.ediv_le_ediv (by omega) (by omega)
theorem need_zero {n c : Int} (hn : 0 ≤ n ∧ n ≤ 10000000) (hc : 1 ≤ c ∧ c ≤ 8) : need 0 n c = 0 := by
  unfold need
  split
  · rfl
  · have hm := mul_bd hn hc
    exact Int.ediv_eq_zero_of_lt (by omega) (by omega)
theorem need_none (s c : Int) : need s 0 c = 0 := by unfold need; rw [if_pos rfl]
theorem lft_bd {lf b m : Int} (hl : 0 ≤ lf ∧ lf ≤ 6) : 0 ≤ lft lf b m ∧ lft lf b m ≤ 6 := by unfold lft; split <;> omega
theorem want_bd {g : G} {c : C} (hg : g.ok) (hc : c.ok) : c.mn ≤ want g c ∧ want g c ≤ c.mx ∧ 0 ≤ want g c ∧ want g c ≤ 10 := by
  have := hc.mx; have := hc.mn
  unfold want clamp
  omega
theorem left_bd {g : G} {c : C} (hg : g.ok) : 0 ≤ left g c ∧ left g c ≤ 6 := lft_bd hg.lf
theorem a_bd {g : G} {c : C} (hg : g.ok) (hc : c.ok) : 0 ≤ a g c ∧ a g c ≤ 90000000 := need_bd hg.st hg.sts hc.co
theorem b_bd {g : G} {c : C} (hg : g.ok) (hc : c.ok) : 0 ≤ b g c ∧ b g c ≤ 90000000 := need_bd hg.sh hg.shs hc.co
theorem m_bd {g : G} (hg : g.ok) : 1 ≤ m g ∧ m g ≤ 30 ∧ g.rd ≤ m g := by have := hg.rd; unfold m; omega
/-- ScaleBounds. -/
theorem bounds {g : G} {c : C} (hg : g.ok) (hc : c.ok) : (want g c ≤ 4 * m g ∨ want g c = c.mn) ∧ (g.rd / 2 ≤ want g c ∨ want g c = c.mx) := by
  have := hc.mx; have := hc.mn; have := m_bd hg; have := hg.rd
  unfold want clamp
  omega
theorem w1_ge {x bs wt id gr : Int} (hx : 0 ≤ x) : x ≤ w1 x bs wt id gr ∧ (w1 x bs wt id gr = 0 → ¬ (0 < bs) ∧ (0 < wt → gr ≤ id)) := by
  unfold w1
  split
  · omega
  · rename_i h
    refine ⟨by omega, fun e => ?_⟩
    subst e
    constructor
    · intro hb; exact h ⟨rfl, .inl hb⟩
    · intro hw
      rcases Int.lt_or_le id gr with h' | h'
      · exact absurd ⟨rfl, .inr ⟨hw, h'⟩⟩ h
      · exact h'
theorem w0_ge {a b wt l : Int} (ha : 0 ≤ a) : a ≤ w0 a b wt l ∧ 0 ≤ w0 a b wt l ∧ (0 < l → wt ≤ w0 a b wt l) := by
  unfold w0
  split <;> omega
/-- ScaleZero. -/
theorem zero {g : G} {c : C} (hg : g.ok) (hc : c.ok) (h : want g c = 0) : c.mn = 0 ∧ g.bs = 0 ∧ g.rd ≤ 1 ∧ (g.wt = 0 ∨ c.gr ≤ g.id) := by
  have h1 := w0_ge (b := b g c) (wt := g.wt) (l := left g c) (a_bd hg hc).1
  have h2 := w1_ge (bs := g.bs) (wt := g.wt) (id := g.id) (gr := c.gr) h1.2.1
  have h3 := hc.mx; have h4 := hc.mn; have h5 := m_bd hg; have h6 := hg.rd; have h7 := hg.bs; have h8 := hg.wt
  unfold want clamp at h
  generalize w1 (w0 (a g c) (b g c) g.wt (left g c)) g.bs g.wt g.id c.gr = x at *
  have hx : x = 0 := by omega
  have h9 := h2.2 hx
  omega
/-- ScalePanic: the first turn. -/
theorem panic {g : G} {c : C} (hg : g.ok) (hc : c.ok) : (2 * m g ≤ b g c ↔ left g c = 6) ∧ (0 < left g c → min g.wt (min c.mx (max (4 * m g) c.mn)) ≤ want g c) := by
  constructor
  · have := hg.lf
    unfold left lft
    split <;> omega
  · intro hl
    have h1 := w0_ge (b := b g c) (wt := g.wt) (l := left g c) (a_bd hg hc).1
    have h2 := w1_ge (bs := g.bs) (wt := g.wt) (id := g.id) (gr := c.gr) h1.2.1
    have h3 := hc.mx; have h4 := hc.mn; have h5 := m_bd hg; have h6 := hg.rd; have h7 := hg.bs; have h8 := hg.wt
    unfold want clamp
    generalize w1 (w0 (a g c) (b g c) g.wt (left g c)) g.bs g.wt g.id c.gr = x at *
    have := h1.2.2 hl
    omega
/-- A turn with nothing. -/
def quiet (g : G) (wt lf : Int) : G := ⟨wt, lf, g.rd, 0, 0, 1, 0, 1, 0⟩
theorem quiet_ok {g : G} (hg : g.ok) {wt lf : Int} (hw : 0 ≤ wt ∧ wt ≤ 10) (hl : 0 ≤ lf ∧ lf ≤ 6) : (quiet g wt lf).ok := ⟨hw, hl, hg.rd, k0, k0, k1, k0, k1, k0⟩
theorem quiet_left {g : G} {c : C} (hg : g.ok) (hc : c.ok) (wt lf : Int) : left (quiet g wt lf) c = max 0 (lf - 1) := by
  have h0 : b (quiet g wt lf) c = 0 := need_zero k1 hc.co
  have h1 : m (quiet g wt lf) = m g := rfl
  have := m_bd hg
  unfold left lft
  rw [h0, h1, if_neg (by omega)]
  rfl
/-- ScaleMore. -/
theorem more {g h : G} {c : C} (hg : g.ok) (hh : h.ok) (hc : c.ok) (e1 : h.wt = g.wt) (e2 : h.lf = g.lf) (e3 : h.rd = g.rd) (e4 : h.sts = g.sts) (e5 : h.shs = g.shs) (e6 : h.id = g.id)
    (h1 : g.st ≤ h.st) (h2 : g.sh ≤ h.sh) (h3 : g.bs ≤ h.bs) : want g c ≤ want h c ∧ left g c ≤ left h c := by
  have ha : a g c ≤ a h c := by unfold a; rw [e4]; exact need_mono h1 hg.sts hc.co
  have hb : b g c ≤ b h c := by unfold b; rw [e5]; exact need_mono h2 hg.shs hc.co
  have hm : m h = m g := by unfold m; rw [e3]
  have a0 := (a_bd hg hc).1
  have hl : left g c ≤ left h c := by
    have := hg.lf
    unfold left lft
    rw [hm, e2]
    split <;> split <;> omega
  refine ⟨?_, hl⟩
  have h4 : w0 (a g c) (b g c) g.wt (left g c) ≤ w0 (a h c) (b h c) h.wt (left h c) := by
    rw [e1]
    unfold w0
    split <;> split <;> omega
  have h5 := (w0_ge (b := b g c) (wt := g.wt) (l := left g c) a0).2.1
  have h6 : w1 (w0 (a g c) (b g c) g.wt (left g c)) g.bs g.wt g.id c.gr ≤ w1 (w0 (a h c) (b h c) h.wt (left h c)) h.bs h.wt h.id c.gr := by
    rw [e1, e6]
    rw [e1] at h4
    generalize w0 (a g c) (b g c) g.wt (left g c) = x at *
    generalize w0 (a h c) (b h c) g.wt (left h c) = y at *
    unfold w1
    split
    · split
      · omega
      · rename_i q1 q2
        have : y ≠ 0 := fun hy => q2 ⟨hy, q1.2.imp (fun q => by omega) id⟩
        omega
    · split <;> omega
  unfold want clamp
  rw [hm, e3]
  omega
/-- ScaleNone. -/
theorem none {g : G} {c : C} (hg : g.ok) (hc : c.ok) (h1 : g.sts = 0) (h2 : g.shs = 0) (h3 : g.lf = 0) :
    left g c = 0 ∧ want g c = min c.mx (max (max (if 0 < g.bs ∨ 0 < g.wt ∧ g.id < c.gr then 1 else 0) (g.rd / 2)) c.mn) := by
  have ha : a g c = 0 := by unfold a; rw [h1]; exact need_none _ _
  have hb : b g c = 0 := by unfold b; rw [h2]; exact need_none _ _
  have hm := m_bd hg
  have hl : left g c = 0 := by unfold left lft; rw [hb, h3, if_neg (by omega)]; rfl
  refine ⟨hl, ?_⟩
  unfold want
  rw [ha, hl, hb]
  have e0 : w0 0 0 g.wt 0 = 0 := rfl
  rw [e0]
  unfold w1 clamp
  by_cases hq : 0 < g.bs ∨ 0 < g.wt ∧ g.id < c.gr
  · rw [if_pos ⟨rfl, hq⟩, if_pos hq]; omega
  · rw [if_neg (fun q => hq q.2), if_neg hq]; omega
/-- ScaleAbove. -/
theorem need_big {v n c : Int} (hv : 100000 ≤ v) (hn : 1 ≤ n ∧ n ≤ 6) (hc : 1 ≤ c ∧ c ≤ 8) : 2000 ≤ need v n c := by
  unfold need
  rw [if_neg (by omega)]
  have hm : 1 ≤ n * c ∧ n * c ≤ 48 := by
    have h1 : n * 1 ≤ n * c := Int.mul_le_mul_of_nonneg_left hc.1 (by omega)
    have h2 : n * c ≤ n * 8 := Int.mul_le_mul_of_nonneg_left hc.2 (by omega)
    omega
  generalize n * c = k at *
  refine (Int.le_ediv_iff_mul_le (by omega)).2 ?_
  omega
theorem above {g : G} {c : C} (hg : g.ok) (hc : c.ok) (h1 : g.sts = 6) (h2 : g.shs = 2) (h3 : 100000 ≤ g.st) (h4 : 100000 ≤ g.sh) :
    left g c = 6 ∧ want g c = min c.mx (max (4 * m g) c.mn) := by
  have ha : 2000 ≤ a g c := by unfold a; rw [h1]; exact need_big h3 ⟨by decide, by decide⟩ hc.co
  have hb : 2000 ≤ b g c := by unfold b; rw [h2]; exact need_big h4 ⟨by decide, by decide⟩ hc.co
  have hm := m_bd hg
  have hl : left g c = 6 := by unfold left lft; rw [if_pos (by omega)]
  refine ⟨hl, ?_⟩
  have q1 := w0_ge (b := b g c) (wt := g.wt) (l := left g c) (a_bd hg hc).1
  have q2 := w1_ge (bs := g.bs) (wt := g.wt) (id := g.id) (gr := c.gr) q1.2.1
  have := hg.rd
  unfold want clamp
  generalize w1 (w0 (a g c) (b g c) g.wt (left g c)) g.bs g.wt g.id c.gr = x at *
  omega
/-- ScaleDown: a turn of nothing, behind a long while. -/
def still (wt rd : Int) : G := ⟨wt, 0, rd, 0, 0, 6, 0, 2, 1000⟩
theorem still_ok {wt rd : Int} (hw : 0 ≤ wt ∧ wt ≤ 10) (hr : 0 ≤ rd ∧ rd ≤ 10) : (still wt rd).ok := ⟨hw, l0, ⟨hr.1, by show rd ≤ 30; omega⟩, k0, k0, k6, k0, k2, k1000⟩
theorem down {wt rd : Int} {c : C} (hw : 0 ≤ wt ∧ wt ≤ 10) (hr : 0 ≤ rd ∧ rd ≤ 10) (hc : c.ok) : left (still wt rd) c = 0 ∧ want (still wt rd) c = min c.mx (max c.mn (rd / 2)) := by
  have hg := still_ok hw hr
  have ha : a (still wt rd) c = 0 := need_zero k6 hc.co
  have hb : b (still wt rd) c = 0 := need_zero k2 hc.co
  have hm := m_bd hg
  have hl : left (still wt rd) c = 0 := by unfold left lft; rw [hb, if_neg (by omega)]; rfl
  refine ⟨hl, ?_⟩
  have hgr := hc.gr
  unfold want
  rw [ha, hl, hb]
  have e0 : w0 0 0 (still wt rd).wt 0 = 0 := rfl
  have e1 : w1 0 (still wt rd).bs (still wt rd).wt (still wt rd).id c.gr = 0 := by
    unfold w1
    rw [if_neg]
    rintro ⟨_, q | ⟨_, q⟩⟩
    · have q : (0 : Int) < 0 := q
      omega
    · have q : 1000 < c.gr := q
      omega
  rw [e0, e1]
  show min (max (max (min 0 (4 * m (still wt rd))) (rd / 2)) c.mn) c.mx = _
  omega
/-- ScaleAgain: a turn with as many as are there. -/
def same (v wt lf rd : Int) : G := ⟨wt, lf, rd, v, 6 * v, 6, 2 * v, 2, 0⟩
theorem same_ok {v wt lf rd : Int} (hv : 1 ≤ v ∧ v ≤ 80) (hw : 0 ≤ wt ∧ wt ≤ 10) (hl : 0 ≤ lf ∧ lf ≤ 6) (hr : 0 ≤ rd ∧ rd ≤ 10) : (same v wt lf rd).ok :=
  ⟨hw, hl, ⟨hr.1, by show rd ≤ 30; omega⟩, ⟨by show 0 ≤ v; omega, by show v ≤ _; omega⟩, ⟨by show 0 ≤ 6 * v; omega, by show 6 * v ≤ _; omega⟩, k6, ⟨by show 0 ≤ 2 * v; omega, by show 2 * v ≤ _; omega⟩, k2, k0⟩
theorem ceil_eq {v n c : Int} (hn : 0 < n) (hc : 0 < c) : need (n * v) n c = (v + c - 1) / c := by
  unfold need
  rw [if_neg (by omega)]
  have e : n * v + n * c - 1 = (n * (v + c) - 1) := by rw [Int.mul_add]
  rw [e]
  have hnc : 0 < n * c := Int.mul_pos hn hc
  refine Int.le_antisymm ?_ ?_
  · refine (Int.le_ediv_iff_mul_le hc).2 ?_
    have h1 := Int.ediv_mul_le (n * (v + c) - 1) (b := n * c) (by omega)
    generalize (n * (v + c) - 1) / (n * c) = q at *
    have h2 : n * (q * c) < n * (v + c) := by
      rw [show n * (q * c) = q * (n * c) by rw [Int.mul_left_comm]]
      omega
    have := Int.lt_of_mul_lt_mul_left h2 (by omega)
    omega
  · refine (Int.le_ediv_iff_mul_le hnc).2 ?_
    have h1 := Int.ediv_mul_le (v + c - 1) (b := c) (by omega)
    generalize (v + c - 1) / c = q at *
    have h2 : q * c + 1 ≤ v + c := by omega
    have h3 : n * (q * c + 1) ≤ n * (v + c) := Int.mul_le_mul_of_nonneg_left h2 (by omega)
    rw [Int.mul_add, Int.mul_one] at h3
    rw [show q * (n * c) = n * (q * c) by rw [Int.mul_left_comm]]
    omega
def goal (A : Int) (c : C) : Int := max c.mn (min c.mx A)
theorem same_turn {v wt lf rd : Int} {c : C} (hv : 1 ≤ v ∧ v ≤ 80) (hw : 0 ≤ wt ∧ wt ≤ 10) (hl : 0 ≤ lf ∧ lf ≤ 6) (hr : 0 ≤ rd ∧ rd ≤ 10) (hc : c.ok) :
    ∃ A L W, A = need (6 * v) 6 c.co ∧ 1 ≤ A ∧ left (same v wt lf rd) c = L ∧ (2 * max 1 rd ≤ A ∧ L = 6 ∨ A < 2 * max 1 rd ∧ L = max 0 (lf - 1)) ∧ (0 < L ∧ W = max A wt ∨ L ≤ 0 ∧ W = A) ∧
      want (same v wt lf rd) c = min c.mx (max c.mn (max (rd / 2) (min W (4 * max 1 rd)))) := by
  have hco := hc.co
  have ha : a (same v wt lf rd) c = (v + c.co - 1) / c.co := ceil_eq (by decide) (by omega)
  have hb : b (same v wt lf rd) c = (v + c.co - 1) / c.co := ceil_eq (by decide) (by omega)
  have hA : need (6 * v) 6 c.co = (v + c.co - 1) / c.co := ceil_eq (by decide) (by omega)
  have h1 : 1 ≤ (v + c.co - 1) / c.co := (Int.le_ediv_iff_mul_le (by omega)).2 (by omega)
  refine ⟨_, left (same v wt lf rd) c, w0 (a (same v wt lf rd) c) (b (same v wt lf rd) c) wt (left (same v wt lf rd) c), rfl, by rw [hA]; exact h1, rfl, ?_, ?_, ?_⟩
  · rw [hA]
    unfold left lft
    rw [hb]
    show (2 * max 1 rd ≤ _ ∧ (if 2 * max 1 rd ≤ _ then 6 else max 0 (lf - 1)) = 6) ∨ (_ ∧ (if 2 * max 1 rd ≤ _ then 6 else max 0 (lf - 1)) = _)
    split <;> omega
  · rw [hA, ha, hb]
    unfold w0
    split <;> omega
  · unfold want
    have hl := (lft_bd (b := b (same v wt lf rd) c) (m := m (same v wt lf rd)) hl).1
    have hx := (w0_ge (b := b (same v wt lf rd) c) (wt := wt) (l := left (same v wt lf rd) c) (a := a (same v wt lf rd) c) (by rw [ha]; omega)).1
    rw [ha] at hx ⊢
    show clamp (w1 (w0 _ _ wt _) v wt 0 c.gr) (max 1 rd) rd c.mn c.mx = _
    generalize w0 ((v + c.co - 1) / c.co) (b (same v wt lf rd) c) wt (left (same v wt lf rd) c) = x at *
    have e1 : w1 x v wt 0 c.gr = x := by unfold w1; rw [if_neg (by omega)]
    rw [e1]
    unfold clamp
    omega
/-- Where it is behind k turns. -/
def bnd (k : Nat) : Int := if k ≤ 8 then 10 else if k = 9 then 5 else if k = 10 then 2 else 1
structure At (A : Int) (c : C) (k : Nat) (wt lf rd : Int) : Prop where
  w : 0 ≤ wt ∧ wt ≤ 10
  l : 0 ≤ lf ∧ lf ≤ 6
  r : 0 ≤ rd ∧ rd ≤ 10
  one : 1 ≤ k → rd = wt ∧ c.mn ≤ wt ∧ wt ≤ c.mx ∧ min c.mx (min A 4) ≤ wt
  two : 2 ≤ k → goal A c ≤ wt
  hi : 3 ≤ k → 2 * c.mx ≤ A → lf = 6
  lo : 2 ≤ k → A < 2 * c.mx → lf ≤ max 0 (6 - ((k : Int) - 2)) ∧ (8 ≤ k → wt ≤ max (goal A c) (bnd k))
theorem clamp_of {mn mx d u X : Int} (h : mn ≤ mx) (e : X = min mx (max mn (max d u))) : mn ≤ X ∧ X ≤ mx ∧ min mx d ≤ X ∧ min mx u ≤ X ∧ X ≤ max mn (max d u) := by omega
theorem one_of {A W t u mx X : Int} (hW : A ≤ W) (ht : 1 ≤ t) (hu : u = min W (4 * t)) (hX : min mx u ≤ X) : min mx (min A 4) ≤ X := by omega
theorem two_of {A W t u mn mx X wt : Int} (hW : A ≤ W) (ht : 1 ≤ t) (hw : wt ≤ t) (hu : u = min W (4 * t)) (hX : min mx u ≤ X) (hm : mn ≤ X) (h10 : mx ≤ 10) (q : min mx (min A 4) ≤ wt) : max mn (min mx A) ≤ X := by omega
theorem keep_of {A mn mx wt t : Int} (hA : 1 ≤ A) (hw : wt ≤ t) (h : A < 2 * mx) (q : max mn (min mx A) ≤ wt) : A < 2 * t := by omega
theorem fall_of {A mn mx d X g : Int} (hg : g = max mn (min mx A)) (h1 : X ≤ max mn (max d A)) (h2 : X ≤ mx) : X ≤ max g d := by omega
theorem half_of {wt d g b b' : Int} (hd : d = wt / 2) (h : wt ≤ max g b) (hg : 1 ≤ g) (hb : b / 2 ≤ max 1 b') : d ≤ max g b' := by omega
theorem bnd_half (k : Nat) (h : 8 ≤ k) : bnd k / 2 ≤ max 1 (bnd (k + 1)) := by
  rcases Nat.lt_or_ge k 11 with hh | hh
  · rcases (show k = 8 ∨ k = 9 ∨ k = 10 by omega) with rfl | rfl | rfl <;> decide
  · unfold bnd
    rw [if_neg (by omega), if_neg (by omega), if_neg (by omega)]
    omega
theorem At.next {v wt lf rd : Int} {c : C} {k : Nat} (hv : 1 ≤ v ∧ v ≤ 80) (hc : c.ok) (h : At (need (6 * v) 6 c.co) c k wt lf rd) :
    At (need (6 * v) 6 c.co) c (k + 1) (want (same v wt lf rd) c) (left (same v wt lf rd) c) (want (same v wt lf rd) c) := by
  obtain ⟨A, L, W, eA, hA, el, hL, hW, ew⟩ := same_turn hv h.w h.l h.r hc
  have hw2 := want_bd (same_ok hv h.w h.l h.r) hc
  have hl2 := left_bd (c := c) (same_ok hv h.w h.l h.r)
  generalize want (same v wt lf rd) c = X at *
  rw [el] at hl2 ⊢
  rw [← eA] at h ⊢
  clear el eA
  have hmx := hc.mx; have hmn := hc.mn
  obtain ⟨h1, h2, h3, h4, h5, h6, h7⟩ := h
  have eg : goal A c = max c.mn (min c.mx A) := rfl
  have hg : 1 ≤ goal A c := by omega
  obtain ⟨t, ht⟩ : ∃ t, t = max 1 rd := ⟨_, rfl⟩
  obtain ⟨d, hd⟩ : ∃ d, d = rd / 2 := ⟨_, rfl⟩
  rw [← ht] at hL ew
  rw [← hd] at ew
  obtain ⟨u, hu⟩ : ∃ u, u = min W (4 * t) := ⟨_, rfl⟩
  rw [← hu] at ew
  have ht1 : 1 ≤ t := by clear hu hd hW hL ew h4 h5 h6 h7 eg hw2 hl2; omega
  have hrt : rd ≤ t := by clear hu hd hW hL ew h4 h5 h6 h7 eg hw2 hl2; omega
  have hWA : A ≤ W := by clear hu hd ht hL ew h4 h5 h6 h7 eg hw2 hl2; omega
  have HW : L ≤ 0 → W = A := by intro _; clear hu hd ht hL ew h4 h5 h6 h7 eg hw2 hl2; omega
  have HL1 : A < 2 * t → L = max 0 (lf - 1) := by intro _; clear hu hd ht hW ew h4 h5 h6 h7 eg hw2 hl2; omega
  have HL2 : 2 * t ≤ A → L = 6 := by intro _; clear hu hd ht hW ew h4 h5 h6 h7 eg hw2 hl2; omega
  have HT2 : rd ≤ c.mx → t ≤ c.mx := by intro _; clear hu hd hW hL ew h4 h5 h6 h7 eg hw2 hl2; omega
  obtain ⟨f1, f2, f3, f4, f5⟩ := clamp_of hmn.2 ew
  clear hW hL ew ht f3
  have ONE := one_of hWA ht1 hu f4
  have TWO := fun (wt : Int) hw q => two_of (wt := wt) hWA ht1 hw hu f4 f1 hmx.2 q
  have HD : ∀ wt b b', rd = wt → wt ≤ max (goal A c) b → b / 2 ≤ max 1 b' → d ≤ max (goal A c) b' := fun wt b b' e q q' => half_of (by rw [hd, e]) q hg q'
  have HU : W = A → X ≤ max c.mn (max d A) := fun e => by
    rw [e] at hu
    clear h4 h5 h6 h7 eg hw2 hl2 hd
    omega
  clear hu hd
  refine ⟨hw2.2.2, hl2, hw2.2.2, fun _ => ⟨rfl, f1, f2, ONE⟩, fun hk => ?_, fun hk hA2 => ?_, fun hk hA2 => ?_⟩
  · have q := h4 (by omega)
    rw [eg]
    exact TWO _ (by rw [← q.1]; exact hrt) q.2.2.2
  · have q := h4 (by omega)
    have := HT2 (by rw [q.1]; exact q.2.2.1)
    exact HL2 (by omega)
  · by_cases hk2 : 2 ≤ k
    · have q := h4 (by omega)
      have q5 := h5 hk2
      rw [eg] at q5
      have q7 := (h7 hk2 hA2).1
      have eL := HL1 (keep_of hA (by rw [← q.1]; exact hrt) hA2 q5)
      have HF := fun (hW0 : W = A) => fall_of eg (X := X) (d := d) (HU hW0) f2
      clear f5 f4 h1 h2 h3 q5
      refine ⟨by clear h4 h5 h6 h7 eg; omega, fun hk8 => ?_⟩
      by_cases h8 : 8 ≤ k
      · have q8 := (h7 hk2 hA2).2 h8
        have hL0 : L ≤ 0 := by clear h4 h5 h6 h7 eg q8; omega
        have hx := HF (HW hL0)
        have hh := HD _ _ _ q.1 q8 (bnd_half k h8)
        clear h4 h5 h6 h7 eg q8 q7 eL
        omega
      · unfold bnd
        rw [if_pos (by omega)]
        clear h4 h5 h6 h7 eg q7 eL
        omega
    · have : k = 1 := by omega
      subst this
      exact ⟨by clear h4 h5 h6 h7 eg; omega, fun h => by omega⟩
theorem stay_of {A W t u mn mx d X wt : Int} (hu : u = min W (4 * t)) (ht : 1 ≤ t) (hw : wt = t) (hd : d = wt / 2) (hmn : mn ≤ wt) (hmx : wt ≤ mx) (h0 : 0 ≤ wt) (q : max mn (min mx A) ≤ wt) (hA : 1 ≤ A)
    (hW : W = max A wt ∨ W = A ∧ wt = max mn (min mx A)) (e : X = min mx (max mn (max d u))) : X = wt := by omega
/-- ScaleAgain: behind thirty turns. -/
theorem At.done {v wt lf rd : Int} {c : C} (hv : 1 ≤ v ∧ v ≤ 80) (hc : c.ok) (h : At (need (6 * v) 6 c.co) c 30 wt lf rd) :
    rd = wt ∧ goal (need (6 * v) 6 c.co) c ≤ wt ∧ wt ≤ c.mx ∧ want (same v wt lf rd) c = wt ∧ (0 < lf ∨ wt = max (goal (need (6 * v) 6 c.co) c) (min c.mx (wt / 2))) := by
  obtain ⟨A, L, W, eA, hA, el, hL, hW, ew⟩ := same_turn hv h.w h.l h.r hc
  generalize want (same v wt lf rd) c = X at *
  rw [← eA] at h ⊢
  clear el eA
  have hmx := hc.mx; have hmn := hc.mn
  obtain ⟨h1, h2, h3, h4, h5, h6, h7⟩ := h
  have q4 := h4 (by omega)
  have q5 := h5 (by omega)
  have q6 := h6 (by omega)
  have q7 := h7 (by omega)
  have e : bnd 30 = 1 := rfl
  have eg : goal A c = max c.mn (min c.mx A) := rfl
  have hg : 1 ≤ goal A c := by omega
  rw [e] at q7
  clear h4 h5 h6 h7 e
  obtain ⟨rfl, q41, q42, q43⟩ := q4
  have hr : 1 ≤ rd := by omega
  have ht : max 1 rd = rd := by omega
  rw [ht] at hL ew
  have q5' := q5
  rw [eg] at q5'
  rcases Int.lt_or_le A (2 * c.mx) with hh | hh
  · have q8 := (q7 hh).1
    have q9 := (q7 hh).2 (by omega)
    have er : rd = goal A c := by omega
    have hlf : lf = 0 := by omega
    have hn := keep_of hA (Int.le_refl rd) hh q5'
    have eW : W = A := by omega
    refine ⟨rfl, q5, q42, stay_of rfl hr rfl rfl q41 q42 h1.1 q5' hA (.inr ⟨eW, by rw [← eg]; exact er⟩) ew, .inr ?_⟩
    have : rd / 2 ≤ rd := by omega
    omega
  · have q8 := q6 hh
    have hn : 2 * rd ≤ A := by omega
    have eL : 0 < L := by omega
    have eW : W = max A rd := by omega
    exact ⟨rfl, q5, q42, stay_of rfl hr rfl rfl q41 q42 h1.1 q5' hA (.inl eW) ew, .inl (by omega)⟩
end Sc
end Go.Proofs.Ytifkombocmdmfaa
