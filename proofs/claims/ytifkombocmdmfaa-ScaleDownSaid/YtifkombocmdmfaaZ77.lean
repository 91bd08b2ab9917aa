/- My own texts ScN, ScW, laid in one file. -/
import Derived.Test.YtifkombocmdmfaaZ70

/- How many, the program's: Need, and what one decision goes by. -/
namespace Go.Proofs.Ytifkombocmdmfaa
set_option maxRecDepth 100000
set_option linter.unusedVariables false
set_option linter.unusedSimpArgs false
set_option linter.unnecessarySimpa false
open Go.RowKit

/-- Divided, rounded up. -/
def Sc.up (n d : Int) : Int := (n + d - 1) / d
theorem Sc.up_tmod {n d : Int} (hn : 0 ≤ n) (hd : 1 ≤ d) : (0 < n.tmod d → n.tdiv d + 1 = Sc.up n d) ∧ (¬ 0 < n.tmod d → n.tdiv d = Sc.up n d) := by
  have e1 : n.tmod d = n % d := Int.tmod_eq_emod_of_nonneg hn
  have e2 : n.tdiv d = n / d := Int.tdiv_eq_ediv_of_nonneg hn
  rw [e1, e2]
  have hm := Int.emod_nonneg n (show d ≠ 0 by omega)
  have hl := Int.emod_lt_of_pos n (show 0 < d by omega)
  have hE := Int.mul_ediv_add_emod n d
  generalize n / d = q at *
  generalize n % d = r at *
  have hq : d * (q + 1) = d * q + d := by rw [Int.mul_add, Int.mul_one]
  unfold Sc.up
  generalize hy : d * q = y at *
  constructor
  · intro h
    have : n + d - 1 = (r - 1) + d * (q + 1) := by omega
    rw [this, Int.add_mul_ediv_left _ _ (by omega), Int.ediv_eq_zero_of_lt (by omega) (by omega)]
    omega
  · intro h
    have : n + d - 1 = (d - 1) + d * q := by omega
    rw [this, Int.add_mul_ediv_left _ _ (by omega), Int.ediv_eq_zero_of_lt (by omega) (by omega)]
    omega
theorem Sc.up_bd {n d : Int} (hn : 0 ≤ n) (hd : 1 ≤ d) : 0 ≤ Sc.up n d ∧ Sc.up n d ≤ n := by
  unfold Sc.up
  refine ⟨Int.ediv_nonneg (by omega) (by omega), ?_⟩
  rcases Int.lt_or_le 0 n with h | h
  · have h1 : (n - 1) * 1 ≤ (n - 1) * d := Int.mul_le_mul_of_nonneg_left hd (by omega)
    have e1 : (n - 1) * d = n * d - d := by rw [Int.sub_mul, Int.one_mul]
    have e2 : (n + 1) * d = n * d + d := by rw [Int.add_mul, Int.one_mul]
    have h2 : n + d - 1 < (n + 1) * d := by omega
    have := Int.ediv_lt_of_lt_mul (show 0 < d by omega) h2
    omega
  · obtain rfl : n = 0 := by omega
    rw [Int.ediv_eq_zero_of_lt (by omega) (by omega)]
    exact Int.le_refl _
theorem Sc.up_up {s n c : Int} (hs : 0 ≤ s) (hn : 1 ≤ n) (hc : 1 ≤ c) : Sc.up (Sc.up s n) c = Sc.need s n c := by
  unfold Sc.up Sc.need
  rw [if_neg (by omega)]
  have e : s + n * c - 1 = (s + n - 1) + n * (c - 1) := by rw [Int.mul_sub, Int.mul_one]; omega
  rw [← Int.ediv_ediv_of_nonneg (show 0 ≤ n by omega), e, Int.add_mul_ediv_left _ _ (by omega)]
  congr 1
  omega
set_option maxHeartbeats 2000000 in
theorem up10_any (n d : Int) (w : World) (hn : 0 ≤ n ∧ n ≤ 10000000) (hd : 1 ≤ d ∧ d ≤ 10000000) :
    Calls Try.prog 23 #[.int .i64 n, .int .i64 d] w fun e w' => e = .returned (.int .i64 (Sc.up n d)) ∧ Grow.G w w' := by
  have hb := Sc.up_bd hn.1 hd.1
  have hd0 : ¬ d = 0 := by omega
  have HE := Lib.hid (Sc.up_tmod hn.1 hd.1)
  obtain ⟨r, hr⟩ : ∃ r, n.tmod d = r := ⟨_, rfl⟩
  obtain ⟨q, hq⟩ : ∃ q, n.tdiv d = q := ⟨_, rfl⟩
  rw [hr, hq] at HE
  generalize Sc.up n d = u at *
  by_cases h : 0 < r
  · have d0 : decide (0 < r) = true := decide_eq_true h
    have eq := HE.out.1 h
    have w1 : wrap64 q = q := IntWalk.wrap64_in _ ⟨by omega, by omega⟩
    have w2 : wrap64 (q + 1) = u := by rw [eq]; exact IntWalk.wrap64_in _ ⟨by omega, by omega⟩
    clear eq
    go_enter Try.func23, Try.ntmps23
    go_wp2_with fail
    go_ret
    exact ⟨rfl, Grow.G.refl _⟩
  · have d0 : decide (0 < r) = false := decide_eq_false h
    have eq := HE.out.2 h
    have w1 : wrap64 q = u := by rw [eq]; exact IntWalk.wrap64_in _ ⟨by omega, by omega⟩
    clear eq
    go_enter Try.func23, Try.ntmps23
    go_wp2_with fail
    go_ret
    exact ⟨rfl, Grow.G.refl _⟩
set_option maxHeartbeats 2000000 in
theorem need_any (s n c : Int) (w : World) (hs : 0 ≤ s ∧ s ≤ 10000000) (hn : 0 ≤ n ∧ n ≤ 10000000) (hc : 1 ≤ c ∧ c ≤ 8) :
    Calls Try.prog 19 #[.int .i64 s, .int .i64 n, .int .i64 c] w fun e w' => e = .returned (.int .i64 (Sc.need s n c)) ∧ Grow.G w w' := by
  have dc : decide (c ≤ 0) = false := decide_eq_false (by omega)
  by_cases h : n ≤ 0
  · obtain rfl : n = 0 := by omega
    rw [Sc.need_none]
    go_enter Try.func19, Try.ntmps19
    go_wp2_with fail
    go_ret
    exact ⟨rfl, Grow.G.refl _⟩
  · have d0 : decide (n ≤ 0) = false := decide_eq_false h
    have b1 := Sc.up_bd hs.1 (show 1 ≤ n by omega)
    have U1 := Lib.hid (fun w => up10_any s n w hs ⟨by omega, by omega⟩)
    have U2 := Lib.hid (fun w => up10_any (Sc.up s n) c w ⟨b1.1, by omega⟩ ⟨by omega, by omega⟩)
    rw [Sc.up_up hs.1 (by omega) hc.1] at U2
    generalize Sc.up s n = u at *
    generalize Sc.need s n c = r at *
    go_enter Try.func19, Try.ntmps19
    go_wp2_with fail
    refine (U1.out _).mono ?_
    rintro e w1 ⟨rfl, g1⟩
    go_wp2_with fail
    refine (U2.out _).mono ?_
    rintro e w2 ⟨rfl, g2⟩
    go_wp2_with fail
    go_ret
    exact ⟨rfl, g1.trans g2⟩
/-- What one decision goes by. -/
structure Tn where
  wt : Int
  lf : Int
  nm : ByteArray
  im : Int
  co : Int
  mn : Int
  mx : Int
  gr : Int
  rd : Int
  bs : Int
  idl : Int
  a : Int
  b : Int
namespace Tn
def cells (t : Tn) : List Value := [.int .i64 t.wt, .int .i64 t.lf, .string t.nm, .int .i64 t.im, .int .i64 t.co, .int .i64 t.mn, .int .i64 t.mx, .int .i64 t.gr, .int .i64 t.rd, .int .i64 t.bs, .int .i64 t.idl, .int .i64 t.a, .int .i64 t.b]
abbrev v (t : Tn) : Value := .agg t.cells.toArray
structure ok (t : Tn) : Prop where
  wt : 0 ≤ t.wt ∧ t.wt ≤ 10
  lf : 0 ≤ t.lf ∧ t.lf ≤ 6
  mn : 0 ≤ t.mn ∧ t.mn ≤ 10
  mx : 1 ≤ t.mx ∧ t.mx ≤ 10
  rd : 0 ≤ t.rd ∧ t.rd ≤ 30
  bs : 0 ≤ t.bs
  a : 0 ≤ t.a ∧ t.a ≤ 90000000
  b : 0 ≤ t.b ∧ t.b ≤ 90000000
def m (t : Tn) : Int := max 1 t.rd
def left (t : Tn) : Int := Sc.lft t.lf t.b t.m
end Tn
set_option maxHeartbeats 2000000 in
theorem pods10_any (t : Tn) (w : World) (h : t.ok) :
    Calls Try.prog 27 #[t.v] w fun e w' => e = .returned (.int .i64 t.m) ∧ Grow.G w w' := by
  have h5 := h.rd
  clear h
  obtain ⟨wt, lf, nm, im, co, mn, mx, gr, rd, bs, ix, a, b⟩ := t
  unfold Tn.v Tn.cells Tn.m
  dsimp only at *
  have hm : (if 1 < rd then rd else 1) = max 1 rd := by split <;> omega
  generalize max 1 rd = m at *
  go_enter Try.func27, Try.ntmps27
  go_wp2_with fail
  go_ret
  exact ⟨rfl, by (repeat (first | with_reducible exact Grow.G.refl _ | with_reducible exact Below.refl _ _ | with_reducible refine Grow.G.alloc ?_ _ | with_reducible refine Grow.G.trans ?_ hb1 | ((with_reducible refine Below.setCell ?_ ?_ _); rotate_left; (focus (first | omega | (simp; done) | (simp; omega)))) | with_reducible assumption | with_reducible refine Grow.G.trans ?_ (by with_reducible assumption)))⟩
set_option maxHeartbeats 4000000 in
theorem left10_any (t : Tn) (w : World) (h : t.ok) :
    Calls Try.prog 25 #[t.v] w fun e w' => e = .returned (.int .i64 t.left) ∧ Grow.G w w' := by
  have P := Lib.hid (fun w => pods10_any t w h)
  have h2 := h.lf
  have h8 := h.b
  have hm : 1 ≤ t.m ∧ t.m ≤ 30 := by have := h.rd; unfold Tn.m; omega
  clear h
  unfold Tn.left
  generalize t.m = m at *
  obtain ⟨wt, lf, nm, im, co, mn, mx, gr, rd, bs, ix, a, b⟩ := t
  unfold Tn.v Tn.cells at *
  dsimp only at *
  have HE := Lib.hid (show (2 * m ≤ b → Sc.lft lf b m = 6) ∧ (¬ 2 * m ≤ b → (if 1 < lf then lf - 1 else 0) = Sc.lft lf b m) from ⟨fun h => by unfold Sc.lft; rw [if_pos h], fun hn => by unfold Sc.lft; rw [if_neg hn]; split <;> omega⟩)
  generalize Sc.lft lf b m = r at *
  have w1 : IntKind.i64.wrap (2 * m) = 2 * m := IntWalk.i64_in _ ⟨by omega, by omega⟩
  have w2 : IntKind.i64.wrap (lf - 1) = lf - 1 := IntWalk.i64_in _ ⟨by omega, by omega⟩
  have KC := Lib.hid (fun (w' : World) (h : Chg (fun _ => False) (w.alloc (.cells #[.int .i64 wt, .int .i64 lf, .string nm, .int .i64 im, .int .i64 co, .int .i64 mn, .int .i64 mx, .int .i64 gr, .int .i64 rd, .int .i64 bs, .int .i64 ix, .int .i64 a, .int .i64 b] 47)) w') =>
    (⟨h.cell (Blk.at (cs := [.int .i64 wt, .int .i64 lf, .string nm, .int .i64 im, .int .i64 co, .int .i64 mn, .int .i64 mx, .int .i64 gr, .int .i64 rd, .int .i64 bs, .int .i64 ix, .int .i64 a, .int .i64 b]) (k := 12) (Blk.new w _ _) rfl) (fun h => h),
      h.cell (Blk.at (cs := [.int .i64 wt, .int .i64 lf, .string nm, .int .i64 im, .int .i64 co, .int .i64 mn, .int .i64 mx, .int .i64 gr, .int .i64 rd, .int .i64 bs, .int .i64 ix, .int .i64 a, .int .i64 b]) (k := 1) (Blk.new w _ _) rfl) (fun h => h), trivial⟩ : w'.cell? ⟨w.heap.size, 12, none⟩ = some (.int .i64 b) ∧ w'.cell? ⟨w.heap.size, 1, none⟩ = some (.int .i64 lf) ∧ True))
  have BN := Lib.hid (Blk.new w #[.int .i64 wt, .int .i64 lf, .string nm, .int .i64 im, .int .i64 co, .int .i64 mn, .int .i64 mx, .int .i64 gr, .int .i64 rd, .int .i64 bs, .int .i64 ix, .int .i64 a, .int .i64 b] 47)
  have CE : (Try.prog.info? 47).map (·.size) = some 13 := by kernel_rfl
  have G0 := Lib.hid (show Grow.G w (w.alloc (.cells #[.int .i64 wt, .int .i64 lf, .string nm, .int .i64 im, .int .i64 co, .int .i64 mn, .int .i64 mx, .int .i64 gr, .int .i64 rd, .int .i64 bs, .int .i64 ix, .int .i64 a, .int .i64 b] 47)) by (repeat (first | with_reducible exact Grow.G.refl _ | with_reducible exact Below.refl _ _ | with_reducible refine Grow.G.alloc ?_ _ | with_reducible refine Grow.G.trans ?_ hb1 | ((with_reducible refine Below.setCell ?_ ?_ _); rotate_left; (focus (first | omega | (simp; done) | (simp; omega)))) | with_reducible assumption | with_reducible refine Grow.G.trans ?_ (by with_reducible assumption))))
  go_enter Try.func25, Try.ntmps25
  go_wp2_with fail
  refine Evo2.start' (ℓ := none) (S := Chg (fun _ => False)) (E := Grow.G) (by kernel_rfl) ⟨Chg.pre _, by decide +kernel, (by intro c a d v w h; cases d <;> exact h), by decide +kernel⟩ (fun ok => ?_)
  refine Evo2.va ok 0 _ _ ?_
  first | (refine Evo2.val ok 1 ?_ ?_ ?_; rotate_left; (focus (intro w' hg; refine Box.exec_loadAll ?_ Try.underlying47 CE (BN.out.chg (Chg.trans (Chg.refl (fun _ => False) _) hg) id) ?_; (all_goals (first | exact ⟨rfl, rfl⟩ | rfl)))); simp only [Act.put, L0, L1, L2]) | (refine Evo2.vl ok 1 KC.out (Chg.refl (fun _ => False) _) _ _ ?_) | (refine Evo2.va ok 1 _ _ ?_)
  first | (refine Evo2.val ok 2 ?_ ?_ ?_; rotate_left; (focus (intro w' hg; refine Box.exec_loadAll ?_ Try.underlying47 CE (BN.out.chg (Chg.trans (Chg.refl (fun _ => False) _) hg) id) ?_; (all_goals (first | exact ⟨rfl, rfl⟩ | rfl)))); simp only [Act.put, L0, L1, L2]) | (refine Evo2.vl ok 2 KC.out (Chg.refl (fun _ => False) _) _ _ ?_) | (refine Evo2.va ok 2 _ _ ?_)
  (refine Evo2.cal ok 3 ?_ 27 ?_ ?_ ?_ ?_; rotate_left 2; (focus (intro w'; go_simp <;> with_reducible rfl)); (focus (intro w' g'; with_reducible exact P.out w')); simp only [Act.put, L0, L1, L2])
  refine Evo2.va ok 4 _ _ ?_
  refine Evo2.va ok 5 _ _ ?_
  refine Evo2.done (by decide +kernel) (fun wz gz => ?_)
  have AZ := Chg.trans (Chg.refl (fun _ => False) _) (Chg.grow gz)
  have GZ := Lib.hid (G0.out.trans (AZ.toGrow (fun _ _ h => h)))
  obtain ⟨c12, c1, -⟩ := KC.out wz AZ
  clear KC AZ gz
  rcases Int.lt_or_le b (2 * m) with hb | hb
  · have d0 : decide (2 * m ≤ b) = false := decide_eq_false (by omega)
    have e := HE.out.2 (by omega)
    go_wp2_with fail
    all_goals
      go_ret
      exact ⟨congrArg (fun x => Ending.returned (Value.int .i64 x)) (show _ = r by split at e <;> omega), GZ.out⟩
  · have d0 : decide (2 * m ≤ b) = true := decide_eq_true hb
    have e := Lib.hid (HE.out.1 hb)
    go_wp2_with fail
    go_ret
    rw [e.out]
    exact ⟨rfl, GZ.out⟩
set_option maxHeartbeats 4000000 in
theorem panicked10_any (t : Tn) (n : Int) (w : World) (h : t.ok) (hn : 0 ≤ n ∧ n ≤ 90000000) :
    Calls Try.prog 28 #[t.v, .int .i64 n] w fun e w' => e = .returned (.int .i64 (Sc.w0 n t.b t.wt t.left)) ∧ Grow.G w w' := by
  have P := Lib.hid (fun w => left10_any t w h)
  clear h
  generalize t.left = l at *
  obtain ⟨wt, lf, nm, im, co, mn, mx, gr, rd, bs, ix, a, b⟩ := t
  unfold Tn.v Tn.cells at *
  dsimp only at *
  have HE := Lib.hid (show (0 < l → (if (if n < b then b else n) < wt then wt else (if n < b then b else n)) = Sc.w0 n b wt l) ∧ (¬ 0 < l → n = Sc.w0 n b wt l) from ⟨fun hl => by unfold Sc.w0; rw [if_pos hl]; split <;> split <;> omega, fun hl => by unfold Sc.w0; rw [if_neg hl]⟩)
  generalize Sc.w0 n b wt l = r at *
  have HM : Hid (Mem w (w.alloc (.cells #[.int .i64 wt, .int .i64 lf, .string nm, .int .i64 im, .int .i64 co, .int .i64 mn, .int .i64 mx, .int .i64 gr, .int .i64 rd, .int .i64 bs, .int .i64 ix, .int .i64 a, .int .i64 b] 47)) [(w.heap.size, [.int .i64 wt, .int .i64 lf, .string nm, .int .i64 im, .int .i64 co, .int .i64 mn, .int .i64 mx, .int .i64 gr, .int .i64 rd, .int .i64 bs, .int .i64 ix, .int .i64 a, .int .i64 b], 47)]) := Lib.hid (Mem.alloc' (Mem.nil w) _ _ rfl)
  go_enter Try.func28, Try.ntmps28
  go_wp2_with ((refine Mem.loadAll 0 (t := 47) rfl rfl rfl Try.underlying47 (n := 13) (by kernel_rfl) HM.out rfl rfl ?_))
  refine (P.out _).mono ?_
  rintro e w1 ⟨rfl, g1⟩
  replace HM := Lib.hid (HM.out.grow g1)
  clear g1
  have c12 := HM.out.cell (i := 0) (o := 12) rfl rfl
  have c0 := HM.out.cell (i := 0) (o := 0) rfl rfl
  by_cases hl : 0 < l
  · have d0 : decide (0 < l) = true := decide_eq_true hl
    have e := HE.out.1 hl
    clear hl
    go_wp2_with fail
    go_ret
    exact ⟨rfl, HM.out.below⟩
  · have d0 : decide (0 < l) = false := decide_eq_false hl
    have e := Lib.hid (HE.out.2 (by omega))
    go_wp2_with fail
    go_ret
    rw [← e.out]
    exact ⟨rfl, HM.out.below⟩
set_option maxHeartbeats 4000000 in
theorem slowUp10_any (t : Tn) (n : Int) (w : World) (h : t.ok) (hn : 0 ≤ n ∧ n ≤ 90000000) :
    Calls Try.prog 30 #[t.v, .int .i64 n] w fun e w' => e = .returned (.int .i64 (min n (4 * t.m))) ∧ Grow.G w w' := by
  have P := Lib.hid (fun w => pods10_any t w h)
  have hm : 1 ≤ t.m ∧ t.m ≤ 30 := by have := h.rd; unfold Tn.m; omega
  clear h
  generalize t.m = m at *
  obtain ⟨wt, lf, nm, im, co, mn, mx, gr, rd, bs, ix, a, b⟩ := t
  unfold Tn.v Tn.cells at *
  dsimp only at *
  have w1 : IntKind.i64.wrap (4 * m) = 4 * m := IntWalk.i64_in _ ⟨by omega, by omega⟩
  have e : (if 4 * m < n then 4 * m else n) = min n (4 * m) := by split <;> omega
  generalize min n (4 * m) = r at *
  have HM : Hid (Mem w (w.alloc (.cells #[.int .i64 wt, .int .i64 lf, .string nm, .int .i64 im, .int .i64 co, .int .i64 mn, .int .i64 mx, .int .i64 gr, .int .i64 rd, .int .i64 bs, .int .i64 ix, .int .i64 a, .int .i64 b] 47)) [(w.heap.size, [.int .i64 wt, .int .i64 lf, .string nm, .int .i64 im, .int .i64 co, .int .i64 mn, .int .i64 mx, .int .i64 gr, .int .i64 rd, .int .i64 bs, .int .i64 ix, .int .i64 a, .int .i64 b], 47)]) := Lib.hid (Mem.alloc' (Mem.nil w) _ _ rfl)
  go_enter Try.func30, Try.ntmps30
  go_wp2_with ((refine Mem.loadAll 0 (t := 47) rfl rfl rfl Try.underlying47 (n := 13) (by kernel_rfl) HM.out rfl rfl ?_))
  refine (P.out _).mono ?_
  rintro e w1 ⟨rfl, g1⟩
  replace HM := Lib.hid (HM.out.grow g1)
  clear g1
  go_wp2_with fail
  go_ret
  exact ⟨rfl, HM.out.below⟩
set_option maxHeartbeats 4000000 in
theorem slowDown10_any (t : Tn) (n : Int) (w : World) (h : t.ok) (hn : 0 ≤ n ∧ n ≤ 90000000) :
    Calls Try.prog 31 #[t.v, .int .i64 n] w fun e w' => e = .returned (.int .i64 (max n (t.rd / 2))) ∧ Grow.G w w' := by
  have hr := h.rd
  clear h
  obtain ⟨wt, lf, nm, im, co, mn, mx, gr, rd, bs, ix, a, b⟩ := t
  unfold Tn.v Tn.cells at *
  dsimp only at *
  obtain ⟨q, hq⟩ : ∃ q, rd / 2 = q := ⟨_, rfl⟩
  have wq : wrap64 (rd.tdiv 2) = q := by rw [Int.tdiv_eq_ediv_of_nonneg hr.1, hq]; exact IntWalk.wrap64_in _ ⟨by omega, by omega⟩
  rw [hq]
  clear hq hr
  have e : (if n < q then q else n) = max n q := by split <;> omega
  generalize max n q = r at *
  go_enter Try.func31, Try.ntmps31
  go_wp2_with fail
  go_ret
  exact ⟨rfl, by (repeat (first | with_reducible exact Grow.G.refl _ | with_reducible exact Below.refl _ _ | with_reducible refine Grow.G.alloc ?_ _ | with_reducible refine Grow.G.trans ?_ hb1 | ((with_reducible refine Below.setCell ?_ ?_ _); rotate_left; (focus (first | omega | (simp; done) | (simp; omega)))) | with_reducible assumption | with_reducible refine Grow.G.trans ?_ (by with_reducible assumption)))⟩
set_option maxHeartbeats 4000000 in
theorem least10_any (t : Tn) (n : Int) (w : World) (h : t.ok) (hn : 0 ≤ n ∧ n ≤ 90000000) :
    Calls Try.prog 32 #[t.v, .int .i64 n] w fun e w' => e = .returned (.int .i64 (max n t.mn)) ∧ Grow.G w w' := by
  clear h
  obtain ⟨wt, lf, nm, im, co, mn, mx, gr, rd, bs, ix, a, b⟩ := t
  unfold Tn.v Tn.cells at *
  dsimp only at *
  have e : (if n < mn then mn else n) = max n mn := by split <;> omega
  generalize max n mn = r at *
  go_enter Try.func32, Try.ntmps32
  go_wp2_with fail
  go_ret
  exact ⟨rfl, by (repeat (first | with_reducible exact Grow.G.refl _ | with_reducible exact Below.refl _ _ | with_reducible refine Grow.G.alloc ?_ _ | with_reducible refine Grow.G.trans ?_ hb1 | ((with_reducible refine Below.setCell ?_ ?_ _); rotate_left; (focus (first | omega | (simp; done) | (simp; omega)))) | with_reducible assumption | with_reducible refine Grow.G.trans ?_ (by with_reducible assumption)))⟩
set_option maxHeartbeats 4000000 in
theorem most10_any (t : Tn) (n : Int) (w : World) (h : t.ok) (hn : 0 ≤ n ∧ n ≤ 90000000) :
    Calls Try.prog 33 #[t.v, .int .i64 n] w fun e w' => e = .returned (.int .i64 (min n t.mx)) ∧ Grow.G w w' := by
  clear h
  obtain ⟨wt, lf, nm, im, co, mn, mx, gr, rd, bs, ix, a, b⟩ := t
  unfold Tn.v Tn.cells at *
  dsimp only at *
  have e : (if mx < n then mx else n) = min n mx := by split <;> omega
  generalize min n mx = r at *
  go_enter Try.func33, Try.ntmps33
  go_wp2_with fail
  go_ret
  exact ⟨rfl, by (repeat (first | with_reducible exact Grow.G.refl _ | with_reducible exact Below.refl _ _ | with_reducible refine Grow.G.alloc ?_ _ | with_reducible refine Grow.G.trans ?_ hb1 | ((with_reducible refine Below.setCell ?_ ?_ _); rotate_left; (focus (first | omega | (simp; done) | (simp; omega)))) | with_reducible assumption | with_reducible refine Grow.G.trans ?_ (by with_reducible assumption)))⟩
set_option maxHeartbeats 4000000 in
theorem kept10_any (t : Tn) (n : Int) (w : World) (h : t.ok) (hn : 0 ≤ n ∧ n ≤ 90000000) :
    Calls Try.prog 29 #[t.v, .int .i64 n] w fun e w' => e = .returned (.int .i64 (Sc.w1 n t.bs t.wt t.idl t.gr)) ∧ Grow.G w w' := by
  clear h
  obtain ⟨wt, lf, nm, im, co, mn, mx, gr, rd, bs, idl, a, b⟩ := t
  unfold Tn.v Tn.cells at *
  dsimp only at *
  have HE := Lib.hid (show Sc.w1 n bs wt idl gr = if n = 0 ∧ (0 < bs ∨ 0 < wt ∧ idl < gr) then 1 else n from rfl)
  generalize Sc.w1 n bs wt idl gr = r at *
  by_cases h0 : n = 0
  · subst h0
    clear hn
    by_cases h1 : 0 < bs
    · have e := Lib.hid (show r = 1 by rw [HE.out, if_pos ⟨rfl, .inl h1⟩])
      have d1 : decide (0 < bs) = true := decide_eq_true h1
      go_enter Try.func29, Try.ntmps29
      go_wp2_with fail
      go_ret
      rw [e.out]; exact ⟨rfl, by (repeat (first | with_reducible exact Grow.G.refl _ | with_reducible exact Below.refl _ _ | with_reducible refine Grow.G.alloc ?_ _ | with_reducible refine Grow.G.trans ?_ hb1 | ((with_reducible refine Below.setCell ?_ ?_ _); rotate_left; (focus (first | omega | (simp; done) | (simp; omega)))) | with_reducible assumption | with_reducible refine Grow.G.trans ?_ (by with_reducible assumption)))⟩
    · have d1 : decide (0 < bs) = false := decide_eq_false h1
      by_cases h2 : 0 < wt
      · have d2 : decide (0 < wt) = true := decide_eq_true h2
        by_cases h3 : idl < gr
        · have d3 : decide (idl < gr) = true := decide_eq_true h3
          have e := Lib.hid (show r = 1 by rw [HE.out, if_pos ⟨rfl, .inr ⟨h2, h3⟩⟩])
          go_enter Try.func29, Try.ntmps29
          go_wp2_with fail
          go_ret
          rw [e.out]; exact ⟨rfl, by (repeat (first | with_reducible exact Grow.G.refl _ | with_reducible exact Below.refl _ _ | with_reducible refine Grow.G.alloc ?_ _ | with_reducible refine Grow.G.trans ?_ hb1 | ((with_reducible refine Below.setCell ?_ ?_ _); rotate_left; (focus (first | omega | (simp; done) | (simp; omega)))) | with_reducible assumption | with_reducible refine Grow.G.trans ?_ (by with_reducible assumption)))⟩
        · have d3 : decide (idl < gr) = false := decide_eq_false h3
          have e := Lib.hid (show r = 0 by rw [HE.out, if_neg (fun q => q.2.elim h1 (fun q => h3 q.2))])
          go_enter Try.func29, Try.ntmps29
          go_wp2_with fail
          go_ret
          rw [e.out]; exact ⟨rfl, by (repeat (first | with_reducible exact Grow.G.refl _ | with_reducible exact Below.refl _ _ | with_reducible refine Grow.G.alloc ?_ _ | with_reducible refine Grow.G.trans ?_ hb1 | ((with_reducible refine Below.setCell ?_ ?_ _); rotate_left; (focus (first | omega | (simp; done) | (simp; omega)))) | with_reducible assumption | with_reducible refine Grow.G.trans ?_ (by with_reducible assumption)))⟩
      · have d2 : decide (0 < wt) = false := decide_eq_false h2
        have e := Lib.hid (show r = 0 by rw [HE.out, if_neg (fun q => q.2.elim h1 (fun q => h2 q.1))])
        go_enter Try.func29, Try.ntmps29
        go_wp2_with fail
        go_ret
        rw [e.out]; exact ⟨rfl, by (repeat (first | with_reducible exact Grow.G.refl _ | with_reducible exact Below.refl _ _ | with_reducible refine Grow.G.alloc ?_ _ | with_reducible refine Grow.G.trans ?_ hb1 | ((with_reducible refine Below.setCell ?_ ?_ _); rotate_left; (focus (first | omega | (simp; done) | (simp; omega)))) | with_reducible assumption | with_reducible refine Grow.G.trans ?_ (by with_reducible assumption)))⟩
  · have d0 : (n == 0) = false := by simpa using h0
    have e := Lib.hid (show r = n by rw [HE.out, if_neg (fun q => h0 q.1)])
    go_enter Try.func29, Try.ntmps29
    go_wp2_with fail
    go_ret
    rw [e.out]; exact ⟨rfl, by (repeat (first | with_reducible exact Grow.G.refl _ | with_reducible exact Below.refl _ _ | with_reducible refine Grow.G.alloc ?_ _ | with_reducible refine Grow.G.trans ?_ hb1 | ((with_reducible refine Below.setCell ?_ ?_ _); rotate_left; (focus (first | omega | (simp; done) | (simp; omega)))) | with_reducible assumption | with_reducible refine Grow.G.trans ?_ (by with_reducible assumption)))⟩
abbrev fnV (f : FuncId) : Value := .func (.func f) #[] #[]
def stepsV : List Value := [fnV 28, fnV 29, fnV 30, fnV 31, fnV 32, fnV 33]
set_option maxHeartbeats 2000000 in
theorem steps10_any (w : World) : Calls Try.prog 26 #[] w fun e w' => e = .returned (.agg stepsV.toArray) ∧ Grow.G w w' := by
  have HM := Lib.hid (Mem.nil w)
  go_enter Try.func26, Try.ntmps26
  go_wp2_with ((refine Mem.storeAll 0 (t := 50) rfl rfl rfl rfl (n := 6) (by kernel_rfl) (Mem.alloc' HM.out _ _ rfl) rfl rfl rfl rfl ?_; intro V1 HMm CV1))
  simp only [K0, K1, L1, L2, K2, K3, K4, K5, K6, K7, Nat.reduceAdd, Nat.reduceSub] at HMm
  replace HM := Lib.hid HMm
  clear HMm
  refine Stay.go ?_
  go_wp2_with fail
  have B2 := HM.out.blk (i := 0) rfl
  unfold stepsV
  refine bodyPost_ret (v := .agg #[fnV 28, fnV 29, fnV 30, fnV 31, fnV 32, fnV 33]) (by simp [results, Try.results26, go_sem, B2.cell]) rfl ?_
  exact ⟨rfl, HM.out.below⟩

namespace Tn
def s1 (t : Tn) : Int := Sc.w0 t.a t.b t.wt t.left
def s2 (t : Tn) : Int := Sc.w1 t.s1 t.bs t.wt t.idl t.gr
def s3 (t : Tn) : Int := min t.s2 (4 * t.m)
def s4 (t : Tn) : Int := max t.s3 (t.rd / 2)
def s5 (t : Tn) : Int := max t.s4 t.mn
def s6 (t : Tn) : Int := min t.s5 t.mx
theorem s_bd {t : Tn} (h : t.ok) : (0 ≤ t.s1 ∧ t.s1 ≤ 90000000) ∧ (0 ≤ t.s2 ∧ t.s2 ≤ 90000000) ∧ (0 ≤ t.s3 ∧ t.s3 ≤ 90000000) ∧ (0 ≤ t.s4 ∧ t.s4 ≤ 90000000) ∧ (0 ≤ t.s5 ∧ t.s5 ≤ 90000000) ∧ (0 ≤ t.s6 ∧ t.s6 ≤ 90000000) := by
  have h1 := h.wt; have h2 := h.a; have h3 := h.b; have h4 := h.rd; have h5 := h.mn; have h6 := h.mx
  have hm : 1 ≤ t.m ∧ t.m ≤ 30 := by unfold Tn.m; omega
  have e1 : 0 ≤ t.s1 ∧ t.s1 ≤ 90000000 := by unfold s1 Sc.w0; split <;> omega
  have e2 : 0 ≤ t.s2 ∧ t.s2 ≤ 90000000 := by unfold s2 Sc.w1; split <;> omega
  have e3 : 0 ≤ t.s3 ∧ t.s3 ≤ 90000000 := by unfold s3; omega
  have e4 : 0 ≤ t.s4 ∧ t.s4 ≤ 90000000 := by unfold s4; omega
  have e5 : 0 ≤ t.s5 ∧ t.s5 ≤ 90000000 := by unfold s5; omega
  have e6 : 0 ≤ t.s6 ∧ t.s6 ≤ 90000000 := by unfold s6; omega
  exact ⟨e1, e2, e3, e4, e5, e6⟩
end Tn
set_option maxHeartbeats 8000000 in
theorem want10_any (t : Tn) (w : World) (h : t.ok) :
    Calls Try.prog 24 #[t.v] w fun e w' => e = .returned (.int .i64 t.s6) ∧ Grow.G w w' := by
  have hb := t.s_bd h
  have C0 := Lib.hid (fun w => panicked10_any t t.a w h h.a)
  have C1 := Lib.hid (fun w => kept10_any t t.s1 w h hb.1)
  have C2 := Lib.hid (fun w => slowUp10_any t t.s2 w h hb.2.1)
  have C3 := Lib.hid (fun w => slowDown10_any t t.s3 w h hb.2.2.1)
  have C4 := Lib.hid (fun w => least10_any t t.s4 w h hb.2.2.2.1)
  have C5 := Lib.hid (fun w => most10_any t t.s5 w h hb.2.2.2.2.1)
  have ST := Lib.hid (fun w => steps10_any w)
  change Hid (∀ w, Calls _ _ _ w fun e w' => e = .returned (.int .i64 t.s1) ∧ Grow.G w w') at C0
  change Hid (∀ w, Calls _ _ _ w fun e w' => e = .returned (.int .i64 t.s2) ∧ Grow.G w w') at C1
  change Hid (∀ w, Calls _ _ _ w fun e w' => e = .returned (.int .i64 t.s3) ∧ Grow.G w w') at C2
  change Hid (∀ w, Calls _ _ _ w fun e w' => e = .returned (.int .i64 t.s4) ∧ Grow.G w w') at C3
  change Hid (∀ w, Calls _ _ _ w fun e w' => e = .returned (.int .i64 t.s5) ∧ Grow.G w w') at C4
  change Hid (∀ w, Calls _ _ _ w fun e w' => e = .returned (.int .i64 t.s6) ∧ Grow.G w w') at C5
  clear h hb
  generalize t.s1 = s1 at *
  generalize t.s2 = s2 at *
  generalize t.s3 = s3 at *
  generalize t.s4 = s4 at *
  generalize t.s5 = s5 at *
  generalize t.s6 = s6 at *
  obtain ⟨wt, lf, nm, im, co, mn, mx, gr, rd, bs, idl, a, b⟩ := t
  unfold Tn.v Tn.cells at *
  dsimp only at *
  have HM : Hid (Mem w (w.alloc (.cells #[.int .i64 wt, .int .i64 lf, .string nm, .int .i64 im, .int .i64 co, .int .i64 mn, .int .i64 mx, .int .i64 gr, .int .i64 rd, .int .i64 bs, .int .i64 idl, .int .i64 a, .int .i64 b] 47)) [(w.heap.size, [.int .i64 wt, .int .i64 lf, .string nm, .int .i64 im, .int .i64 co, .int .i64 mn, .int .i64 mx, .int .i64 gr, .int .i64 rd, .int .i64 bs, .int .i64 idl, .int .i64 a, .int .i64 b], 47)]) := Lib.hid (Mem.alloc' (Mem.nil w) _ _ rfl)
  go_enter Try.func24, Try.ntmps24
  go_wp2_with fail
  refine (ST.out _).mono ?_
  rintro e w1 ⟨rfl, g1⟩
  replace HM := Lib.hid (HM.out.grow g1)
  clear g1
  unfold stepsV
  go_wp2_with fail
  unfold fnV
  go_loopw [3, 9] (fun n i wr => ∃ k : Nat, k ≤ 6 ∧ n = .int .i64 (match k with | 0 => a | 1 => s1 | 2 => s2 | 3 => s3 | 4 => s4 | 5 => s5 | _ => s6) ∧ i = .int .i64 (k : Int) ∧ Hid (Mem w wr [(w.heap.size, [.int .i64 wt, .int .i64 lf, .string nm, .int .i64 im, .int .i64 co, .int .i64 mn, .int .i64 mx, .int .i64 gr, .int .i64 rd, .int .i64 bs, .int .i64 idl, .int .i64 a, .int .i64 b], 47)])) (fun _ i _ => 6 - (intOf i).toNat)
  case atStart => exact ⟨0, by omega, rfl, rfl, HM⟩
  case round =>
    obtain ⟨k, hk, rfl, rfl, HM⟩ := hrel
    by_cases hlt : k < 6
    · have d0 : decide ((k : Int) < 6) = true := decide_eq_true (by omega)
      obtain rfl | rfl | rfl | rfl | rfl | rfl : k = 0 ∨ k = 1 ∨ k = 2 ∨ k = 3 ∨ k = 4 ∨ k = 5 := by omega
      · (try dsimp only)
        have ix : ∀ w, (Instr.index 50 (.agg #[.func (.func 28) #[] #[], .func (.func 29) #[] #[], .func (.func 30) #[] #[], .func (.func 31) #[] #[], .func (.func 32) #[] #[], .func (.func 33) #[] #[]]) (.int .i64 0)).run Try.prog w = .ok (.func (.func 28) #[] #[]) w := fun _ => by kernel_rfl
        have iw : IntKind.i64.wrap (0 + 1) = 1 := by decide
        clear d0 hlt hk
        go_wp2_with ((refine Mem.loadAll 0 (t := 47) rfl rfl rfl Try.underlying47 (n := 13) (by kernel_rfl) HM.out rfl rfl ?_))
        refine (C0.out _).mono ?_
        rintro e w2 ⟨rfl, g2⟩
        replace HM := Lib.hid (HM.out.grow g2)
        clear g2
        go_wp2_with fail
        go_roundw
        case rel => exact ⟨1, by omega, rfl, by go_num, HM⟩
        case measure => simp [intOf]
      · (try dsimp only)
        have ix : ∀ w, (Instr.index 50 (.agg #[.func (.func 28) #[] #[], .func (.func 29) #[] #[], .func (.func 30) #[] #[], .func (.func 31) #[] #[], .func (.func 32) #[] #[], .func (.func 33) #[] #[]]) (.int .i64 1)).run Try.prog w = .ok (.func (.func 29) #[] #[]) w := fun _ => by kernel_rfl
        have iw : IntKind.i64.wrap (1 + 1) = 2 := by decide
        clear d0 hlt hk
        go_wp2_with ((refine Mem.loadAll 0 (t := 47) rfl rfl rfl Try.underlying47 (n := 13) (by kernel_rfl) HM.out rfl rfl ?_))
        refine (C1.out _).mono ?_
        rintro e w2 ⟨rfl, g2⟩
        replace HM := Lib.hid (HM.out.grow g2)
        clear g2
        go_wp2_with fail
        go_roundw
        case rel => exact ⟨2, by omega, rfl, by go_num, HM⟩
        case measure => simp [intOf]
      · (try dsimp only)
        have ix : ∀ w, (Instr.index 50 (.agg #[.func (.func 28) #[] #[], .func (.func 29) #[] #[], .func (.func 30) #[] #[], .func (.func 31) #[] #[], .func (.func 32) #[] #[], .func (.func 33) #[] #[]]) (.int .i64 2)).run Try.prog w = .ok (.func (.func 30) #[] #[]) w := fun _ => by kernel_rfl
        have iw : IntKind.i64.wrap (2 + 1) = 3 := by decide
        clear d0 hlt hk
        go_wp2_with ((refine Mem.loadAll 0 (t := 47) rfl rfl rfl Try.underlying47 (n := 13) (by kernel_rfl) HM.out rfl rfl ?_))
        refine (C2.out _).mono ?_
        rintro e w2 ⟨rfl, g2⟩
        replace HM := Lib.hid (HM.out.grow g2)
        clear g2
        go_wp2_with fail
        go_roundw
        case rel => exact ⟨3, by omega, rfl, by go_num, HM⟩
        case measure => simp [intOf]
      · (try dsimp only)
        have ix : ∀ w, (Instr.index 50 (.agg #[.func (.func 28) #[] #[], .func (.func 29) #[] #[], .func (.func 30) #[] #[], .func (.func 31) #[] #[], .func (.func 32) #[] #[], .func (.func 33) #[] #[]]) (.int .i64 3)).run Try.prog w = .ok (.func (.func 31) #[] #[]) w := fun _ => by kernel_rfl
        have iw : IntKind.i64.wrap (3 + 1) = 4 := by decide
        clear d0 hlt hk
        go_wp2_with ((refine Mem.loadAll 0 (t := 47) rfl rfl rfl Try.underlying47 (n := 13) (by kernel_rfl) HM.out rfl rfl ?_))
        refine (C3.out _).mono ?_
        rintro e w2 ⟨rfl, g2⟩
        replace HM := Lib.hid (HM.out.grow g2)
        clear g2
        go_wp2_with fail
        go_roundw
        case rel => exact ⟨4, by omega, rfl, by go_num, HM⟩
        case measure => simp [intOf]
      · (try dsimp only)
        have ix : ∀ w, (Instr.index 50 (.agg #[.func (.func 28) #[] #[], .func (.func 29) #[] #[], .func (.func 30) #[] #[], .func (.func 31) #[] #[], .func (.func 32) #[] #[], .func (.func 33) #[] #[]]) (.int .i64 4)).run Try.prog w = .ok (.func (.func 32) #[] #[]) w := fun _ => by kernel_rfl
        have iw : IntKind.i64.wrap (4 + 1) = 5 := by decide
        clear d0 hlt hk
        go_wp2_with ((refine Mem.loadAll 0 (t := 47) rfl rfl rfl Try.underlying47 (n := 13) (by kernel_rfl) HM.out rfl rfl ?_))
        refine (C4.out _).mono ?_
        rintro e w2 ⟨rfl, g2⟩
        replace HM := Lib.hid (HM.out.grow g2)
        clear g2
        go_wp2_with fail
        go_roundw
        case rel => exact ⟨5, by omega, rfl, by go_num, HM⟩
        case measure => simp [intOf]
      · (try dsimp only)
        have ix : ∀ w, (Instr.index 50 (.agg #[.func (.func 28) #[] #[], .func (.func 29) #[] #[], .func (.func 30) #[] #[], .func (.func 31) #[] #[], .func (.func 32) #[] #[], .func (.func 33) #[] #[]]) (.int .i64 5)).run Try.prog w = .ok (.func (.func 33) #[] #[]) w := fun _ => by kernel_rfl
        have iw : IntKind.i64.wrap (5 + 1) = 6 := by decide
        clear d0 hlt hk
        go_wp2_with ((refine Mem.loadAll 0 (t := 47) rfl rfl rfl Try.underlying47 (n := 13) (by kernel_rfl) HM.out rfl rfl ?_))
        refine (C5.out _).mono ?_
        rintro e w2 ⟨rfl, g2⟩
        replace HM := Lib.hid (HM.out.grow g2)
        clear g2
        go_wp2_with fail
        go_roundw
        case rel => exact ⟨6, by omega, rfl, by go_num, HM⟩
        case measure => simp [intOf]
    · obtain rfl : k = 6 := by omega
      (try dsimp only)
      clear hlt hk
      go_wp2_with fail
      go_ret
      exact ⟨rfl, HM.out.below⟩
set_option maxHeartbeats 16000000 in
theorem decide_any (g : Sc.G) (c : Cfg) (w : World) (hg : g.ok) (hc : (scC c).ok) :
    Calls Try.prog 21 (g.args c) w fun e w' => e = .returned (stV (Sc.want g (scC c)) (Sc.left g (scC c))) ∧ Grow.G w w' := by
  have A0 := Lib.hid (fun w => need_any g.st g.sts c.co w hg.st hg.sts hc.co)
  have A1 := Lib.hid (fun w => need_any g.sh g.shs c.co w hg.sh hg.shs hc.co)
  have hto : (Tn.mk g.wt g.lf c.nm c.im c.co c.mn c.mx c.gr g.rd g.bs g.id (Sc.need g.st g.sts c.co) (Sc.need g.sh g.shs c.co)).ok :=
    ⟨hg.wt, hg.lf, by have := hc.mn; have := hc.mx; dsimp only at *; omega, hc.mx, hg.rd, hg.bs.1, Sc.need_bd hg.st hg.sts hc.co, Sc.need_bd hg.sh hg.shs hc.co⟩
  have TW := Lib.hid (fun w => want10_any _ w hto)
  have TL := Lib.hid (fun w => left10_any _ w hto)
  change Hid (∀ w, Calls _ _ _ w fun e w' => e = .returned (.int .i64 (Sc.want g (scC c))) ∧ Grow.G w w') at TW
  change Hid (∀ w, Calls _ _ _ w fun e w' => e = .returned (.int .i64 (Sc.left g (scC c))) ∧ Grow.G w w') at TL
  clear hto hg hc
  generalize Sc.want g (scC c) = W at *
  generalize Sc.left g (scC c) = L at *
  obtain ⟨wt, lf, rd, bs, st, sts, sh, shs, idl⟩ := g
  obtain ⟨nm, im, co, mn, mx, gr⟩ := c
  unfold Tn.v Tn.cells at *
  unfold Sc.G.args Cfg.v
  dsimp only at *
  generalize Sc.need st sts co = a at *
  generalize Sc.need sh shs co = b at *
  have HM : Hid (Mem w (((w.alloc (.cells #[.int .i64 wt, .int .i64 lf] 30)).alloc (.cells #[.string nm, .int .i64 im, .int .i64 co, .int .i64 mn, .int .i64 mx, .int .i64 gr] 25)).alloc (.cells #[.int .i64 0, .int .i64 0] 30)) [(w.heap.size, [.int .i64 wt, .int .i64 lf], 30), (w.heap.size + 1, [.string nm, .int .i64 im, .int .i64 co, .int .i64 mn, .int .i64 mx, .int .i64 gr], 25), (w.heap.size + 2, [.int .i64 0, .int .i64 0], 30)]) := Lib.hid (Mem.alloc' (Mem.alloc' (Mem.alloc' (Mem.nil w) _ _ rfl) _ _ (g := w.heap.size + 1) (by simp)) _ _ (g := w.heap.size + 2) (by simp))
  have CS : (Try.prog.info? 30).map (·.size) = some 2 := by kernel_rfl
  have CE : (Try.prog.info? 25).map (·.size) = some 6 := by kernel_rfl
  have CT : (Try.prog.info? 47).map (·.size) = some 13 := by kernel_rfl
  have KC := Lib.hid (fun (w' : World) (h : Chg (fun j => w.heap.size + 3 ≤ j) (((w.alloc (.cells #[.int .i64 wt, .int .i64 lf] 30)).alloc (.cells #[.string nm, .int .i64 im, .int .i64 co, .int .i64 mn, .int .i64 mx, .int .i64 gr] 25)).alloc (.cells #[.int .i64 0, .int .i64 0] 30)) w') => (⟨h.cell (HM.out.cell (i := 1) (o := 2) rfl rfl) (by omega), trivial⟩ : w'.cell? ⟨w.heap.size + 1, 2, none⟩ = some (.int .i64 co) ∧ True))
  have hs3 : (((w.alloc (.cells #[.int .i64 wt, .int .i64 lf] 30)).alloc (.cells #[.string nm, .int .i64 im, .int .i64 co, .int .i64 mn, .int .i64 mx, .int .i64 gr] 25)).alloc (.cells #[.int .i64 0, .int .i64 0] 30)).heap.size = w.heap.size + 3 := by simp
  go_enter Try.func21, Try.ntmps21
  go_wp2_with fail
  refine Evo2.start' (ℓ := some 17) (S := Chg (fun j => w.heap.size + 3 ≤ j)) (E := Grow.G) (by kernel_rfl) ⟨Chg.pre _, by decide +kernel, (by intro c a d v w h; cases d <;> exact h), by decide +kernel⟩ (fun ok => ?_)
  first | (refine Evo2.val ok 0 ?_ ?_ ?_; rotate_left; (focus (intro w' hg; refine Box.exec_loadAll ?_ Try.underlying30 CS ((HM.out.blk (i := 0) rfl).chg (Chg.trans (Chg.refl (fun j => w.heap.size + 3 ≤ j) _) hg) (by omega)) ?_; (all_goals (first | exact ⟨rfl, rfl⟩ | rfl)))); simp only [Act.put, L0, L1, L2]) | (refine Evo2.val ok 0 ?_ ?_ ?_; rotate_left; (focus (intro w' hg; refine Box.exec_loadAll ?_ Try.underlying25 CE ((HM.out.blk (i := 1) rfl).chg (Chg.trans (Chg.refl (fun j => w.heap.size + 3 ≤ j) _) hg) (by omega)) ?_; (all_goals (first | exact ⟨rfl, rfl⟩ | rfl)))); simp only [Act.put, L0, L1, L2]) | (refine Evo2.vl ok 0 KC.out (Chg.refl (fun j => w.heap.size + 3 ≤ j) _) _ _ ?_) | (refine Evo2.va ok 0 _ _ ?_)
  first | (refine Evo2.val ok 1 ?_ ?_ ?_; rotate_left; (focus (intro w' hg; refine Box.exec_loadAll ?_ Try.underlying30 CS ((HM.out.blk (i := 0) rfl).chg (Chg.trans (Chg.refl (fun j => w.heap.size + 3 ≤ j) _) hg) (by omega)) ?_; (all_goals (first | exact ⟨rfl, rfl⟩ | rfl)))); simp only [Act.put, L0, L1, L2]) | (refine Evo2.val ok 1 ?_ ?_ ?_; rotate_left; (focus (intro w' hg; refine Box.exec_loadAll ?_ Try.underlying25 CE ((HM.out.blk (i := 1) rfl).chg (Chg.trans (Chg.refl (fun j => w.heap.size + 3 ≤ j) _) hg) (by omega)) ?_; (all_goals (first | exact ⟨rfl, rfl⟩ | rfl)))); simp only [Act.put, L0, L1, L2]) | (refine Evo2.vl ok 1 KC.out (Chg.refl (fun j => w.heap.size + 3 ≤ j) _) _ _ ?_) | (refine Evo2.va ok 1 _ _ ?_)
  refine Evo2.va ok 2 _ _ ?_
  refine Evo2.va ok 3 _ _ ?_
  refine Evo2.va ok 4 _ _ ?_
  refine Evo2.va ok 5 _ _ ?_
  refine Evo2.va ok 6 _ _ ?_
  refine Evo2.va ok 7 _ _ ?_
  first | (refine Evo2.val ok 8 ?_ ?_ ?_; rotate_left; (focus (intro w' hg; refine Box.exec_loadAll ?_ Try.underlying30 CS ((HM.out.blk (i := 0) rfl).chg (Chg.trans (Chg.refl (fun j => w.heap.size + 3 ≤ j) _) hg) (by omega)) ?_; (all_goals (first | exact ⟨rfl, rfl⟩ | rfl)))); simp only [Act.put, L0, L1, L2]) | (refine Evo2.val ok 8 ?_ ?_ ?_; rotate_left; (focus (intro w' hg; refine Box.exec_loadAll ?_ Try.underlying25 CE ((HM.out.blk (i := 1) rfl).chg (Chg.trans (Chg.refl (fun j => w.heap.size + 3 ≤ j) _) hg) (by omega)) ?_; (all_goals (first | exact ⟨rfl, rfl⟩ | rfl)))); simp only [Act.put, L0, L1, L2]) | (refine Evo2.vl ok 8 KC.out (Chg.refl (fun j => w.heap.size + 3 ≤ j) _) _ _ ?_) | (refine Evo2.va ok 8 _ _ ?_)
  (refine Evo2.cal ok 9 ?_ 19 ?_ ?_ ?_ ?_; rotate_left 2; (focus (intro w'; go_simp <;> with_reducible rfl)); (focus (intro w' g'; with_reducible exact A0.out w')); simp only [Act.put, L0, L1, L2])
  refine Evo2.va ok 10 _ _ ?_
  refine Evo2.va ok 11 _ _ ?_
  refine Evo2.va ok 12 _ _ ?_
  first | (refine Evo2.val ok 13 ?_ ?_ ?_; rotate_left; (focus (intro w' hg; refine Box.exec_loadAll ?_ Try.underlying30 CS ((HM.out.blk (i := 0) rfl).chg (Chg.trans (Chg.refl (fun j => w.heap.size + 3 ≤ j) _) hg) (by omega)) ?_; (all_goals (first | exact ⟨rfl, rfl⟩ | rfl)))); simp only [Act.put, L0, L1, L2]) | (refine Evo2.val ok 13 ?_ ?_ ?_; rotate_left; (focus (intro w' hg; refine Box.exec_loadAll ?_ Try.underlying25 CE ((HM.out.blk (i := 1) rfl).chg (Chg.trans (Chg.refl (fun j => w.heap.size + 3 ≤ j) _) hg) (by omega)) ?_; (all_goals (first | exact ⟨rfl, rfl⟩ | rfl)))); simp only [Act.put, L0, L1, L2]) | (refine Evo2.vl ok 13 KC.out (Chg.refl (fun j => w.heap.size + 3 ≤ j) _) _ _ ?_) | (refine Evo2.va ok 13 _ _ ?_)
  (refine Evo2.cal ok 14 ?_ 19 ?_ ?_ ?_ ?_; rotate_left 2; (focus (intro w'; go_simp <;> with_reducible rfl)); (focus (intro w' g'; with_reducible exact A1.out w')); simp only [Act.put, L0, L1, L2])
  refine Evo2.va ok 15 _ _ ?_
  refine Evo2.all [16] (by decide +kernel) rfl ?_
  intro wp1 gp1 iq hq
  simp only [List.mem_cons, List.mem_nil_iff, or_false] at hq
  have AP1 := Chg.trans (Chg.refl (fun j => w.heap.size + 3 ≤ j) _) (Chg.grow gp1)
  subst hq
  refine Evo2.runs (by rfl) (by rfl) (fun K' hK' => ?_)
  (try obtain ⟨q1⟩ := KC.out wp1 AP1)
  go_simp
  (try (simp only [Evo.after_value, Evo.after_skip]))
  refine hK'.out _ _ ?_
  clear hK'
  simp only [Act.put, L0, L1, L2]
  (try clear q1)
  refine ⟨.inr (Chg.alloc (Chg.refl _ _) _), ?_⟩
  generalize hG1 : World.alloc wp1 _ = wg1
  have GG1 : Grow.G wp1 wg1 := hG1 ▸ Grow.G.alloc (Grow.G.refl _) _
  have NC1 := (congrArg (fun W : World => W.heap[wp1.heap.size]?) hG1).symm.trans (MapKept.heap_alloc wp1 _).1
  have NL1 : wp1.heap.size < wg1.heap.size := by rw [← hG1]; simp
  clear hG1
  refine Evo2.all [17] (by decide +kernel) rfl ?_
  intro wp2 gp2 iq hq
  simp only [List.mem_cons, List.mem_nil_iff, or_false] at hq
  have AP2 := Chg.trans (Chg.trans AP1 (Chg.grow GG1)) (Chg.grow gp2)
  have NC1 := (gp2.block _ NL1).trans NC1
  have NL1 := Nat.lt_of_lt_of_le NL1 gp2.size
  subst hq
  refine upStoreAll (by rfl) (by rfl) rfl rfl rfl (n := 13) (by kernel_rfl) (NC1) rfl rfl rfl ?_
  intro wc2 BZ CW2
  have CH2 : Chg (fun j => w.heap.size + 3 ≤ j) _ _ := CW2.mono (fun j _ e => by have e : j = _ := e; show _ ≤ j; have := AP1.size; omega)
  refine ⟨.inl (by first | rfl | trivial), ?_⟩
  simp only [Act.put, L0, L1, L2]
  refine Evo2.done (by decide +kernel) (fun wz gz => ?_)
  have AZ := Chg.trans (Chg.trans AP2 CH2) (Chg.grow gz)
  have hq := AP1.size
  have BT := BZ.grow gz
  have BS := Lib.hid ((HM.out.blk (i := 2) rfl).chg AZ (show ¬ w.heap.size + 3 ≤ w.heap.size + 2 by omega))
  have GW := Lib.hid (HM.out.below.trans (AZ.below (B := w.heap.size) (by omega) (fun k hk (q : w.heap.size + 3 ≤ k) => by omega)))
  rw [hs3] at hq
  generalize wp1.heap.size = q at *
  have HT := Lib.hid BT
  clear BT BZ gz AZ KC CS CE A0 A1 HM hs3
  have hsz := GW.out.size
  go_wp2_with fail
  refine Evo2.start' (ℓ := some 5) (S := Chg (fun j => j = w.heap.size + 1 + 1)) (E := Grow.G) (by kernel_rfl) ⟨Chg.pre _, by decide +kernel, (by intro c a d v w h; cases d <;> exact h), by decide +kernel⟩ (fun ok => ?_)
  first | (refine Evo2.val ok 0 ?_ ?_ ?_; rotate_left; (focus (intro w' hg; refine Box.exec_loadAll ?_ Try.underlying47 CT (HT.out.chg (Chg.trans (Chg.refl (fun j => j = w.heap.size + 1 + 1) _) hg) (by omega)) ?_; (all_goals (first | exact ⟨rfl, rfl⟩ | rfl)))); simp only [Act.put, L0, L1, L2]) | (refine Evo2.va ok 0 _ _ ?_)
  (refine Evo2.cal ok 1 ?_ 24 ?_ ?_ ?_ ?_; rotate_left 2; (focus (intro w'; go_simp <;> with_reducible rfl)); (focus (intro w' g'; with_reducible exact TW.out w')); simp only [Act.put, L0, L1, L2])
  first | (refine Evo2.val ok 2 ?_ ?_ ?_; rotate_left; (focus (intro w' hg; refine Box.exec_loadAll ?_ Try.underlying47 CT (HT.out.chg (Chg.trans (Chg.refl (fun j => j = w.heap.size + 1 + 1) _) hg) (by omega)) ?_; (all_goals (first | exact ⟨rfl, rfl⟩ | rfl)))); simp only [Act.put, L0, L1, L2]) | (refine Evo2.va ok 2 _ _ ?_)
  (refine Evo2.cal ok 3 ?_ 25 ?_ ?_ ?_ ?_; rotate_left 2; (focus (intro w'; go_simp <;> with_reducible rfl)); (focus (intro w' g'; with_reducible exact TL.out w')); simp only [Act.put, L0, L1, L2])
  refine Evo2.va ok 4 _ _ ?_
  refine Evo2.all [5] (by decide +kernel) rfl ?_
  intro wp1 gp1 iq hq
  simp only [List.mem_cons, List.mem_nil_iff, or_false] at hq
  have AP1 := Chg.trans (Chg.refl (fun j => j = w.heap.size + 1 + 1) _) (Chg.grow gp1)
  (try replace BS := Lib.hid (BS.out.grow gp1))
  subst hq
  refine upStoreAll (by rfl) (by rfl) rfl rfl rfl (n := 2) (by kernel_rfl) (BS.out) rfl rfl rfl ?_
  intro wc1 BR CW1
  have CH1 : Chg (fun j => j = w.heap.size + 1 + 1) _ _ := CW1.mono (fun j _ e => by exact e)
  refine ⟨.inl (by first | rfl | trivial), ?_⟩
  simp only [Act.put, L0, L1, L2]
  refine Evo2.done (by decide +kernel) (fun wz gz => ?_)
  have AZ := Chg.trans (Chg.trans AP1 CH1) (Chg.grow gz)
  (try replace BS := Lib.hid (BS.out.grow gz))
  have B2 := BR.grow gz
  have GF := Lib.hid (GW.out.trans (AZ.below (B := w.heap.size) hsz (fun k hk (q : k = w.heap.size + 1 + 1) => by omega)))
  clear AZ gz
  go_wp2_with fail
  refine bodyPost_ret (v := stV W L) (by simp [results, Try.results21, go_sem, B2.cell]) rfl ?_
  exact ⟨rfl, GF.out⟩
end Go.Proofs.Ytifkombocmdmfaa
