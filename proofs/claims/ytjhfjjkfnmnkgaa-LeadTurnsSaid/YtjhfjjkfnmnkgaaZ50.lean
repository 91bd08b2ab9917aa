/- My own texts Rl5, Rl6, Rl7, laid in one file. -/
import Derived.Test.YtjhfjjkfnmnkgaaZ48
import Derived.Test.YtjhfjjkfnmnkgaaZ44
import Derived.Test.YtjhfjjkfnmnkgaaZ49

/- roll.grow, roll.lose: ways changed where they lie. -/
namespace Go.Proofs.Ytjhfjjkfnmnkgaa
set_option maxRecDepth 100000
set_option linter.unusedVariables false
set_option linter.unusedSimpArgs false
set_option linter.unnecessarySimpa false
open Go.RowKit Go.Args

/-- The first k of a list changed. -/
def partL (f : Wy → Wy) (l : List Wy) (k : Nat) : List Wy := (l.take k).map f ++ l.drop k
theorem partL_zero (f : Wy → Wy) (l : List Wy) : partL f l 0 = l := rfl
theorem partL_all (f : Wy → Wy) (l : List Wy) : partL f l l.length = l.map f := by simp [partL]
theorem partL_len (f : Wy → Wy) (l : List Wy) (k : Nat) : (partL f l k).length = l.length := by simp [partL]; omega
theorem partL_at (f : Wy → Wy) {l : List Wy} {k : Nat} {x : Wy} (h : l[k]? = some x) : (partL f l k)[k]? = some x := by
  have hl := (List.getElem?_eq_some_iff.1 h).1
  unfold partL
  rw [List.getElem?_append_right (by simp; omega), List.length_map, List.length_take, Nat.min_eq_left (by omega), Nat.sub_self, List.getElem?_drop, Nat.add_zero]
  exact h
theorem partL_set (f : Wy → Wy) {l : List Wy} {k : Nat} {x : Wy} (h : l[k]? = some x) : (partL f l k).set k (f x) = partL f l (k + 1) := by
  obtain ⟨hl, e⟩ := List.getElem?_eq_some_iff.1 h
  unfold partL
  rw [List.set_append_right _ _ (by simp; omega), List.length_map, List.length_take, Nat.min_eq_left (by omega), Nat.sub_self, List.drop_eq_getElem_cons hl, List.set_cons_zero, List.take_add_one, h, List.map_append]
  simp
theorem growS_step {t n : Int} {l : List Wy} {k : Nat} {x : Wy} (h : l[k]? = some x) : growS t n (l.take (k + 1)) = growS t n (l.take k) + max x.c 0 * t / n := by
  have ap : ∀ a b : List Wy, growS t n (a ++ b) = growS t n a + growS t n b := by
    intro a b
    induction a with
    | nil => simp [growS]
    | cons y a ih => rw [List.cons_append, growS, growS, ih]; omega
  rw [List.take_add_one, h, ap]
  simp [growS]
def WOk (l : List Wy) : Prop := l.length ≤ 4000 ∧ ∀ x, x ∈ l → 0 ≤ x.w ∧ x.w ≤ 100000 ∧ -100000 ≤ x.c ∧ x.c ≤ 100000 ∧ x.rev.size ≤ 100000
theorem by_le {c t n : Int} (h0 : 0 < t) (h1 : t < n) : 0 ≤ max c 0 * t / n ∧ max c 0 * t / n ≤ max c 0 := by
  have hm : 0 ≤ max c 0 := by omega
  refine ⟨Int.ediv_nonneg (Int.mul_nonneg hm (by omega)) (by omega), ?_⟩
  refine Int.ediv_le_of_le_mul (by omega) ?_
  exact Int.mul_le_mul_of_nonneg_left (by omega) hm
theorem growS_le {t n : Int} (h0 : 0 < t) (h1 : t < n) : ∀ {l : List Wy}, (∀ x, x ∈ l → x.c ≤ 100000) → 0 ≤ growS t n l ∧ growS t n l ≤ 100000 * l.length
  | [], _ => by simp [growS]
  | x :: r, h => by
    have h2 := growS_le h0 h1 (l := r) (fun y hy => h y (by simp [hy]))
    have h3 := by_le (c := x.c) h0 h1
    have h4 := h x (by simp)
    rw [growS, List.length_cons]
    omega
set_option maxHeartbeats 4000000 in
theorem grow_any (g : Nat) (l : List Wy) (c : Nat) (t n : Int) (base : Nat) (w : World) (ok : WOk l) (h0 : 0 < t) (h1 : t < n) (h2 : n ≤ 1099511627776) (h : w.ownsRow base 106 3 (.slice (some ⟨g, 0, none⟩) l.length c) l.length (l.flatMap Wy.cells)) :
    Calls Try.prog 60 #[.slice (some ⟨g, 0, none⟩) l.length c, .int .i64 t, .int .i64 n] w fun e w' => e = .returned (.int .i64 (growS t n l)) ∧ w'.ownsRow base 106 3 (.slice (some ⟨g, 0, none⟩) l.length c) l.length ((l.map (grow1 t n)).flatMap Wy.cells) ∧ Chg (fun k => k = g) w w' := by
  have H := Lib.hid h
  have OK := Lib.hid ok
  have hl := ok.1
  have hg := own_lt h
  clear h ok
  go_enter Try.func60, Try.ntmps60
  go_wp2_with fail
  go_loopw [7, 12] (fun av i wr => ∃ k : Nat, k ≤ l.length ∧ i = .int .i64 k ∧ av = .int .i64 (growS t n (l.take k)) ∧ Hid (wr.ownsRow base 106 3 (.slice (some ⟨g, 0, none⟩) l.length c) l.length ((partL (grow1 t n) l k).flatMap Wy.cells)) ∧ Hid (Chg (fun k => k = g) w wr)) (fun _ i _ => l.length - (intOf i).toNat)
  case atStart => exact ⟨0, by omega, rfl, rfl, Lib.hid (by rw [partL_zero]; exact H.out), Lib.hid (Chg.refl _ _)⟩
  case round =>
    obtain ⟨k, hk, rfl, rfl, OW, CG⟩ := hrel
    by_cases hlt : k < l.length
    · obtain ⟨x, hx⟩ : ∃ x, l[k]? = some x := ⟨_, List.getElem?_eq_getElem hlt⟩
      have hok := OK.out.2 x (List.mem_of_getElem? hx)
      have AT := partL_at (grow1 t n) hx
      have c1 := own_cell OW.out (flat_at (cells := Wy.cells) (n := 3) (fun x => rfl) (j := 1) (v := .int .i64 x.w) rfl AT)
      have c2 := own_cell OW.out (flat_at (cells := Wy.cells) (n := 3) (fun x => rfl) (j := 2) (v := .int .i64 x.c) rfl AT)
      have f1 := own_free OW.out (k * 3 + 1)
      have hgl := (own_lt OW.out).2
      have OW' := Lib.hid (fun u => own_set OW.out (j := k * 3 + 1) (by rw [flat_len (n := 3) (fun x => rfl), partL_len]; omega) u)
      have FS := Lib.hid (flat_set (cells := Wy.cells) (n := 3) (fun x => rfl) (v := .int .i64 (x.w + max x.c 0 * t / n)) (x := x) (x' := grow1 t n x) (j := 1) (by omega) rfl AT)
      have PS := Lib.hid (partL_set (grow1 t n) hx)
      have GS := Lib.hid (growS_step (t := t) (n := n) hx)
      have GB := growS_le h0 h1 (l := l.take k) (fun y hy => (OK.out.2 y (List.mem_of_mem_take hy)).2.2.2.1)
      rw [List.length_take, Nat.min_eq_left (by omega)] at GB
      have BL := by_le (c := x.c) h0 h1
      have hm0 : 0 ≤ max x.c 0 * t := Int.mul_nonneg (by omega) (by omega)
      have hm1 : max x.c 0 * t ≤ 100000 * 1099511627776 := Int.mul_le_mul (by omega) (by omega) (by omega) (by omega)
      have hmw : IntKind.i64.wrap (max x.c 0 * t) = max x.c 0 * t := IntWalk.i64_in _ ⟨by omega, by omega⟩
      have htd : (max x.c 0 * t).tdiv n = max x.c 0 * t / n := Int.tdiv_eq_ediv_of_nonneg hm0
      have hq : IntKind.i64.wrap (max x.c 0 * t / n) = max x.c 0 * t / n := IntWalk.i64_in _ ⟨by omega, by omega⟩
      have hn0 : (n == 0) = false := by simp; omega
      have hw1 : IntKind.i64.wrap (x.w + max x.c 0 * t / n) = x.w + max x.c 0 * t / n := IntWalk.i64_in _ ⟨by omega, by omega⟩
      have hw2 : IntKind.i64.wrap (growS t n (l.take k) + max x.c 0 * t / n) = growS t n (l.take k) + max x.c 0 * t / n := IntWalk.i64_in _ ⟨by omega, by omega⟩
      have d0 : decide ((k : Int) < (l.length : Int)) = true := decide_eq_true (by omega)
      have hk1 : IntKind.i64.wrap ((k : Int) + 1) = (k : Int) + 1 := IntWalk.i64_in _ ⟨by omega, by omega⟩
      have k1 : (0 : Int) ≤ (k : Int) := by omega
      have k2 : (k : Int) < (l.length : Int) := by omega
      obtain ⟨rv, xw, xc⟩ := x
      dsimp only at *
      clear hx AT
      go_wp2_with fail
      go_roundw
      case rel => exact ⟨k + 1, by omega, by go_num, by rw [GS.out], Lib.hid (by rw [← PS.out, ← FS.out]; exact OW'.out _), Lib.hid (Chg.setCell CG.out (fun _ => rfl) _ _)⟩
      case measure => simp [intOf]; omega
    · have d0 : decide ((k : Int) < (l.length : Int)) = false := decide_eq_false (by omega)
      obtain rfl : k = l.length := by omega
      have OW := OW.out
      rw [partL_all] at OW
      have OW := Lib.hid OW
      go_wp2_with fail
      go_ret
      exact ⟨by rw [List.take_length]; rfl, OW.out, CG.out⟩
/-- The first k have lost what they are to, g at the start. -/
def lossL : List Wy → Int → Int
  | [], g => g
  | x :: r, g => lossL r (g - by1 g x)
theorem loseL_append (a b : List Wy) (g : Int) : loseL (a ++ b) g = loseL a g ++ loseL b (lossL a g) := by
  induction a generalizing g with
  | nil => rfl
  | cons x a ih => rw [List.cons_append, loseL, loseL, lossL, ih]; rfl
theorem lossL_append (a b : List Wy) (g : Int) : lossL (a ++ b) g = lossL b (lossL a g) := by
  induction a generalizing g with
  | nil => rfl
  | cons x a ih => rw [List.cons_append, lossL, lossL, ih]
theorem loseL_len (a : List Wy) (g : Int) : (loseL a g).length = a.length := by
  induction a generalizing g with
  | nil => rfl
  | cons x a ih => rw [loseL, List.length_cons, List.length_cons, ih]
theorem lossL_le (a : List Wy) (g : Int) (h : 0 ≤ g) : 0 ≤ lossL a g ∧ lossL a g ≤ g := by
  induction a generalizing g with
  | nil => exact ⟨h, Int.le_refl _⟩
  | cons x a ih =>
    rw [lossL]
    have h2 : 0 ≤ by1 g x ∧ by1 g x ≤ g := by unfold by1; omega
    have := ih (g - by1 g x) (by omega)
    omega
def partG (l : List Wy) (g : Int) (k : Nat) : List Wy := loseL (l.take k) g ++ l.drop k
theorem partG_len (l : List Wy) (g : Int) (k : Nat) : (partG l g k).length = l.length := by
  unfold partG
  rw [List.length_append, loseL_len, List.length_take, List.length_drop]; omega
theorem partG_at {l : List Wy} (g : Int) {k : Nat} {x : Wy} (h : l[k]? = some x) : (partG l g k)[k]? = some x := by
  have hl := (List.getElem?_eq_some_iff.1 h).1
  unfold partG
  rw [List.getElem?_append_right (by rw [loseL_len, List.length_take]; omega), loseL_len, List.length_take, Nat.min_eq_left (by omega), Nat.sub_self, List.getElem?_drop, Nat.add_zero]
  exact h
theorem partG_set {l : List Wy} (g : Int) {k : Nat} {x : Wy} (h : l[k]? = some x) : (partG l g k).set k ⟨x.rev, x.w - by1 (lossL (l.take k) g) x, x.c⟩ = partG l g (k + 1) ∧ lossL (l.take (k + 1)) g = lossL (l.take k) g - by1 (lossL (l.take k) g) x := by
  obtain ⟨hl, e⟩ := List.getElem?_eq_some_iff.1 h
  unfold partG
  rw [List.set_append_right _ _ (by rw [loseL_len, List.length_take]; omega), loseL_len, List.length_take, Nat.min_eq_left (by omega), Nat.sub_self, List.drop_eq_getElem_cons hl, List.set_cons_zero, List.take_add_one, h, loseL_append, lossL_append]
  exact ⟨by simp [loseL], rfl⟩
set_option maxHeartbeats 4000000 in
theorem lose_any (g : Nat) (l : List Wy) (c : Nat) (s : Int) (base : Nat) (w : World) (ok : WOk l) (h0 : 0 ≤ s) (h2 : s ≤ 1099511627776) (h : w.ownsRow base 106 3 (.slice (some ⟨g, 0, none⟩) l.length c) l.length (l.flatMap Wy.cells)) :
    Calls Try.prog 59 #[.slice (some ⟨g, 0, none⟩) l.length c, .int .i64 s] w fun e w' => e = .returned (.tuple #[]) ∧ w'.ownsRow base 106 3 (.slice (some ⟨g, 0, none⟩) l.length c) l.length ((loseL l s).flatMap Wy.cells) ∧ Chg (fun k => k = g) w w' := by
  have H := Lib.hid h
  have OK := Lib.hid ok
  have hl := ok.1
  have hg := own_lt h
  clear h ok
  go_enter Try.func59, Try.ntmps59
  go_wp2_with fail
  go_loopw [1, 8] (fun av i wr => ∃ k : Nat, k ≤ l.length ∧ i = .int .i64 k ∧ av = .int .i64 (lossL (l.take k) s) ∧ Hid (wr.ownsRow base 106 3 (.slice (some ⟨g, 0, none⟩) l.length c) l.length ((partG l s k).flatMap Wy.cells)) ∧ Hid (Chg (fun k => k = g) w wr)) (fun _ i _ => l.length - (intOf i).toNat)
  case atStart => exact ⟨0, by omega, rfl, rfl, H, Lib.hid (Chg.refl _ _)⟩
  case round =>
    obtain ⟨k, hk, rfl, rfl, OW, CG⟩ := hrel
    by_cases hlt : k < l.length
    · obtain ⟨x, hx⟩ : ∃ x, l[k]? = some x := ⟨_, List.getElem?_eq_getElem hlt⟩
      have hok := OK.out.2 x (List.mem_of_getElem? hx)
      have AT := partG_at s hx
      have c1 := own_cell OW.out (flat_at (cells := Wy.cells) (n := 3) (fun x => rfl) (j := 1) (v := .int .i64 x.w) rfl AT)
      have c2 := own_cell OW.out (flat_at (cells := Wy.cells) (n := 3) (fun x => rfl) (j := 2) (v := .int .i64 x.c) rfl AT)
      have f1 := own_free OW.out (k * 3 + 1)
      have hgl := (own_lt OW.out).2
      have OW' := Lib.hid (fun u => own_set OW.out (j := k * 3 + 1) (by rw [flat_len (n := 3) (fun x => rfl), partG_len]; omega) u)
      have SL := lossL_le (l.take k) s h0
      have PS := partG_set s hx
      have FS := Lib.hid (flat_set (cells := Wy.cells) (n := 3) (fun x => rfl) (v := .int .i64 (x.w - by1 (lossL (l.take k) s) x)) (x := x) (x' := ⟨x.rev, x.w - by1 (lossL (l.take k) s) x, x.c⟩) (j := 1) (by omega) rfl AT)
      have P1 := Lib.hid PS.1
      have P2 := Lib.hid PS.2
      clear PS
      unfold by1 at FS P1 P2
      generalize lossL (l.take k) s = q at *
      have hw0 : IntKind.i64.wrap (-x.c) = -x.c := IntWalk.i64_in _ ⟨by omega, by omega⟩
      have hw1 : IntKind.i64.wrap (x.w - min (max (-x.c) 0) q) = x.w - min (max (-x.c) 0) q := IntWalk.i64_in _ ⟨by omega, by omega⟩
      have hw2 : IntKind.i64.wrap (q - min (max (-x.c) 0) q) = q - min (max (-x.c) 0) q := IntWalk.i64_in _ ⟨by omega, by omega⟩
      have d0 : decide ((k : Int) < (l.length : Int)) = true := decide_eq_true (by omega)
      have hk1 : IntKind.i64.wrap ((k : Int) + 1) = (k : Int) + 1 := IntWalk.i64_in _ ⟨by omega, by omega⟩
      have k1 : (0 : Int) ≤ (k : Int) := by omega
      have k2 : (k : Int) < (l.length : Int) := by omega
      obtain ⟨rv, xw, xc⟩ := x
      dsimp only at *
      clear hx AT
      go_wp2_with fail
      go_roundw
      case rel => exact ⟨k + 1, by omega, by go_num, by rw [P2.out], Lib.hid (by rw [← P1.out, ← FS.out]; exact OW'.out _), Lib.hid (Chg.setCell CG.out (fun _ => rfl) _ _)⟩
      case measure => simp [intOf]; omega
    · have d0 : decide ((k : Int) < (l.length : Int)) = false := decide_eq_false (by omega)
      obtain rfl : k = l.length := by omega
      have E : Hid (partG l s l.length = loseL l s) := Lib.hid (by unfold partG; rw [List.take_length, List.drop_length, List.append_nil])
      go_wp2_with fail
      refine bodyPost_end (results_none rfl _ _ _) rfl ?_
      exact ⟨rfl, by rw [← E.out]; exact OW.out, CG.out⟩

theorem weightyL_step {l : List Wy} {k : Nat} {x : Wy} (h : l[k]? = some x) : weightyL (l.take (k + 1)) = weightyL (l.take k) ++ wgt x := by
  unfold weightyL
  rw [List.take_add_one, h, List.flatMap_append]; simp
theorem weightyL_len (l : List Wy) : (weightyL l).length ≤ l.length := by
  induction l with
  | nil => simp [weightyL]
  | cons x l ih =>
    have : weightyL (x :: l) = wgt x ++ weightyL l := rfl
    rw [this, List.length_append, List.length_cons]
    have : (wgt x).length ≤ 1 := by unfold wgt; split <;> simp
    omega
set_option maxHeartbeats 4000000 in
theorem weighty_any (a : Option Addr) (l : List Wy) (c : Nat) (w : World) (hl : l.length ≤ 4000) (hr : ∀ x, x ∈ l → x.rev.size ≤ 100000) (h : WySl w a l) :
    Calls Try.prog 61 #[.slice a l.length c] w fun e w' => ∃ v, e = .returned v ∧ w'.ownsRow w.heap.size 53 2 v (weightyL l).length ((weightyL l).flatMap Shr.cells) ∧ Grow.G w w' := by
  have HS := Lib.hid h
  have HR := Lib.hid hr
  clear h hr
  obtain ⟨i0, hi, ha0, ha1, ha2⟩ := info_parts infoSh
  go_enter Try.func61, Try.ntmps61
  go_wp2_with fail
  go_loopw [3, 8] (fun rv i wr => ∃ (k : Nat) (v : Value), k ≤ l.length ∧ i = .int .i64 k ∧ v = rv ∧ Hid (wr.ownsRow w.heap.size 53 2 v (weightyL (l.take k)).length ((weightyL (l.take k)).flatMap Shr.cells)) ∧ Hid (Grow.G w wr)) (fun _ i _ => l.length - (intOf i).toNat)
  case atStart => exact ⟨0, _, by omega, rfl, rfl, Lib.hid (World.ownsRow_nil _ _ _ _), Lib.hid (Grow.G.refl _)⟩
  case round =>
    obtain ⟨k, v, hk, rfl, rfl, OW, G⟩ := hrel
    by_cases hlt : k < l.length
    · obtain ⟨x, hx⟩ : ∃ x, l[k]? = some x := ⟨_, List.getElem?_eq_getElem hlt⟩
      obtain ⟨b, off, rfl, hc⟩ := HS.out.spot hlt
      have c0 : wr.cell? ⟨b, off + k * 3, none⟩ = some (.string x.rev) := cell_later G.out (hc k x hx 0 _ rfl)
      have c1 : wr.cell? ⟨b, off + k * 3 + 1, none⟩ = some (.int .i64 x.w) := cell_later G.out (hc k x hx 1 _ rfl)
      have c2 : wr.cell? ⟨b, off + k * 3 + 2, none⟩ = some (.int .i64 x.c) := cell_later G.out (hc k x hx 2 _ rfl)
      have hb := cell_in c0
      have hrs := HR.out x (List.mem_of_getElem? hx)
      have WS := weightyL_step hx
      have WL := weightyL_len (l.take k)
      rw [List.length_take] at WL
      have CO := Lib.hid (fun w => rown_any ⟨x.rev, x.w⟩ w (by dsimp only; omega))
      have d0 : decide ((k : Int) < (l.length : Int)) = true := decide_eq_true (by omega)
      have hk1 : IntKind.i64.wrap ((k : Int) + 1) = (k : Int) + 1 := IntWalk.i64_in _ ⟨by omega, by omega⟩
      have k1 : (0 : Int) ≤ (k : Int) := by omega
      have k2 : (k : Int) < (l.length : Int) := by omega
      unfold wgt at WS
      obtain ⟨r, xw, xc⟩ := x
      dsimp only at *
      clear hx hc
      by_cases hp : 0 < xw
      · rw [if_pos hp] at WS
        have WS := Lib.hid WS
        have d1 : decide (0 < xw) = true := decide_eq_true hp
        have d2 : decide (xw > 0) = true := decide_eq_true hp
        clear hp
        generalize weightyL (l.take k) = acc at *
        go_wp2_with fail
        refine (CO.out _).mono ?_
        rintro e w2 ⟨rfl, hg2⟩
        have g3 := (Grow.G.alloc (Grow.G.refl wr) _).trans hg2
        have OW2 := Lib.hid (own_later OW.out g3)
        have G2 := Lib.hid (G.out.trans g3)
        have hs2 := G2.out.size
        clear hg2 g3 OW c0 c1 c2 hb
        go_wp2_with (at_builtin; refine Fr.wpList_append_fr _ rfl _ _ 37 rfl w.heap.size 53 i0 (.agg #[.string ⟨#[]⟩, .int .i64 0]) 2 24 Try.underlying37 hi ha0 ha1 ha2 rfl (by decide) _ _ _ rfl (own_later OW2.out (Grow.G.alloc (Grow.G.refl _) _)) ⟨w2.heap.size, 0, none⟩ 1 1 [.string r, .int .i64 xw] rfl rfl (news_new _ _ _ _ rfl) (by intro u hu; simp at hu; rcases hu with rfl | rfl <;> rfl) (by unfold maxLen; omega) (by omega) (by simp; omega) ?_; intro v' w' hown hfr; have OW' := Lib.hid hown; have G' := Lib.hid (own_grow (G2.out.trans (Grow.G.alloc (Grow.G.refl _) _)) (own_later OW2.out (Grow.G.alloc (Grow.G.refl _) _)) (Nat.le_refl _) hfr.g); clear hown hfr)
        go_roundw
        case rel => exact ⟨k + 1, _, by omega, by go_num, rfl, by rw [WS.out, List.length_append, List.flatMap_append]; exact OW', G'⟩
        case measure => simp [intOf]; omega
      · rw [if_neg hp, List.append_nil] at WS
        have WS := Lib.hid WS
        have d1 : decide (0 < xw) = false := decide_eq_false hp
        have d2 : decide (xw > 0) = false := decide_eq_false hp
        clear hp
        go_wp2_with fail
        go_roundw
        case rel => exact ⟨k + 1, _, by omega, by go_num, rfl, by rw [WS.out]; exact Lib.hid (own_later OW.out (Grow.G.alloc (Grow.G.refl _) _)), Lib.hid (G.out.trans (Grow.G.alloc (Grow.G.refl _) _))⟩
        case measure => simp [intOf]; omega
    · have d0 : decide ((k : Int) < (l.length : Int)) = false := decide_eq_false (by omega)
      have E : Hid (l.take k = l) := Lib.hid (List.take_of_length_le (by omega))
      go_wp2_with fail
      go_ret
      exact ⟨_, rfl, by rw [← E.out]; exact OW.out, G.out⟩

def Bd (B : Int) (x : Wy) : Prop := -B ≤ x.w ∧ x.w ≤ B ∧ -B ≤ x.c ∧ x.c ≤ B
theorem cstep_bd {B D : Int} (hD : 0 ≤ D) (hB : 0 ≤ B) {acc : List Wy} {x : Wy} (h : ∀ y, y ∈ acc → Bd B y) (hx : Bd D x) : ∀ y, y ∈ cstep acc x → Bd (B + D) y := by
  have hup : ∀ y, Bd B y → Bd (B + D) y := fun y h => by unfold Bd at *; omega
  have hx' : Bd (B + D) x := by unfold Bd at *; omega
  rcases List.eq_nil_or_concat acc with rfl | ⟨i, v, rfl⟩
  · rw [cstep_nil]; intro y hy; rw [List.mem_singleton] at hy; rw [hy]; exact hx'
  · rw [List.concat_eq_append] at *
    rw [cstep_snoc]
    split
    · intro y hy
      rcases List.mem_append.1 hy with q | q
      · exact hup y (h y (by simp [q]))
      · rw [List.mem_singleton] at q
        have := h v (by simp)
        rw [q]; unfold Bd at *; dsimp only at *; omega
    · intro y hy
      rcases List.mem_append.1 hy with q | q
      · exact hup y (h y q)
      · rw [List.mem_singleton] at q; rw [q]; exact hx'
theorem combW_bd {L : List Wy} (h : ∀ x, x ∈ L → Bd 1000 x) : ∀ k, k ≤ L.length → (∀ y, y ∈ combW (L.take k) → Bd (1000 * k) y) ∧ (combW (L.take k)).length ≤ k
  | 0, _ => ⟨fun y hy => by simp [combW] at hy, by simp [combW]⟩
  | k + 1, hk => by
    obtain ⟨x, hx⟩ : ∃ x, L[k]? = some x := ⟨_, List.getElem?_eq_getElem (by omega)⟩
    obtain ⟨h1, h2⟩ := combW_bd h k (by omega)
    rw [combW_step hx]
    have h3 := cstep_bd (by omega) (by omega) h1 (h x (List.mem_of_getElem? hx))
    refine ⟨fun y hy => ?_, ?_⟩
    · have := h3 y hy
      rw [show (1000 : Int) * ((k + 1 : Nat) : Int) = 1000 * k + 1000 by omega]
      exact this
    · rcases List.eq_nil_or_concat (combW (L.take k)) with e | ⟨i, v, e⟩
      · rw [e, cstep_nil]; simp
      · rw [List.concat_eq_append] at e
        rw [e] at h2 ⊢
        rw [cstep_snoc]
        split <;> simp at * <;> omega
theorem st_bd {l : List Shr} (h : Small l) : ∀ x, x ∈ l.map stW → Bd 1000 x := fun x hx => by
  obtain ⟨s, hs, rfl⟩ := List.mem_map.1 hx
  have := h.2 s hs
  unfold Bd stW; dsimp only; omega
theorem en_bd {l : List Shr} (h : Small l) : ∀ x, x ∈ l.map enW → Bd 1000 x := fun x hx => by
  obtain ⟨s, hs, rfl⟩ := List.mem_map.1 hx
  have := h.2 s hs
  unfold Bd enW; dsimp only; omega
theorem mrg_bd {a b : List Wy} (ha : ∀ x, x ∈ a → Bd 1000 x) (hb : ∀ x, x ∈ b → Bd 1000 x) : ∀ x, x ∈ mrgW a b → Bd 1000 x := fun x hx => by
  have hx := (List.merge_perm_append (xs := a) (ys := b) leW).mem_iff.1 hx
  rcases List.mem_append.1 hx with h | h
  · exact ha x h
  · exact hb x h
set_option maxHeartbeats 8000000 in
theorem ways_any (a : Option Addr) (l : List Shr) (c : Nat) (b : Option Addr) (m : List Shr) (d : Nat) (w : World) (s1 : Small l) (s2 : Small m) (h1 : ShSl w a l) (h2 : ShSl w b m) :
    Calls Try.prog 58 #[.slice a l.length c, .slice b m.length d] w fun e w' => ∃ v, e = .returned v ∧ w'.ownsRow w.heap.size 106 3 v (combW (mrgW (l.map stW) (m.map enW))).length ((combW (mrgW (l.map stW) (m.map enW))).flatMap Wy.cells) ∧ Grow.G w w' := by
  have E1 := Lib.hid (eachB_any a l c w s1 h1)
  have E2 := Lib.hid (fun w' (g : Grow.G w w') => eachE_any b m d w' s2 (SlOf.later h2 g))
  have MB := Lib.hid (mrg_bd (st_bd s1) (en_bd s2))
  have hl := s1.1
  have hm := s2.1
  clear h1 h2 s1 s2
  have LM : (mrgW (l.map stW) (m.map enW)).length ≤ 2000 := by
    have h := mrgW_len (l.map stW) (m.map enW)
    rw [List.length_map, List.length_map] at h
    omega
  generalize hL : mrgW (l.map stW) (m.map enW) = L at *
  have HL := Lib.hid hL
  clear hL
  obtain ⟨i0, hi, ha0, ha1, ha2⟩ := info_parts infoWy
  go_enter Try.func58, Try.ntmps58
  go_wp2_with fail
  refine E1.out.mono ?_
  rintro e w1 ⟨b1, rfl, hb1, B1, hg1⟩
  have S1 := Lib.hid (SlOf.blk (cells := Wy.cells) (n := 3) (fun x => rfl) (more := []) (by rw [List.append_nil]; exact B1))
  clear B1 E1
  go_wp2_with fail
  refine (E2.out _ hg1).mono ?_
  rintro e w2 ⟨b2, rfl, hb2, B2, hg2⟩
  have S2 := Lib.hid (SlOf.blk (cells := Wy.cells) (n := 3) (fun x => rfl) (more := []) (by rw [List.append_nil]; exact B2))
  clear B2 E2
  have ml1 : (l.map stW).length = l.length := List.length_map _
  have ml2 : (m.map enW).length = m.length := List.length_map _
  have MG := Lib.hid (merge_any _ (l.map stW) l.length _ (m.map enW) m.length w2 (by omega) (by omega) (by omega) (by omega) (by omega) (by omega) (SlOf.later S1.out hg2) S2.out)
  rw [ml1, ml2, HL.out] at MG
  clear S1 S2 ml1 ml2
  go_wp2_with fail
  refine MG.out.mono ?_
  rintro e w3 ⟨v3, rfl, O3, hg3⟩
  obtain ⟨a3, c3, rfl⟩ := own_shape O3
  have S3 := Lib.hid (SlOf.own (cells := Wy.cells) (fun x => rfl) O3)
  have G3 := Lib.hid ((hg1.trans hg2).trans hg3)
  have hs3 := G3.out.size
  clear O3 MG hg1 hg2 hg3 hb1 hb2
  go_wp2_with fail
  go_loopw [5, 15] (fun rv i wr => ∃ (k : Nat) (v : Value), k ≤ L.length ∧ i = .int .i64 k ∧ v = rv ∧ Hid (wr.ownsRow w3.heap.size 106 3 v (combW (L.take k)).length ((combW (L.take k)).flatMap Wy.cells)) ∧ Hid (Grow.G w3 wr)) (fun _ i _ => L.length - (intOf i).toNat)
  case atStart => exact ⟨0, _, by omega, rfl, rfl, Lib.hid (World.ownsRow_nil _ _ _ _), Lib.hid (Grow.G.refl _)⟩
  case round =>
    obtain ⟨k, v, hk, rfl, rfl, OW, G⟩ := hrel
    by_cases hlt : k < L.length
    · obtain ⟨x, hx⟩ : ∃ x, L[k]? = some x := ⟨_, List.getElem?_eq_getElem hlt⟩
      obtain ⟨b, off, rfl, hc⟩ := S3.out.spot hlt
      have c0 : wr.cell? ⟨b, off + k * 3, none⟩ = some (.string x.rev) := cell_later G.out (hc k x hx 0 _ rfl)
      have c1 : wr.cell? ⟨b, off + k * 3 + 1, none⟩ = some (.int .i64 x.w) := cell_later G.out (hc k x hx 1 _ rfl)
      have c2 : wr.cell? ⟨b, off + k * 3 + 2, none⟩ = some (.int .i64 x.c) := cell_later G.out (hc k x hx 2 _ rfl)
      have hb := cell_in c0
      have XB := MB.out x (List.mem_of_getElem? hx)
      obtain ⟨CB, CL⟩ := combW_bd MB.out k (by omega)
      have CS := combW_step hx
      have d0 : decide ((k : Int) < (L.length : Int)) = true := decide_eq_true (by omega)
      have hk1 : IntKind.i64.wrap ((k : Int) + 1) = (k : Int) + 1 := IntWalk.i64_in _ ⟨by omega, by omega⟩
      have k1 : (0 : Int) ≤ (k : Int) := by omega
      have k2 : (k : Int) < (L.length : Int) := by omega
      obtain ⟨r, xw, xc⟩ := x
      unfold Bd at XB
      dsimp only at *
      clear hx hc
      have HB := Lib.hid CB
      have HCS := Lib.hid CS
      clear CB CS
      generalize combW (L.take k) = acc at *
      have g1 := Grow.G.alloc (Grow.G.refl wr) (.cells #[.string r, .int .i64 xw, .int .i64 xc] 106)
      have Q1 := Blk.new wr #[.string r, .int .i64 xw, .int .i64 xc] 106
      rcases List.eq_nil_or_concat acc with rfl | ⟨ini, y, rfl⟩
      · obtain ⟨a4, c4, rfl⟩ := own_shape OW.out
        simp only [List.length_nil, List.flatMap_nil] at OW
        have CS : Hid (combW (L.take (k + 1)) = [⟨r, xw, xc⟩]) := Lib.hid (by rw [HCS.out]; rfl)
        have Q3 := Lib.hid (fun (w' : World) (h : Chg (fun _ => False) (wr.alloc (.cells #[.string r, .int .i64 xw, .int .i64 xc] 106)) w') => (⟨h.cell (Blk.at (cs := [.string r, .int .i64 xw, .int .i64 xc]) (k := 0) Q1 rfl) id, h.cell (Blk.at (cs := [.string r, .int .i64 xw, .int .i64 xc]) (k := 1) Q1 rfl) id, h.cell (Blk.at (cs := [.string r, .int .i64 xw, .int .i64 xc]) (k := 2) Q1 rfl) id, trivial⟩ : w'.cell? ⟨wr.heap.size, 0, none⟩ = some (.string r) ∧ w'.cell? ⟨wr.heap.size, 1, none⟩ = some (.int .i64 xw) ∧ w'.cell? ⟨wr.heap.size, 2, none⟩ = some (.int .i64 xc) ∧ True))
        clear HCS HB CL
        simp only [List.length_nil]
        go_wp2_with fail
        clear c0 c1 c2
        refine Evo2.start' (ℓ := none) (S := Chg (fun _ => False)) (E := Grow.G) (by kernel_rfl) ⟨Chg.pre _, by decide +kernel, (by intro c a d v w h; cases d <;> exact h), by decide +kernel⟩ (fun ok => ?_)
        refine Evo2.va ok 0 _ _ ?_
        refine Evo2.va ok 1 _ _ ?_
        refine Evo2.va ok 2 _ _ ?_
        first | (refine Evo2.va ok 3 _ _ ?_) | (refine Evo2.vi ok 3 _ ?_)
        first | (refine Evo2.va ok 4 _ _ ?_) | (refine Evo2.vi ok 4 _ ?_)
        first | (refine Evo2.va ok 5 _ _ ?_) | (refine Evo2.vi ok 5 _ ?_)
        first | (refine Evo2.va ok 6 _ _ ?_) | (refine Evo2.vi ok 6 _ ?_)
        first | (refine Evo2.vl ok 7 Q3.out (Chg.refl (fun _ => False) _) _ _ ?_) | (refine Evo2.va ok 7 _ _ ?_) | (refine Evo2.vi ok 7 _ ?_)
        first | (refine Evo2.va ok 8 _ _ ?_) | (refine Evo2.vi ok 8 _ ?_)
        first | (refine Evo2.vl ok 9 Q3.out (Chg.refl (fun _ => False) _) _ _ ?_) | (refine Evo2.va ok 9 _ _ ?_) | (refine Evo2.vi ok 9 _ ?_)
        first | (refine Evo2.va ok 10 _ _ ?_) | (refine Evo2.vi ok 10 _ ?_)
        refine Evo2.va ok 11 _ _ ?_
        refine Evo2.done (by decide +kernel) (fun wz gz => ?_)
        have AZ := Chg.trans (Chg.refl (fun _ => False) _) (Chg.grow gz)
        have G6 := Lib.hid (g1.trans (g0 AZ))
        have OW6 := Lib.hid (own_later OW.out G6.out)
        obtain ⟨q0, q1, q2, _⟩ := Q3.out _ AZ
        have hs6 := G6.out.size
        have hs7 := G.out.size
        clear AZ gz g1 Q1
        generalize wz = W6 at *
        go_wp2_with (at_builtin; refine Fr.wpList_append_fr _ rfl _ _ 97 rfl w3.heap.size 106 i0 (.agg #[.string ⟨#[]⟩, .int .i64 0, .int .i64 0]) 3 32 Try.underlying97 hi ha0 ha1 ha2 rfl (by decide) _ _ _ rfl (own_later OW6.out (Grow.G.alloc (Grow.G.refl _) _)) ⟨W6.heap.size, 0, none⟩ 1 1 [.string r, .int .i64 xw, .int .i64 xc] rfl rfl (news_new _ _ _ _ rfl) (by intro u hu; simp at hu; rcases hu with rfl | rfl | rfl <;> rfl) (by unfold maxLen; omega) (by omega) (by simp; omega) ?_; intro v' w' hown hfr; have OW' := Lib.hid hown; have G' := Lib.hid (own_grow ((G.out.trans G6.out).trans (Grow.G.alloc (Grow.G.refl _) _)) (own_later OW6.out (Grow.G.alloc (Grow.G.refl _) _)) (Nat.le_refl _) hfr.g); clear hown hfr)
        go_roundw
        case rel => exact ⟨k + 1, _, by omega, by go_num, rfl, by rw [CS.out]; exact OW', G'⟩
        case measure => simp [intOf]; omega
      · rw [List.concat_eq_append] at *
        have HY := HB.out y (by simp)
        have hbr := cell_in c0
        have yl : ini.length + 1 ≤ k := by simpa using CL
        have AT : (ini ++ [y])[ini.length]? = some y := by simp
        obtain ⟨g, c4, rfl, hgb⟩ := own_some OW.out (by simp)
        have hgw := (own_lt OW.out).2
        have HCS2 : Hid (combW (L.take (k + 1)) = if y.rev = r then ini ++ [⟨y.rev, y.w + xw, y.c + xc⟩] else ini ++ [y] ++ [⟨r, xw, xc⟩]) := Lib.hid (by rw [HCS.out, cstep_snoc])
        have hll : (ini ++ [y]).length = ini.length + 1 := by simp
        rw [hll] at OW
        have C0 := Lib.hid (flat_at (cells := Wy.cells) (n := 3) (fun x => rfl) (j := 0) (v := .string y.rev) rfl AT)
        have C1 := Lib.hid (flat_at (cells := Wy.cells) (n := 3) (fun x => rfl) (j := 1) (v := .int .i64 y.w) rfl AT)
        have C2 := Lib.hid (flat_at (cells := Wy.cells) (n := 3) (fun x => rfl) (j := 2) (v := .int .i64 y.c) rfl AT)
        have F1 := Lib.hid (flat_set (cells := Wy.cells) (n := 3) (fun x => rfl) (x := y) (x' := ⟨y.rev, y.w + xw, y.c⟩) (j := 1) (v := .int .i64 (y.w + xw)) (by omega) rfl AT)
        have F2 := Lib.hid (flat_set (cells := Wy.cells) (n := 3) (fun x => rfl) (x := ⟨y.rev, y.w + xw, y.c⟩) (x' := ⟨y.rev, y.w + xw, y.c + xc⟩) (l := ini ++ [⟨y.rev, y.w + xw, y.c⟩]) (k := ini.length) (j := 2) (v := .int .i64 (y.c + xc)) (by omega) rfl (by simp))
        have fl : ((ini ++ [y]).flatMap Wy.cells).length = (ini.length + 1) * 3 := by rw [flat_len (n := 3) (fun x => rfl), hll]
        have FL := Lib.hid fl
        clear fl
        unfold Bd at HY
        have hy1 : IntKind.i64.wrap (y.w + xw) = y.w + xw := IntWalk.i64_in _ ⟨by omega, by omega⟩
        have hy2 : IntKind.i64.wrap (y.c + xc) = y.c + xc := IntWalk.i64_in _ ⟨by omega, by omega⟩
        have hz1 : (0 : Int) ≤ (ini.length : Int) := by omega
        have hz2 : (ini.length : Int) < (ini.length : Int) + 1 := by omega
        have HF : Hid (∀ (l : List Wy), ini ++ [y] = l → l.length = ini.length + 1) := Lib.hid (fun l h => by rw [← h]; exact hll)
        simp only [hll]
        clear hll AT HCS HB CL
        generalize hcs : (ini ++ [y]).flatMap Wy.cells = cs at *
        have HCs := Lib.hid hcs
        clear hcs
        have Q3 := Lib.hid (fun (w' : World) (h : Chg (fun _ => False) (wr.alloc (.cells #[.string r, .int .i64 xw, .int .i64 xc] 106)) w') => (⟨h.cell (Blk.at (cs := [.string r, .int .i64 xw, .int .i64 xc]) (k := 0) Q1 rfl) id, h.cell (Blk.at (cs := [.string r, .int .i64 xw, .int .i64 xc]) (k := 1) Q1 rfl) id, h.cell (Blk.at (cs := [.string r, .int .i64 xw, .int .i64 xc]) (k := 2) Q1 rfl) id, trivial⟩ : w'.cell? ⟨wr.heap.size, 0, none⟩ = some (.string r) ∧ w'.cell? ⟨wr.heap.size, 1, none⟩ = some (.int .i64 xw) ∧ w'.cell? ⟨wr.heap.size, 2, none⟩ = some (.int .i64 xc) ∧ True))
        have K6 := Lib.hid (fun (w' : World) (h : Chg (fun _ => False) (wr.alloc (.cells #[.string r, .int .i64 xw, .int .i64 xc] 106)) w') => (⟨(Q3.out w' h).1, (Q3.out w' h).2.1, (Q3.out w' h).2.2.1, own_cell (own_later OW.out (g1.trans (g0 h))) C0.out, own_cell (own_later OW.out (g1.trans (g0 h))) C1.out, own_cell (own_later OW.out (g1.trans (g0 h))) C2.out, trivial⟩ : w'.cell? ⟨wr.heap.size, 0, none⟩ = some (.string r) ∧ w'.cell? ⟨wr.heap.size, 1, none⟩ = some (.int .i64 xw) ∧ w'.cell? ⟨wr.heap.size, 2, none⟩ = some (.int .i64 xc) ∧ w'.cell? ⟨g, ini.length * 3, none⟩ = some (.string y.rev) ∧ w'.cell? ⟨g, ini.length * 3 + 1, none⟩ = some (.int .i64 y.w) ∧ w'.cell? ⟨g, ini.length * 3 + 2, none⟩ = some (.int .i64 y.c) ∧ True))
        obtain ⟨yr, yw, yc⟩ := y
        dsimp only at *
        by_cases e : yr = r
        · subst e
          have CS : Hid (combW (L.take (k + 1)) = ini ++ [⟨yr, yw + xw, yc + xc⟩]) := Lib.hid (by rw [HCS2.out, if_pos rfl])
          have E : (yr.toList == yr.toList) = true := eqS_iff.2 rfl
          clear HCS2
          go_wp2_with fail
          clear c0 c1 c2 E
          refine Evo2.start' (ℓ := none) (S := Chg (fun _ => False)) (E := Grow.G) (by kernel_rfl) ⟨Chg.pre _, by decide +kernel, (by intro c a d v w h; cases d <;> exact h), by decide +kernel⟩ (fun ok => ?_)
          refine Evo2.va ok 0 _ _ ?_
          refine Evo2.va ok 1 _ _ ?_
          refine Evo2.va ok 2 _ _ ?_
          first | (refine Evo2.va ok 3 _ _ ?_) | (refine Evo2.vi ok 3 _ ?_)
          first | (refine Evo2.va ok 4 _ _ ?_) | (refine Evo2.vi ok 4 _ ?_)
          first | (refine Evo2.va ok 5 _ _ ?_) | (refine Evo2.vi ok 5 _ ?_)
          first | (refine Evo2.va ok 6 _ _ ?_) | (refine Evo2.vi ok 6 _ ?_)
          first | (refine Evo2.vl ok 7 K6.out (Chg.refl (fun _ => False) _) _ _ ?_) | (refine Evo2.va ok 7 _ _ ?_) | (refine Evo2.vi ok 7 _ ?_)
          first | (refine Evo2.va ok 8 _ _ ?_) | (refine Evo2.vi ok 8 _ ?_)
          first | (refine Evo2.vl ok 9 K6.out (Chg.refl (fun _ => False) _) _ _ ?_) | (refine Evo2.va ok 9 _ _ ?_) | (refine Evo2.vi ok 9 _ ?_)
          first | (refine Evo2.va ok 10 _ _ ?_) | (refine Evo2.vi ok 10 _ ?_)
          refine Evo2.va ok 11 _ _ ?_
          refine Evo2.done (by decide +kernel) (fun wz gz => ?_)
          have AZ := Chg.trans (Chg.refl (fun _ => False) _) (Chg.grow gz)
          have G6 := Lib.hid (g1.trans (g0 AZ))
          have K7 := Lib.hid (fun (w' : World) (h : Chg (fun _ => False) wz w') => K6.out w' (AZ.trans h))
          have OW6 := Lib.hid (own_later OW.out G6.out)
          clear AZ gz g1 Q1 K6 Q3
          generalize wz = W6 at *
          go_wp2_with fail
          refine Evo2.start' (ℓ := some 10) (S := Chg (fun _ => False)) (E := Grow.G) (by kernel_rfl) ⟨Chg.pre _, by decide +kernel, (by intro c a d v w h; cases d <;> exact h), by decide +kernel⟩ (fun ok => ?_)
          refine Evo2.va ok 0 _ _ ?_
          refine Evo2.va ok 1 _ _ ?_
          refine Evo2.va ok 2 _ _ ?_
          refine Evo2.va ok 3 _ _ ?_
          first | (refine Evo2.vl ok 4 K7.out (Chg.refl (fun _ => False) _) _ _ ?_) | (refine Evo2.va ok 4 _ _ ?_)
          refine Evo2.va ok 5 _ _ ?_
          first | (refine Evo2.vl ok 6 K7.out (Chg.refl (fun _ => False) _) _ _ ?_) | (refine Evo2.va ok 6 _ _ ?_)
          refine Evo2.va ok 7 _ _ ?_
          refine Evo2.va ok 8 _ _ ?_
          refine Evo2.va ok 9 _ _ ?_
          refine Evo2.all [10] (by decide +kernel) rfl ?_
          intro wp1 gp1 iq hq
          simp only [List.mem_cons, List.mem_nil_iff, or_false] at hq
          have AP1 := Chg.trans (Chg.refl (fun _ => False) _) (Chg.grow gp1)
          subst hq
          refine Evo2.runs (by rfl) (by rfl) (fun K' hK' => ?_)
          (try obtain ⟨q1, q2, q3, q4, q5, q6⟩ := K7.out wp1 AP1)
          have O7 := own_later OW6.out (g0 AP1); have gl := (own_lt O7).2; have e7 := own_cell O7 C1.out; have f7 := own_free O7 (ini.length * 3 + 1); clear O7
          go_simp
          (try (simp only [Evo.after_value, Evo.after_skip]))
          refine hK'.out _ _ ?_
          clear hK'
          simp only [Act.put, L0, L1, L2]
          (try clear gl e7 f7)
          (try clear q1 q2 q3 q4 q5 q6)
          refine ⟨.inl (by first | rfl | trivial), ?_⟩
          refine Evo2.done (by decide +kernel) (fun wz gz => ?_)
          have O7 := Lib.hid (own_later (own_set (own_later OW6.out (g0 AP1)) (j := ini.length * 3 + 1) (by rw [FL.out]; omega) (.int .i64 (yw + xw))) gz)
          have CG7 := Lib.hid (Chg.trans (Chg.setCell (G := fun k => k = g) (Chg.mono AP1 (fun _ _ q => q.elim)) (fun _ => rfl) (ini.length * 3 + 1) (.int .i64 (yw + xw))) (Chg.grow gz))
          have q2 := (K7.out _ (Chg.refl _ _)).2.2.1
          have CN : Hid ((cs.set (ini.length * 3 + 1) (.int .i64 (yw + xw)))[ini.length * 3 + 2]? = some (.int .i64 yc)) := Lib.hid (by rw [List.getElem?_set_ne (by omega)]; exact C2.out)
          have CF : Hid ((cs.set (ini.length * 3 + 1) (.int .i64 (yw + xw))).set (ini.length * 3 + 2) (.int .i64 (yc + xc)) = (ini ++ [(⟨yr, yw + xw, yc + xc⟩ : Wy)]).flatMap Wy.cells) := Lib.hid (by
            have h1 := F1.out
            have h2 := F2.out
            have e1 : (ini ++ [(⟨yr, yw, yc⟩ : Wy)]).set ini.length (⟨yr, yw + xw, yc⟩ : Wy) = ini ++ [(⟨yr, yw + xw, yc⟩ : Wy)] := by simp
            have e2 : (ini ++ [(⟨yr, yw + xw, yc⟩ : Wy)]).set ini.length (⟨yr, yw + xw, yc + xc⟩ : Wy) = ini ++ [(⟨yr, yw + xw, yc + xc⟩ : Wy)] := by simp
            rw [e1] at h1
            rw [e2] at h2
            rw [h1, h2])
          have q2' := CG7.out.cell q2 (fun e => by have e : wr.heap.size = g := e; omega)
          have K8 := Lib.hid (fun (w' : World) (h : Chg (fun _ => False) wz w') => (⟨h.cell q2' id, own_cell (own_later O7.out (g0 h)) CN.out, trivial⟩ : w'.cell? ⟨wr.heap.size, 2, none⟩ = some (.int .i64 xc) ∧ w'.cell? ⟨g, ini.length * 3 + 2, none⟩ = some (.int .i64 yc) ∧ True))
          have G7 := Lib.hid ((Chg.trans (Chg.grow (G := fun k => k = g) (G.out.trans G6.out)) CG7.out).toGrow (fun k hk q => by have q : k = g := q; omega))
          clear q2 q2' K7 CG7 AP1 gz gp1 OW6
          generalize wz = W7 at *
          go_wp2_with fail
          refine Evo2.start' (ℓ := some 10) (S := Chg (fun _ => False)) (E := Grow.G) (by kernel_rfl) ⟨Chg.pre _, by decide +kernel, (by intro c a d v w h; cases d <;> exact h), by decide +kernel⟩ (fun ok => ?_)
          refine Evo2.va ok 0 _ _ ?_
          refine Evo2.va ok 1 _ _ ?_
          refine Evo2.va ok 2 _ _ ?_
          refine Evo2.va ok 3 _ _ ?_
          first | (refine Evo2.vl ok 4 K8.out (Chg.refl (fun _ => False) _) _ _ ?_) | (refine Evo2.va ok 4 _ _ ?_)
          refine Evo2.va ok 5 _ _ ?_
          first | (refine Evo2.vl ok 6 K8.out (Chg.refl (fun _ => False) _) _ _ ?_) | (refine Evo2.va ok 6 _ _ ?_)
          refine Evo2.va ok 7 _ _ ?_
          refine Evo2.va ok 8 _ _ ?_
          refine Evo2.va ok 9 _ _ ?_
          refine Evo2.all [10] (by decide +kernel) rfl ?_
          intro wp1 gp1 iq hq
          simp only [List.mem_cons, List.mem_nil_iff, or_false] at hq
          have AP1 := Chg.trans (Chg.refl (fun _ => False) _) (Chg.grow gp1)
          subst hq
          refine Evo2.runs (by rfl) (by rfl) (fun K' hK' => ?_)
          (try obtain ⟨q1, q2⟩ := K8.out wp1 AP1)
          have O8 := own_later O7.out (g0 AP1); have gl := (own_lt O8).2; have e7 := own_cell O8 CN.out; have f7 := own_free O8 (ini.length * 3 + 2); clear O8
          go_simp
          (try (simp only [Evo.after_value, Evo.after_skip]))
          refine hK'.out _ _ ?_
          clear hK'
          simp only [Act.put, L0, L1, L2]
          (try clear gl e7 f7)
          (try clear q1 q2)
          refine ⟨.inl (by first | rfl | trivial), ?_⟩
          refine Evo2.done (by decide +kernel) (fun wz gz => ?_)
          have O8 := own_later (own_set (own_later O7.out (g0 AP1)) (j := ini.length * 3 + 2) (by rw [List.length_set, FL.out]; omega) (.int .i64 (yc + xc))) gz
          rw [CF.out] at O8
          have O8 := Lib.hid O8
          have CG8 := Chg.trans (Chg.setCell (G := fun k => k = g) (Chg.mono AP1 (fun _ _ q => q.elim)) (fun _ => rfl) (ini.length * 3 + 2) (.int .i64 (yc + xc))) (Chg.grow gz)
          have G8 := Lib.hid ((Chg.trans (Chg.grow (G := fun k => k = g) G7.out) CG8).toGrow (fun k hk q => by have q : k = g := q; omega))
          clear CG8 AP1 gz gp1 O7 K8 CF CN
          go_wp2_with fail
          go_roundw
          case rel => exact ⟨k + 1, _, by omega, by go_num, rfl, by rw [CS.out, List.length_append]; exact O8, G8⟩
          case measure => simp [intOf]; omega
        · have CS : Hid (combW (L.take (k + 1)) = ini ++ [⟨yr, yw, yc⟩] ++ [⟨r, xw, xc⟩]) := Lib.hid (by rw [HCS2.out, if_neg e])
          have E : (yr.toList == r.toList) = false := neS_iff.2 e
          clear HCS2 e
          go_wp2_with fail
          clear c0 c1 c2
          refine Evo2.start' (ℓ := none) (S := Chg (fun _ => False)) (E := Grow.G) (by kernel_rfl) ⟨Chg.pre _, by decide +kernel, (by intro c a d v w h; cases d <;> exact h), by decide +kernel⟩ (fun ok => ?_)
          refine Evo2.va ok 0 _ _ ?_
          refine Evo2.va ok 1 _ _ ?_
          refine Evo2.va ok 2 _ _ ?_
          first | (refine Evo2.va ok 3 _ _ ?_) | (refine Evo2.vi ok 3 _ ?_)
          first | (refine Evo2.va ok 4 _ _ ?_) | (refine Evo2.vi ok 4 _ ?_)
          first | (refine Evo2.va ok 5 _ _ ?_) | (refine Evo2.vi ok 5 _ ?_)
          first | (refine Evo2.va ok 6 _ _ ?_) | (refine Evo2.vi ok 6 _ ?_)
          first | (refine Evo2.vl ok 7 K6.out (Chg.refl (fun _ => False) _) _ _ ?_) | (refine Evo2.va ok 7 _ _ ?_) | (refine Evo2.vi ok 7 _ ?_)
          first | (refine Evo2.va ok 8 _ _ ?_) | (refine Evo2.vi ok 8 _ ?_)
          first | (refine Evo2.vl ok 9 K6.out (Chg.refl (fun _ => False) _) _ _ ?_) | (refine Evo2.va ok 9 _ _ ?_) | (refine Evo2.vi ok 9 _ ?_)
          first | (refine Evo2.va ok 10 _ _ ?_) | (refine Evo2.vi ok 10 _ ?_)
          refine Evo2.va ok 11 _ _ ?_
          refine Evo2.done (by decide +kernel) (fun wz gz => ?_)
          have AZ := Chg.trans (Chg.refl (fun _ => False) _) (Chg.grow gz)
          have G6 := Lib.hid (g1.trans (g0 AZ))
          have OW6 := Lib.hid (own_later OW.out G6.out)
          obtain ⟨q0, q1, q2, _⟩ := Q3.out _ AZ
          have hs6 := G6.out.size
          have hs7 := G.out.size
          clear AZ gz g1 Q1
          generalize wz = W6 at *
          go_wp2_with (at_builtin; refine Fr.wpList_append_fr _ rfl _ _ 97 rfl w3.heap.size 106 i0 (.agg #[.string ⟨#[]⟩, .int .i64 0, .int .i64 0]) 3 32 Try.underlying97 hi ha0 ha1 ha2 rfl (by decide) _ _ _ rfl (own_later OW6.out (Grow.G.alloc (Grow.G.refl _) _)) ⟨W6.heap.size, 0, none⟩ 1 1 [.string r, .int .i64 xw, .int .i64 xc] rfl rfl (news_new _ _ _ _ rfl) (by intro u hu; simp at hu; rcases hu with rfl | rfl | rfl <;> rfl) (by unfold maxLen; omega) (by omega) (by simp; omega) ?_; intro v' w' hown hfr; have OW' := Lib.hid hown; have G' := Lib.hid (own_grow ((G.out.trans G6.out).trans (Grow.G.alloc (Grow.G.refl _) _)) (own_later OW6.out (Grow.G.alloc (Grow.G.refl _) _)) (Nat.le_refl _) hfr.g); clear hown hfr)
          go_roundw
          case rel => exact ⟨k + 1, _, by omega, by go_num, rfl, by rw [CS.out, List.length_append, List.length_append, List.flatMap_append, HCs.out]; exact OW', G'⟩
          case measure => simp [intOf]; omega
    · have d0 : decide ((k : Int) < (L.length : Int)) = false := decide_eq_false (by omega)
      have E : Hid (L.take k = L) := Lib.hid (List.take_of_length_le (by omega))
      go_wp2_with fail
      go_ret
      exact ⟨_, rfl, by rw [← E.out]; exact own_base OW.out hs3, G3.out.trans G.out⟩
end Go.Proofs.Ytjhfjjkfnmnkgaa
