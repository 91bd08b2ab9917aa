/- My own texts RlQ, RlK, laid in one file. -/
import Derived.Test.YtjhfjjkfnmnkgaaZ52
import Derived.Test.YtjhfjjkfnmnkgaaZ46

/- Shares on their way: what follows, plainly. -/
namespace Go.Proofs.Ytjhfjjkfnmnkgaa
set_option maxRecDepth 100000
set_option linter.unusedVariables false
set_option linter.unusedSimpArgs false
set_option linter.unnecessarySimpa false
open Go.RowKit Go.Args

/-- A list of Shares as it may be handed in. -/
structure Sd (l : List Shr) : Prop where
  asc : ascF ⟨#[]⟩ l = true
  sum : sumW l = 100
  size : ∀ s, s ∈ l → s.rev.size ≤ 100000
  len : l.length ≤ 500
theorem ascF_all : ∀ {l : List Shr} {a : ByteArray}, ascF a l = true → ∀ s, s ∈ l → shOk s = true
  | [], a, h, s, hs => by cases hs
  | x :: r, a, h, s, hs => by
    rw [ascF, Bool.and_eq_true, Bool.and_eq_true] at h
    rcases List.mem_cons.1 hs with rfl | hs
    · exact h.1.1
    · exact ascF_all h.2 s hs
theorem shOk_iff {s : Shr} : shOk s = true ↔ revTB s.rev = true ∧ 1 ≤ s.w ∧ s.w ≤ 100 := by
  unfold shOk
  rw [Bool.and_eq_true, Bool.and_eq_true, decide_eq_true_eq, decide_eq_true_eq, and_assoc]
namespace Sd
variable {l : List Shr}
theorem ok (h : Sd l) : ∀ s, s ∈ l → revTB s.rev = true ∧ 1 ≤ s.w ∧ s.w ≤ 100 := fun s hs => shOk_iff.1 (ascF_all h.asc s hs)
theorem small (h : Sd l) : Small l := ⟨by have := h.len; omega, fun s hs => by have := h.ok s hs; have := h.size s hs; omega⟩
theorem revs (h : Sd l) : Asc (l.map (·.rev)) := asc_revs (ascF_pair l _ h.asc).1
theorem sound (h : Sd l) : soundB l = true := by
  unfold soundB
  rw [h.asc, decide_eq_true h.sum]; rfl
theorem pos (h : Sd l) : 0 < l.length := by
  have := h.sum
  cases l with
  | nil => simp [sumW] at this
  | cons x r => simp
theorem wt (h : Sd l) (x : ByteArray) : 0 ≤ wtL l x ∧ wtL l x ≤ 100 := by
  rcases wtL_cases l x with ⟨s, hs, _, e⟩ | ⟨_, e⟩
  · have := h.ok s hs; omega
  · omega
end Sd
theorem mk_sd (zs : List Int) : Sd (mkS zs) := ⟨mkS_asc zs, mkS_sum zs, fun s hs => ((mkS_small zs).2 s hs).2.2, by have := mkS_len zs; omega⟩
/-- A sum over names. -/
def sumN (f : ByteArray → Int) : List ByteArray → Int
  | [] => 0
  | x :: r => f x + sumN f r
theorem sumN_add (f g : ByteArray → Int) (N : List ByteArray) : sumN (fun x => f x + g x) N = sumN f N + sumN g N := by
  induction N with
  | nil => rfl
  | cons x N ih => rw [sumN, sumN, sumN, ih]; omega
theorem sumN_zero {f : ByteArray → Int} {N : List ByteArray} (h : ∀ x, x ∈ N → f x = 0) : sumN f N = 0 := by
  induction N with
  | nil => rfl
  | cons x N ih => rw [sumN, h x (by simp), ih (fun y hy => h y (by simp [hy]))]; rfl
theorem sumN_congr {f g : ByteArray → Int} {N : List ByteArray} (h : ∀ x, x ∈ N → f x = g x) : sumN f N = sumN g N := by
  induction N with
  | nil => rfl
  | cons x N ih => rw [sumN, sumN, h x (by simp), ih (fun y hy => h y (by simp [hy]))]
theorem sumN_one {N : List ByteArray} (hN : Asc N) {n : ByteArray} (hn : n ∈ N) (v : Int) : sumN (fun x => if n = x then v else 0) N = v := by
  induction N with
  | nil => cases hn
  | cons x N ih =>
    obtain ⟨h1, h2⟩ := List.pairwise_cons.1 hN
    rw [sumN]
    by_cases e : n = x
    · rw [if_pos e, sumN_zero (fun y hy => if_neg (fun q => ltS_ne (h1 y hy) (e.symm.trans q)))]; omega
    · rw [if_neg e, ih h2 ((List.mem_cons.1 hn).resolve_left e)]; omega
theorem sumN_wt {N : List ByteArray} (hN : Asc N) : ∀ {l : List Shr}, Asc (l.map (·.rev)) → (∀ s, s ∈ l → s.rev ∈ N) → sumN (wtL l) N = sumW l
  | [], _, _ => sumN_zero (fun x _ => rfl)
  | s :: r, h, hm => by
    obtain ⟨h1, h2⟩ := List.pairwise_cons.1 h
    have ih := sumN_wt hN h2 (fun x hx => hm x (by simp [hx]))
    have e : sumN (wtL (s :: r)) N = sumN (fun x => (if s.rev = x then s.w else 0) + wtL r x) N := sumN_congr (fun x hx => by
      rw [wtL]
      by_cases e : s.rev = x
      · rw [if_pos e, if_pos e, wtL_none (fun y hy q => ltS_ne (h1 y.rev (List.mem_map_of_mem hy)) (e.trans q.symm))]; omega
      · rw [if_neg e, if_neg e]; omega)
    rw [e, sumN_add, sumN_one hN (hm s (by simp)), ih, sumW]
section
variable {A B : ByteArray → Int} {t n : Int}
theorem by_eq (t n : Int) (d : Int) : (if 0 < d then d * t / n else 0) = max d 0 * t / n := by
  split
  · rename_i h; rw [Int.max_eq_left (by omega)]
  · rename_i h; rw [Int.max_eq_right (by omega), Int.zero_mul, Int.zero_ediv]
theorem now1_eq (g : Int) (x : ByteArray) : now1 A B t n g x = A x + (if 0 < B x - A x then (B x - A x) * t / n else 0) - lost1 A B g x := by
  unfold now1 lost1
  by_cases h : A x < B x
  · rw [if_pos h, if_pos (show 0 < B x - A x by omega), if_neg (show ¬ B x < A x by omega)]; omega
  · rw [if_neg h, if_neg (show ¬ 0 < B x - A x by omega)]; omega
theorem lost1_bd {g : Int} (hg : 0 ≤ g) (x : ByteArray) : 0 ≤ lost1 A B g x ∧ lost1 A B g x ≤ g ∧ lost1 A B g x ≤ max (A x - B x) 0 := by
  unfold lost1; split <;> omega
/-- What one weighs lies between where it is from and where it goes to. -/
theorem now1_bd (h0 : 0 < t) (h1 : t < n) {g : Int} (hg : 0 ≤ g) (x : ByteArray) : min (A x) (B x) ≤ now1 A B t n g x ∧ now1 A B t n g x ≤ max (A x) (B x) := by
  have b := by_le (c := B x - A x) h0 h1
  have l := lost1_bd (A := A) (B := B) hg x
  rw [now1_eq, by_eq]
  have e : ¬ 0 < B x - A x → max (B x - A x) 0 * t / n = 0 := fun h => by rw [Int.max_eq_right (by omega), Int.zero_mul, Int.zero_ediv]
  by_cases h : 0 < B x - A x
  · omega
  · rw [e h]; omega
/-- By how much those ahead of a name are to lose. -/
def dB (A B : ByteArray → Int) (N : List ByteArray) (x : ByteArray) : Int := sumN (fun y => if ltS y x = true then max (A y - B y) 0 else 0) N
def dAll (A B : ByteArray → Int) (N : List ByteArray) : Int := sumN (fun y => max (A y - B y) 0) N
theorem dB_nonneg (N : List ByteArray) (x : ByteArray) : 0 ≤ dB A B N x := by
  unfold dB
  induction N with
  | nil => exact Int.le_refl _
  | cons y N ih => rw [sumN]; split <;> omega
theorem lossN_eq : ∀ (N : List ByteArray) (g : Int), 0 ≤ g → lossN A B N g = max (g - dAll A B N) 0
  | [], g, h => by unfold dAll; rw [sumN, lossN]; omega
  | x :: N, g, h => by
    have l := lost1_bd (A := A) (B := B) h x
    have d0 : 0 ≤ dAll A B N := by
      unfold dAll
      clear l h
      induction N with
      | nil => exact Int.le_refl _
      | cons y N ih => rw [sumN]; omega
    rw [lossN, lossN_eq N _ (by omega)]
    have e : lost1 A B g x = min (max (A x - B x) 0) g := by unfold lost1; split <;> omega
    have e2 : dAll A B (x :: N) = max (A x - B x) 0 + dAll A B N := rfl
    rw [e2, e]; omega
theorem sumW_app (a b : List Shr) : sumW (a ++ b) = sumW a + sumW b := by
  induction a with
  | nil => simp [sumW]
  | cons x a ih => rw [List.cons_append, sumW, sumW, ih]; omega
theorem sumW_out (h0 : 0 < t) (h1 : t < n) (hA : ∀ x, 0 ≤ A x) (hB : ∀ x, 0 ≤ B x) : ∀ (N : List ByteArray) (g : Int), 0 ≤ g → sumW (outN A B t n N g) = sumN A N + gsum A B t n N + (lossN A B N g - g)
  | [], g, _ => by simp [outN, sumW, sumN, gsum, lossN]
  | x :: N, g, h => by
    have l := lost1_bd (A := A) (B := B) h x
    have b := now1_bd (A := A) (B := B) h0 h1 h x
    have ih := sumW_out h0 h1 hA hB N (g - lost1 A B g x) (by omega)
    have e : sumW (if 0 < now1 A B t n g x then [⟨x, now1 A B t n g x⟩] else []) = now1 A B t n g x := by
      have := hA x
      have := hB x
      split
      · simp [sumW]
      · simp only [sumW]; omega
    rw [outN, sumW_app, e, ih, now1_eq, sumN, gsum, lossN]
    omega
theorem gsum_dAll (h0 : 0 < t) (h1 : t < n) (N : List ByteArray) : gsum A B t n N ≤ sumN B N - sumN A N + dAll A B N := by
  induction N with
  | nil => simp [gsum, sumN, dAll]
  | cons x N ih =>
    have b := by_le (c := B x - A x) h0 h1
    have e2 : dAll A B (x :: N) = max (A x - B x) 0 + dAll A B N := rfl
    rw [gsum, sumN, sumN, by_eq, e2]
    omega
theorem ascF_out (h0 : 0 < t) (h1 : t < n) (hA : ∀ x, 0 ≤ A x ∧ A x ≤ 100) (hB : ∀ x, 0 ≤ B x ∧ B x ≤ 100) : ∀ (N : List ByteArray) (g : Int) (p : ByteArray), 0 ≤ g → Asc N → (∀ x, x ∈ N → ltS p x = true ∧ revTB x = true) → ascF p (outN A B t n N g) = true
  | [], g, p, _, _, _ => rfl
  | x :: N, g, p, h, ha, hp => by
    obtain ⟨a1, a2⟩ := List.pairwise_cons.1 ha
    have l := lost1_bd (A := A) (B := B) h x
    have b := now1_bd (A := A) (B := B) h0 h1 h x
    have := hA x
    have := hB x
    rw [outN]
    split
    · rename_i hw
      rw [List.singleton_append, ascF]
      have e : shOk ⟨x, now1 A B t n g x⟩ = true := shOk_iff.2 ⟨(hp x (by simp)).2, by dsimp only; omega, by dsimp only; omega⟩
      rw [e, (hp x (by simp)).1, ascF_out h0 h1 hA hB N _ x (by omega) a2 (fun y hy => ⟨a1 y hy, (hp y (by simp [hy])).2⟩)]; rfl
    · rw [List.nil_append]
      exact ascF_out h0 h1 hA hB N _ p (by omega) a2 (fun y hy => hp y (by simp [hy]))
theorem out_mem : ∀ {N : List ByteArray} {g : Int} {s : Shr}, s ∈ outN A B t n N g → s.rev ∈ N
  | [], g, s, h => by cases h
  | x :: N, g, s, h => by
    rw [outN] at h
    rcases List.mem_append.1 h with q | q
    · split at q
      · rw [List.mem_singleton] at q; rw [q]; simp
      · cases q
    · simp [out_mem q]
theorem wtL_app (a b : List Shr) (x : ByteArray) (h : ∀ s, s ∈ a → s.rev ≠ x) : wtL (a ++ b) x = wtL b x := by
  induction a with
  | nil => rfl
  | cons s a ih => rw [List.cons_append, wtL, if_neg (h s (by simp)), ih (fun y hy => h y (by simp [hy]))]
theorem wt_out (h0 : 0 < t) (h1 : t < n) (hA : ∀ x, 0 ≤ A x) (hB : ∀ x, 0 ≤ B x) : ∀ (N : List ByteArray) (g : Int), 0 ≤ g → Asc N → ∀ x, x ∈ N → wtL (outN A B t n N g) x = now1 A B t n (max (g - dB A B N x) 0) x
  | [], g, _, _, x, hx => by cases hx
  | y :: N, g, h, ha, x, hx => by
    obtain ⟨a1, a2⟩ := List.pairwise_cons.1 ha
    have l := lost1_bd (A := A) (B := B) h y
    have b := now1_bd (A := A) (B := B) h0 h1 h y
    have h2 := hA y
    have h3 := hB y
    by_cases e : x = y
    · subst e
      have z : dB A B (x :: N) x = 0 := sumN_zero (fun z hz => by
        rcases List.mem_cons.1 hz with rfl | hz
        · rw [if_neg (by rw [ltS_irr]; exact Bool.false_ne_true)]
        · rw [if_neg (by rw [ltS_asym (a1 z hz)]; exact Bool.false_ne_true)])
      rw [z, Int.sub_zero, Int.max_eq_left h, outN]
      split
      · rw [List.singleton_append, wtL, if_pos rfl]
      · rw [List.nil_append, wtL_none (fun s hs q => ltS_ne (a1 s.rev (out_mem hs)) q.symm)]; omega
    · have hx := (List.mem_cons.1 hx).resolve_left e
      have z : dB A B (y :: N) x = max (A y - B y) 0 + dB A B N x := by
        unfold dB
        rw [sumN, if_pos (a1 x hx)]
      have e1 : lost1 A B g y = min (max (A y - B y) 0) g := by unfold lost1; split <;> omega
      have d0 := dB_nonneg (A := A) (B := B) N x
      rw [outN, wtL_app _ _ _ (fun s hs => by
        split at hs
        · rw [List.mem_singleton] at hs; rw [hs]; exact fun q => e q.symm
        · cases hs), wt_out h0 h1 hA hB N _ (by omega) a2 x hx, z, e1]
      rw [show max (g - min (max (A y - B y) 0) g - dB A B N x) 0 = max (g - (max (A y - B y) 0 + dB A B N x)) 0 by omega]
end
/-- Lists of Shares are told by what each name weighs. -/
theorem shr_ext : ∀ {l m : List Shr}, Asc (l.map (·.rev)) → Asc (m.map (·.rev)) → (∀ s, s ∈ l → 1 ≤ s.w) → (∀ s, s ∈ m → 1 ≤ s.w) → (∀ x, wtL l x = wtL m x) → l = m := by
  intro l m hl hm pl pm hw
  have mem : ∀ {l : List Shr}, (∀ s, s ∈ l → 1 ≤ s.w) → ∀ x, x ∈ l.map (·.rev) ↔ 0 < wtL l x := fun {l} pl x => by
    rcases wtL_cases l x with ⟨s, hs, e1, e2⟩ | ⟨h, e⟩
    · have := pl s hs
      exact ⟨fun _ => by omega, fun _ => List.mem_map.2 ⟨s, hs, e1⟩⟩
    · exact ⟨fun q => by obtain ⟨s, hs, e1⟩ := List.mem_map.1 q; exact absurd e1 (h s hs), fun q => by omega⟩
  have e := Asc.uniq hl hm (fun x => by rw [mem pl, mem pm, hw])
  have self : ∀ {l : List Shr}, Asc (l.map (·.rev)) → l = (l.map (·.rev)).map (fun x => (⟨x, wtL l x⟩ : Shr)) := fun {l} h => by
    have at' : ∀ (l : List Shr), Asc (l.map (·.rev)) → ∀ s, s ∈ l → wtL l s.rev = s.w := by
      intro l
      induction l with
      | nil => intro _ s hs; cases hs
      | cons y l ih =>
        intro h s hs
        obtain ⟨h1, h2⟩ := List.pairwise_cons.1 h
        rcases List.mem_cons.1 hs with rfl | hs
        · rw [wtL, if_pos rfl]
        · rw [wtL, if_neg (fun q => ltS_ne (h1 s.rev (List.mem_map_of_mem hs)) q), ih h2 s hs]
    rw [List.map_map]
    refine (List.map_id _).symm.trans (List.map_congr_left fun s hs => ?_)
    have := at' l h s hs
    obtain ⟨r, x⟩ := s
    simp only [id, Function.comp] at *
    rw [this]
  rw [self hl, self hm, e]
  exact List.map_congr_left fun x _ => by rw [hw]
section
variable {a b : List Shr} {t n : Int}
theorem names_rev (ha : Sd a) (hb : Sd b) : ∀ x, x ∈ namesL a b → revTB x = true ∧ x.size ≤ 100000 := fun x hx => by
  rcases (namesL_mem a b x).1 hx with ⟨s, hs, rfl⟩ | ⟨s, hs, rfl⟩
  · exact ⟨(ha.ok s hs).1, ha.size s hs⟩
  · exact ⟨(hb.ok s hs).1, hb.size s hs⟩
theorem mid_gsum (ha : Sd a) (hb : Sd b) (h0 : 0 < t) (h1 : t < n) : 0 ≤ gsum (wtL a) (wtL b) t n (namesL a b) ∧ lossN (wtL a) (wtL b) (namesL a b) (gsum (wtL a) (wtL b) t n (namesL a b)) = 0 := by
  have g0 := (gsum_le (A := wtL a) (B := wtL b) h0 h1 (fun x => (ha.wt x).1) (fun x => by have := hb.wt x; omega) (namesL a b)).1
  refine ⟨g0, ?_⟩
  rw [lossN_eq _ _ g0]
  have h := gsum_dAll (A := wtL a) (B := wtL b) h0 h1 (namesL a b)
  rw [sumN_wt (namesL_asc a b) ha.revs (fun s hs => (namesL_mem a b _).2 (.inl ⟨s, hs, rfl⟩)), sumN_wt (namesL_asc a b) hb.revs (fun s hs => (namesL_mem a b _).2 (.inr ⟨s, hs, rfl⟩)), ha.sum, hb.sum] at h
  omega
theorem roll_mid (h0 : 0 < t) (h1 : t < n) : rollL a b t n = outN (wtL a) (wtL b) t n (namesL a b) (gsum (wtL a) (wtL b) t n (namesL a b)) := by
  unfold rollL
  rw [if_neg (by omega), if_neg (by omega)]
theorem roll_from (h0 : t ≤ 0) (h1 : 0 < n) : rollL a b t n = a := by
  unfold rollL
  rw [if_neg (by omega), if_pos h0]
theorem roll_to (h : n ≤ 0 ∨ t ≥ n) : rollL a b t n = b := by
  unfold rollL
  rw [if_pos h]
theorem roll_sd (ha : Sd a) (hb : Sd b) (hl : (namesL a b).length ≤ 500) : Sd (rollL a b t n) := by
  by_cases g1 : n ≤ 0 ∨ t ≥ n
  · rw [roll_to g1]; exact hb
  by_cases g2 : t ≤ 0
  · rw [roll_from g2 (by omega)]; exact ha
  have h0 : 0 < t := by omega
  have h1 : t < n := by omega
  obtain ⟨m1, m2⟩ := mid_gsum ha hb h0 h1
  have nr := names_rev ha hb
  rw [roll_mid h0 h1]
  refine ⟨ascF_out h0 h1 ha.wt hb.wt _ _ _ m1 (namesL_asc a b) (fun x hx => ⟨ltS_nil (revB_pos (nr x hx).1), (nr x hx).1⟩), ?_, fun s hs => (nr _ (out_mem hs)).2, by have := outN_len (wtL a) (wtL b) t n (namesL a b) (gsum (wtL a) (wtL b) t n (namesL a b)); omega⟩
  rw [sumW_out h0 h1 (fun x => (ha.wt x).1) (fun x => (hb.wt x).1) _ _ m1, m2, sumN_wt (namesL_asc a b) ha.revs (fun s hs => (namesL_mem a b _).2 (.inl ⟨s, hs, rfl⟩)), ha.sum]
  omega
/-- What a name weighs on the way. -/
theorem roll_wt (ha : Sd a) (hb : Sd b) (h0 : 0 < t) (h1 : t < n) (x : ByteArray) :
    wtL (rollL a b t n) x = now1 (wtL a) (wtL b) t n (max (gsum (wtL a) (wtL b) t n (namesL a b) - dB (wtL a) (wtL b) (namesL a b) x) 0) x := by
  obtain ⟨m1, m2⟩ := mid_gsum ha hb h0 h1
  rw [roll_mid h0 h1]
  by_cases hx : x ∈ namesL a b
  · exact wt_out h0 h1 (fun x => (ha.wt x).1) (fun x => (hb.wt x).1) _ _ m1 (namesL_asc a b) x hx
  · rw [wtL_none (fun s hs e => hx (by rw [← e]; exact out_mem hs))]
    have e1 : wtL a x = 0 := wtL_none (fun s hs e => hx ((namesL_mem a b x).2 (.inl ⟨s, hs, e⟩)))
    have e2 : wtL b x = 0 := wtL_none (fun s hs e => hx ((namesL_mem a b x).2 (.inr ⟨s, hs, e⟩)))
    unfold now1 lost1
    rw [e1, e2, if_neg (by omega), if_neg (by omega)]; rfl
theorem roll_between (ha : Sd a) (hb : Sd b) (x : ByteArray) : min (wtL a x) (wtL b x) ≤ wtL (rollL a b t n) x ∧ wtL (rollL a b t n) x ≤ max (wtL a x) (wtL b x) := by
  by_cases g1 : n ≤ 0 ∨ t ≥ n
  · rw [roll_to g1]; omega
  by_cases g2 : t ≤ 0
  · rw [roll_from g2 (by omega)]; omega
  rw [roll_wt ha hb (by omega) (by omega)]
  exact now1_bd (by omega) (by omega) (by omega) x
theorem roll_same (ha : Sd a) (hl : (namesL a a).length ≤ 500) : rollL a a t n = a := by
  have hs := roll_sd (t := t) (n := n) ha ha hl
  refine shr_ext hs.revs ha.revs (fun s h => (hs.ok s h).2.1) (fun s h => (ha.ok s h).2.1) (fun x => ?_)
  have := roll_between (t := t) (n := n) ha ha x
  omega
end

def kA1 : ByteArray := ⟨#[97, 45, 49]⟩
def kA : List Shr := [⟨kA1, 100⟩]
theorem kA_sd : Sd kA := ⟨by decide +kernel, by decide +kernel, fun s hs => by rw [List.mem_singleton.1 hs]; decide, by decide⟩
theorem sh1 {w : World} {b : Nat} {r : ByteArray} {x : Int} {T : TypeId} (h : Blk w b #[.string r, .int .i64 x] T) : ShSl w (some ⟨b, 0, none⟩) [⟨r, x⟩] :=
  SlOf.blk (cells := Shr.cells) (n := 2) (fun x => rfl) (more := []) h
end Go.Proofs.Ytjhfjjkfnmnkgaa
