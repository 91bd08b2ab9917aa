/- My own texts GgP, GgM, GgR, GgQ, GgS, GgL, GgH, laid in one file. -/
import Derived.Test.YtpfjpeddplkbgaaZ1
import Derived.Test.YtpfjpeddplkbgaaZ59
import Derived.Test.YtpfjpeddplkbgaaZ2
import Derived.Handy
import Derived.Test.YtpfjpeddplkbgaaZ37
import Derived.RangeFuncNested
import Derived.RangeFuncBound
import Derived.Shelf.Abstract
import Derived.Shelf.RegionOpen
import Derived.OwnWalkIn
import Derived.TacticsInMore
import Derived.LoopNIn
import Derived.LoopIn

/- Samples: plain facts. -/
namespace Go.Proofs.Ytpfjpeddplkbgaa
set_option maxRecDepth 100000
set_option linter.unusedVariables false
set_option linter.unusedSimpArgs false
open Go.RowKit

namespace Gg
def new : List Int := []
def add (l : List Int) (v : Int) : List Int := l ++ [max v 0]
/-- How many Last tells of. -/
def num (l : List Int) (n : Int) : Nat := (max 0 (min n (min 60 (l.length : Int)))).toNat
def sum (l : List Int) (n : Int) : Int := (l.drop (l.length - num l n)).sum
def idle (l : List Int) : Nat := (l.reverse.takeWhile (fun x => x == 0)).length
/-- Samples that may be. -/
structure ok (l : List Int) : Prop where
  len : l.length ≤ 1000
  v : ∀ x, x ∈ l → 0 ≤ x ∧ x ≤ 1000000
theorem ok_new : ok new := ⟨Nat.zero_le _, fun x h => absurd h List.not_mem_nil⟩
theorem ok_add {l : List Int} (h : ok l) {v : Int} (hv : v ≤ 1000000) (hl : l.length < 1000) : ok (add l v) := ⟨by unfold add; rw [List.length_append]; show l.length + 1 ≤ _; omega, fun x hx => by
  unfold add at hx
  rcases List.mem_append.1 hx with hx | hx
  · exact h.v x hx
  · rw [List.mem_singleton] at hx; omega⟩
theorem len_add (l : List Int) (v : Int) : (add l v).length = l.length + 1 := by unfold add; rw [List.length_append]; rfl
theorem num_le (l : List Int) (n : Int) : num l n ≤ l.length ∧ num l n ≤ 60 := by unfold num; omega
theorem sum_bound : ∀ (l : List Int), (∀ x, x ∈ l → 0 ≤ x ∧ x ≤ 1000000) → 0 ≤ l.sum ∧ l.sum ≤ 1000000 * l.length
  | [], _ => by simp
  | x :: l, h => by
    have ih := sum_bound l (fun y hy => h y (by simp [hy]))
    have := h x (by simp)
    simp only [List.sum_cons, List.length_cons]
    omega
theorem sum_part (l : List Int) (h : ok l) (a b : Nat) : 0 ≤ ((l.drop a).take b).sum ∧ ((l.drop a).take b).sum ≤ 1000000 * 1000 := by
  have h1 := sum_bound ((l.drop a).take b) (fun x hx => h.v x (List.mem_of_mem_drop (List.mem_of_mem_take hx)))
  have h2 : ((l.drop a).take b).length ≤ 1000 := by rw [List.length_take, List.length_drop]; have := h.len; omega
  have h3 : (1000000 : Int) * (((l.drop a).take b).length : Int) ≤ 1000000 * 1000 := by omega
  omega
theorem take_sum_snoc {l : List Int} {k : Nat} {x : Int} (h : l[k]? = some x) : (l.take (k + 1)).sum = (l.take k).sum + x := by
  rw [List.take_add_one, h]
  simp
/-- So many zeros at the end, and no more. -/
theorem idle_at {l : List Int} {k : Nat} (h1 : ∀ i, i < k → l[l.length - 1 - i]? = some 0) (hk : k ≤ l.length) (h2 : k < l.length → ∃ x, l[l.length - 1 - k]? = some x ∧ x ≠ 0) : idle l = k := by
  unfold idle
  have e : ∀ i, i < l.length → l.reverse[i]? = l[l.length - 1 - i]? := fun i hi => by rw [List.getElem?_reverse hi]
  have hr : l.reverse = List.replicate k 0 ++ l.reverse.drop k := by
    conv => lhs; rw [← List.take_append_drop k l.reverse]
    congr 1
    refine List.ext_getElem? fun i => ?_
    rw [List.getElem?_take, List.getElem?_replicate]
    split
    · rename_i hi
      rw [e i (by omega), h1 i hi]
    · rfl
  rw [hr, List.takeWhile_append_of_pos (fun x hx => by have := List.eq_of_mem_replicate hx; simp [this])]
  rw [List.length_append, List.length_replicate]
  have : (l.reverse.drop k).takeWhile (fun x => x == 0) = [] := by
    cases hd : l.reverse.drop k with
    | nil => rfl
    | cons y r =>
      have hy : l.reverse[k]? = some y := by rw [← List.head?_drop, hd]; rfl
      have hlt : k < l.length := by
        have := (List.getElem?_eq_some_iff.1 hy).1
        rwa [List.length_reverse] at this
      obtain ⟨x, hx, hne⟩ := h2 hlt
      rw [e k hlt, hx] at hy
      cases hy
      rw [List.takeWhile_cons_of_neg (by simpa using hne)]
  rw [this]; rfl
theorem idle_le (l : List Int) : idle l ≤ l.length := by
  unfold idle
  have := (List.takeWhile_sublist (fun x : Int => x == 0) (l := l.reverse)).length_le
  rwa [List.length_reverse] at this
theorem idle_zero (l : List Int) : idle (add l 0) = idle l + 1 := by
  unfold idle add
  rw [List.reverse_append]
  show ((0 : Int) :: l.reverse |>.takeWhile _).length = _
  rw [List.takeWhile_cons_of_pos (by rfl)]
  rfl
theorem idle_neg (l : List Int) (v : Int) (h : v ≤ 0) : idle (add l v) = idle l + 1 := by
  have : add l v = add l 0 := by unfold add; rw [show max v 0 = max 0 0 by omega]
  rw [this, idle_zero]
theorem idle_some {l : List Int} {v : Int} (h : 0 < v) : idle (add l v) = 0 := by
  unfold idle add
  rw [List.reverse_append]
  show ((max v 0) :: l.reverse |>.takeWhile _).length = _
  rw [List.takeWhile_cons_of_neg (by simp; omega)]
  rfl
/-- What is further back does not count. -/
theorem far {l m : List Int} {n : Int} (h0 : 0 ≤ n) (h : n ≤ m.length) (h6 : n ≤ 60) : num (l ++ m) n = n.toNat ∧ num m n = n.toNat ∧ sum (l ++ m) n = sum m n := by
  have e1 : num (l ++ m) n = n.toNat := by unfold num; rw [List.length_append]; omega
  have e2 : num m n = n.toNat := by unfold num; omega
  refine ⟨e1, e2, ?_⟩
  unfold sum
  rw [e1, e2, List.length_append, List.drop_append, List.drop_eq_nil_of_le (by omega), List.nil_append]
  rw [show l.length + m.length - n.toNat - l.length = m.length - n.toNat by omega]
/-- One sample more of the last ones. -/
theorem step {l : List Int} (hl : l.length ≤ 60) {k : Nat} (h1 : 1 ≤ k) (hk : k ≤ 60) :
    num l (k : Int) = min k l.length ∧ num l ((k : Int) - 1) = min (k - 1) l.length ∧ (k ≤ l.length → ∀ x, l[l.length - k]? = some x → sum l (k : Int) = sum l ((k : Int) - 1) + x) ∧ (l.length < k → sum l (k : Int) = sum l ((k : Int) - 1)) := by
  have e1 : num l (k : Int) = min k l.length := by unfold num; omega
  have e2 : num l ((k : Int) - 1) = min (k - 1) l.length := by unfold num; omega
  refine ⟨e1, e2, fun h x hx => ?_, fun h => ?_⟩
  · unfold sum
    rw [e1, e2, show l.length - min k l.length = l.length - k by omega, show l.length - min (k - 1) l.length = l.length - k + 1 by omega]
    obtain ⟨hlt, e⟩ := List.getElem?_eq_some_iff.1 hx
    rw [List.drop_eq_getElem_cons hlt, e, List.sum_cons]
    omega
  · unfold sum
    rw [e1, e2, show min k l.length = l.length by omega, show min (k - 1) l.length = l.length by omega]
theorem whole {l : List Int} (hl : l.length ≤ 60) : num l 60 = l.length ∧ sum l 60 = l.sum := by
  have e1 : num l 60 = l.length := by unfold num; omega
  refine ⟨e1, ?_⟩
  unfold sum
  rw [e1, Nat.sub_self, List.drop_zero]
theorem over {l : List Int} {n : Int} (h : 60 ≤ n) : num l n = num l 60 ∧ sum l n = sum l 60 := by
  have e1 : num l n = num l 60 := by unfold num; omega
  exact ⟨e1, by unfold sum; rw [e1]⟩
end Gg
end Go.Proofs.Ytpfjpeddplkbgaa

/- The second form's gauge in memory. -/
namespace Go.Proofs.Ytpfjpeddplkbgaa
set_option maxRecDepth 100000
set_option linter.unusedVariables false
set_option linter.unusedSimpArgs false
set_option linter.unnecessarySimpa false
open Go.RowKit Go.Args

abbrev rggT : TypeId := 28
structure RgIn (w : World) (g : Nat) (l : List Int) (v : Value) : Prop where
  hb : Blk w g #[v] rggT
  ho : w.ownsRow 0 3 1 v l.length (intsV l)
  ok : Gg.ok l
def RgF (g : Nat) (v : Value) (k : Nat) : Prop := k = g ∨ v.ownBlock = some k
def RgP (g : Nat) (l : List Int) : Hp := fun w F => ∃ v, RgIn w g l v ∧ ∀ k, F k ↔ RgF g v k
theorem RgIn.lt {w : World} {g : Nat} {s : List Int} {v : Value} (h : RgIn w g s v) : ∀ k, RgF g v k → k < w.heap.size := by
  rintro k (rfl | hk)
  · exact h.hb.lt
  · exact (h.ho.lt k hk).2
theorem RgIn.chg {w w' : World} {g : Nat} {s : List Int} {v : Value} {G : Nat → Prop} (h : RgIn w g s v) (c : Chg G w w') (hG : ∀ k, RgF g v k → ¬ G k) : RgIn w' g s v :=
  ⟨h.hb.chg c (hG _ (.inl rfl)), c.own h.ho (fun k hk => hG _ (.inr hk)), h.ok⟩
theorem RgIn.grow {w w' : World} {g : Nat} {s : List Int} {v : Value} (h : RgIn w g s v) (c : Grow.G w w') : RgIn w' g s v := h.chg (Chg.grow (G := fun _ => False) c) (fun _ _ => id)
theorem RgP.foot (g : Nat) (s : List Int) : Foot (RgP g s) where
  lt := fun ⟨m, h, e⟩ k hk => h.lt k ((e k).1 hk)
  frame := fun ⟨m, h, e⟩ c hs => ⟨m, h.chg c (fun k hk => hs k ((e k).2 hk)), e⟩
theorem RgP.fin {g : Nat} {s' : List Int} {v v' : Value} {w w' : World} {F : Nat → Prop} (e : ∀ k, F k ↔ RgF g v k) (h : RgIn w' g s' v') (c : Chg (RgF g v) w w') (hm : ∀ b, v'.ownBlock = some b → v.ownBlock = some b ∨ w.heap.size ≤ b) : EndS w w' F (RgP g s') := by
  refine ⟨RgF g v', ⟨v', h, fun k => Iff.rfl⟩, c.sub fun k hk => (e k).2 hk, fun k hk => ?_⟩
  rcases hk with rfl | hk
  · exact .inl ((e _).2 (.inl rfl))
  · rcases hm k hk with q | q
    · exact .inl ((e k).2 (.inr q))
    · exact .inr q
theorem RgIn.ne {w : World} {g : Nat} {s : List Int} {v : Value} (h : RgIn w g s v) : v.ownBlock ≠ some g := own_blk_types h.ho h.hb (by decide)
theorem RgIn.c0 {w : World} {g : Nat} {s : List Int} {v : Value} (h : RgIn w g s v) : w.cell? ⟨g, 0, none⟩ = some v := (h.hb.cell 0).trans rfl
theorem RgIn.sl {w : World} {g : Nat} {s : List Int} {v : Value} (h : RgIn w g s v) : ∃ a c, v = .slice a s.length c := own_shape h.ho
theorem RgP.new (w : World) : RgP w.heap.size Gg.new (w.alloc (.cells #[.slice none 0 0] rggT)) (fun k => k = w.heap.size) := by
  refine ⟨.slice none 0 0, ⟨Blk.new w _ _, ⟨rfl, .inl ⟨rfl, rfl⟩⟩, Gg.ok_new⟩, fun k => ?_⟩
  unfold RgF
  exact ⟨.inl, fun h => h.elim id (fun q => by cases q)⟩
set_option maxHeartbeats 2000000 in
theorem rgadd_any (g : Nat) (l : List Int) (v : Int) (w : World) (F : Nat → Prop) (h : RgP g l w F) (hv : v ≤ 1000000) (hl : l.length < 1000) :
    Calls Try.prog 13 #[pz g, .int .i64 v] w fun e w' => (∃ x, e = .returned x) ∧ EndS w w' F (RgP g (Gg.add l v)) := by
  obtain ⟨u, hI, he⟩ := h
  have HE := Lib.hid he
  have HK := Lib.hid (Gg.ok_add hI.ok hv hl)
  obtain ⟨a, c, rfl⟩ := hI.sl
  have c0 := hI.c0
  have f0 := hI.hb.free 0
  have hgl := hI.hb.lt
  have HI := Lib.hid hI
  obtain ⟨i0, hi, hz0, hz1, hz2⟩ := info_parts infoIntO
  have HII := Lib.hid hi; have HZ0 := Lib.hid hz0; have HZ1 := Lib.hid hz1; have HZ2 := Lib.hid hz2
  have LEN := Lib.hid (Gg.len_add l v)
  clear he hI hi hz0 hz1 hz2
  rcases Int.lt_or_le v 0 with hv0 | hv0
  · have ADD : Hid (intsV (Gg.add l v) = intsV l ++ [.int .i64 0]) := Lib.hid (by unfold Gg.add intsV; rw [List.map_append, show max v 0 = 0 by omega]; rfl)
    have hd : decide (v < 0) = true := decide_eq_true hv0
    go_enter Try.func13, Try.ntmps13
    go_wp2_with (at_builtin; refine Fr.wpList_append_fr _ rfl _ _ 22 rfl 0 3 i0 (.int .i64 0) 1 8 Try.underlying22 HII.out HZ0.out HZ1.out HZ2.out rfl (by decide) _ _ _ rfl (own_later HI.out.ho (Grow.G.alloc (Grow.G.refl _) _)) ⟨w.heap.size, 0, none⟩ 1 1 [.int .i64 0] rfl rfl (news_new _ _ _ _ rfl) (by intro u hu; rw [List.mem_singleton] at hu; subst hu; rfl) (by unfold maxLen; omega) (by omega) (Nat.zero_le _) ?_; intro v' w' hown hfr; obtain ⟨g9, c9, rfl, hg9⟩ := own_some hown (by omega); have AP := Chg.trans (Chg.grow (Grow.G.alloc (Grow.G.refl _) _)) (Chg.ofFr hfr); have V3 := HI.out.hb.chg AP HI.out.ne; have f3 := V3.free 0; have l3 := V3.lt; have e3 := (V3.cell 0).trans rfl; have HW := Lib.hid (And.intro V3 (And.intro AP (And.intro hown hfr))); clear V3 AP hown hfr)
    go_returns
    obtain ⟨V3, AP, OW, FR⟩ := HW.out
    have CS : Chg (fun k => k = g) w' (w'.setCell ⟨g, 0, none⟩ (.slice (some ⟨g9, 0, none⟩) (l.length + 1) c9)) := Chg.setCell (G := fun k => k = g) (Chg.refl _ _) (fun _ => rfl) _ _
    have N9 : ¬ g9 = g := fun e => own_blk_types OW V3 (by decide) (by rw [e]; rfl)
    refine ⟨⟨_, rfl⟩, RgP.fin (v := .slice a l.length c) (v' := .slice (some ⟨g9, 0, none⟩) (l.length + 1) c9) HE.out ⟨V3.set 0 _, ?_, HK.out⟩ ((AP.mono fun k _ e => .inr e).trans (CS.mono fun k _ e => .inl e)) (fun b e => ?_)⟩
    · rw [LEN.out, ADD.out]
      exact CS.own OW (fun k hk e => N9 (by have hk : g9 = k := Option.some.inj hk; rw [hk]; exact e))
    · rcases FR.o with q | ⟨b', q, hb'⟩
      · exact .inl (q ▸ e)
      · refine .inr ?_
        have e2 : b = b' := Option.some.inj (e.symm.trans q)
        simp only [World.size_alloc] at hb'
        omega
  · have ADD : Hid (intsV (Gg.add l v) = intsV l ++ [.int .i64 v]) := Lib.hid (by unfold Gg.add intsV; rw [List.map_append, show max v 0 = v by omega]; rfl)
    have hd : decide (v < 0) = false := decide_eq_false (by omega)
    have hn0 : ¬ v < 0 := by omega
    go_enter Try.func13, Try.ntmps13
    go_wp2_with (at_builtin; refine Fr.wpList_append_fr _ rfl _ _ 22 rfl 0 3 i0 (.int .i64 0) 1 8 Try.underlying22 HII.out HZ0.out HZ1.out HZ2.out rfl (by decide) _ _ _ rfl (own_later HI.out.ho (Grow.G.alloc (Grow.G.refl _) _)) ⟨w.heap.size, 0, none⟩ 1 1 [.int .i64 v] rfl rfl (news_new _ _ _ _ rfl) (by intro u hu; rw [List.mem_singleton] at hu; subst hu; rfl) (by unfold maxLen; omega) (by omega) (Nat.zero_le _) ?_; intro v' w' hown hfr; obtain ⟨g9, c9, rfl, hg9⟩ := own_some hown (by omega); have AP := Chg.trans (Chg.grow (Grow.G.alloc (Grow.G.refl _) _)) (Chg.ofFr hfr); have V3 := HI.out.hb.chg AP HI.out.ne; have f3 := V3.free 0; have l3 := V3.lt; have e3 := (V3.cell 0).trans rfl; have HW := Lib.hid (And.intro V3 (And.intro AP (And.intro hown hfr))); clear V3 AP hown hfr)
    go_returns
    obtain ⟨V3, AP, OW, FR⟩ := HW.out
    have CS : Chg (fun k => k = g) w' (w'.setCell ⟨g, 0, none⟩ (.slice (some ⟨g9, 0, none⟩) (l.length + 1) c9)) := Chg.setCell (G := fun k => k = g) (Chg.refl _ _) (fun _ => rfl) _ _
    have N9 : ¬ g9 = g := fun e => own_blk_types OW V3 (by decide) (by rw [e]; rfl)
    refine ⟨⟨_, rfl⟩, RgP.fin (v := .slice a l.length c) (v' := .slice (some ⟨g9, 0, none⟩) (l.length + 1) c9) HE.out ⟨V3.set 0 _, ?_, HK.out⟩ ((AP.mono fun k _ e => .inr e).trans (CS.mono fun k _ e => .inl e)) (fun b e => ?_)⟩
    · rw [LEN.out, ADD.out]
      exact CS.own OW (fun k hk e => N9 (by have hk : g9 = k := Option.some.inj hk; rw [hk]; exact e))
    · rcases FR.o with q | ⟨b', q, hb'⟩
      · exact .inl (q ▸ e)
      · refine .inr ?_
        have e2 : b = b' := Option.some.inj (e.symm.trans q)
        simp only [World.size_alloc] at hb'
        omega

/-- How a row of numbers of a call's own stands. -/
theorem own_intsO {w : World} {base c : Nat} {a : Option Addr} {l : List Int} (h : w.ownsRow base 3 1 (.slice a l.length c) l.length (intsV l)) :
    l = [] ∨ ∃ g, a = some ⟨g, 0, none⟩ ∧ ∀ k x, l[k]? = some x → w.cell? ⟨g, k, none⟩ = some (.int .i64 x) := by
  rcases h.2 with ⟨h1, h2⟩ | ⟨g, cap, cur, hv, hb, hg, hn, hm, hs, ht⟩
  · exact .inl (List.eq_nil_of_length_eq_zero h2)
  · injection hv with e1 e2 e3
    subst e1 e3
    exact .inr ⟨g, rfl, fun k s hk => own_cell h (by rw [List.getElem?_map, hk]; rfl)⟩
set_option maxHeartbeats 2000000 in
theorem rgidle_any (g : Nat) (l : List Int) (v : Value) (w : World) (h : RgIn w g l v) :
    Calls Try.prog 17 #[pz g] w fun e w' => e = .returned (.int .i64 (Gg.idle l)) ∧ Grow.G w w' := by
  obtain ⟨a, c, rfl⟩ := h.sl
  have HI := Lib.hid h
  have hll := h.ok.len
  have hgl := h.hb.lt
  clear h
  go_enter Try.func17, Try.ntmps17
  go_wp2_with fail
  go_loopw [3] (fun i wr => ∃ k : Nat, k ≤ l.length ∧ i = .int .i64 k ∧ Hid (Grow.G w wr) ∧ Hid (∀ i, i < k → l[l.length - 1 - i]? = some 0)) (fun i _ => l.length - (intOf i).toNat)
  case atStart => exact ⟨0, by omega, rfl, Lib.hid (Grow.G.refl _), Lib.hid (fun i h => by omega)⟩
  case round =>
    obtain ⟨k, hk, rfl, HG, HX⟩ := hrel
    have H2 := Lib.hid (HI.out.grow HG.out)
    have hgl2 := H2.out.hb.lt
    by_cases hlt : k < l.length
    · obtain ⟨q, hq⟩ : ∃ q, l.length - 1 - k = q := ⟨_, rfl⟩
      obtain ⟨y, hy⟩ : ∃ y, l[q]? = some y := ⟨_, List.getElem?_eq_getElem (by omega)⟩
      obtain ⟨g2, rfl, hcl⟩ := (own_intsO H2.out.ho).resolve_left (fun e => by rw [e] at hlt; simp at hlt)
      have KC := Lib.hid (fun (w' : World) (h : Chg (fun _ => False) wr w') => (⟨h.cell H2.out.c0 id, h.cell (hcl q y hy) id, trivial⟩ : w'.cell? ⟨g, 0, none⟩ = some (.slice (some ⟨g2, 0, none⟩) l.length c) ∧ w'.cell? ⟨g2, q, none⟩ = some (.int .i64 y) ∧ True))
      have d0 : decide ((k : Int) < (l.length : Int)) = true := decide_eq_true (by omega)
      have hi1 : IntKind.i64.wrap ((l.length : Int) - 1) = (l.length : Int) - 1 := IntWalk.i64_in _ ⟨by omega, by omega⟩
      have hi2 : IntKind.i64.wrap ((l.length : Int) - 1 - (k : Int)) = (q : Int) := by rw [show (l.length : Int) - 1 - (k : Int) = (q : Int) by omega]; exact IntWalk.i64_in _ ⟨by omega, by omega⟩
      have hk1 : IntKind.i64.wrap ((k : Int) + 1) = (k : Int) + 1 := IntWalk.i64_in _ ⟨by omega, by omega⟩
      have q1 : (0 : Int) ≤ (q : Int) := by omega
      have q2 : (q : Int) < (l.length : Int) := by omega
      have q3 : q < l.length := by omega
      by_cases e : y = 0
      · have d1 : (y == 0) = true := by simpa using e
        have HX2 : Hid (∀ i, i < k + 1 → l[l.length - 1 - i]? = some 0) := Lib.hid (fun i hi => by
          rcases Nat.lt_or_ge i k with hj | hj
          · exact HX.out i hj
          · obtain rfl : i = k := by omega
            rw [hq, hy, e])
        clear hcl hy HX
        subst e
        clear d1
        go_wp2_with fail
        refine wp_spec (fun a0 A W => ∃ x4 x5 x6 x7 x8 x9 x10 x11 x12 x13 x14 x15 x16 x17 x18 x19 x20 x21 x22 x23 x24 x25 x26 : Value, A = ((((((((((((((((((((((((a0.put (some 4) x4).put (some 5) x5).put (some 6) x6).put (some 7) x7).put (some 8) x8).put (some 9) x9).put (some 10) x10).put (some 11) x11).put (some 12) x12).put (some 13) x13).put (some 14) x14).put (some 15) x15).put (some 16) x16).put (some 17) x17).put (some 18) x18).put (some 19) x19).put (some 20) x20).put (some 21) x21).put (some 22) x22).put (some 23) x23).put (some 24) x24).put (some 25) x25).put (some 26) x26).put (some 27) (.bool true)) ∧ Grow.G wr W) ?_ ?_
        all_goals simp only [Act.put, L0, L1, L2]
        ·
          refine Evo2.start' (ℓ := none) (S := Chg (fun _ => False)) (E := Grow.G) (by kernel_rfl) ⟨Chg.pre _, by decide +kernel, (by intro c a d v w h; cases d <;> exact h), by decide +kernel⟩ (fun ok => ?_)
          refine Evo2.va ok 0 _ _ ?_
          refine Evo2.va ok 1 _ _ ?_
          refine Evo2.va ok 2 _ _ ?_
          refine Evo2.va ok 3 _ _ ?_
          first | (refine Evo2.vl ok 4 KC.out (Chg.refl (fun _ => False) _) _ _ ?_) | (refine Evo2.va ok 4 _ _ ?_)
          refine Evo2.va ok 5 _ _ ?_
          refine Evo2.va ok 6 _ _ ?_
          refine Evo2.va ok 7 _ _ ?_
          first | (refine Evo2.va ok 8 _ _ ?_) | (refine Evo2.vi ok 8 _ ?_)
          first | (refine Evo2.va ok 9 _ _ ?_) | (refine Evo2.vi ok 9 _ ?_)
          first | (refine Evo2.va ok 10 _ _ ?_) | (refine Evo2.vi ok 10 _ ?_)
          first | (refine Evo2.vl ok 11 KC.out (Chg.refl (fun _ => False) _) _ _ ?_) | (refine Evo2.va ok 11 _ _ ?_) | (refine Evo2.vi ok 11 _ ?_)
          first | (refine Evo2.va ok 12 _ _ ?_) | (refine Evo2.vi ok 12 _ ?_)
          first | (refine Evo2.va ok 13 _ _ ?_) | (refine Evo2.vi ok 13 _ ?_)
          first | (refine Evo2.va ok 14 _ _ ?_) | (refine Evo2.vi ok 14 _ ?_)
          first | (refine Evo2.vl ok 15 KC.out (Chg.refl (fun _ => False) _) _ _ ?_) | (refine Evo2.va ok 15 _ _ ?_) | (refine Evo2.vi ok 15 _ ?_)
          first | (refine Evo2.va ok 16 _ _ ?_) | (refine Evo2.vi ok 16 _ ?_)
          first | (refine Evo2.va ok 17 _ _ ?_) | (refine Evo2.vi ok 17 _ ?_)
          first | (refine Evo2.va ok 18 _ _ ?_) | (refine Evo2.vi ok 18 _ ?_)
          first | (refine Evo2.va ok 19 _ _ ?_) | (refine Evo2.vi ok 19 _ ?_)
          first | (refine Evo2.va ok 20 _ _ ?_) | (refine Evo2.vi ok 20 _ ?_)
          first | (refine Evo2.vl ok 21 KC.out (Chg.refl (fun _ => False) _) _ _ ?_) | (refine Evo2.va ok 21 _ _ ?_) | (refine Evo2.vi ok 21 _ ?_)
          first | (refine Evo2.va ok 22 _ _ ?_) | (refine Evo2.vi ok 22 _ ?_)
          refine Evo2.va ok 23 _ _ ?_
          refine Evo2.done (by decide +kernel) (fun wz gz => ?_)
          have AZ := Chg.trans (Chg.refl (fun _ => False) _) (Chg.grow gz)
          dsimp only [PostN] 
          (repeat apply Exists.intro) 
          exact ⟨rfl, AZ.toGrow (fun _ _ => id)⟩
        ·
          rintro A W2 ⟨x4, x5, x6, x7, x8, x9, x10, x11, x12, x13, x14, x15, x16, x17, x18, x19, x20, x21, x22, x23, x24, x25, x26, rfl, g2⟩
          have HG2 := Lib.hid (HG.out.trans g2)
          clear g2 KC
          go_wp2_with fail
          go_roundw
          case rel => exact ⟨k + 1, by omega, by go_num, HG2, HX2⟩
          case measure => simp [intOf]; omega
      · have d1 : (y == 0) = false := by simpa using e
        have RES := Lib.hid (Gg.idle_at HX.out (by omega) (fun _ => ⟨y, by rw [hq]; exact hy, e⟩))
        clear hcl hy HX e
        go_wp2_with fail
        refine wp_spec (fun a0 A W => ∃ x4 x5 x6 x7 x8 x9 x10 x11 x12 x13 x14 x15 x16 x17 x18 x19 x20 x21 x22 x23 x24 x25 x26 : Value, A = ((((((((((((((((((((((((a0.put (some 4) x4).put (some 5) x5).put (some 6) x6).put (some 7) x7).put (some 8) x8).put (some 9) x9).put (some 10) x10).put (some 11) x11).put (some 12) x12).put (some 13) x13).put (some 14) x14).put (some 15) x15).put (some 16) x16).put (some 17) x17).put (some 18) x18).put (some 19) x19).put (some 20) x20).put (some 21) x21).put (some 22) x22).put (some 23) x23).put (some 24) x24).put (some 25) x25).put (some 26) x26).put (some 27) (.bool false)) ∧ Grow.G wr W) ?_ ?_
        all_goals simp only [Act.put, L0, L1, L2]
        ·
          refine Evo2.start' (ℓ := none) (S := Chg (fun _ => False)) (E := Grow.G) (by kernel_rfl) ⟨Chg.pre _, by decide +kernel, (by intro c a d v w h; cases d <;> exact h), by decide +kernel⟩ (fun ok => ?_)
          refine Evo2.va ok 0 _ _ ?_
          refine Evo2.va ok 1 _ _ ?_
          refine Evo2.va ok 2 _ _ ?_
          refine Evo2.va ok 3 _ _ ?_
          first | (refine Evo2.vl ok 4 KC.out (Chg.refl (fun _ => False) _) _ _ ?_) | (refine Evo2.va ok 4 _ _ ?_)
          refine Evo2.va ok 5 _ _ ?_
          refine Evo2.va ok 6 _ _ ?_
          refine Evo2.va ok 7 _ _ ?_
          first | (refine Evo2.va ok 8 _ _ ?_) | (refine Evo2.vi ok 8 _ ?_)
          first | (refine Evo2.va ok 9 _ _ ?_) | (refine Evo2.vi ok 9 _ ?_)
          first | (refine Evo2.va ok 10 _ _ ?_) | (refine Evo2.vi ok 10 _ ?_)
          first | (refine Evo2.vl ok 11 KC.out (Chg.refl (fun _ => False) _) _ _ ?_) | (refine Evo2.va ok 11 _ _ ?_) | (refine Evo2.vi ok 11 _ ?_)
          first | (refine Evo2.va ok 12 _ _ ?_) | (refine Evo2.vi ok 12 _ ?_)
          first | (refine Evo2.va ok 13 _ _ ?_) | (refine Evo2.vi ok 13 _ ?_)
          first | (refine Evo2.va ok 14 _ _ ?_) | (refine Evo2.vi ok 14 _ ?_)
          first | (refine Evo2.vl ok 15 KC.out (Chg.refl (fun _ => False) _) _ _ ?_) | (refine Evo2.va ok 15 _ _ ?_) | (refine Evo2.vi ok 15 _ ?_)
          first | (refine Evo2.va ok 16 _ _ ?_) | (refine Evo2.vi ok 16 _ ?_)
          first | (refine Evo2.va ok 17 _ _ ?_) | (refine Evo2.vi ok 17 _ ?_)
          first | (refine Evo2.va ok 18 _ _ ?_) | (refine Evo2.vi ok 18 _ ?_)
          first | (refine Evo2.va ok 19 _ _ ?_) | (refine Evo2.vi ok 19 _ ?_)
          first | (refine Evo2.va ok 20 _ _ ?_) | (refine Evo2.vi ok 20 _ ?_)
          first | (refine Evo2.vl ok 21 KC.out (Chg.refl (fun _ => False) _) _ _ ?_) | (refine Evo2.va ok 21 _ _ ?_) | (refine Evo2.vi ok 21 _ ?_)
          first | (refine Evo2.va ok 22 _ _ ?_) | (refine Evo2.vi ok 22 _ ?_)
          refine Evo2.va ok 23 _ _ ?_
          refine Evo2.done (by decide +kernel) (fun wz gz => ?_)
          have AZ := Chg.trans (Chg.refl (fun _ => False) _) (Chg.grow gz)
          dsimp only [PostN] 
          (repeat apply Exists.intro) 
          exact ⟨rfl, AZ.toGrow (fun _ _ => id)⟩
        ·
          rintro A W2 ⟨x4, x5, x6, x7, x8, x9, x10, x11, x12, x13, x14, x15, x16, x17, x18, x19, x20, x21, x22, x23, x24, x25, x26, rfl, g2⟩
          have HG2 := Lib.hid (HG.out.trans g2)
          clear g2 KC
          go_wp2_with fail
          go_ret
          rw [RES.out]
          exact ⟨rfl, HG2.out⟩
    · obtain rfl : k = l.length := by omega
      have KC := Lib.hid (fun (w' : World) (h : Chg (fun _ => False) wr w') => (⟨h.cell H2.out.c0 id, trivial⟩ : w'.cell? ⟨g, 0, none⟩ = some (.slice a l.length c) ∧ True))
      have d0 : decide ((l.length : Int) < (l.length : Int)) = false := decide_eq_false (by omega)
      have RES := Lib.hid (Gg.idle_at HX.out (Nat.le_refl _) (fun h => absurd h (by omega)))
      clear HX
      go_wp2_with fail
      refine wp_spec (fun a0 A W => ∃ x4 x5 x6 x7 x8 x9 x10 x11 x12 x13 x14 x15 x16 x17 x18 x19 x20 x21 x22 x23 x24 x25 x26 : Value, A = ((((((((((((((((((((((((a0.put (some 4) x4).put (some 5) x5).put (some 6) x6).put (some 7) x7).put (some 8) x8).put (some 9) x9).put (some 10) x10).put (some 11) x11).put (some 12) x12).put (some 13) x13).put (some 14) x14).put (some 15) x15).put (some 16) x16).put (some 17) x17).put (some 18) x18).put (some 19) x19).put (some 20) x20).put (some 21) x21).put (some 22) x22).put (some 23) x23).put (some 24) x24).put (some 25) x25).put (some 26) x26).put (some 27) (.bool false)) ∧ Grow.G wr W) ?_ ?_
      all_goals simp only [Act.put, L0, L1, L2]
      ·
        refine Evo2.start' (ℓ := none) (S := Chg (fun _ => False)) (E := Grow.G) (by kernel_rfl) ⟨Chg.pre _, by decide +kernel, (by intro c a d v w h; cases d <;> exact h), by decide +kernel⟩ (fun ok => ?_)
        refine Evo2.va ok 0 _ _ ?_
        refine Evo2.va ok 1 _ _ ?_
        refine Evo2.va ok 2 _ _ ?_
        refine Evo2.va ok 3 _ _ ?_
        first | (refine Evo2.vl ok 4 KC.out (Chg.refl (fun _ => False) _) _ _ ?_) | (refine Evo2.va ok 4 _ _ ?_)
        refine Evo2.va ok 5 _ _ ?_
        refine Evo2.va ok 6 _ _ ?_
        refine Evo2.va ok 7 _ _ ?_
        first | (refine Evo2.va ok 8 _ _ ?_) | (refine Evo2.vi ok 8 _ ?_)
        first | (refine Evo2.va ok 9 _ _ ?_) | (refine Evo2.vi ok 9 _ ?_)
        first | (refine Evo2.va ok 10 _ _ ?_) | (refine Evo2.vi ok 10 _ ?_)
        first | (refine Evo2.vl ok 11 KC.out (Chg.refl (fun _ => False) _) _ _ ?_) | (refine Evo2.va ok 11 _ _ ?_) | (refine Evo2.vi ok 11 _ ?_)
        first | (refine Evo2.va ok 12 _ _ ?_) | (refine Evo2.vi ok 12 _ ?_)
        first | (refine Evo2.va ok 13 _ _ ?_) | (refine Evo2.vi ok 13 _ ?_)
        first | (refine Evo2.va ok 14 _ _ ?_) | (refine Evo2.vi ok 14 _ ?_)
        first | (refine Evo2.vl ok 15 KC.out (Chg.refl (fun _ => False) _) _ _ ?_) | (refine Evo2.va ok 15 _ _ ?_) | (refine Evo2.vi ok 15 _ ?_)
        first | (refine Evo2.va ok 16 _ _ ?_) | (refine Evo2.vi ok 16 _ ?_)
        first | (refine Evo2.va ok 17 _ _ ?_) | (refine Evo2.vi ok 17 _ ?_)
        first | (refine Evo2.va ok 18 _ _ ?_) | (refine Evo2.vi ok 18 _ ?_)
        first | (refine Evo2.va ok 19 _ _ ?_) | (refine Evo2.vi ok 19 _ ?_)
        first | (refine Evo2.va ok 20 _ _ ?_) | (refine Evo2.vi ok 20 _ ?_)
        first | (refine Evo2.vl ok 21 KC.out (Chg.refl (fun _ => False) _) _ _ ?_) | (refine Evo2.va ok 21 _ _ ?_) | (refine Evo2.vi ok 21 _ ?_)
        first | (refine Evo2.va ok 22 _ _ ?_) | (refine Evo2.vi ok 22 _ ?_)
        refine Evo2.va ok 23 _ _ ?_
        refine Evo2.done (by decide +kernel) (fun wz gz => ?_)
        have AZ := Chg.trans (Chg.refl (fun _ => False) _) (Chg.grow gz)
        dsimp only [PostN] 
        (repeat apply Exists.intro) 
        exact ⟨rfl, AZ.toGrow (fun _ _ => id)⟩
      ·
        rintro A W2 ⟨x4, x5, x6, x7, x8, x9, x10, x11, x12, x13, x14, x15, x16, x17, x18, x19, x20, x21, x22, x23, x24, x25, x26, rfl, g2⟩
        have HG2 := Lib.hid (HG.out.trans g2)
        clear g2 KC
        go_wp2_with fail
        go_ret
        rw [RES.out]
        exact ⟨rfl, HG2.out⟩
set_option maxHeartbeats 2000000 in
theorem rglast_any (g : Nat) (l : List Int) (v : Value) (n : Int) (w : World) (h : RgIn w g l v) (hn : wf64 n) :
    Calls Try.prog 15 #[pz g, .int .i64 n] w fun e w' => e = .returned (.tuple #[.int .i64 (Gg.sum l n), .int .i64 (Gg.num l n)]) ∧ w = w' := by
  obtain ⟨a, c, rfl⟩ := h.sl
  have c0 := h.c0
  have hgl := h.hb.lt
  have hll := h.ok.len
  have HR := Lib.hid (own_intsO h.ho)
  have HP := Lib.hid (Gg.sum_part l h.ok)
  clear h
  obtain ⟨p, hp⟩ : ∃ p : Int, (if 60 < n then 60 else n) = p := ⟨_, rfl⟩
  obtain ⟨q, hq⟩ : ∃ q : Int, (if (l.length : Int) < p then (l.length : Int) else p) = q := ⟨_, rfl⟩
  obtain ⟨N, hN⟩ : ∃ N, Gg.num l n = N := ⟨_, rfl⟩
  obtain ⟨b, hb⟩ : ∃ b, l.length - N = b := ⟨_, rfl⟩
  have hNq : (max 0 q).toNat = N := by rw [<- hN]; unfold Gg.num; omega
  have hql : q ≤ l.length := by omega
  have RES : Gg.sum l n = (l.drop b).sum := by unfold Gg.sum; rw [hN, hb]
  rw [hN, RES]
  clear RES hN
  rcases Int.lt_or_le 0 q with h0 | h0
  · obtain rfl : q = (N : Int) := by omega
    have d0 : decide (0 < (N : Int)) = true := decide_eq_true h0
    have hw : IntKind.i64.wrap ((l.length : Int) - (N : Int)) = (b : Int) := by rw [show (l.length : Int) - (N : Int) = (b : Int) by omega]; exact IntWalk.i64_in _ ⟨by omega, by omega⟩
    go_enter Try.func15, Try.ntmps15
    go_wp2_with fail
    go_loopw [6, 7] (fun s i wr => ∃ j : Nat, b + j ≤ l.length ∧ i = .int .i64 (b + j : Nat) ∧ s = .int .i64 ((l.drop b).take j).sum ∧ wr = w) (fun _ i _ => l.length - (intOf i).toNat)
    case atStart => exact ⟨0, by omega, by go_num, rfl, rfl⟩
    case round =>
      obtain ⟨j, hj, rfl, rfl, rfl⟩ := hrel
      obtain ⟨k, hk⟩ : ∃ k, b + j = k := ⟨_, rfl⟩
      rw [hk]
      by_cases hlt : k < l.length
      · obtain ⟨y, hy⟩ : ∃ y, l[k]? = some y := ⟨_, List.getElem?_eq_getElem hlt⟩
        obtain ⟨g2, rfl, hcl⟩ := HR.out.resolve_left (fun e => by rw [e] at hlt; simp at hlt)
        have cy := hcl k y hy
        have HS : Hid (((l.drop b).take (j + 1)).sum = ((l.drop b).take j).sum + y) := Lib.hid (Gg.take_sum_snoc (by rw [List.getElem?_drop, hk]; exact hy))
        have B := HP.out b (j + 1)
        rw [HS.out] at B
        generalize ((l.drop b).take j).sum = S at *
        have hs : IntKind.i64.wrap (S + y) = S + y := IntWalk.i64_in _ ⟨by omega, by omega⟩
        have d0 : decide ((k : Int) < (l.length : Int)) = true := decide_eq_true (by omega)
        have hk1 : IntKind.i64.wrap ((k : Int) + 1) = (k : Int) + 1 := IntWalk.i64_in _ ⟨by omega, by omega⟩
        have k1 : (0 : Int) ≤ (k : Int) := by omega
        have k2 : (k : Int) < (l.length : Int) := by omega
        clear hcl hy B
        go_wp2_with fail
        go_roundw
        case rel => exact ⟨j + 1, by omega, by go_num, by rw [HS.out], trivial⟩
        case measure => simp [intOf]; omega
      · obtain rfl : k = l.length := by omega
        have d0 : decide ((l.length : Int) < (l.length : Int)) = false := decide_eq_false (by omega)
        have HE : Hid ((l.drop b).take j = l.drop b) := Lib.hid (List.take_of_length_le (by rw [List.length_drop]; omega))
        go_wp2_with fail
        go_returns
        rw [HE.out]
        exact ⟨rfl, rfl⟩
  · obtain rfl : N = 0 := by omega
    have d0 : decide (0 < q) = false := decide_eq_false (by omega)
    have hn0 : ¬ 0 < q := by omega
    have hw : IntKind.i64.wrap (l.length : Int) = (l.length : Int) := IntWalk.i64_in _ ⟨by omega, by omega⟩
    obtain rfl : b = l.length := by omega
    go_enter Try.func15, Try.ntmps15
    go_wp2_with fail
    go_loopw [6, 7] (fun s i wr => ∃ j : Nat, l.length + j ≤ l.length ∧ i = .int .i64 (l.length + j : Nat) ∧ s = .int .i64 ((l.drop l.length).take j).sum ∧ wr = w) (fun _ i _ => l.length - (intOf i).toNat)
    case atStart => exact ⟨0, by omega, by go_num, rfl, rfl⟩
    case round =>
      obtain ⟨j, hj, rfl, rfl, rfl⟩ := hrel
      obtain ⟨k, hk⟩ : ∃ k, l.length + j = k := ⟨_, rfl⟩
      rw [hk]
      by_cases hlt : k < l.length
      · exact absurd hlt (by omega)
      · obtain rfl : k = l.length := by omega
        have d0 : decide ((l.length : Int) < (l.length : Int)) = false := decide_eq_false (by omega)
        have HE : Hid ((l.drop l.length).take j = l.drop l.length) := Lib.hid (List.take_of_length_le (by rw [List.length_drop]; omega))
        go_wp2_with fail
        go_returns
        rw [HE.out]
        exact ⟨rfl, rfl⟩

abbrev ggT : TypeId := 44
/-- A gauge's cells. -/
def ggC (r : List Int) (a b z : Int) : List Value := intsV r ++ [.int .i64 a, .int .i64 b, .int .i64 z]
theorem ggC_at {r : List Int} {a b z : Int} {k : Nat} {x : Int} (h : r[k]? = some x) : (ggC r a b z).toArray[k]? = some (.int .i64 x) := by
  rw [List.getElem?_toArray]
  unfold ggC intsV
  have hk := (List.getElem?_eq_some_iff.1 h).1
  rw [List.getElem?_append_left (by rw [List.length_map]; exact hk), List.getElem?_map, h]
  rfl
theorem ggC_past {r : List Int} {a b z : Int} (hr : r.length = 60) (k : Nat) : (ggC r a b z).toArray[60 + k]? = ([.int .i64 a, .int .i64 b, .int .i64 z] : List Value)[k]? := by
  rw [List.getElem?_toArray]
  unfold ggC intsV
  rw [List.getElem?_append_right (by rw [List.length_map]; omega), List.length_map, hr, Nat.add_sub_cancel_left]
theorem ggC_set {r : List Int} {a b z : Int} (k : Nat) (x : Int) (hk : k < r.length) : (ggC r a b z).toArray.setIfInBounds k (.int .i64 x) = (ggC (r.set k x) a b z).toArray := by
  rw [List.setIfInBounds_toArray]
  unfold ggC intsV
  rw [List.set_append_left _ _ (by rw [List.length_map]; exact hk), List.map_set]
theorem ggC_set60 {r : List Int} {a b z : Int} (hr : r.length = 60) (x : Int) : (ggC r a b z).toArray.setIfInBounds 60 (.int .i64 x) = (ggC r x b z).toArray := by
  rw [List.setIfInBounds_toArray]
  unfold ggC intsV
  rw [List.set_append_right _ _ (by rw [List.length_map]; omega), List.length_map, hr]
  rfl
theorem ggC_set61 {r : List Int} {a b z : Int} (hr : r.length = 60) (x : Int) : (ggC r a b z).toArray.setIfInBounds 61 (.int .i64 x) = (ggC r a x z).toArray := by
  rw [List.setIfInBounds_toArray]
  unfold ggC intsV
  rw [List.set_append_right _ _ (by rw [List.length_map]; omega), List.length_map, hr]
  rfl
theorem ggC_set62 {r : List Int} {a b z : Int} (hr : r.length = 60) (x : Int) : (ggC r a b z).toArray.setIfInBounds 62 (.int .i64 x) = (ggC r a b x).toArray := by
  rw [List.setIfInBounds_toArray]
  unfold ggC intsV
  rw [List.set_append_right _ _ (by rw [List.length_map]; omega), List.length_map, hr]
  rfl
set_option maxHeartbeats 2000000 in
theorem ringadd_any (g : Nat) (r : List Int) (a b : Nat) (z v : Int) (w : World) (h : Blk w g (ggC r a b z).toArray ggT) (hr : r.length = 60) (ha : a < 60) (hb : b ≤ 60) :
    Calls Try.prog 18 #[pz g, .int .i64 v] w fun e w' => (∃ x, e = .returned x) ∧ Blk w' g (ggC (r.set a v) ((a + 1) % 60 : Nat) (min (b + 1) 60 : Nat) z).toArray ggT ∧ Chg (fun k => k = g) w w' := by
  have HB := Lib.hid h
  obtain ⟨y, hy⟩ : ∃ y, r[a]? = some y := ⟨_, List.getElem?_eq_getElem (by omega)⟩
  have hgl := h.lt
  have KC := Lib.hid (fun (w' : World) (h' : Chg (fun _ => False) w w') => (⟨h'.cell ((h.cell 60).trans (ggC_past hr 0)) id, trivial⟩ : w'.cell? ⟨g, 60, none⟩ = some (.int .i64 a) ∧ True))
  have a0 : (0 : Int) ≤ (a : Int) := by omega
  have a6 : (a : Int) < 60 := by omega
  have HY := Lib.hid (ggC_at (a := a) (b := b) (z := z) hy)
  clear h hy
  go_enter Try.func18, Try.ntmps18
  go_wp2_with fail
  refine Evo2.start' (ℓ := some 9) (S := Chg (fun _ => False)) (E := Grow.G) (by kernel_rfl) ⟨Chg.pre _, by decide +kernel, (by intro c a d v w h; cases d <;> exact h), by decide +kernel⟩ (fun ok => ?_)
  refine Evo2.va ok 0 _ _ ?_
  refine Evo2.va ok 1 _ _ ?_
  refine Evo2.va ok 2 _ _ ?_
  refine Evo2.va ok 3 _ _ ?_
  first | (refine Evo2.vl ok 4 KC.out (Chg.refl (fun _ => False) _) _ _ ?_) | (refine Evo2.va ok 4 _ _ ?_)
  refine Evo2.va ok 5 _ _ ?_
  refine Evo2.va ok 6 _ _ ?_
  refine Evo2.va ok 7 _ _ ?_
  refine Evo2.va ok 8 _ _ ?_
  refine Evo2.all [9] (by decide +kernel) rfl ?_
  intro wp1 gp1 iq hq
  simp only [List.mem_cons, List.mem_nil_iff, or_false] at hq
  have AP1 := Chg.trans (Chg.refl (fun _ => False) _) (Chg.grow gp1)
  subst hq
  refine Evo2.runs (by rfl) (by rfl) (fun K' hK' => ?_)
  (try obtain ⟨q1⟩ := KC.out wp1 AP1)
  have BQ := HB.out.chg AP1 id; have gl := BQ.lt; have e0 := (BQ.cell a).trans HY.out; have f0 := BQ.free a; clear BQ
  go_simp
  (try (simp only [Evo.after_value, Evo.after_skip]))
  refine hK'.out _ _ ?_
  clear hK'
  simp only [Act.put, L0, L1, L2]
  (try clear gl e0 f0)
  (try clear q1)
  refine ⟨.inl (by first | rfl | trivial), ?_⟩
  refine Evo2.done (by decide +kernel) (fun wz gz => ?_)
  have BF := ((HB.out.chg AP1 id).set a (.int .i64 v)).grow gz
  rw [ggC_set _ _ (by omega)] at BF
  have CF : Chg (fun k => k = g) w wz := ((AP1.mono (fun _ _ h => h.elim)).trans (Chg.setCell (G := fun k => k = g) (Chg.refl _ _) (fun _ => rfl) _ _)).trans (Chg.grow gz)
  have hr2 : (r.set a v).length = 60 := by rw [List.length_set]; exact hr
  have HR2 := Lib.hid hr2
  have c0 := (BF.cell 60).trans (ggC_past hr2 0)
  have c1 := (BF.cell 61).trans (ggC_past hr2 1)
  have f0 := BF.free 60
  have f1 := BF.free 61
  have l0 := BF.lt
  have HF := Lib.hid (And.intro BF CF)
  have w1 : IntKind.i64.wrap ((a : Int) + 1) = (a : Int) + 1 := IntWalk.i64_in _ ⟨by omega, by omega⟩
  have w2 : IntKind.i64.wrap ((b : Int) + 1) = (b : Int) + 1 := IntWalk.i64_in _ ⟨by omega, by omega⟩
  clear BF CF gz KC AP1 hr hr2
  dsimp only [List.getElem?_cons_zero, List.getElem?_cons_succ] at c0 c1
  go_wp2_with fail
  · go_returns
    have B2 := (HF.out.1.set 60 (.int .i64 (((a : Int) + 1) % 60))).set 61 (.int .i64 60)
    rw [ggC_set60 HR2.out, ggC_set61 HR2.out] at B2
    refine ⟨⟨_, rfl⟩, ?_, ?_⟩
    · rw [show min (b + 1) 60 = 60 by omega]
      exact B2
    · exact HF.out.2.trans (Chg.setCell (G := fun k => k = g) (Chg.setCell (G := fun k => k = g) (Chg.refl _ _) (fun _ => rfl) _ _) (fun _ => rfl) _ _)
  · go_returns
    have B2 := (HF.out.1.set 60 (.int .i64 (((a : Int) + 1) % 60))).set 61 (.int .i64 ((b : Int) + 1))
    rw [ggC_set60 HR2.out, ggC_set61 HR2.out] at B2
    refine ⟨⟨_, rfl⟩, ?_, ?_⟩
    · rw [show min (b + 1) 60 = b + 1 by omega]
      exact B2
    · exact HF.out.2.trans (Chg.setCell (G := fun k => k = g) (Chg.setCell (G := fun k => k = g) (Chg.refl _ _) (fun _ => rfl) _ _) (fun _ => rfl) _ _)
/-- The ring has the last samples, each at its own place. -/
structure GgIn (w : World) (g : Nat) (l r : List Int) : Prop where
  hb : Blk w g (ggC r (l.length % 60 : Nat) (min l.length 60 : Nat) (Gg.idle l : Nat)).toArray ggT
  hr : r.length = 60
  hl : ∀ i x, l[i]? = some x → l.length ≤ i + 60 → r[i % 60]? = some x
  ok : Gg.ok l
def GgP (g : Nat) (l : List Int) : Hp := fun w F => ∃ r, GgIn w g l r ∧ ∀ k, F k ↔ k = g
theorem GgIn.chg {w w' : World} {g : Nat} {l r : List Int} {G : Nat → Prop} (h : GgIn w g l r) (c : Chg G w w') (hG : ¬ G g) : GgIn w' g l r := ⟨h.hb.chg c hG, h.hr, h.hl, h.ok⟩
theorem GgIn.grow {w w' : World} {g : Nat} {l r : List Int} (h : GgIn w g l r) (c : Grow.G w w') : GgIn w' g l r := h.chg (Chg.grow (G := fun _ => False) c) id
theorem GgP.foot (g : Nat) (l : List Int) : Foot (GgP g l) where
  lt := fun ⟨r, h, e⟩ k hk => by rw [(e k).1 hk]; exact h.hb.lt
  frame := fun ⟨r, h, e⟩ c hs => ⟨r, h.chg c (hs g ((e g).2 rfl)), e⟩
theorem GgP.ok {g : Nat} {l : List Int} {w : World} {F : Nat → Prop} (h : GgP g l w F) : Gg.ok l := h.choose_spec.1.ok
/-- One sample more in the ring. -/
theorem ring_add {l r : List Int} (hr : r.length = 60) (hl : ∀ i x, l[i]? = some x → l.length ≤ i + 60 → r[i % 60]? = some x) (v : Int) :
    ∀ i x, (l ++ [v])[i]? = some x → (l ++ [v]).length ≤ i + 60 → (r.set (l.length % 60) v)[i % 60]? = some x := by
  intro i x hx hi
  rw [List.length_append, List.length_singleton] at hi
  rcases Nat.lt_or_ge i l.length with h | h
  · rw [List.getElem?_append_left h] at hx
    rw [List.getElem?_set_ne (by omega)]
    exact hl i x hx (by omega)
  · rw [List.getElem?_append_right h] at hx
    have h0 : i - l.length = 0 := by
      have := (List.getElem?_eq_some_iff.1 hx).1
      rw [List.length_singleton] at this
      omega
    have hi2 : i = l.length := by omega
    rw [h0] at hx
    rw [hi2, List.getElem?_set_self (by omega)]
    exact hx
theorem GgIn.add {w : World} {g : Nat} {l r : List Int} (hr : r.length = 60) (hl : ∀ i x, l[i]? = some x → l.length ≤ i + 60 → r[i % 60]? = some x) (ok : Gg.ok l) {v : Int} (hv : v ≤ 1000000) (hn : l.length < 1000) {z : Int}
    (hz : z = (Gg.idle (Gg.add l v) : Nat))
    (h : Blk w g (ggC (r.set (l.length % 60) (max v 0)) ((l.length % 60 + 1) % 60 : Nat) (min (min l.length 60 + 1) 60 : Nat) z).toArray ggT) : GgIn w g (Gg.add l v) (r.set (l.length % 60) (max v 0)) := by
  refine ⟨?_, by rw [List.length_set]; exact hr, ring_add hr hl _, Gg.ok_add ok hv hn⟩
  rw [Gg.len_add, ← hz, show (l.length + 1) % 60 = (l.length % 60 + 1) % 60 by omega, show min (l.length + 1) 60 = min (min l.length 60 + 1) 60 by omega]
  exact h
theorem GgP.fin {g : Nat} {l' r' : List Int} {w w' : World} {F : Nat → Prop} (e : ∀ k, F k ↔ k = g) (h : GgIn w' g l' r') (c : Chg (fun k => k = g) w w') : EndS w w' F (GgP g l') :=
  ⟨fun k => k = g, ⟨r', h, fun k => Iff.rfl⟩, c.sub fun k hk => (e k).2 hk, fun k hk => .inl ((e k).2 hk)⟩
set_option maxHeartbeats 2000000 in
theorem ggadd_any (g : Nat) (l : List Int) (v : Int) (w : World) (F : Nat → Prop) (h : GgP g l w F) (hv : -1000000 ≤ v ∧ v ≤ 1000000) (hn : l.length < 1000) :
    Calls Try.prog 12 #[pz g, .int .i64 v] w fun e w' => (∃ x, e = .returned x) ∧ EndS w w' F (GgP g (Gg.add l v)) := by
  obtain ⟨r, hI, he⟩ := h
  have HE := Lib.hid he
  have hgl := hI.hb.lt
  have HI := Lib.hid hI
  have HM := Lib.hid (ringadd_any g r (l.length % 60) (min l.length 60) (Gg.idle l : Nat) (max v 0) w hI.hb hI.hr (by omega) (by omega))
  have HL := Lib.hid (Gg.idle_le l)
  obtain ⟨hv1, hv2⟩ := hv
  have dt : decide (1000000 < v) = false := decide_eq_false (by omega)
  have hdt : ¬ 1000000 < v := by omega
  clear he hI
  rcases Int.lt_or_le 0 v with hp | hp
  · have hm : max v 0 = v := by omega
    rw [hm] at HM
    have d1 : decide (0 < v) = true := decide_eq_true hp
    have hn0 : ¬ v < 0 := by omega
    have HS := Lib.hid (Gg.idle_some (l := l) hp)
    have HG := Lib.hid (And.intro (And.intro hv1 hv2) hm)
    clear hv1 hv2 hm
    go_enter Try.func12, Try.ntmps12
    go_wp2_with fail
    refine HM.out.mono ?_
    rintro e w1 ⟨⟨x, rfl⟩, hb, hc⟩
    have f2 := hb.free 62
    have l2 := hb.lt
    have c2 := (hb.cell 62).trans (ggC_past (by rw [List.length_set]; exact HI.out.hr) 2)
    dsimp only [List.getElem?_cons_zero, List.getElem?_cons_succ] at c2
    have HW := Lib.hid (And.intro hb hc)
    clear hb hc
    go_wp2_with fail
    go_returns
    have B2 := HW.out.1.set 62 (.int .i64 0)
    rw [ggC_set62 (by rw [List.length_set]; exact HI.out.hr)] at B2
    refine ⟨⟨_, rfl⟩, GgP.fin HE.out (GgIn.add HI.out.hr HI.out.hl HI.out.ok HG.out.1.2 hn (z := 0) (by rw [HS.out]; rfl) (by rw [HG.out.2]; exact B2)) (HW.out.2.trans (Chg.setCell (G := fun k => k = g) (Chg.refl _ _) (fun _ => rfl) _ _))⟩
  · have hm : max v 0 = 0 := by omega
    rw [hm] at HM
    clear hm
    rcases Int.lt_or_le v 0 with hq | hq
    · have d1 : decide (0 < v) = false := decide_eq_false (by omega)
      have HS := Lib.hid (Gg.idle_neg l v (by omega))
      go_enter Try.func12, Try.ntmps12
      go_wp2_with fail
      refine HM.out.mono ?_
      rintro e w1 ⟨⟨x, rfl⟩, hb, hc⟩
      have f2 := hb.free 62
      have l2 := hb.lt
      have c2 := (hb.cell 62).trans (ggC_past (by rw [List.length_set]; exact HI.out.hr) 2)
      dsimp only [List.getElem?_cons_zero, List.getElem?_cons_succ] at c2
      have HW := Lib.hid (And.intro hb hc)
      have wi : IntKind.i64.wrap ((Gg.idle l : Int) + 1) = (Gg.idle l : Int) + 1 := IntWalk.i64_in _ ⟨by omega, by have := HL.out; omega⟩
      clear hb hc
      go_wp2_with fail
      go_returns
      have B2 := HW.out.1.set 62 (.int .i64 ((Gg.idle l : Int) + 1))
      rw [ggC_set62 (by rw [List.length_set]; exact HI.out.hr)] at B2
      refine ⟨⟨_, rfl⟩, GgP.fin HE.out (GgIn.add HI.out.hr HI.out.hl HI.out.ok (by omega) hn (z := (Gg.idle l : Int) + 1) (by rw [HS.out]; rfl) (by rw [show max (v : Int) 0 = 0 by omega]; exact B2)) (HW.out.2.trans (Chg.setCell (G := fun k => k = g) (Chg.refl _ _) (fun _ => rfl) _ _))⟩
    · obtain rfl : v = 0 := by omega
      have HS := Lib.hid (Gg.idle_neg l 0 (by omega))
      go_enter Try.func12, Try.ntmps12
      go_wp2_with fail
      refine HM.out.mono ?_
      rintro e w1 ⟨⟨x, rfl⟩, hb, hc⟩
      have f2 := hb.free 62
      have l2 := hb.lt
      have c2 := (hb.cell 62).trans (ggC_past (by rw [List.length_set]; exact HI.out.hr) 2)
      dsimp only [List.getElem?_cons_zero, List.getElem?_cons_succ] at c2
      have HW := Lib.hid (And.intro hb hc)
      have wi : IntKind.i64.wrap ((Gg.idle l : Int) + 1) = (Gg.idle l : Int) + 1 := IntWalk.i64_in _ ⟨by omega, by have := HL.out; omega⟩
      clear hb hc
      go_wp2_with fail
      go_returns
      have B2 := HW.out.1.set 62 (.int .i64 ((Gg.idle l : Int) + 1))
      rw [ggC_set62 (by rw [List.length_set]; exact HI.out.hr)] at B2
      refine ⟨⟨_, rfl⟩, GgP.fin HE.out (GgIn.add HI.out.hr HI.out.hl HI.out.ok (by omega) hn (z := (Gg.idle l : Int) + 1) (by rw [HS.out]; rfl) (by rw [show max (0 : Int) 0 = 0 by omega]; exact B2)) (HW.out.2.trans (Chg.setCell (G := fun k => k = g) (Chg.refl _ _) (fun _ => rfl) _ _))⟩
end Go.Proofs.Ytpfjpeddplkbgaa

/- The program's gauge: New, Idle, what the ring yields. -/
namespace Go.Proofs.Ytpfjpeddplkbgaa
set_option maxRecDepth 100000
set_option linter.unusedVariables false
set_option linter.unusedSimpArgs false
set_option linter.unnecessarySimpa false
open Go.RowKit Go.Args
attribute [local go_sem] Oper.semAt_some

theorem gnew_any (w : World) : Calls Try.prog 10 #[] w fun e w' => e = .returned (pz w.heap.size) ∧ Grow.G w w' ∧ GgIn w' w.heap.size Gg.new (List.replicate 60 0) := by
  go_enter Try.func10, Try.ntmps10
  go_wp2_with fail
  go_ret
  refine ⟨rfl, by (repeat (first | with_reducible exact Grow.G.refl _ | with_reducible exact Below.refl _ _ | with_reducible refine Grow.G.alloc ?_ _ | with_reducible refine Grow.G.trans ?_ hb1 | ((with_reducible refine Below.setCell ?_ ?_ _); rotate_left; (focus (first | omega | (simp; done) | (simp; omega)))) | with_reducible assumption | with_reducible refine Grow.G.trans ?_ (by with_reducible assumption))), ?_, List.length_replicate .., fun i x h => by simp [Gg.new] at h, Gg.ok_new⟩
  exact Blk.new w _ _
theorem gidle_any (g : Nat) (l r : List Int) (w : World) (h : GgIn w g l r) :
    Calls Try.prog 16 #[pz g] w fun e w' => e = .returned (.int .i64 (Gg.idle l)) ∧ w = w' := by
  have c2 := (h.hb.cell 62).trans (ggC_past h.hr 2)
  dsimp only [List.getElem?_cons_zero, List.getElem?_cons_succ] at c2
  have hl := h.hb.lt
  clear h
  go_enter Try.func16, Try.ntmps16
  go_wp2_with fail
  go_ret
  exact ⟨rfl, rfl⟩
theorem newest_any (g : Nat) (w : World) : Calls Try.prog 19 #[pz g] w fun e w' => ∃ b, e = .returned (.func (.func 20) #[] #[pz b]) ∧ w.heap.size ≤ b ∧ Blk w' b #[pz g] 48 ∧ Grow.G w w' := by
  go_enter Try.func19, Try.ntmps19
  go_wp2
  go_ret
  refine ⟨w.heap.size, rfl, Nat.le_refl _, Blk.new w _ _, ?_⟩
  (repeat (first | with_reducible exact Grow.G.refl _ | with_reducible exact Below.refl _ _ | with_reducible refine Grow.G.alloc ?_ _ | with_reducible refine Grow.G.trans ?_ hb1 | ((with_reducible refine Below.setCell ?_ ?_ _); rotate_left; (focus (first | omega | (simp; done) | (simp; omega)))) | with_reducible assumption | with_reducible refine Grow.G.trans ?_ (by with_reducible assumption)))
/-- The last ones, the newest one ahead. -/
def Gg.lastL (l : List Int) : List Int := l.reverse.take 60
theorem Gg.lastL_len (l : List Int) : (Gg.lastL l).length = min l.length 60 := by unfold Gg.lastL; rw [List.length_take, List.length_reverse]; omega
theorem Gg.lastL_at {l : List Int} {k : Nat} (h : k < min l.length 60) : (Gg.lastL l)[k]? = l[l.length - 1 - k]? := by
  unfold Gg.lastL
  rw [List.getElem?_take_of_lt (by omega), List.getElem?_reverse (by omega)]
def niE (x : Int) : Array Value := #[.int .i64 x]
def NiOk (l : List Int) (pre : List Int) (x : Int) (W : World) : Prop := pre = l.take pre.length ∧ l[pre.length]? = some x
set_option maxHeartbeats 4000000 in
theorem newest_seq (bb g : Nat) (l r : List Int) (w : World) (hk : Blk w bb #[pz g] 48) (hs : GgIn w g l r) :
    Iter.Seq Try.prog 20 #[pz bb] niE (NiOk (Gg.lastL l)) (Iter.KeepP (fun k => k = g ∨ k = bb)) (fun xs => xs = Gg.lastL l) w := by
  intro ln J Jx W hG hJ hJx hY h0
  have HB := Lib.hid (hs.hb.grow hG)
  have HK := Lib.hid (hk.grow hG)
  have b0 := Blk.at (cs := [pz g]) (k := 0) HK.out rfl
  have c0 := (HB.out.cell 60).trans (ggC_past hs.hr 0)
  have c1 := (HB.out.cell 61).trans (ggC_past hs.hr 1)
  dsimp only [List.getElem?_cons_zero, List.getElem?_cons_succ] at c0 c1
  have hbb := HK.out.lt
  have hgl := HB.out.lt
  have HJ := Lib.hid hJ
  have HY := Lib.hid hY
  have H0 := Lib.hid h0
  have HR := Lib.hid hs.hl
  have HR6 := Lib.hid hs.hr
  have hll := hs.ok.len
  have HZ := Lib.hid (Gg.lastL_len l)
  have HA := Lib.hid (fun k => Gg.lastL_at (l := l) (k := k))
  clear hk hs hG hJ hJx hY h0
  generalize hM : Gg.lastL l = M at *
  generalize hn : min l.length 60 = n at *
  have hn60 : n ≤ 60 := by omega
  have hnl : n ≤ l.length := by omega
  generalize ha : l.length % 60 = a at *
  have ha60 : a < 60 := by omega
  have HAN := Lib.hid (And.intro hn ha)
  clear hM hn ha
  refine (callsIn_wide (n := 0)).1 ?_
  refine callsIn_of_wp Try.func20 rfl trivial ?_
  simp only [Try.ntmps20, List.size_toArray, List.length_cons, List.length_nil, Nat.reduceAdd, Nat.reduceSub, Array.replicate_succ, Array.replicate_zero, List.push_toArray, List.append_toArray, List.nil_append, List.cons_append]
  gi_wp2_with fail
  clear b0 c0 c1
  gi_loopw [3, 12] (fun u i wr => ∃ (pre : List Int) (k p : Nat), k ≤ n ∧ i = .int .i64 k ∧ u = .int .i64 p ∧ p < 60 ∧ Hid (p = (a + 60 - k) % 60) ∧ Hid (pre = M.take k ∧ Blk wr bb #[pz g] 48 ∧ Blk wr g (ggC r a n (Gg.idle l : Nat)).toArray ggT ∧ J pre wr)) (fun _ i _ => n - (intOf i).toNat)
  case atStart => exact ⟨[], 0, a, by omega, rfl, rfl, ha60, Lib.hid (by omega), Lib.hid ⟨by simp, HK.out, HB.out, H0.out⟩⟩
  case round =>
    obtain ⟨pre, k, p, hk, rfl, rfl, hp60, HP, HI⟩ := hrel
    by_cases hlt : k < n
    · obtain ⟨hpl, hbk, hbg, hj⟩ := HI.out
      obtain ⟨x, hx⟩ : ∃ x, M[k]? = some x := ⟨_, List.getElem?_eq_getElem (by rw [HZ.out]; exact hlt)⟩
      have hpk : pre.length = k := by rw [hpl, List.length_take, HZ.out]; omega
      obtain ⟨q, hq⟩ : ∃ q, (a + 60 - (k + 1)) % 60 = q := ⟨_, rfl⟩
      have hrq : r[q]? = some x := by
        have e := HR.out (l.length - 1 - k) x (by rw [← HA.out k hlt]; exact hx) (by have := HAN.out.1; omega)
        rw [show (l.length - 1 - k) % 60 = q by rw [← hq]; have := HAN.out.2; have := HAN.out.1; omega] at e
        exact e
      have b0 := Blk.at (cs := [pz g]) (k := 0) hbk rfl
      have c2 := (hbg.cell q).trans (ggC_at hrq)
      have l0 := hbk.lt
      have l1 := hbg.lt
      have hk1 : IntKind.i64.wrap ((k : Int) + 1) = (k : Int) + 1 := IntWalk.i64_in _ ⟨by omega, by omega⟩
      have d0 : decide ((k : Int) < (n : Int)) = true := decide_eq_true (by omega)
      have w1 : IntKind.i64.wrap ((p : Int) + 60) = (p : Int) + 60 := IntWalk.i64_in _ ⟨by omega, by omega⟩
      have w2 : IntKind.i64.wrap ((p : Int) + 60 - 1) = (p : Int) + 60 - 1 := IntWalk.i64_in _ ⟨by omega, by omega⟩
      have w3 : ((p : Int) + 60 - 1) % 60 = (q : Int) := by have := HP.out; omega
      have q0 : (0 : Int) ≤ (q : Int) := by omega
      have q6 : (q : Int) < 60 := by omega
      have HQ := Lib.hid hq
      obtain ⟨fn, tmps, assign, body, hy, hR⟩ := HY.out pre x wr hj ⟨by rw [hpk]; exact hpl, by rw [hpk]; exact hx⟩
      (try unfold niE at hy); (try unfold niE at hR)
      (try dsimp only at hy); (try dsimp only at hR)
      have HN := Lib.hid (And.intro (show pre ++ [x] = M.take (k + 1) by rw [List.take_add_one, hx, ← hpl]; rfl) (And.intro hbk hbg))
      clear hpl hbk hbg hj HI hx hq hrq
      gi_wp2_with fail
      refine ⟨rfl, hR.mono ?_⟩
      rintro e wk (⟨rfl, hj3, hk3⟩ | ⟨rfl, hx3⟩)
      · have HKP := Lib.hid (And.intro hj3 hk3)
        clear hj3 hk3 hR hy
        gi_wp2_with fail
        go_roundw
        case rel => exact ⟨pre ++ [_], k + 1, q, by omega, by go_num, rfl, by omega, Lib.hid HQ.out.symm, Lib.hid ⟨HN.out.1, HKP.out.2.blk HN.out.2.1 (.inr rfl), HKP.out.2.blk HN.out.2.2 (.inl rfl), HKP.out.1⟩⟩
        case measure => simp [intOf]; omega
      · have HX := Lib.hid hx3
        clear hx3 hR hy
        gi_wp2_with fail
        refine bodyPost_ret (results_none rfl _ _ _) rfl ?_
        exact ⟨⟨_, rfl⟩, .inr ⟨_, HX.out⟩⟩
    · have d0 : decide ((k : Int) < (n : Int)) = false := decide_eq_false (by omega)
      obtain ⟨hpl, hbk, hbg, hj⟩ := HI.out
      have HN := Lib.hid (And.intro hj (show pre = M by rw [hpl]; exact List.take_of_length_le (by rw [HZ.out]; omega)))
      clear hpl hbk hbg hj HI
      gi_wp2_with fail
      go_end0
      exact ⟨⟨_, rfl⟩, .inl ⟨pre, HN.out.2, HN.out.1⟩⟩

theorem zip1x (p : Tmp) (v : Value) (t : Array Value) : ((#[p] : Array Tmp).zip #[v]).foldl (fun t (p, v) => t.setIfInBounds p v) t = t.setIfInBounds p v := by simp [← Array.foldl_toList, Array.toList_zip]
/-- What has been summed so far: three variables of the call's own. -/
def LastI (w : World) (l : List Int) (n : Int) (pre : List Int) (W : World) : Prop :=
  Blk W w.heap.size #[.int .i64 n] 3 ∧ Blk W (w.heap.size + 1) #[.int .i64 pre.sum] 3 ∧ Blk W (w.heap.size + 2) #[.int .i64 pre.length] 3 ∧ Below w.heap.size w W ∧ (pre.length : Int) ≤ max n 0 ∧ pre = (Gg.lastL l).take pre.length
theorem Gg.last_bound {l : List Int} (h : Gg.ok l) {pre : List Int} (hp : pre = (Gg.lastL l).take pre.length) : 0 ≤ pre.sum ∧ pre.sum ≤ 60000000 ∧ pre.length ≤ 60 := by
  have hl : pre.length ≤ 60 := by
    have := congrArg List.length hp
    rw [List.length_take, Gg.lastL_len] at this
    omega
  have := Gg.sum_bound pre (fun x hx => h.v x (by
    rw [hp] at hx
    have := List.mem_of_mem_take hx
    unfold Gg.lastL at this
    exact List.mem_reverse.1 (List.mem_of_mem_take this)))
  omega
def LastX (w : World) (l : List Int) (n : Int) (cd : Code) (s : List Int) (W : World) : Prop :=
  cd = .exit 0 ∧ ∃ pre, n ≤ pre.length ∧ pre.length < (Gg.lastL l).length ∧ LastI w l n pre W
theorem Gg.sum_last {l : List Int} {n : Int} {k : Nat} (hk : k = Gg.num l n) : ((Gg.lastL l).take k).sum = Gg.sum l n := by
  unfold Gg.lastL Gg.sum
  have h6 := Gg.num_le l n
  rw [← hk] at h6 ⊢
  rw [List.take_take, show min k 60 = k by omega, List.take_reverse, List.sum_reverse]
set_option maxHeartbeats 8000000 in
theorem glast_any (g : Nat) (l r : List Int) (n : Int) (w : World) (h : GgIn w g l r) (hwn : wf64 n) :
    Calls Try.prog 14 #[pz g, .int .i64 n] w fun e w' => e = .returned (.tuple #[.int .i64 (Gg.sum l n), .int .i64 (Gg.num l n)]) ∧ Grow.G w w' := by
  have HP := Lib.hid h
  have hgl := h.hb.lt
  have hll := h.ok.len
  have HV := Lib.hid h.ok
  clear h
  refine (callsIn_wide (n := 0)).1 ?_
  refine callsIn_of_wp_marks Try.func14 rfl trivial ?_
  simp only [Try.ntmps14, List.size_toArray, List.length_cons, List.length_nil, Nat.reduceAdd, Nat.reduceSub, Array.replicate_succ, Array.replicate_zero, List.push_toArray, List.append_toArray, List.nil_append, List.cons_append]
  gi_wp2_with fail
  refine ⟨trivial, rfl, (callsIn_wide.2 (newest_any g _)).mono ?_⟩
  rintro e w1 ⟨bb, rfl, hbb, hk, hg1⟩
  have G0 : Grow.G w (((w.alloc (.cells #[.int .i64 n] 3)).alloc (.cells #[.int .i64 0] 3)).alloc (.cells #[.int .i64 0] 3)) := by (repeat (first | with_reducible exact Grow.G.refl _ | with_reducible exact Below.refl _ _ | with_reducible refine Grow.G.alloc ?_ _ | with_reducible refine Grow.G.trans ?_ hb1 | ((with_reducible refine Below.setCell ?_ ?_ _); rotate_left; (focus (first | omega | (simp; done) | (simp; omega)))) | with_reducible assumption | with_reducible refine Grow.G.trans ?_ (by with_reducible assumption)))
  have B1 := ((((Blk.new w #[.int .i64 n] 3).alloc (.cells #[.int .i64 0] 3)).alloc (.cells #[.int .i64 0] 3)).grow hg1)
  have B2 := ((Blk.new (w.alloc (.cells #[.int .i64 n] 3)) #[.int .i64 0] 3).alloc (.cells #[.int .i64 0] 3)).grow hg1
  have B3 := (Blk.new ((w.alloc (.cells #[.int .i64 n] 3)).alloc (.cells #[.int .i64 0] 3)) #[.int .i64 0] 3).grow hg1
  simp only [World.size_alloc] at B2 B3 hbb
  have GA := G0.trans hg1
  have P1 := Lib.hid (HP.out.grow GA)
  have hk0 := Lib.hid hk
  have hgW : g < w.heap.size := hgl
  have hw1 : w.heap.size + 2 < w1.heap.size := B3.lt
  clear G0 hg1
  gi_wp2_with fail
  refine Iter.range (gf := 20) (lb := #[pz bb]) (encs := niE) (Ok := NiOk (Gg.lastL l)) (Kp := Iter.KeepP (fun k => k = g ∨ k = bb)) (S := fun xs => xs = Gg.lastL l) rfl (enters_of Try.func20 (by kernel_rfl) rfl) (newest_seq bb g l r w1 hk P1.out) (Grow.G.refl _) (fun _ => rfl) (fun s x A B h b => h) Iter.KeepP.trans (fun h => Iter.KeepP.book h (fun k hk => by rcases hk with rfl | rfl; exact P1.out.hb.lt; exact hk.lt))
    (LastI w l n) (LastX w l n) ?hI ?hIx ?h0 ?round ?done ?stop
  case hI =>
    rintro s A B ⟨h1, h2, h3, hB, hN, hpq⟩ hbk
    exact ⟨h1.book hbk, h2.book hbk, h3.book hbk, hB.trans (hbk.below.mono (by have := hB.size; omega)), hN, hpq⟩
  case h0 => exact ⟨B1, B2, B3, GA, by simp; omega, rfl⟩
  case hIx =>
    rintro cd s A B ⟨hcd, pre, p1, p2, h1, h2, h3, hB, hN, hpq⟩ hbk
    exact ⟨hcd, pre, p1, p2, h1.book hbk, h2.book hbk, h3.book hbk, hB.trans (hbk.below.mono (by have := hB.size; omega)), hN, hpq⟩
  case round =>
    rintro ln pre x W hl ⟨hb1, hb2, hb3, hB, hN, hpq⟩ hok
    simp only [niE, zip1x, List.setIfInBounds_toArray, List.set_cons_zero, List.set_cons_succ]
    gi_wp2_with fail
    refine ⟨Grow.G.refl _, fun W₂ hbk _ => ?_⟩
    have C1 := hb1.book hbk
    have C2 := hb2.book hbk
    have C3 := hb3.book hbk
    have BW := hB.trans (hbk.below.mono (by have := hB.size; omega))
    have r1 := Blk.at (cs := [Value.int .i64 n]) (k := 0) C1 rfl
    have r2 := Blk.at (cs := [Value.int .i64 pre.sum]) (k := 0) C2 rfl
    have r3 := Blk.at (cs := [Value.int .i64 pre.length]) (k := 0) C3 rfl
    have f2 := C2.free 0
    have f3 := C3.free 0
    have sW := BW.size
    have lW := C3.lt
    have H := Lib.hid (And.intro C1 (And.intro C2 (And.intro C3 BW)))
    have HK := Lib.hid (And.intro hN (And.intro hpq (And.intro hok.1 hok.2)))
    have hlt : pre.length < (Gg.lastL l).length := (List.getElem?_eq_some_iff.1 hok.2).1
    obtain ⟨sb0, sb1, sb2⟩ := Gg.last_bound HV.out hpq
    have hx0 := HV.out.v x (by have := List.mem_of_getElem? hok.2; unfold Gg.lastL at this; exact List.mem_reverse.1 (List.mem_of_mem_take this))
    obtain ⟨x0, x1⟩ := hx0
    have hw1 : IntKind.i64.wrap (pre.sum + x) = pre.sum + x := IntWalk.i64_in _ ⟨by omega, by omega⟩
    have hw2 : IntKind.i64.wrap ((pre.length : Int) + 1) = (pre.length : Int) + 1 := IntWalk.i64_in _ ⟨by omega, by omega⟩
    clear hb1 hb2 hb3 hB hN hpq hbk hok C1 C2 C3 BW
    by_cases e : n ≤ (pre.length : Int)
    · have d0 : decide (n ≤ (pre.length : Int)) = true := decide_eq_true e
      gi_wp2_with fail
      obtain ⟨C1, C2, C3, BW⟩ := H.out
      exact ⟨Iter.Rest.refl _ _, rfl, pre, e, hlt, C1, C2, C3, BW, HK.out.1, HK.out.2.1⟩
    · have d0 : decide (n ≤ (pre.length : Int)) = false := decide_eq_false e
      gi_wp2_with fail
      obtain ⟨C1, C2, C3, BW⟩ := H.out
      have CS : Chg (fun k => k = w.heap.size + 1 ∨ k = w.heap.size + 2) W₂ ((W₂.setCell ⟨w.heap.size + 1, 0, none⟩ (.int .i64 (pre.sum + x))).setCell ⟨w.heap.size + 2, 0, none⟩ (.int .i64 ((pre.length : Int) + 1))) := Chg.setCell (Chg.setCell (Chg.refl _ _) (fun _ => .inl rfl) _ _) (fun _ => .inr rfl) _ _
      refine ⟨(Iter.Rest.setCell _ _ _).trans (Iter.Rest.setCell _ _ _), Iter.KeepP.chg CS (fun k hk q => by have := P1.out.hb.lt; have := hk0.out.lt; rcases hk with rfl | rfl <;> omega), C1.chg CS (by omega), ?_, ?_, BW.trans (CS.below (B := w.heap.size) sW (fun k hk q => by omega)), ?_, ?_⟩
      · have := (C2.set 0 (.int .i64 (pre.sum + x))).other (b := w.heap.size + 2) (by omega) 0 (.int .i64 ((pre.length : Int) + 1))
        rw [List.sum_append, List.sum_singleton]
        exact this
      · have := (C3.other (b := w.heap.size + 1) (by omega) 0 (.int .i64 (pre.sum + x))).set 0 (.int .i64 ((pre.length : Int) + 1))
        rw [List.length_append, List.length_singleton]
        exact this
      · rw [List.length_append, List.length_singleton]; omega
      · rw [List.length_append, List.length_singleton, List.take_add_one, ← HK.out.2.1, HK.out.2.2.2]
        rfl
  case done =>
    rintro pre W hS ⟨hb1, hb2, hb3, hB, hN, hpq⟩ hD
    replace hS : pre = Gg.lastL l := hS
    have HE := Lib.hid (show pre.sum = Gg.sum l n ∧ (pre.length : Int) = Gg.num l n from by
      have e : pre.length = Gg.num l n := by
        unfold Gg.num
        have := Gg.lastL_len l
        have h2 := congrArg List.length hS
        omega
      exact ⟨by conv => lhs; rw [hpq]
                exact Gg.sum_last e, by rw [e]⟩)
    generalize pre.sum = sm at *
    generalize (pre.length : Int) = cn at *
    have SB : Blk W (w.heap.size + 1) #[.int .i64 sm] 3 := hb2
    have z0 := Blk.at (cs := [Value.int .i64 sm]) (k := 0) SB rfl
    have HC := Lib.hid (show Blk W (w.heap.size + 2) #[.int .i64 cn] 3 from hb3)
    have HDD := Lib.hid hD
    have HB := Lib.hid hB
    have sW := hB.size
    have lW := hb3.lt
    have KC := Lib.hid (fun (w' : World) (h : Chg (fun k => k = w.heap.size + 1) W w') => (⟨h.cell (Blk.at (cs := [Value.int .i64 cn]) (k := 0) HC.out rfl) (show ¬ w.heap.size + 2 = w.heap.size + 1 by omega), trivial⟩ : w'.cell? ⟨w.heap.size + 2, 0, none⟩ = some (.int .i64 cn) ∧ True))
    clear hb1 hb2 hb3 hB hD hN hpq
    gi_wp2_with fail
    refine wpIn_wide.2 ?_
    refine Round.wp_calm ?_
    refine Evo2.start' (ℓ := some 3) (S := Chg (fun k => k = w.heap.size + 1)) (E := Grow.G) (by kernel_rfl) ⟨Chg.pre _, by decide +kernel, (by intro c a d v w h; cases d <;> exact h), by decide +kernel⟩ (fun ok => ?_)
    first | (refine Evo2.vl ok 1 KC.out (Chg.refl (fun k => k = w.heap.size + 1) _) _ _ ?_) | (refine Evo2.va ok 1 _ _ ?_)
    refine Evo2.all [0] (by decide +kernel) rfl ?_
    intro wp1 gp1 iq hq
    simp only [List.mem_cons, List.mem_nil_iff, or_false] at hq
    have AP1 := Chg.trans (Chg.refl (fun k => k = w.heap.size + 1) _) (Chg.grow gp1)
    (try replace z0 := cell_later gp1 z0); (try replace SB := Blk.grow SB gp1)
    subst hq
    refine Evo2.runs (by rfl) (by rfl) (fun K' hK' => ?_)
    (try obtain ⟨q1⟩ := KC.out wp1 AP1)
    go_simp
    (try (simp only [Evo.after_value, Evo.after_skip]))
    refine hK'.out _ _ ?_
    clear hK'
    simp only [Act.put, L0, L1, L2]
    (try clear q1)
    refine ⟨.inr (Chg.refl _ _), ?_⟩
    refine Evo2.all [2] (by decide +kernel) rfl ?_
    intro wp2 gp2 iq hq
    simp only [List.mem_cons, List.mem_nil_iff, or_false] at hq
    have AP2 := Chg.trans AP1 (Chg.grow gp2)
    (try replace z0 := cell_later gp2 z0); (try replace SB := Blk.grow SB gp2)
    subst hq
    refine Evo2.runs (by rfl) (by rfl) (fun K' hK' => ?_)
    (try obtain ⟨q1⟩ := KC.out wp2 AP2)
    have f0 := Blk.free SB 0; have gl := Blk.lt SB
    go_simp
    (try (simp only [Evo.after_value, Evo.after_skip]))
    refine hK'.out _ _ ?_
    clear hK'
    simp only [Act.put, L0, L1, L2]
    (try clear f0 gl z0)
    have SB := Blk.set SB 0 (.int .i64 sm)
    (try clear q1)
    refine ⟨.inr (by (repeat refine Chg.setCell ?_ (fun _ => by first | rfl | (simp; done) | (simp; omega)) _ _); exact Chg.refl _ _), ?_⟩
    refine Evo2.all [3] (by decide +kernel) rfl ?_
    intro wp3 gp3 iq hq
    simp only [List.mem_cons, List.mem_nil_iff, or_false] at hq
    have AP3 := Chg.trans (Chg.trans AP2 (by (repeat refine Chg.setCell ?_ (fun _ => by first | rfl | (simp; done) | (simp; omega)) _ _); exact Chg.refl _ _)) (Chg.grow gp3)
    (try replace z0 := cell_later gp3 z0); (try replace SB := Blk.grow SB gp3)
    subst hq
    refine Evo2.runs (by rfl) (by rfl) (fun K' hK' => ?_)
    (try obtain ⟨q1⟩ := KC.out wp3 AP3)
    have BQ := HC.out.chg AP3 (by omega); have f0 := Blk.free BQ 0; have e0 := Blk.at (cs := [Value.int .i64 cn]) (k := 0) BQ rfl; have gl := BQ.lt; clear BQ
    go_simp
    (try (simp only [Evo.after_value, Evo.after_skip]))
    refine hK'.out _ _ ?_
    clear hK'
    simp only [Act.put, L0, L1, L2]
    (try clear f0 gl e0)
    (try clear q1)
    refine ⟨.inl (by first | rfl | trivial), ?_⟩
    refine Evo2.done (by decide +kernel) (fun wz gz => ?_)
    have SZ := (Blk.other SB (b := w.heap.size + 2) (by omega) 0 (.int .i64 cn)).grow gz
    have CZ := ((HC.out.chg AP3 (by omega)).set 0 (.int .i64 cn)).grow gz
    simp only [List.setIfInBounds_toArray, List.set_cons_zero] at SZ CZ
    have CS : Chg (fun k => k = w.heap.size + 1 ∨ k = w.heap.size + 2) W wz := ((AP3.mono (fun _ _ h => .inl h)).trans (Chg.setCell (Chg.refl _ _) (fun _ => .inr rfl) _ _)).trans (Chg.grow gz)
    have HZ := Lib.hid (And.intro SZ (And.intro CZ CS))
    clear SZ CZ CS gz SB
    dsimp only [Round.Calm]
    gi_wp2_with fail
    obtain ⟨SZ, CZ, CS⟩ := HZ.out
    have hK := CS.blk HDD.out (fun q => by rcases q with q | q <;> omega)
    refine ⟨by simp, .inl ⟨_, _, rfl, run_takeDeferred hK, ?_⟩⟩
    have BG1 := SZ.book (Iter.Book.putObj (n := 0) (.deferred none) hK rfl (Nat.zero_le _))
    have BG2 := CZ.book (Iter.Book.putObj (n := 0) (.deferred none) hK rfl (Nat.zero_le _))
    have hX := HB.out.trans (CS.below (B := w.heap.size) sW (fun k hk q => by rcases q with q | q <;> omega))
    refine ⟨.tuple #[.int .i64 sm, .int .i64 cn], by simp [results, Try.results14, go_sem, BG1.cell, BG2.cell], by rw [HE.out.1, HE.out.2], ?_⟩
    exact hX.trans ((Iter.Book.putObj (n := w.heap.size) _ hK rfl (by omega)).below.mono (by have := hX.size; omega))
  case stop =>
    rintro cd xs W ⟨rfl, pre, p1, p2, hb1, hb2, hb3, hB, hN, hpq⟩ hD
    have HE := Lib.hid (show pre.sum = Gg.sum l n ∧ (pre.length : Int) = Gg.num l n from by
      have e : pre.length = Gg.num l n := by
        unfold Gg.num
        have := Gg.lastL_len l
        rw [Gg.lastL_len] at p2
        omega
      exact ⟨by conv => lhs; rw [hpq]
                exact Gg.sum_last e, by rw [e]⟩)
    generalize pre.sum = sm at *
    generalize (pre.length : Int) = cn at *
    have SB : Blk W (w.heap.size + 1) #[.int .i64 sm] 3 := hb2
    have z0 := Blk.at (cs := [Value.int .i64 sm]) (k := 0) SB rfl
    have HC := Lib.hid (show Blk W (w.heap.size + 2) #[.int .i64 cn] 3 from hb3)
    have HDD := Lib.hid hD
    have HB := Lib.hid hB
    have sW := hB.size
    have lW := hb3.lt
    have KC := Lib.hid (fun (w' : World) (h : Chg (fun k => k = w.heap.size + 1) W w') => (⟨h.cell (Blk.at (cs := [Value.int .i64 cn]) (k := 0) HC.out rfl) (show ¬ w.heap.size + 2 = w.heap.size + 1 by omega), trivial⟩ : w'.cell? ⟨w.heap.size + 2, 0, none⟩ = some (.int .i64 cn) ∧ True))
    clear hb1 hb2 hb3 hB hD hN hpq
    gi_wp2_with fail
    refine wpIn_wide.2 ?_
    refine Round.wp_calm ?_
    refine Evo2.start' (ℓ := some 3) (S := Chg (fun k => k = w.heap.size + 1)) (E := Grow.G) (by kernel_rfl) ⟨Chg.pre _, by decide +kernel, (by intro c a d v w h; cases d <;> exact h), by decide +kernel⟩ (fun ok => ?_)
    first | (refine Evo2.vl ok 1 KC.out (Chg.refl (fun k => k = w.heap.size + 1) _) _ _ ?_) | (refine Evo2.va ok 1 _ _ ?_)
    refine Evo2.all [0] (by decide +kernel) rfl ?_
    intro wp1 gp1 iq hq
    simp only [List.mem_cons, List.mem_nil_iff, or_false] at hq
    have AP1 := Chg.trans (Chg.refl (fun k => k = w.heap.size + 1) _) (Chg.grow gp1)
    (try replace z0 := cell_later gp1 z0); (try replace SB := Blk.grow SB gp1)
    subst hq
    refine Evo2.runs (by rfl) (by rfl) (fun K' hK' => ?_)
    (try obtain ⟨q1⟩ := KC.out wp1 AP1)
    go_simp
    (try (simp only [Evo.after_value, Evo.after_skip]))
    refine hK'.out _ _ ?_
    clear hK'
    simp only [Act.put, L0, L1, L2]
    (try clear q1)
    refine ⟨.inr (Chg.refl _ _), ?_⟩
    refine Evo2.all [2] (by decide +kernel) rfl ?_
    intro wp2 gp2 iq hq
    simp only [List.mem_cons, List.mem_nil_iff, or_false] at hq
    have AP2 := Chg.trans AP1 (Chg.grow gp2)
    (try replace z0 := cell_later gp2 z0); (try replace SB := Blk.grow SB gp2)
    subst hq
    refine Evo2.runs (by rfl) (by rfl) (fun K' hK' => ?_)
    (try obtain ⟨q1⟩ := KC.out wp2 AP2)
    have f0 := Blk.free SB 0; have gl := Blk.lt SB
    go_simp
    (try (simp only [Evo.after_value, Evo.after_skip]))
    refine hK'.out _ _ ?_
    clear hK'
    simp only [Act.put, L0, L1, L2]
    (try clear f0 gl z0)
    have SB := Blk.set SB 0 (.int .i64 sm)
    (try clear q1)
    refine ⟨.inr (by (repeat refine Chg.setCell ?_ (fun _ => by first | rfl | (simp; done) | (simp; omega)) _ _); exact Chg.refl _ _), ?_⟩
    refine Evo2.all [3] (by decide +kernel) rfl ?_
    intro wp3 gp3 iq hq
    simp only [List.mem_cons, List.mem_nil_iff, or_false] at hq
    have AP3 := Chg.trans (Chg.trans AP2 (by (repeat refine Chg.setCell ?_ (fun _ => by first | rfl | (simp; done) | (simp; omega)) _ _); exact Chg.refl _ _)) (Chg.grow gp3)
    (try replace z0 := cell_later gp3 z0); (try replace SB := Blk.grow SB gp3)
    subst hq
    refine Evo2.runs (by rfl) (by rfl) (fun K' hK' => ?_)
    (try obtain ⟨q1⟩ := KC.out wp3 AP3)
    have BQ := HC.out.chg AP3 (by omega); have f0 := Blk.free BQ 0; have e0 := Blk.at (cs := [Value.int .i64 cn]) (k := 0) BQ rfl; have gl := BQ.lt; clear BQ
    go_simp
    (try (simp only [Evo.after_value, Evo.after_skip]))
    refine hK'.out _ _ ?_
    clear hK'
    simp only [Act.put, L0, L1, L2]
    (try clear f0 gl e0)
    (try clear q1)
    refine ⟨.inl (by first | rfl | trivial), ?_⟩
    refine Evo2.done (by decide +kernel) (fun wz gz => ?_)
    have SZ := (Blk.other SB (b := w.heap.size + 2) (by omega) 0 (.int .i64 cn)).grow gz
    have CZ := ((HC.out.chg AP3 (by omega)).set 0 (.int .i64 cn)).grow gz
    simp only [List.setIfInBounds_toArray, List.set_cons_zero] at SZ CZ
    have CS : Chg (fun k => k = w.heap.size + 1 ∨ k = w.heap.size + 2) W wz := ((AP3.mono (fun _ _ h => .inl h)).trans (Chg.setCell (Chg.refl _ _) (fun _ => .inr rfl) _ _)).trans (Chg.grow gz)
    have HZ := Lib.hid (And.intro SZ (And.intro CZ CS))
    clear SZ CZ CS gz SB
    dsimp only [Round.Calm]
    gi_wp2_with fail
    obtain ⟨SZ, CZ, CS⟩ := HZ.out
    have hK := CS.blk HDD.out (fun q => by rcases q with q | q <;> omega)
    refine ⟨by simp, .inl ⟨_, _, rfl, run_takeDeferred hK, ?_⟩⟩
    have BG1 := SZ.book (Iter.Book.putObj (n := 0) (.deferred none) hK rfl (Nat.zero_le _))
    have BG2 := CZ.book (Iter.Book.putObj (n := 0) (.deferred none) hK rfl (Nat.zero_le _))
    have hX := HB.out.trans (CS.below (B := w.heap.size) sW (fun k hk q => by rcases q with q | q <;> omega))
    refine ⟨.tuple #[.int .i64 sm, .int .i64 cn], by simp [results, Try.results14, go_sem, BG1.cell, BG2.cell], by rw [HE.out.1, HE.out.2], ?_⟩
    exact hX.trans ((Iter.Book.putObj (n := w.heap.size) _ hK rfl (by omega)).below.mono (by have := hX.size; omega))
end Go.Proofs.Ytpfjpeddplkbgaa

/- Gauges among what a law holds. -/
namespace Go.Proofs.Ytpfjpeddplkbgaa
set_option maxRecDepth 100000
set_option linter.unusedVariables false
set_option linter.unusedSimpArgs false
set_option linter.unnecessarySimpa false
open Go.RowKit Go.Args

section
variable {w0 w : World} {L : List MBox} {A B : Hp} {g : Nat} {l : List Int}
theorem hold_gnew (h : Hold w0 w L A) (hA : Foot A) : Calls Try.prog 10 #[] w fun e w' => ∃ g, e = .returned (pz g) ∧ Hold w0 w' L (Sep (GgP g Gg.new) A) := by
  refine (gnew_any w).mono ?_
  rintro e w' ⟨rfl, hg, hi⟩
  exact ⟨_, rfl, h.beside hA hg (F₁ := fun k => k = w.heap.size) ⟨_, hi, fun k => Iff.rfl⟩ (fun k hk => by rw [hk]; exact Nat.le_refl _)⟩
theorem hold_gadd (h : Hold w0 w L (Sep (GgP g l) B)) (hB : Foot B) (v : Int) (hv : -1000000 ≤ v ∧ v ≤ 1000000) (hl : l.length < 1000) :
    Calls Try.prog 12 #[pz g, .int .i64 v] w fun e w' => (∃ x, e = .returned x) ∧ Hold w0 w' L (Sep (GgP g (Gg.add l v)) B) :=
  (h.call (R := fun e _ => ∃ x, e = .returned x) ((GgP.foot _ _).sep hB) (Sep.callL hB fun F hS => ggadd_any g l v w F hS hv hl)).mono fun e w' ⟨q1, q2⟩ => ⟨q1, q2⟩
theorem hold_glast (h : Hold w0 w L (Sep (GgP g l) B)) (hB : Foot B) (n : Int) (hn : wf64 n) :
    Calls Try.prog 14 #[pz g, .int .i64 n] w fun e w' => e = .returned (.tuple #[.int .i64 (Gg.sum l n), .int .i64 (Gg.num l n)]) ∧ Hold w0 w' L (Sep (GgP g l) B) := by
  obtain ⟨F, ⟨F1, F2, ⟨r, hI, _⟩, _⟩, _⟩ := h.st
  refine (glast_any g l r n w hI hn).mono ?_
  rintro e w' ⟨rfl, hg⟩
  exact ⟨rfl, h.grow ((GgP.foot _ _).sep hB) hg⟩
theorem hold_gidle (h : Hold w0 w L (Sep (GgP g l) B)) (hB : Foot B) :
    Calls Try.prog 16 #[pz g] w fun e w' => e = .returned (.int .i64 (Gg.idle l)) ∧ Hold w0 w' L (Sep (GgP g l) B) := by
  obtain ⟨F, ⟨F1, F2, ⟨r, hI, _⟩, _⟩, _⟩ := h.st
  refine (gidle_any g l r w hI).mono ?_
  rintro e w' ⟨rfl, rfl⟩
  exact ⟨rfl, h⟩
/-! ### the second form's, behind another state -/
theorem hold_rgnew (h : Hold w0 w L (Sep A B)) (hA : Foot A) (hB : Foot B) : Hold w0 (w.alloc (.cells #[.slice none 0 0] rggT)) L (Sep A (Sep (RgP w.heap.size Gg.new) B)) :=
  h.beside2 hA hB (Grow.G.alloc (Grow.G.refl _) _) (RgP.new w) (fun k hk => by have hk : k = w.heap.size := hk; omega)
theorem hold_rgadd (h : Hold w0 w L (Sep A (Sep (RgP g l) B))) (hA : Foot A) (hB : Foot B) (v : Int) (hv : v ≤ 1000000) (hl : l.length < 1000) :
    Calls Try.prog 13 #[pz g, .int .i64 v] w fun e w' => (∃ x, e = .returned x) ∧ Hold w0 w' L (Sep A (Sep (RgP g (Gg.add l v)) B)) :=
  (h.rot.call (R := fun e _ => ∃ x, e = .returned x) ((RgP.foot _ _).sep (hA.sep hB)) (Sep.callL (hA.sep hB) fun F hS => rgadd_any g l v w F hS hv hl)).mono fun e w' ⟨q1, q2⟩ => ⟨q1, q2.rot⟩
theorem hold_rglast (h : Hold w0 w L (Sep A (Sep (RgP g l) B))) (n : Int) (hn : wf64 n) :
    Calls Try.prog 15 #[pz g, .int .i64 n] w fun e w' => e = .returned (.tuple #[.int .i64 (Gg.sum l n), .int .i64 (Gg.num l n)]) ∧ Hold w0 w' L (Sep A (Sep (RgP g l) B)) := by
  obtain ⟨F, ⟨F1, F2, ⟨m, hI, _⟩, _⟩, _⟩ := h.rot.st
  refine (rglast_any g l m n w hI hn).mono ?_
  rintro e w' ⟨rfl, rfl⟩
  exact ⟨rfl, h⟩
theorem hold_rgidle (h : Hold w0 w L (Sep A (Sep (RgP g l) B))) (hA : Foot A) (hB : Foot B) :
    Calls Try.prog 17 #[pz g] w fun e w' => e = .returned (.int .i64 (Gg.idle l)) ∧ Hold w0 w' L (Sep A (Sep (RgP g l) B)) := by
  obtain ⟨F, ⟨F1, F2, ⟨m, hI, _⟩, _⟩, _⟩ := h.rot.st
  refine (rgidle_any g l m w hI).mono ?_
  rintro e w' ⟨rfl, hg⟩
  exact ⟨rfl, h.grow (hA.sep ((RgP.foot _ _).sep hB)) hg⟩
end
set_option maxHeartbeats 1000000 in
theorem known9_any (w : World) : Calls Try.prog 9 #[] w fun e w' => e = .returned (.bool true) ∧ Below w.heap.size w w' := by
  go_enter Try.func9, Try.ntmps9
  go_wp2_with fail
  refine (hold_gnew (Hold.nil w) Emp.foot).mono ?_
  rintro e w1 ⟨g, rfl, hst⟩
  have H := Lib.hid hst
  clear hst
  have W9 : wf64 9 := ⟨by decide, by decide⟩
  have e1 : Gg.sum Gg.new 9 = 0 ∧ Gg.num Gg.new 9 = 0 := by decide +kernel
  have e2 : Gg.sum (Gg.add Gg.new 4) 9 = 4 ∧ Gg.num (Gg.add Gg.new 4) 9 = 1 ∧ Gg.idle (Gg.add Gg.new 4) = 0 := by decide +kernel
  have E1 := Lib.hid e1
  have E2 := Lib.hid e2
  clear e1 e2
  go_wp2_with fail
  have L1 := hold_glast H.out Emp.foot 9 W9
  rw [E1.out.1, E1.out.2] at L1
  refine (L1).mono ?_
  rintro e ws1 ⟨rfl, hst⟩
  replace H := Lib.hid hst
  clear hst
  go_wp2_with fail
  refine (hold_gadd H.out Emp.foot 4 ⟨by decide, by decide⟩ (by decide)).mono ?_
  rintro e w3 ⟨⟨x, rfl⟩, hst⟩
  replace H := Lib.hid hst
  clear hst
  go_wp2_with fail
  have L2 := hold_glast H.out Emp.foot 9 W9
  rw [E2.out.1, E2.out.2.1] at L2
  refine (L2).mono ?_
  rintro e ws2 ⟨rfl, hst⟩
  replace H := Lib.hid hst
  clear hst
  go_wp2_with fail
  have L3 := hold_gidle H.out Emp.foot
  rw [E2.out.2.2] at L3
  refine (L3).mono ?_
  rintro e ws3 ⟨rfl, hst⟩
  replace H := Lib.hid hst
  clear hst
  go_wp2_with fail
  go_ret
  exact ⟨rfl, H.out.below⟩
end Go.Proofs.Ytpfjpeddplkbgaa
