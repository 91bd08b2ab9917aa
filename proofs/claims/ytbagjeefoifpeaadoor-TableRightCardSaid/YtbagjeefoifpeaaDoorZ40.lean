/- My own texts Tab4, Tab5, laid in one file. -/
import Derived.Test.YtbagjeefoifpeaaDoorZ39
import Derived.Test.YtbagjeefoifpeaaDoorZ37
import Derived.Test.YtbagjeefoifpeaaDoorZ2
import Derived.RangeFuncNested
import Derived.RangeFuncBound
import Derived.Shelf.Abstract
import Derived.Shelf.RegionOpen
import Derived.OwnWalkIn
import Derived.TacticsInMore
import Derived.LoopNIn
import Derived.LoopIn

/- Where a draw leads: table.Pick. -/
namespace Go.Proofs.YtbagjeefoifpeaaDoor
set_option maxRecDepth 100000
set_option linter.unusedVariables false
set_option linter.unusedSimpArgs false
set_option linter.unnecessarySimpa false
open Go.RowKit Go.Args
attribute [local go_sem] Oper.semAt_some

theorem left_eq (d : Int) : (d.tmod 100 + 100).tmod 100 = d % 100 := by
  have h1 : -100 < d.tmod 100 ∧ d.tmod 100 < 100 := by
    have := Int.lt_tmod_of_pos d (show (0 : Int) < 100 by omega)
    have := Int.tmod_lt_of_pos d (show (0 : Int) < 100 by omega)
    omega
  rw [Int.tmod_eq_emod_of_nonneg (by omega)]
  rcases Int.le_total 0 d with h | h
  · rw [Int.tmod_eq_emod_of_nonneg h]; omega
  · have e : d = -(-d) := by omega
    rw [e, Int.neg_tmod, Int.tmod_eq_emod_of_nonneg (by omega)]; omega
theorem left_any (d : Int) (w : World) (hd : wf64 d) :
    Calls Tryd.prog 32 #[.int .i64 d] w fun e w' => e = .returned (.int .i64 (d % 100)) ∧ w = w' := by
  have h1 : -100 < d.tmod 100 ∧ d.tmod 100 < 100 := by
    have := Int.lt_tmod_of_pos d (show (0 : Int) < 100 by omega)
    have := Int.tmod_lt_of_pos d (show (0 : Int) < 100 by omega)
    omega
  have hw1 : IntKind.i64.wrap (d.tmod 100) = d.tmod 100 := IntWalk.i64_in _ ⟨by omega, by omega⟩
  have hw2 : IntKind.i64.wrap (d.tmod 100 + 100) = d.tmod 100 + 100 := IntWalk.i64_in _ ⟨by omega, by omega⟩
  have hw3 : IntKind.i64.wrap ((d.tmod 100 + 100).tmod 100) = (d.tmod 100 + 100).tmod 100 := IntWalk.i64_in _ (by rw [left_eq]; constructor <;> omega)
  have E := Lib.hid (left_eq d)
  go_enter Tryd.func32, Tryd.ntmps32
  go_wp2_with fail
  go_ret
  exact ⟨ret_i64 (by have h := E.out; rw [Int.tmod_eq_emod_of_nonneg (by omega)] at h; exact h), rfl⟩
/-- Where a draw leads: what is left of it. -/
def pickL : List Shr → Int → ByteArray
  | [], _ => ⟨#[]⟩
  | s :: r, d => if d < s.w then s.rev else pickL r (d - s.w)
theorem pickL_step (l : List Shr) (k : Nat) (s : Shr) (d : Int) (h : l[k]? = some s) : pickL (l.drop k) d = if d < s.w then s.rev else pickL (l.drop (k + 1)) (d - s.w) := by
  obtain ⟨hl, e⟩ := List.getElem?_eq_some_iff.1 h
  rw [List.drop_eq_getElem_cons hl, e, pickL]
theorem sumW_take (l : List Shr) (k : Nat) (s : Shr) (h : l[k]? = some s) : sumW (l.take (k + 1)) = sumW (l.take k) + s.w := by
  induction l generalizing k with
  | nil => simp at h
  | cons x l ih =>
    cases k with
    | zero => simp at h; subst h; simp [sumW]
    | succ k => rw [List.take_succ_cons, List.take_succ_cons, sumW, sumW, ih k (by simpa using h)]; omega
/-- Weights that may be summed up. -/
def Small (l : List Shr) : Prop := l.length ≤ 1000 ∧ ∀ s, s ∈ l → 0 ≤ s.w ∧ s.w ≤ 1000 ∧ s.rev.size ≤ 100000
theorem Small.sum {l : List Shr} (h : Small l) : ∀ k, 0 ≤ sumW (l.take k) ∧ sumW (l.take k) ≤ 1000 * k
  | 0 => by simp [sumW]
  | k + 1 => by
    have ih := h.sum k
    cases e : l[k]? with
    | none =>
      have hl := List.getElem?_eq_none_iff.1 e
      rw [List.take_of_length_le (by omega)] at ih ⊢
      omega
    | some s =>
      rw [sumW_take l k s e]
      have := h.2 s (List.mem_of_getElem? e)
      omega
theorem ends_new (a : Option Addr) (n c : Nat) (w : World) : Calls Tryd.prog 33 #[.slice a n c] w fun e w' => ∃ b, e = .returned (.func (.func 45) #[] #[.pointer (some ⟨b, 0, none⟩)]) ∧ w.heap.size ≤ b ∧ Blk w' b #[.slice a n c] 22 ∧ Grow.G w w' := by
  go_enter Tryd.func33, Tryd.ntmps33
  go_wp2
  go_ret
  refine ⟨w.heap.size, rfl, Nat.le_refl _, Blk.new w _ _, ?_⟩
  (repeat (first | with_reducible exact Grow.G.refl _ | with_reducible exact Below.refl _ _ | with_reducible refine Grow.G.alloc ?_ _ | with_reducible refine Grow.G.trans ?_ hb1 | ((with_reducible refine Below.setCell ?_ ?_ _); rotate_left; (focus (first | omega | (simp; done) | (simp; omega)))) | with_reducible assumption | with_reducible refine Grow.G.trans ?_ (by with_reducible assumption)))
def EndOk (l : List Shr) (pre : List (Int × ByteArray)) (x : Int × ByteArray) (W : World) : Prop := ∃ s, l[pre.length]? = some s ∧ x = (sumW (l.take (pre.length + 1)), s.rev)
set_option maxHeartbeats 4000000 in
theorem ends_seq (bb : Nat) (a : Option Addr) (c : Nat) (l : List Shr) (w : World) (hk : Blk w bb #[.slice a l.length c] 22) (hs : ShSl w a l) (hsm : Small l) :
    Iter.Seq Tryd.prog 45 #[.pointer (some ⟨bb, 0, none⟩)] (fun (x : Int × ByteArray) => #[.int .i64 x.1, .string x.2]) (EndOk l) (Iter.KeepP (Iter.blkOf l a)) (fun xs => xs.length = l.length) w := by
  intro ln J Jx W hG hJ hJx hY h0
  have b0 := Blk.at (cs := [Value.slice a l.length c]) (k := 0) (hk.grow hG) rfl
  have HS := Lib.hid (hs.later hG)
  have HJ := Lib.hid hJ
  have HY := Lib.hid hY
  have H0 := Lib.hid h0
  have HM := Lib.hid hsm
  have hll := hsm.1
  clear hk hs hG hJ hJx hY h0 hsm
  refine (callsIn_wide (n := 0)).1 ?_
  refine callsIn_of_wp Tryd.func45 rfl trivial ?_
  simp only [Tryd.ntmps45, List.size_toArray, List.length_cons, List.length_nil, Nat.reduceAdd, Nat.reduceSub, Array.replicate_succ, Array.replicate_zero, List.push_toArray, List.append_toArray, List.nil_append, List.cons_append]
  gi_wp2_with fail
  clear b0
  gi_loopw [3, 8] (fun e i wr => ∃ (pre : List (Int × ByteArray)) (k : Nat), k ≤ l.length ∧ e = .int .i64 (sumW (l.take k)) ∧ i = .int .i64 k ∧ Hid (pre.length = k ∧ ShSl wr a l ∧ J pre wr)) (fun _ i _ => l.length - (intOf i).toNat)
  case atStart => exact ⟨[], 0, by omega, rfl, rfl, Lib.hid ⟨rfl, HS.out, H0.out⟩⟩
  case round =>
    obtain ⟨pre, k, hk, rfl, rfl, HI⟩ := hrel
    by_cases hlt : k < l.length
    · obtain ⟨s, hs⟩ : ∃ s, l[k]? = some s := ⟨_, List.getElem?_eq_getElem hlt⟩
      obtain ⟨hpl, hsl, hj⟩ := HI.out
      obtain ⟨b, off, rfl, hc⟩ := hsl.at hs
      obtain ⟨c0, c1⟩ := hc _ (Grow.G.refl _)
      have hsm := HM.out.2 s (List.mem_of_getElem? hs)
      have s1 := HM.out.sum k
      have s2 := sumW_take l k s hs
      obtain ⟨rv, n⟩ := s
      dsimp only at *
      have hz : IntKind.i64.wrap (sumW (l.take k) + n) = sumW (l.take (k + 1)) := by rw [s2]; exact IntWalk.i64_in _ ⟨by omega, by omega⟩
      have hk1 : IntKind.i64.wrap ((k : Int) + 1) = (k : Int) + 1 := IntWalk.i64_in _ ⟨by omega, by omega⟩
      have d0 : decide ((k : Int) < (l.length : Int)) = true := decide_eq_true (by omega)
      have g1 := Grow.G.alloc (Grow.G.refl wr) (.cells #[.string rv, .int .i64 n] 32)
      obtain ⟨fn, tmps, assign, body, hy, hR⟩ := HY.out pre (sumW (l.take (k + 1)), rv) _ (HJ.out _ _ _ hj g1) ⟨_, by rw [hpl]; exact hs, by rw [hpl]⟩
      dsimp only at hy hR
      have HN := Lib.hid (And.intro hpl (hsl.later g1))
      clear hpl hsl hj HI hc hs g1 hsm s1 s2
      generalize hz1 : sumW (l.take (k + 1)) = z1 at *
      have HZ := Lib.hid hz1
      clear hz1
      gi_wp2_with fail
      refine ⟨rfl, hR.mono ?_⟩
      rintro e w3 (⟨rfl, hj3, hk3⟩ | ⟨rfl, hx3⟩)
      · have HK := Lib.hid (And.intro hj3 hk3)
        clear hj3 hk3 hR hy
        gi_wp2_with fail
        go_roundw
        case rel => exact ⟨pre ++ [_], k + 1, by omega, by rw [HZ.out], by go_num, Lib.hid ⟨by rw [List.length_append, HN.out.1]; rfl, HK.out.2.slOf HN.out.2 (fun _ h => h), HK.out.1⟩⟩
        case measure => simp [intOf]; omega
      · have HX := Lib.hid hx3
        clear hx3 hR hy
        gi_wp2_with fail
        refine bodyPost_ret (results_none rfl _ _ _) rfl ?_
        exact ⟨⟨_, rfl⟩, .inr ⟨_, HX.out⟩⟩
    · have d0 : decide ((k : Int) < (l.length : Int)) = false := decide_eq_false (by omega)
      obtain ⟨hpl, hsl, hj⟩ := HI.out
      have HN := Lib.hid (And.intro hj (show pre.length = l.length by omega))
      clear hpl hsl hj HI
      gi_wp2_with fail
      go_end0
      exact ⟨⟨_, rfl⟩, .inl ⟨pre, HN.out.2, HN.out.1⟩⟩
theorem EndOk.book {l : List Shr} {pre : List (Int × ByteArray)} {x : Int × ByteArray} {A B : World} {n : Nat} (h : EndOk l pre x A) (b : Iter.Book n A B) : EndOk l pre x B := h
/-- While none has been found: what is left of the draw, the room for the answer. -/
def PickI (w : World) (l : List Shr) (d : Int) (pre : List (Int × ByteArray)) (W : World) : Prop :=
  Blk W (w.heap.size + 1) #[.string ⟨#[]⟩] 9 ∧ Blk W (w.heap.size + 2) #[.int .i64 d] 3 ∧ Below w.heap.size w W ∧ pickL l d = pickL (l.drop pre.length) (d - sumW (l.take pre.length))
set_option maxHeartbeats 4000000 in
theorem pick_any (a : Option Addr) (l : List Shr) (c : Nat) (a' : Option Addr) (n' c' : Nat) (dr : Int) (w : World) (hdr : wf64 dr) (h : ShSl w a l) (hsm : Small l) :
    Calls Tryd.prog 16 #[tabV a l.length c a' n' c', .int .i64 dr] w fun e w' => e = .returned (.string (pickL l (dr % 100))) ∧ Grow.G w w' := by
  have HS := Lib.hid h
  have HM := Lib.hid hsm
  have LF := Lib.hid (fun w => left_any dr w hdr)
  have hd0 : 0 ≤ dr % 100 ∧ dr % 100 < 100 := by omega
  clear h hsm hdr
  generalize dr % 100 = d at *
  obtain ⟨z, hz⟩ : ∃ z, pickL l d = z := ⟨_, rfl⟩
  rw [hz]
  have HZ := Lib.hid hz
  clear hz
  unfold tabV
  refine (callsIn_wide (n := 0)).1 ?_
  refine callsIn_of_wp_marks Tryd.func16 rfl trivial ?_
  simp only [Tryd.ntmps16, List.size_toArray, List.length_cons, List.length_nil, Nat.reduceAdd, Nat.reduceSub, Array.replicate_succ, Array.replicate_zero, List.push_toArray, List.append_toArray, List.nil_append, List.cons_append]
  gi_wp2_with fail
  refine ⟨trivial, rfl, (callsIn_wide.2 (LF.out _)).mono ?_⟩
  rintro x wx ⟨rfl, rfl⟩
  gi_wp2_with fail
  refine ⟨trivial, rfl, (callsIn_wide.2 (ends_new _ _ _ _)).mono ?_⟩
  rintro x w1 ⟨bb, rfl, hbb, hk, hg1⟩
  have G0 : Grow.G w (((w.alloc (.cells #[.slice a l.length c, .slice a' n' c'] 25)).alloc (.cells #[.string ⟨#[]⟩] 9)).alloc (.cells #[.int .i64 d] 3)) := by (repeat (first | with_reducible exact Grow.G.refl _ | with_reducible exact Below.refl _ _ | with_reducible refine Grow.G.alloc ?_ _ | with_reducible refine Grow.G.trans ?_ hb1 | ((with_reducible refine Below.setCell ?_ ?_ _); rotate_left; (focus (first | omega | (simp; done) | (simp; omega)))) | with_reducible assumption | with_reducible refine Grow.G.trans ?_ (by with_reducible assumption)))
  have B1 := (((Blk.new (w.alloc (.cells #[.slice a l.length c, .slice a' n' c'] 25)) #[.string ⟨#[]⟩] 9).alloc (.cells #[.int .i64 d] 3)).grow hg1)
  have B2 := (Blk.new ((w.alloc (.cells #[.slice a l.length c, .slice a' n' c'] 25)).alloc (.cells #[.string ⟨#[]⟩] 9)) #[.int .i64 d] 3).grow hg1
  simp only [World.size_alloc] at B1 B2 hbb
  have GA := G0.trans hg1
  have S1 := HS.out.later GA
  have hw1 : w.heap.size + 2 < w1.heap.size := B2.lt
  clear G0 hg1
  gi_wp2_with fail
  refine Iter.range (gf := 45) (lb := #[.pointer (some ⟨bb, 0, none⟩)]) (encs := fun (x : Int × ByteArray) => #[.int .i64 x.1, .string x.2]) (Ok := EndOk l) (Kp := Iter.KeepP (Iter.blkOf l a)) (S := fun xs => xs.length = l.length) rfl (enters_of Tryd.func45 (by kernel_rfl) rfl) (ends_seq bb a c l w1 hk S1 HM.out) (Grow.G.refl _) (fun _ => rfl) (fun s x A B h b => h) Iter.KeepP.trans (fun h => Iter.KeepP.book h (fun k hk => hk.lt S1 (fun x => by simp [Shr.cells])))
    (PickI w l d) (fun cd pre W => cd = .ret ∧ Blk W (w.heap.size + 1) #[.string z] 9 ∧ Below w.heap.size w W) ?hI ?hIx ?h0 ?round ?done ?stop
  case hI =>
    rintro s A B ⟨h1, h2, hB, hP⟩ hbk
    exact ⟨h1.book hbk, h2.book hbk, hB.trans (hbk.below.mono (by have := hB.size; omega)), hP⟩
  case hIx =>
    rintro cd s A B ⟨h1, h2, hB⟩ hbk
    exact ⟨h1, h2.book hbk, hB.trans (hbk.below.mono (by have := hB.size; omega))⟩
  case h0 => exact ⟨B1, B2, GA, by simp [sumW]⟩
  case round =>
    rintro ln pre x W hl ⟨hb1, hb2, hB, hP⟩ ⟨s, hs, rfl⟩
    simp only [Iter.zip2, List.setIfInBounds_toArray, List.set_cons_zero, List.set_cons_succ]
    gi_wp2_with fail
    refine ⟨Grow.G.refl _, fun W₂ hbk _ => ?_⟩
    have C1 := hb1.book hbk
    have C2 := hb2.book hbk
    have BW := hB.trans (hbk.below.mono (by have := hB.size; omega))
    have r1 := Blk.at (cs := [Value.int .i64 d]) (k := 0) C2 rfl
    have hsm := HM.out.2 s (List.mem_of_getElem? hs)
    have CL := Lib.hid (fun w => clone_any s.rev w (by omega))
    have HP : Hid (z = if d - sumW (l.take pre.length) < s.w then s.rev else pickL (l.drop (pre.length + 1)) (d - sumW (l.take pre.length) - s.w)) := Lib.hid (by rw [← HZ.out, hP, pickL_step _ _ _ _ hs])
    have ST := sumW_take l pre.length s hs
    have HST := Lib.hid ST
    have H := Lib.hid (And.intro C1 (And.intro C2 BW))
    have sW := BW.size
    have lW := C2.lt
    by_cases hlt : d < sumW (l.take (pre.length + 1))
    · have d0 : decide (d < sumW (l.take (pre.length + 1))) = true := decide_eq_true hlt
      have HZ2 : Hid (z = s.rev) := Lib.hid (by rw [HP.out, if_pos (by omega)])
      clear hb1 hb2 hB hP hbk C1 C2 BW hs HP ST hlt
      gi_wp2_with fail
      refine ⟨trivial, rfl, (CallsIn.inRound ln (callsIn_wide.2 (CL.out _))).mono ?_⟩
      rintro y W₃ ⟨rfl, hg⟩
      have D1 := H.out.1.grow hg
      have r2 := Blk.at (cs := [Value.string ⟨#[]⟩]) (k := 0) D1 rfl
      have f2 := D1.free 0
      have l2 := D1.lt
      have HD := Lib.hid (And.intro D1 (H.out.2.2.trans (Below.mono hg sW)))
      have HG := Lib.hid hg
      clear D1 hg
      gi_wp2_with fail
      have CS : Chg (fun k => k = w.heap.size + 1) W₃ (W₃.setCell ⟨w.heap.size + 1, 0, none⟩ (.string s.rev)) := Chg.setCell (G := fun k => k = w.heap.size + 1) (Chg.refl _ _) (fun _ => rfl) _ _
      have DB := HD.out.1.set 0 (.string s.rev)
      refine ⟨(Iter.Rest.grow HG.out).trans (Iter.Rest.setCell _ _ _), rfl, ?_, ?_⟩
      · rw [HZ2.out]; exact DB
      · exact HD.out.2.trans (CS.below (B := w.heap.size) (by have := HD.out.2.size; omega) (fun k hk e => by have e : k = w.heap.size + 1 := e; omega))
    · have d0 : decide (d < sumW (l.take (pre.length + 1))) = false := decide_eq_false hlt
      have HZ2 : Hid (pickL l d = pickL (l.drop (pre.length + 1)) (d - sumW (l.take (pre.length + 1)))) := Lib.hid (by rw [HZ.out, HP.out, if_neg (by omega), ST]; congr 1; omega)
      clear hb1 hb2 hB hP hbk C1 C2 BW hs HP ST hlt
      gi_wp2_with fail
      exact ⟨Iter.Rest.refl _ _, ⟨Nat.le_refl _, fun _ _ _ => rfl⟩, H.out.1, H.out.2.1, H.out.2.2, by rw [List.length_append]; exact HZ2.out⟩
  case done =>
    rintro xs W hS ⟨hb1, hb2, hB, hP⟩ hD
    replace hS : xs.length = l.length := hS
    have HZ2 : Hid (z = ⟨#[]⟩) := Lib.hid (by rw [← HZ.out, hP, hS, List.drop_length]; rfl)
    have r2 := Blk.at (cs := [Value.string ⟨#[]⟩]) (k := 0) hb1 rfl
    have f2 := hb1.free 0
    have l2 := hb1.lt
    have H := Lib.hid (And.intro hb1 (And.intro hD hB))
    clear hb1 hb2 hB hP hD hS
    gi_wp2_with fail
    have CS : Chg (fun k => k = w.heap.size + 1) W (W.setCell ⟨w.heap.size + 1, 0, none⟩ (.string ⟨#[]⟩)) := Chg.setCell (G := fun k => k = w.heap.size + 1) (Chg.refl _ _) (fun _ => rfl) _ _
    have DB := H.out.1.set 0 (.string ⟨#[]⟩)
    have hK := CS.blk H.out.2.1 (fun q => by have q : w1.heap.size = w.heap.size + 1 := q; omega)
    have sW := H.out.2.2.size
    refine ⟨by simp, .inl ⟨_, _, rfl, run_takeDeferred hK, ?_⟩⟩
    have BG := DB.book (Iter.Book.putObj (n := 0) (.deferred none) hK rfl (Nat.zero_le _))
    have hX := H.out.2.2.trans (CS.below (B := w.heap.size) sW (fun k hk q => by have q : k = w.heap.size + 1 := q; omega))
    refine ⟨.string ⟨#[]⟩, by simp [results, Tryd.results16, go_sem, BG.cell], by rw [HZ2.out], ?_⟩
    exact hX.trans ((Iter.Book.putObj (n := w.heap.size) _ hK rfl (by omega)).below.mono (by have := hX.size; omega))
  case stop =>
    rintro cd pre W ⟨rfl, hb, hB⟩ hD
    have H := Lib.hid (And.intro hb (And.intro hD hB))
    clear hb hB hD
    gi_wp2_with fail
    have sW := H.out.2.2.size
    refine ⟨by simp, .inl ⟨_, _, rfl, run_takeDeferred H.out.2.1, ?_⟩⟩
    have BG := H.out.1.book (Iter.Book.putObj (n := 0) (.deferred none) H.out.2.1 rfl (Nat.zero_le _))
    refine ⟨.string z, by simp [results, Tryd.results16, go_sem, BG.cell], rfl, ?_⟩
    exact H.out.2.2.trans ((Iter.Book.putObj (n := w.heap.size) _ H.out.2.1 rfl (by omega)).below.mono (by omega))
end Go.Proofs.YtbagjeefoifpeaaDoor

/- damperref5.Pick; where a tag leads. -/
namespace Go.Proofs.YtbagjeefoifpeaaDoor
set_option maxRecDepth 100000
set_option linter.unusedVariables false
set_option linter.unusedSimpArgs false
set_option linter.unnecessarySimpa false
open Go.RowKit Go.Args

end Go.Proofs.YtbagjeefoifpeaaDoor
