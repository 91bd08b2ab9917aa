/- My own texts Ln4, Ln5, laid in one file. -/
import Derived.Test.YtlnffdkaleapbaaZ59

/- wait's queue: late. -/
namespace Go.Proofs.Ytlnffdkaleapbaa
set_option maxRecDepth 100000
set_option linter.unusedVariables false
set_option linter.unusedSimpArgs false
set_option linter.unnecessarySimpa false
open Go.RowKit Go.Args
attribute [local go_sem] Oper.semAt_some

/-- Those who are late so far, those who are not: the two rows' variables, the rows. -/
def LateI (w : World) (N : Nat) (n : Int) (pre : List (Int × Int)) (W : World) : Prop :=
  ∃ u z, Blk W w.heap.size #[.int .i64 n] 3 ∧ Blk W (w.heap.size + 1) #[u] 22 ∧ Blk W (w.heap.size + 2) #[z] 40 ∧
    W.ownsRow N 3 1 u (Ln.overL pre n).length (intsV ((Ln.overL pre n).map Prod.fst)) ∧ W.ownsRow N plcT 2 z (Ln.leftL pre n).length (plcs (Ln.leftL pre n)) ∧ Below w.heap.size w W ∧ N ≤ W.heap.size
theorem over_app (pre : List (Int × Int)) (p : Int × Int) (n : Int) : Ln.overL (pre ++ [p]) n = if p.2 ≤ n then Ln.overL pre n ++ [p] else Ln.overL pre n := by
  unfold Ln.overL
  rw [List.filter_append]
  split
  · rename_i e; rw [List.filter_cons_of_pos (by simpa using e), List.filter_nil]
  · rename_i e; rw [List.filter_cons_of_neg (by simpa using e), List.filter_nil, List.append_nil]
theorem left_app (pre : List (Int × Int)) (p : Int × Int) (n : Int) : Ln.leftL (pre ++ [p]) n = if p.2 ≤ n then Ln.leftL pre n else Ln.leftL pre n ++ [p] := by
  unfold Ln.leftL
  rw [List.filter_append]
  split
  · rename_i e; rw [List.filter_cons_of_neg (by simpa using e), List.filter_nil, List.append_nil]
  · rename_i e; rw [List.filter_cons_of_pos (by simpa using e), List.filter_nil]
set_option maxHeartbeats 8000000 in
theorem qlate_any (g : Nat) (s : Ln) (v : Value) (n : Int) (w : World) (h : LnIn w g s v) :
    Calls Try.prog 25 #[pz g, .int .i64 n] w fun e w' => ∃ u z, e = .returned u ∧ w'.ownsRow w.heap.size 3 1 u (s.late n).length (intsV (s.late n)) ∧ LnIn w' g (s.aftLate n) z ∧ (∀ b, z.ownBlock = some b → w.heap.size ≤ b) ∧ Chg (fun k => k = g) w w' := by
  have HP := Lib.hid h
  have hvlt : ∀ k, v.ownBlock = some k → k < w.heap.size := fun k hk => (h.ho.lt k hk).2
  have HVL := Lib.hid hvlt
  have hll := h.ok.l
  have hgl := h.hb.lt
  clear h hvlt
  refine (callsIn_wide (n := 0)).1 ?_
  refine callsIn_of_wp_marks Try.func25 rfl trivial ?_
  simp only [Try.ntmps25, List.size_toArray, List.length_cons, List.length_nil, Nat.reduceAdd, Nat.reduceSub, Array.replicate_succ, Array.replicate_zero, List.push_toArray, List.append_toArray, List.nil_append, List.cons_append]
  gi_wp2_with fail
  refine ⟨trivial, rfl, (callsIn_wide.2 (each_new g _)).mono ?_⟩
  rintro e w1 ⟨bb, rfl, hbb, hk, hg1⟩
  have G0 : Grow.G w (((w.alloc (.cells #[.int .i64 n] 3)).alloc (.cells #[.slice none 0 0] 22)).alloc (.cells #[.slice none 0 0] 40)) := by (repeat (first | with_reducible exact Grow.G.refl _ | with_reducible exact Below.refl _ _ | with_reducible refine Grow.G.alloc ?_ _ | with_reducible refine Grow.G.trans ?_ hb1 | ((with_reducible refine Below.setCell ?_ ?_ _); rotate_left; (focus (first | omega | (simp; done) | (simp; omega)))) | with_reducible assumption | with_reducible refine Grow.G.trans ?_ (by with_reducible assumption)))
  have B1 := ((((Blk.new w #[.int .i64 n] 3).alloc (.cells #[.slice none 0 0] 22)).alloc (.cells #[.slice none 0 0] 40)).grow hg1)
  have B2 := ((Blk.new (w.alloc (.cells #[.int .i64 n] 3)) #[.slice none 0 0] 22).alloc (.cells #[.slice none 0 0] 40)).grow hg1
  have B3 := (Blk.new ((w.alloc (.cells #[.int .i64 n] 3)).alloc (.cells #[.slice none 0 0] 22)) #[.slice none 0 0] 40).grow hg1
  simp only [World.size_alloc] at B2 B3 hbb
  have GA := G0.trans hg1
  have P1 := Lib.hid (HP.out.grow GA)
  have hw1 : w.heap.size + 2 < w1.heap.size := B3.lt
  clear G0 hg1
  gi_wp2_with fail
  refine Iter.range (gf := 32) (lb := #[pz bb]) (encs := plE) (Ok := PlOk s.l) (Kp := Iter.KeepP (fun k => v.ownBlock = some k)) (S := fun xs => xs = s.l) rfl (enters_of Try.func32 (by kernel_rfl) rfl) (each_seq bb g s v w1 hk P1.out) (Grow.G.refl _) (fun _ => rfl) (fun s x A B h b => h) Iter.KeepP.trans (fun h => Iter.KeepP.book h (fun k hk => (P1.out.ho.lt k hk).2))
    (LateI w w1.heap.size n) (fun _ _ _ => False) ?hI (fun _ _ _ _ h _ => h) ?h0 ?round ?done (fun _ _ _ h => h.elim)
  case hI =>
    rintro s A B ⟨u, z, h0, h1, h2, h3, h4, hB, hN⟩ hbk
    exact ⟨u, z, h0.book hbk, h1.book hbk, h2.book hbk, own_book' h3 hbk, own_book' h4 hbk, hB.trans (hbk.below.mono (by have := hB.size; omega)), Nat.le_trans hN hbk.size⟩
  case h0 => exact ⟨_, _, B1, B2, B3, World.ownsRow_nil _ _ _ _, World.ownsRow_nil _ _ _ _, GA, Nat.le_refl _⟩
  case round =>
    rintro ln pre ⟨y, t⟩ W hl2 ⟨u, z, h0, h1, h2, h3, h4, hB, hN⟩ hok
    have hlt : pre.length < s.l.length := (List.getElem?_eq_some_iff.1 hok.2).1
    have lo : (Ln.overL pre n).length ≤ 1000 := by have := List.length_filter_le (fun p : Int × Int => decide (p.2 ≤ n)) pre; unfold Ln.overL; omega
    have ll : (Ln.leftL pre n).length ≤ 1000 := by have := List.length_filter_le (fun p : Int × Int => !decide (p.2 ≤ n)) pre; unfold Ln.leftL; omega
    have OA := Lib.hid (over_app pre (y, t) n)
    have LA := Lib.hid (left_app pre (y, t) n)
    simp only [plE, Iter.zip2, List.setIfInBounds_toArray, List.set_cons_zero, List.set_cons_succ]
    gi_wp2_with fail
    refine ⟨Grow.G.refl _, fun W₂ hbk _ => ?_⟩
    have C0 := h0.book hbk
    have C1 := h1.book hbk
    have C2 := h2.book hbk
    have O3 := own_book' h3 hbk
    have O4 := own_book' h4 hbk
    have BW := hB.trans (hbk.below.mono (by have := hB.size; omega))
    have n0 := Blk.at (cs := [Value.int .i64 n]) (k := 0) C0 rfl
    have u0 := Blk.at (cs := [u]) (k := 0) C1 rfl
    have z0 := Blk.at (cs := [z]) (k := 0) C2 rfl
    have l0 := C0.lt
    have l1 := C1.lt
    have l2 := C2.lt
    have H := Lib.hid (And.intro C0 (And.intro C1 (And.intro C2 (And.intro O3 (And.intro O4 BW)))))
    have sW2 := BW.size
    have zW2 : w1.heap.size ≤ W₂.heap.size := Nat.le_trans hN hbk.size
    by_cases hle : t ≤ n
    · have d0 : decide (t ≤ n) = true := decide_eq_true hle
      have e1 := OA.out
      have e2 := LA.out
      rw [if_pos hle] at e1 e2
      have E1 := Lib.hid e1
      have E2 := Lib.hid e2
      have N1 : ¬ u.ownBlock = some (w.heap.size + 1) := own_blk_types O3 C1 (by decide)
      have NN := Lib.hid N1
      obtain ⟨i0, hi, hz0, hz1, hz2⟩ := info_parts infoInt8
      clear C0 C1 C2 O3 O4 BW hbk hok h0 h1 h2 h3 h4 hB z0 e1 e2 N1 hle
      generalize hov : Ln.overL pre n = ov at *
      gi_wp2_with (gi_at_builtin; refine Fr.wpListIn_append_fr _ rfl _ _ 22 rfl w1.heap.size 3 i0 (.int .i64 0) 1 8 Try.underlying22 hi hz0 hz1 hz2 rfl (by decide) _ _ _ rfl (own_later H.out.2.2.2.1 (Grow.G.alloc (Grow.G.refl _) _)) ⟨W₂.heap.size, 0, none⟩ 1 1 [.int .i64 y] rfl rfl (news_new _ _ _ _ rfl) (one1 rfl) (by unfold maxLen; omega) (by omega) (by simp; omega) ?_; intro v' w' hown hfr; obtain ⟨g9, c9, rfl, hg9⟩ := own_some hown (by omega); have V3 := (H.out.2.1.grow (Grow.G.alloc (Grow.G.refl _) _)).chg (Chg.ofFr hfr) NN.out; have e0 := Blk.at (cs := [u]) (k := 0) V3 rfl; have f0 := V3.free 0; have l0 := V3.lt; have AP := Chg.trans (Chg.grow (Grow.G.alloc (Grow.G.refl _) _)) (Chg.ofFr hfr); have HW := Lib.hid (And.intro V3 (And.intro AP hown)); clear V3 AP hown hfr)
      obtain ⟨V3, AP, OW⟩ := HW.out
      obtain ⟨C0, C1, C2, O3, O4, BW⟩ := H.out
      have CS : Chg (fun k => k = w.heap.size + 1) w' (w'.setCell ⟨w.heap.size + 1, 0, none⟩ (.slice (some ⟨g9, 0, none⟩) (ov.length + 1) c9)) := Chg.setCell (G := fun k => k = w.heap.size + 1) (Chg.refl _ _) (fun _ => rfl) _ _
      have VZ := V3.set 0 (.slice (some ⟨g9, 0, none⟩) (ov.length + 1) c9)
      have RZ := CS.own OW (fun k hk q => by have q : k = w.heap.size + 1 := q; subst q; exact own_blk_types OW V3 (by decide) hk)
      have hrow : ∀ k, u.ownBlock = some k → w1.heap.size ≤ k := fun k hk => (O3.lt k hk).1
      have BZ := (AP.below (B := w.heap.size) BW.size (fun k hk q => by have := hrow k q; omega)).trans (CS.below (B := w.heap.size) (by have := AP.size; omega) (fun k hk q => by have q : k = w.heap.size + 1 := q; omega))
      have C0' := (C0.chg AP (fun q => by have := hrow _ q; omega)).chg CS (by omega)
      have C2' := (C2.chg AP (own_blk_types O3 C2 (by decide))).chg CS (by omega)
      have O4' := CS.own (AP.own O4 (fun k hk q => own_types O4 O3 (by decide) hk q)) (fun k hk q => by have q : k = w.heap.size + 1 := q; subst q; exact own_blk_types O4 C1 (by decide) hk)
      refine ⟨(AP.rest (fun k _ q o ho => own_cells' O3 q ho)).trans (Iter.Rest.setCell _ _ _), keep_below8 BZ HVL.out, _, _, C0', VZ, C2', ?_, ?_, BW.trans BZ, Nat.le_trans zW2 (Nat.le_trans AP.size CS.size)⟩
      · rw [E1.out, List.length_append, List.length_singleton, List.map_append]
        show World.ownsRow _ _ _ _ _ _ (List.map _ (_ ++ _))
        rw [List.map_append]
        exact RZ
      · rw [E2.out]; exact O4'
    · have d0 : decide (t ≤ n) = false := decide_eq_false hle
      have e1 := OA.out
      have e2 := LA.out
      rw [if_neg hle] at e1 e2
      have E1 := Lib.hid e1
      have E2 := Lib.hid e2
      have N1 : ¬ z.ownBlock = some (w.heap.size + 2) := own_blk_types O4 C2 (by decide)
      have NN := Lib.hid N1
      obtain ⟨i0, hi, hz0, hz1, hz2⟩ := info_parts infoPlc
      clear C0 C1 C2 O3 O4 BW hbk hok h0 h1 h2 h3 h4 hB u0 e1 e2 N1 hle
      generalize hov : Ln.leftL pre n = lv at *
      gi_wp2_with (gi_at_builtin; refine Fr.wpListIn_append_fr _ rfl _ _ 40 rfl w1.heap.size plcT i0 (.agg #[.int .i64 0, .int .i64 0]) 2 16 Try.underlying40 hi hz0 hz1 hz2 rfl (by decide) _ _ _ rfl (own_later H.out.2.2.2.2.1 (Grow.G.alloc (Grow.G.refl _) _)) ⟨W₂.heap.size, 0, none⟩ 1 1 [.int .i64 y, .int .i64 t] rfl rfl (news_new _ _ _ _ rfl) (by intro u hu; simp at hu; rcases hu with rfl | rfl <;> rfl) (by unfold maxLen; omega) (by omega) (by simp; omega) ?_; intro v' w' hown hfr; obtain ⟨g9, c9, rfl, hg9⟩ := own_some hown (by omega); have V3 := (H.out.2.2.1.grow (Grow.G.alloc (Grow.G.refl _) _)).chg (Chg.ofFr hfr) NN.out; have e0 := Blk.at (cs := [z]) (k := 0) V3 rfl; have f0 := V3.free 0; have l0 := V3.lt; have AP := Chg.trans (Chg.grow (Grow.G.alloc (Grow.G.refl _) _)) (Chg.ofFr hfr); have HW := Lib.hid (And.intro V3 (And.intro AP hown)); clear V3 AP hown hfr)
      obtain ⟨V3, AP, OW⟩ := HW.out
      obtain ⟨C0, C1, C2, O3, O4, BW⟩ := H.out
      have CS : Chg (fun k => k = w.heap.size + 2) w' (w'.setCell ⟨w.heap.size + 2, 0, none⟩ (.slice (some ⟨g9, 0, none⟩) (lv.length + 1) c9)) := Chg.setCell (G := fun k => k = w.heap.size + 2) (Chg.refl _ _) (fun _ => rfl) _ _
      have VZ := V3.set 0 (.slice (some ⟨g9, 0, none⟩) (lv.length + 1) c9)
      have RZ := CS.own OW (fun k hk q => by have q : k = w.heap.size + 2 := q; subst q; exact own_blk_types OW V3 (by decide) hk)
      have hrow : ∀ k, z.ownBlock = some k → w1.heap.size ≤ k := fun k hk => (O4.lt k hk).1
      have BZ := (AP.below (B := w.heap.size) BW.size (fun k hk q => by have := hrow k q; omega)).trans (CS.below (B := w.heap.size) (by have := AP.size; omega) (fun k hk q => by have q : k = w.heap.size + 2 := q; omega))
      have C0' := (C0.chg AP (own_blk_types O4 C0 (by decide))).chg CS (by omega)
      have C1' := (C1.chg AP (own_blk_types O4 C1 (by decide))).chg CS (by omega)
      have O3' := CS.own (AP.own O3 (fun k hk q => own_types O3 O4 (by decide) hk q)) (fun k hk q => by have q : k = w.heap.size + 2 := q; subst q; exact own_blk_types O3 C2 (by decide) hk)
      refine ⟨(AP.rest (fun k _ q o ho => own_cells' O4 q ho)).trans (Iter.Rest.setCell _ _ _), keep_below8 BZ HVL.out, _, _, C0', C1', VZ, ?_, ?_, BW.trans BZ, Nat.le_trans zW2 (Nat.le_trans AP.size CS.size)⟩
      · rw [E1.out]; exact O3'
      · rw [E2.out, List.length_append, List.length_singleton]
        show World.ownsRow _ _ _ _ _ _ (List.flatMap _ (_ ++ _))
        rw [List.flatMap_append]
        exact RZ
  case done =>
    rintro xs W hS ⟨u, z, h0, h1, h2, h3, h4, hB, hN⟩ hD
    replace hS : xs = s.l := hS
    rw [hS] at h3 h4
    obtain ⟨za, zc, rfl⟩ := own_shape h4
    have PW := HP.out.hb.chg (Chg.ofBelow hB) (by omega)
    have u0 := Blk.at (cs := [u]) (k := 0) h1 rfl
    have z0 := Blk.at (cs := [.slice za (Ln.leftL s.l n).length zc]) (k := 0) h2 rfl
    have f1 := PW.free 1
    have g1 := PW.lt
    have c1 := (PW.cell 1).trans (show _ = some v from rfl)
    have l1 := h1.lt
    have l2 := h2.lt
    have H := Lib.hid (And.intro h3 (And.intro h4 (And.intro hD (And.intro hB PW))))
    have NZ := Lib.hid (own_blk_types h4 PW (by decide))
    have NU := Lib.hid (own_blk_types h3 PW (by decide))
    clear h0 h1 h2 h3 h4 hB hD hS PW
    gi_wp2_with fail
    obtain ⟨h3, h4, hD, hB, PW⟩ := H.out
    have sW := hB.size
    have CS : Chg (fun k => k = g) W (W.setCell ⟨g, 1, none⟩ (.slice za (Ln.leftL s.l n).length zc)) := Chg.setCell (G := fun k => k = g) (Chg.refl _ _) (fun _ => rfl) _ _
    have hK := CS.blk hD (fun q => by have q : w1.heap.size = g := q; omega)
    refine ⟨by simp, .inl ⟨_, _, rfl, run_takeDeferred hK, ?_⟩⟩
    have BK : Iter.Book w.heap.size (W.setCell ⟨g, 1, none⟩ (.slice za (Ln.leftL s.l n).length zc)) ((W.setCell ⟨g, 1, none⟩ (.slice za (Ln.leftL s.l n).length zc)).putObj w1.heap.size (.deferred none)) := Iter.Book.putObj _ hK rfl (by omega)
    have P2 : Blk (W.setCell ⟨g, 1, none⟩ (.slice za (Ln.leftL s.l n).length zc)) g (lnC (s.aftLate n) (.slice za (Ln.leftL s.l n).length zc)).toArray lineT := PW.set 1 _
    refine ⟨u, by simp [results, Try.results25, go_sem], u, _, rfl, ?_, ⟨P2.book BK, ?_, Ln.ok_late HP.out.ok n⟩, fun b hb => by have := (h4.lt b hb).1; omega, ?_⟩
    · refine own_book' (CS.own ?_ (fun k hk q => NU.out (by rw [hk, show k = g from q]))) BK
      unfold Ln.late
      rw [List.length_map]
      exact own_base h3 (by omega)
    · refine own_book' (own_base (base := w1.heap.size) ?_ (Nat.zero_le _)) BK
      exact CS.own h4 (fun k hk q => NZ.out (by rw [hk, show k = g from q]))
    · have C1 : Chg (fun k => k = g) w (W.setCell ⟨g, 1, none⟩ (.slice za (Ln.leftL s.l n).length zc)) := ((Chg.ofBelow hB).mono (fun k hk q => absurd q (by have q : w.heap.size ≤ k := q; omega))).trans CS
      refine C1.join (Chg.ofBelow (BK.below)) (fun k hk q => absurd q ?_)
      have := CS.size
      show ¬ min w.heap.size _ ≤ k
      omega
end Go.Proofs.Ytlnffdkaleapbaa

/- slices.Delete of the first place; wait's first. -/
namespace Go.Proofs.Ytlnffdkaleapbaa
set_option maxRecDepth 100000
set_option linter.unusedVariables false
set_option linter.unusedSimpArgs false
set_option linter.unnecessarySimpa false
open Go.RowKit Go.Args

theorem one_zero : ∀ u ∈ (Builtin.zeroCells (Value.agg #[.int .i64 0, .int .i64 0]).cells 1).toList, u.oneCell' = true := by
  have e : (Builtin.zeroCells (Value.agg #[.int .i64 0, .int .i64 0]).cells 1).toList = [.int .i64 0, .int .i64 0] := by kernel_rfl
  rw [e]
  intro u hu
  simp only [List.mem_cons, List.mem_nil_iff, or_false] at hu
  rcases hu with rfl | rfl <;> rfl
set_option maxHeartbeats 4000000 in
theorem qdel_any (g c base : Nat) (p : Int × Int) (r : List (Int × Int)) (w : World) (h : w.ownsRow base plcT 2 (.slice (some ⟨g, 0, none⟩) (r.length + 1) c) (r.length + 1) (plcs (p :: r))) (hr : r.length ≤ 1000) (hbw : base ≤ w.heap.size) :
    Calls Try.prog 29 #[.slice (some ⟨g, 0, none⟩) (r.length + 1) c, .int .i64 0, .int .i64 1] w fun e w' => e = .returned (.slice (some ⟨g, 0, none⟩) r.length c) ∧ w'.ownsRow base plcT 2 (.slice (some ⟨g, 0, none⟩) r.length c) r.length (plcs r) ∧ Chg (fun k => k = g) w w' := by
  have hc := own_room h
  obtain ⟨hbg, hgl⟩ := own_lt h
  have hcm : c ≤ maxLen := by
    rcases h.2 with ⟨h1, _⟩ | ⟨g', cap, cur, hv, hb, hg, hn, hm, hs, ht⟩
    · cases h1
    · cases hv; exact hm
  have OWN : Hid (w.ownsRow base plcT 2 (.slice (some ⟨g, 0, none⟩) 0 c) 0 []) := Lib.hid (by
    rcases h.2 with ⟨h1, _⟩ | ⟨g', cap, cur, hv, hb, hg, hn, hm, hs, ht⟩
    · cases h1
    · cases hv
      exact ⟨rfl, .inr ⟨g, c, cur, rfl, hb, hg, Nat.zero_le _, hm, hs, by simp⟩⟩)
  have SRC : Hid (∀ j u, (plcs r)[j]? = some u → w.cell? ((if c = 1 then (⟨g, 0, none⟩ : Addr) else ⟨g, 2, none⟩).add j) = some u) := Lib.hid (by
    intro j u hj
    by_cases h1 : c = 1
    · have : r = [] := List.eq_nil_of_length_eq_zero (by omega)
      subst this
      simp at hj
    · rw [if_neg h1]
      have := own_cell h (j := 2 + j) (u := u) (by
        show (plc p ++ plcs r)[2 + j]? = _
        rw [List.getElem?_append_right (by rw [plc_len]; omega), plc_len, Nat.add_sub_cancel_left]
        exact hj)
      rw [addr_add0]; exact this)
  obtain ⟨i0, hi, hz0, hz1, hz2⟩ := info_parts infoPlc
  have HI := Lib.hid hi; have HZ0 := Lib.hid hz0; have HZ1 := Lib.hid hz1; have HZ2 := Lib.hid hz2
  have PL := Lib.hid (plcs_len r)
  have hmx : maxLen = 9223372036854775807 ∨ maxLen ≤ 9223372036854775807 := .inr (by unfold maxLen; omega)
  clear h hi hz0 hz1 hz2
  have k1 : (0 : Int) ≤ (r.length : Int) + 1 := by omega
  have k2 : (1 : Int) ≤ (r.length : Int) + 1 := by omega
  have k3 : ((r.length : Int) + 1) ≤ (c : Int) := by omega
  have HC : Hid (c = 1 → r = []) := Lib.hid (fun h1 => List.eq_nil_of_length_eq_zero (by omega))
  have ONE : Hid (∀ u ∈ plcs r, u.oneCell' = true) := Lib.hid (by
    intro u hu
    obtain ⟨q, _, hq⟩ := List.mem_flatMap.1 hu
    unfold plc at hq
    simp only [List.mem_cons, List.mem_nil_iff, or_false] at hq
    rcases hq with rfl | rfl <;> rfl)
  go_enter Try.func29, Try.ntmps29
  go_wp2_with fail
  refine wp_spec (fun a0 A W => ∃ x20 x21 x22 x23 x24 x25 x26 : Value, A = ((((((((a0.put (some 0) (.slice (some ⟨g, 0, none⟩) r.length c)).put (some 20) x20).put (some 21) x21).put (some 22) x22).put (some 23) x23).put (some 24) x24).put (some 25) x25).put (some 26) x26) ∧ Hid (W.ownsRow base plcT 2 (.slice (some ⟨g, 0, none⟩) r.length c) r.length (plcs r) ∧ Chg (fun k => k = g) w W)) ?_ ?_
  all_goals simp only [Act.put, L0, L1, L2]
  ·
    by_cases h1 : c = 1
    · have SR := SRC.out
      rw [if_pos h1] at SR
      have SR := Lib.hid SR
      have H1 := Lib.hid h1
      clear h1
      refine Evo2.start' (ℓ := none) (S := Chg (fun k => k = g)) (E := Grow.G) (by kernel_rfl) ⟨Chg.pre _, by decide +kernel, (by intro c a d v w h; cases d <;> exact h), by decide +kernel⟩ (fun ok => ?_)
      refine Evo2.va ok 0 _ _ ?_
      refine Evo2.va ok 1 _ _ ?_
      refine Evo2.va ok 2 _ _ ?_
      refine Evo2.va ok 3 _ _ ?_
      refine Evo2.va ok 4 _ _ ?_
      refine Evo2.va ok 5 _ _ ?_
      refine Evo2.all [6] (by decide +kernel) rfl ?_
      intro wp1 gp1 iq hq
      simp only [List.mem_cons, List.mem_nil_iff, or_false] at hq
      have AP1 := Chg.trans (Chg.refl (fun k => k = g) _) (Chg.grow gp1)
      subst hq
      refine Fr.own_in (by rfl) (by rfl) (Operand.tmp 22) (Operand.tmp 25) 40 (by rfl) base plcT i0 (.agg #[.int .i64 0, .int .i64 0]) 2 16 Try.underlying40 HI.out HZ0.out HZ1.out HZ2.out rfl (by decide) g 0 c [] (by rfl) (own_later OWN.out gp1) ⟨g, 0, none⟩ r.length (c - 1) (plcs r) (by have h1 := H1.out; simp only [Act.eval]; go_simp) PL.out (fun j u hj => (Iter.Book.grow (n := 0) gp1).cell (SR.out j u hj)) ONE.out (by omega) (by omega) (Nat.le_trans hbw gp1.size) ?_
      intro wc1 OW1 CI1
      have CH1 := CI1
      refine ⟨.inr CH1, ?_⟩
      have AC1 := Chg.trans AP1 CH1
      simp only [Act.put, L0, L1, L2]
      refine Evo2.va ok 7 _ _ ?_
      refine Evo2.done (by decide +kernel) (fun wz gz => ?_)
      have AZ := Chg.trans AC1 (Chg.grow gz)
      dsimp only [PostN] 
      (repeat apply Exists.intro) 
      exact ⟨by rw [Nat.zero_add], Lib.hid ⟨by have q := own_later OW1 gz; rw [Nat.zero_add, List.nil_append] at q; exact q, AZ⟩⟩
    · have SR := SRC.out
      rw [if_neg h1] at SR
      have SR := Lib.hid SR
      have H1 := Lib.hid h1
      clear h1
      refine Evo2.start' (ℓ := none) (S := Chg (fun k => k = g)) (E := Grow.G) (by kernel_rfl) ⟨Chg.pre _, by decide +kernel, (by intro c a d v w h; cases d <;> exact h), by decide +kernel⟩ (fun ok => ?_)
      refine Evo2.va ok 0 _ _ ?_
      refine Evo2.va ok 1 _ _ ?_
      refine Evo2.va ok 2 _ _ ?_
      refine Evo2.va ok 3 _ _ ?_
      refine Evo2.va ok 4 _ _ ?_
      refine Evo2.va ok 5 _ _ ?_
      refine Evo2.all [6] (by decide +kernel) rfl ?_
      intro wp1 gp1 iq hq
      simp only [List.mem_cons, List.mem_nil_iff, or_false] at hq
      have AP1 := Chg.trans (Chg.refl (fun k => k = g) _) (Chg.grow gp1)
      subst hq
      refine Fr.own_in (by rfl) (by rfl) (Operand.tmp 22) (Operand.tmp 25) 40 (by rfl) base plcT i0 (.agg #[.int .i64 0, .int .i64 0]) 2 16 Try.underlying40 HI.out HZ0.out HZ1.out HZ2.out rfl (by decide) g 0 c [] (by rfl) (own_later OWN.out gp1) ⟨g, 2, none⟩ r.length (c - 1) (plcs r) (by have h1 := H1.out; simp only [Act.eval]; go_simp) PL.out (fun j u hj => (Iter.Book.grow (n := 0) gp1).cell (SR.out j u hj)) ONE.out (by omega) (by omega) (Nat.le_trans hbw gp1.size) ?_
      intro wc1 OW1 CI1
      have CH1 := CI1
      refine ⟨.inr CH1, ?_⟩
      have AC1 := Chg.trans AP1 CH1
      simp only [Act.put, L0, L1, L2]
      refine Evo2.va ok 7 _ _ ?_
      refine Evo2.done (by decide +kernel) (fun wz gz => ?_)
      have AZ := Chg.trans AC1 (Chg.grow gz)
      dsimp only [PostN] 
      (repeat apply Exists.intro) 
      exact ⟨by rw [Nat.zero_add], Lib.hid ⟨by have q := own_later OW1 gz; rw [Nat.zero_add, List.nil_append] at q; exact q, AZ⟩⟩
  ·
    rintro A W2 ⟨x20, x21, x22, x23, x24, x25, x26, rfl, g2⟩
    obtain ⟨OW, CW⟩ := g2.out
    obtain ⟨cur, CUR, CSZ, CTK⟩ : ∃ cur, Blk W2 g cur plcT ∧ cur.size = c * 2 ∧ cur.toList.take (r.length * 2) = plcs r := by
      rcases OW.2 with ⟨q, _⟩ | ⟨g', cap', cur, hv, hb, hg, hn, hm, hs, htk⟩
      · cases q
      · cases hv; exact ⟨cur, hg, hs, htk⟩
    have HB := Lib.hid CUR
    have HT := Lib.hid CTK
    have HS := Lib.hid CSZ
    have HW := Lib.hid (And.intro OW CW)
    have k5 : ¬ (c - r.length = 0) := by omega
    have k6 : ¬ (c ≤ r.length) := by omega
    have k7 : r.length ≤ c := by omega
    clear OW CW CUR CTK CSZ SRC OWN hc hcm hmx g2
    go_wp2_with (refine wpList_clear1 _ rfl _ 40 rfl plcT i0 (.agg #[.int .i64 0, .int .i64 0]) Try.underlying40 HI.out HZ0.out 2 rfl rfl HB.out (by rw [HS.out]; omega) one_zero ?_; intro w3 hB3 hC3; have HB3 := Lib.hid hB3; have HC3 := Lib.hid hC3; clear hB3 hC3)
    go_ret
    obtain ⟨cur', B3, S3, T3⟩ := HB3.out
    obtain ⟨OW, CW⟩ := HW.out
    refine ⟨rfl, ⟨OW.1, .inr ⟨g, c, cur', rfl, hbg, B3, k7, ?_, by rw [S3]; exact HS.out, by rw [T3]; exact HT.out⟩⟩, CW.trans HC3.out⟩
    rcases OW.2 with ⟨q, _⟩ | ⟨g', cap', cur, hv, hb, hg, hn, hm, hs, htk⟩
    · cases q
    · cases hv; exact hm
theorem Ln.drop_one {s : Ln} {p : Int × Int} {r : List (Int × Int)} (h : s.l = p :: r) : s.l.drop 1 = r ∧ s.ids.headD 0 = p.1 := by
  unfold Ln.ids
  rw [h]; exact ⟨rfl, rfl⟩
set_option maxHeartbeats 2000000 in
theorem qfirst_any (g : Nat) (s : Ln) (w : World) (F : Nat → Prop) (h : LnP g s w F) :
    Calls Try.prog 24 #[pz g] w fun e w' => e = .returned (.tuple #[.int .i64 s.pop, .bool s.popB]) ∧ EndS w w' F (LnP g s.aftPop) := by
  have HP := Lib.hid h
  obtain ⟨v, hI, he⟩ := h
  have HE := Lib.hid he
  have HC := Lib.hid (qcount_any g s v w hI)
  have hll := hI.ok.l
  clear he
  cases hs : s.l with
  | nil =>
    have e1 : s.pop = 0 := by unfold Ln.pop Ln.ids; rw [hs]; rfl
    have e2 : s.popB = false := by unfold Ln.popB; rw [hs]; rfl
    have e3 : s.aftPop = s := by unfold Ln.aftPop; rw [hs]; cases s; cases hs; rfl
    rw [e1, e2, e3]
    rw [hs] at HC
    simp only [List.length_nil] at HC
    clear e1 e2 e3 hI hs
    go_enter Try.func24, Try.ntmps24
    go_wp2_with fail
    refine HC.out.mono ?_
    rintro e w1 ⟨rfl, rfl⟩
    go_wp2_with fail
    go_returns
    exact ⟨rfl, LnP.same HP.out (Grow.G.refl _)⟩
  | cons p r =>
    obtain ⟨d1, d2⟩ := Ln.drop_one hs
    have e1 : s.pop = p.1 := d2
    have e2 : s.popB = true := by unfold Ln.popB; rw [hs]; rfl
    have hO := hI.ho
    rw [hs] at hO HC hll
    simp only [List.length_cons] at hO HC hll
    obtain ⟨a, c, rfl⟩ := own_shape hO
    obtain ⟨q, c', hv, _⟩ := own_some hO (by omega)
    cases hv
    have HA : Hid (s.aftPop = ⟨s.c, r⟩) := Lib.hid (by unfold Ln.aftPop; rw [d1])
    have HK := Lib.hid (Ln.ok_pop hI.ok)
    rw [HA.out] at HK
    rw [e1, e2, HA.out]
    have hcl := ((own_plcs (l := p :: r) hO).resolve_left (fun e => by cases e.2.2))
    obtain ⟨q', hq, _, hql, hcell⟩ := hcl
    cases hq
    have x0 := (hcell 0 p rfl).1
    rw [Nat.zero_mul] at x0
    have c1 := hI.c1
    have f1 := hI.hb.free 1
    have hgl := hI.hb.lt
    have DE := Lib.hid (qdel_any q c 0 p r w hO (by omega) (Nat.zero_le _))
    have hne : ¬ q = g := fun e => hI.ne (by rw [e]; rfl)
    have HI := Lib.hid hI
    obtain ⟨x, u⟩ := p
    dsimp only at x0 ⊢
    have k1 : ((r.length : Int) + 1 == 0) = false := by simp; omega
    have k2 : (0 : Int) < (r.length : Int) + 1 := by omega
    clear hcell hO d1 d2 e1 e2 hs hI HA
    go_enter Try.func24, Try.ntmps24
    go_wp2_with fail
    refine HC.out.mono ?_
    rintro e w1 ⟨rfl, rfl⟩
    go_wp2_with fail
    refine DE.out.mono ?_
    rintro e w2 ⟨rfl, O2, C2⟩
    have B2 := HI.out.hb.chg C2 (fun e => hne e.symm)
    have f2 := B2.free 1
    have l2 := B2.lt
    have b1 := (B2.cell 1).trans (show _ = some (Value.slice (some ⟨q, 0, none⟩) (r.length + 1) c) from rfl)
    have H2 := Lib.hid (And.intro O2 (And.intro C2 B2))
    clear O2 C2 B2 c1 f1 x0
    go_wp2_with fail
    go_returns
    obtain ⟨O2, C2, B2⟩ := H2.out
    have CS : Chg (fun k => k = g) w2 (w2.setCell ⟨g, 1, none⟩ (.slice (some ⟨q, 0, none⟩) r.length c)) := Chg.setCell (G := fun k => k = g) (Chg.refl _ _) (fun _ => rfl) _ _
    refine ⟨rfl, LnP.fin (v := .slice (some ⟨q, 0, none⟩) (r.length + 1) c) (v' := .slice (some ⟨q, 0, none⟩) r.length c) HE.out ⟨B2.set 1 _, CS.own O2 (fun k hk e => hne (by have hk : q = k := Option.some.inj hk; rw [hk]; exact e)), HK.out⟩ ((C2.mono fun k _ e => .inr (by rw [e]; rfl)).trans (CS.mono fun k _ e => .inl e)) (fun b e => .inl e)⟩
end Go.Proofs.Ytlnffdkaleapbaa
