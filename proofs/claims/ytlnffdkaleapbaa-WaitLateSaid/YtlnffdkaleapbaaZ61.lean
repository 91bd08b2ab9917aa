/- My own texts Ln6, Ln7, laid in one file. -/
import Derived.Test.YtlnffdkaleapbaaZ60

/- wait's add; the line's methods. -/
namespace Go.Proofs.Ytlnffdkaleapbaa
set_option maxRecDepth 100000
set_option linter.unusedVariables false
set_option linter.unusedSimpArgs false
set_option linter.unnecessarySimpa false
open Go.RowKit Go.Args

theorem qcount_g (g : Nat) (s : Ln) (v : Value) (w : World) (h : LnIn w g s v) :
    Calls Try.prog 27 #[pz g] w fun e w' => e = .returned (.int .i64 s.l.length) ∧ Grow.G w w' := by
  refine (qcount_any g s v w h).mono ?_
  rintro e w' ⟨rfl, rfl⟩
  exact ⟨rfl, Grow.G.refl _⟩
set_option maxHeartbeats 2000000 in
theorem qadd_any (g : Nat) (s : Ln) (x u : Int) (w : World) (F : Nat → Prop) (h : LnP g s w F) :
    Calls Try.prog 26 #[pz g, .int .i64 x, .int .i64 u] w fun e w' => e = .returned (.int .i64 (s.push x)) ∧ EndS w w' F (LnP g (s.aftPush x u)) := by
  have HP := Lib.hid h
  obtain ⟨v, hI, he⟩ := h
  have HE := Lib.hid he
  have HH := Lib.hid (qhas_any g s v x w hI)
  have HI := Lib.hid hI
  clear he
  by_cases hx : x ∈ s.ids
  · rw [Ln.push_no hx, Ln.aft_same (by rw [Ln.push_no hx]; decide)]
    rw [decide_eq_true hx] at HH
    clear hx hI
    go_enter Try.func26, Try.ntmps26
    go_wp2_with fail
    refine HH.out.mono ?_
    rintro e w1 ⟨rfl, hg⟩
    go_wp2_with fail
    go_returns
    exact ⟨rfl, LnP.same HP.out hg⟩
  rw [decide_eq_false hx] at HH
  by_cases hf : s.c ≤ s.l.length
  · rw [Ln.push_full hx hf, Ln.aft_same (by rw [Ln.push_full hx hf]; decide)]
    have d0 : decide (s.c ≤ (s.l.length : Int)) = true := decide_eq_true hf
    clear hx hI
    go_enter Try.func26, Try.ntmps26
    go_wp2_with fail
    refine HH.out.mono ?_
    rintro e w1 ⟨rfl, hg⟩
    have H1 := Lib.hid (HI.out.grow hg)
    have CO := Lib.hid (fun w2 (g2 : Grow.G w1 w2) => qcount_g g s v w2 (H1.out.grow g2))
    have KC := Lib.hid (fun (w' : World) (h : Chg (fun _ => False) w1 w') => (⟨h.cell H1.out.c0 id, trivial⟩ : w'.cell? ⟨g, 0, none⟩ = some (.int .i64 s.c) ∧ True))
    have HG := Lib.hid hg
    clear hg HH
    go_wp2_with fail
    refine wp_spec (fun a0 A W => ∃ x10 x11 x12 x13 x14 x15 : Value, A = (((((((a0.put (some 10) x10).put (some 11) x11).put (some 12) x12).put (some 13) x13).put (some 14) x14).put (some 15) x15).put (some 16) (.bool true)) ∧ Grow.G w1 W) ?_ ?_
    all_goals simp only [Act.put, L0, L1, L2]
    ·
      refine Evo2.start' (ℓ := none) (S := Chg (fun _ => False)) (E := Grow.G) (by kernel_rfl) ⟨Chg.pre _, by decide +kernel, (by intro c a d v w h; cases d <;> exact h), by decide +kernel⟩ (fun ok => ?_)
      refine Evo2.va ok 0 _ _ ?_
      (refine Evo2.cal ok 1 ?_ 27 ?_ ?_ ?_ ?_; rotate_left 2; (focus (intro w'; go_simp <;> with_reducible rfl)); (focus (intro w' g'; with_reducible exact CO.out _ (Chg.toGrow (Chg.trans (Chg.refl (fun _ => False) _) g') (fun _ _ => id)))); simp only [Act.put, L0, L1, L2])
      refine Evo2.va ok 2 _ _ ?_
      refine Evo2.va ok 3 _ _ ?_
      refine Evo2.va ok 4 _ _ ?_
      first | (refine Evo2.vl ok 5 KC.out (Chg.refl (fun _ => False) _) _ _ ?_) | (refine Evo2.va ok 5 _ _ ?_)
      refine Evo2.va ok 6 _ _ ?_
      refine Evo2.done (by decide +kernel) (fun wz gz => ?_)
      have AZ := Chg.trans (Chg.refl (fun _ => False) _) (Chg.grow gz)
      dsimp only [PostN] 
      (repeat apply Exists.intro) 
      exact ⟨rfl, AZ.toGrow (fun _ _ => id)⟩
    ·
      rintro A W2 ⟨x10, x11, x12, x13, x14, x15, rfl, g2⟩
      go_wp2_with fail
      go_returns
      exact ⟨rfl, LnP.same HP.out (HG.out.trans g2)⟩
  have hf2 : (s.l.length : Int) < s.c := by omega
  rw [Ln.push_yes hx hf2, Ln.aft_one (Ln.push_yes hx hf2)]
  have HK := Lib.hid (Ln.ok_one (x := x) (u := u) hI.ok hf2)
  have d0 : decide (s.c ≤ (s.l.length : Int)) = false := decide_eq_false (by omega)
  have hll := hI.ok.l
  clear hx hI hf2
  go_enter Try.func26, Try.ntmps26
  go_wp2_with fail
  refine HH.out.mono ?_
  rintro e w1 ⟨rfl, hg⟩
  have H1 := Lib.hid (HI.out.grow hg)
  have CO := Lib.hid (fun w2 (g2 : Grow.G w1 w2) => qcount_g g s v w2 (H1.out.grow g2))
  have KC := Lib.hid (fun (w' : World) (h : Chg (fun _ => False) w1 w') => (⟨h.cell H1.out.c0 id, trivial⟩ : w'.cell? ⟨g, 0, none⟩ = some (.int .i64 s.c) ∧ True))
  have HG := Lib.hid hg
  clear hg HH
  go_wp2_with fail
  refine wp_spec (fun a0 A W => ∃ x10 x11 x12 x13 x14 x15 : Value, A = (((((((a0.put (some 10) x10).put (some 11) x11).put (some 12) x12).put (some 13) x13).put (some 14) x14).put (some 15) x15).put (some 16) (.bool false)) ∧ Grow.G w1 W) ?_ ?_
  all_goals simp only [Act.put, L0, L1, L2]
  ·
    refine Evo2.start' (ℓ := none) (S := Chg (fun _ => False)) (E := Grow.G) (by kernel_rfl) ⟨Chg.pre _, by decide +kernel, (by intro c a d v w h; cases d <;> exact h), by decide +kernel⟩ (fun ok => ?_)
    refine Evo2.va ok 0 _ _ ?_
    (refine Evo2.cal ok 1 ?_ 27 ?_ ?_ ?_ ?_; rotate_left 2; (focus (intro w'; go_simp <;> with_reducible rfl)); (focus (intro w' g'; with_reducible exact CO.out _ (Chg.toGrow (Chg.trans (Chg.refl (fun _ => False) _) g') (fun _ _ => id)))); simp only [Act.put, L0, L1, L2])
    refine Evo2.va ok 2 _ _ ?_
    refine Evo2.va ok 3 _ _ ?_
    refine Evo2.va ok 4 _ _ ?_
    first | (refine Evo2.vl ok 5 KC.out (Chg.refl (fun _ => False) _) _ _ ?_) | (refine Evo2.va ok 5 _ _ ?_)
    refine Evo2.va ok 6 _ _ ?_
    refine Evo2.done (by decide +kernel) (fun wz gz => ?_)
    have AZ := Chg.trans (Chg.refl (fun _ => False) _) (Chg.grow gz)
    dsimp only [PostN] 
    (repeat apply Exists.intro) 
    exact ⟨rfl, AZ.toGrow (fun _ _ => id)⟩
  ·
    rintro A W2 ⟨x10, x11, x12, x13, x14, x15, rfl, g2⟩
    have H2 := H1.out.grow g2
    have c1 := H2.c1
    have hgl := H2.hb.lt
    have HO := Lib.hid H2.ho
    have HB := Lib.hid H2.hb
    have NE := Lib.hid H2.ne
    have G2 := Lib.hid (HG.out.trans g2)
    obtain ⟨i0, hi, hz0, hz1, hz2⟩ := info_parts infoPlc
    have HII := Lib.hid hi; have HZ0 := Lib.hid hz0; have HZ1 := Lib.hid hz1; have HZ2 := Lib.hid hz2
    clear H2 g2 H1 CO KC HG hi hz0 hz1 hz2 hf
    go_wp2_with (at_builtin; refine Fr.wpList_append_fr _ rfl _ _ 40 rfl 0 plcT i0 (.agg #[.int .i64 0, .int .i64 0]) 2 16 Try.underlying40 HII.out HZ0.out HZ1.out HZ2.out rfl (by decide) _ _ _ rfl (own_later HO.out (Grow.G.alloc (Grow.G.refl _) _)) ⟨W2.heap.size, 0, none⟩ 1 1 [.int .i64 x, .int .i64 u] rfl rfl (news_new _ _ _ _ rfl) (by intro u hu; simp at hu; rcases hu with rfl | rfl <;> rfl) (by unfold maxLen; omega) (by omega) (Nat.zero_le _) ?_; intro v' w' hown hfr; obtain ⟨g9, c9, rfl, hg9⟩ := own_some hown (by omega); have AP := Chg.trans (Chg.grow (Grow.G.alloc (Grow.G.refl _) _)) (Chg.ofFr hfr); have V3 := HB.out.chg AP NE.out; have f0 := V3.free 1; have l0 := V3.lt; have e0 := (V3.cell 1).trans (show _ = some v from rfl); have HW := Lib.hid (And.intro V3 (And.intro AP (And.intro hown hfr))); clear V3 AP hown hfr)
    go_returns
    obtain ⟨V3, AP, OW, FR⟩ := HW.out
    have CS : Chg (fun k => k = g) w' (w'.setCell ⟨g, 1, none⟩ (.slice (some ⟨g9, 0, none⟩) (s.l.length + 1) c9)) := Chg.setCell (G := fun k => k = g) (Chg.refl _ _) (fun _ => rfl) _ _
    have N9 : ¬ g9 = g := fun e => own_blk_types OW V3 (by decide) (by rw [e]; rfl)
    refine ⟨rfl, LnP.fin (v := v) (v' := .slice (some ⟨g9, 0, none⟩) (s.l.length + 1) c9) HE.out ⟨V3.set 1 _, ?_, HK.out⟩ (((Chg.grow G2.out).trans (AP.mono fun k _ e => .inr e)).trans (CS.mono fun k _ e => .inl e)) (fun b e => ?_)⟩
    · show World.ownsRow _ _ _ _ _ (s.l ++ [(x, u)]).length (List.flatMap _ (s.l ++ [(x, u)]))
      rw [List.length_append, List.length_singleton, List.flatMap_append]
      exact CS.own OW (fun k hk e => N9 (by have hk : g9 = k := Option.some.inj hk; rw [hk]; exact e))
    · rcases FR.o with q | ⟨b', q, hb'⟩
      · exact .inl (q ▸ e)
      · refine .inr ?_
        have e2 : b = b' := Option.some.inj (e.symm.trans q)
        have := G2.out.size
        simp only [World.size_alloc] at hb'
        omega
/-! ### the line's methods -/
theorem lnew_any (c : Int) (w : World) (hc : 0 ≤ c ∧ c ≤ 1000) : Calls Try.prog 11 #[.int .i64 c] w fun e w' => e = .returned (pz w.heap.size) ∧ LnP w.heap.size (Ln.new c) w' (fun k => k = w.heap.size) ∧ Grow.G w w' := by
  go_enter Try.func11, Try.ntmps11
  go_wp2_with fail
  go_ret
  refine ⟨rfl, ⟨.slice none 0 0, ⟨Blk.new w _ _, ⟨rfl, .inl ⟨rfl, rfl⟩⟩, Ln.ok_new hc⟩, fun k => ?_⟩, Grow.G.alloc (Grow.G.refl _) _⟩
  unfold LnF
  exact ⟨.inl, fun h => h.elim id (fun q => by cases q)⟩
theorem lpush_any (g : Nat) (s : Ln) (x u : Int) (w : World) (F : Nat → Prop) (h : LnP g s w F) :
    Calls Try.prog 18 #[pz g, .int .i64 x, .int .i64 u] w fun e w' => e = .returned (.int .i64 (s.push x)) ∧ EndS w w' F (LnP g (s.aftPush x u)) := by
  have HA := Lib.hid (qadd_any g s x u w F h)
  obtain ⟨v, hI, he⟩ := h
  have hl := hI.hb.lt
  clear hI he
  go_enter Try.func18, Try.ntmps18
  go_wp2_with fail
  refine HA.out.mono ?_
  rintro e w1 ⟨rfl, hq⟩
  have HQ := Lib.hid hq
  clear hq
  go_wp2_with fail
  go_returns
  exact ⟨rfl, HQ.out⟩
theorem lpop_any (g : Nat) (s : Ln) (w : World) (F : Nat → Prop) (h : LnP g s w F) :
    Calls Try.prog 13 #[pz g] w fun e w' => e = .returned (.tuple #[.int .i64 s.pop, .bool s.popB]) ∧ EndS w w' F (LnP g s.aftPop) := by
  have HA := Lib.hid (qfirst_any g s w F h)
  obtain ⟨v, hI, he⟩ := h
  have hl := hI.hb.lt
  clear hI he
  go_enter Try.func13, Try.ntmps13
  go_wp2_with fail
  refine HA.out.mono ?_
  rintro e w1 ⟨rfl, hq⟩
  have HQ := Lib.hid hq
  clear hq
  go_wp2_with fail
  go_returns
  exact ⟨rfl, HQ.out⟩
theorem llen_any (g : Nat) (s : Ln) (v : Value) (w : World) (h : LnIn w g s v) :
    Calls Try.prog 20 #[pz g] w fun e w' => e = .returned (.int .i64 s.l.length) ∧ w = w' := by
  have HA := Lib.hid (qcount_any g s v w h)
  have hl := h.hb.lt
  clear h
  go_enter Try.func20, Try.ntmps20
  go_wp2_with fail
  refine HA.out.mono ?_
  rintro e w1 ⟨rfl, rfl⟩
  go_wp2_with fail
  go_ret
  exact ⟨rfl, rfl⟩
theorem lall_any (g : Nat) (s : Ln) (v : Value) (w : World) (h : LnIn w g s v) :
    Calls Try.prog 22 #[pz g] w fun e w' => ∃ u, e = .returned u ∧ w'.ownsRow w.heap.size 3 1 u s.ids.length (intsV s.ids) ∧ Grow.G w w' := by
  have HA := Lib.hid (qlist_any g s v w h)
  have hl := h.hb.lt
  clear h
  go_enter Try.func22, Try.ntmps22
  go_wp2_with fail
  refine HA.out.mono ?_
  rintro e w1 ⟨u, rfl, ho, hg⟩
  have HO := Lib.hid (And.intro ho hg)
  clear ho hg
  go_wp2_with fail
  go_returns
  exact ⟨_, rfl, HO.out.1, HO.out.2⟩
theorem llate_any (g : Nat) (s : Ln) (v : Value) (n : Int) (w : World) (h : LnIn w g s v) :
    Calls Try.prog 16 #[pz g, .int .i64 n] w fun e w' => ∃ u z, e = .returned u ∧ w'.ownsRow w.heap.size 3 1 u (s.late n).length (intsV (s.late n)) ∧ LnIn w' g (s.aftLate n) z ∧ (∀ b, z.ownBlock = some b → w.heap.size ≤ b) ∧ Chg (fun k => k = g) w w' := by
  have HA := Lib.hid (qlate_any g s v n w h)
  have hl := h.hb.lt
  clear h
  go_enter Try.func16, Try.ntmps16
  go_wp2_with fail
  refine HA.out.mono ?_
  rintro e w1 ⟨u, z, rfl, hq⟩
  have HO := Lib.hid hq
  clear hq
  go_wp2_with fail
  go_returns
  exact ⟨_, z, rfl, HO.out⟩

theorem rlnew_any (c : Int) (w : World) (hc : 0 ≤ c ∧ c ≤ 1000) : Calls Try.prog 12 #[.int .i64 c] w fun e w' => e = .returned (pz w.heap.size) ∧ RlP w.heap.size (Ln.new c) w' (fun k => k = w.heap.size) ∧ Grow.G w w' := by
  go_enter Try.func12, Try.ntmps12
  go_wp2_with fail
  go_ret
  refine ⟨rfl, ⟨.slice none 0 0, ⟨Blk.new w _ _, ⟨rfl, .inl ⟨rfl, rfl⟩⟩, Ln.ok_new hc⟩, fun k => ?_⟩, Grow.G.alloc (Grow.G.refl _) _⟩
  unfold LnF
  exact ⟨.inl, fun h => h.elim id (fun q => by cases q)⟩
theorem rllen_any (g : Nat) (s : Ln) (v : Value) (w : World) (h : RlIn w g s v) :
    Calls Try.prog 21 #[pz g] w fun e w' => e = .returned (.int .i64 s.l.length) ∧ w = w' := by
  obtain ⟨a, c, rfl⟩ := h.sl
  have c1 := h.c1
  have hl := h.hb.lt
  clear h
  go_enter Try.func21, Try.ntmps21
  go_wp2_with fail
  go_ret
  exact ⟨rfl, rfl⟩
set_option maxHeartbeats 1000000 in
theorem rlpop_any (g : Nat) (s : Ln) (w : World) (F : Nat → Prop) (h : RlP g s w F) :
    Calls Try.prog 14 #[pz g] w fun e w' => e = .returned (.tuple #[.int .i64 s.pop, .bool s.popB]) ∧ EndS w w' F (RlP g s.aftPop) := by
  have HP := Lib.hid h
  obtain ⟨v, hI, he⟩ := h
  have HE := Lib.hid he
  have hll := hI.ok.l
  obtain ⟨a, c, rfl⟩ := hI.sl
  have c1 := hI.c1
  have f1 := hI.hb.free 1
  have hgl := hI.hb.lt
  clear he
  cases hs : s.l with
  | nil =>
    have e1 : s.pop = 0 := by unfold Ln.pop Ln.ids; rw [hs]; rfl
    have e2 : s.popB = false := by unfold Ln.popB; rw [hs]; rfl
    have e3 : s.aftPop = s := by unfold Ln.aftPop; rw [hs]; cases s; cases hs; rfl
    rw [e1, e2, e3]
    rw [hs] at c1
    simp only [List.length_nil] at c1
    clear e1 e2 e3 hI hs f1
    go_enter Try.func14, Try.ntmps14
    go_wp2_with fail
    go_returns
    exact ⟨rfl, RlP.same HP.out (Grow.G.refl _)⟩
  | cons p r =>
    obtain ⟨d1, d2⟩ := Ln.drop_one hs
    have e1 : s.pop = p.1 := d2
    have e2 : s.popB = true := by unfold Ln.popB; rw [hs]; rfl
    have hO := hI.ho
    rw [hs] at hO c1 hll HE
    simp only [List.length_cons] at hO c1 hll HE
    have HA : Hid (s.aftPop = ⟨s.c, r⟩) := Lib.hid (by unfold Ln.aftPop; rw [d1])
    have HK := Lib.hid (Ln.ok_pop hI.ok)
    rw [HA.out] at HK
    rw [e1, e2, HA.out]
    obtain ⟨q, off, rfl, hc, hql, hcell⟩ := ((off_plcs (l := p :: r) hO).resolve_left (fun e => by cases e.2.2))
    have x0 := (hcell 0 p rfl).1
    rw [Nat.zero_mul, Nat.add_zero] at x0
    have hne : ¬ q = g := fun e => hI.ne (by rw [e]; rfl)
    have HO := Lib.hid hO
    have HB := Lib.hid hI.hb
    obtain ⟨x, u⟩ := p
    dsimp only at x0 ⊢
    have k1 : ((r.length : Int) + 1 == 0) = false := by simp; omega
    have k2 : (0 : Int) < (r.length : Int) + 1 := by omega
    simp only [List.length_cons] at hc
    have HT := Lib.hid (fun off' (h : off' = off + 2 ∨ (c = 1 ∧ off' ≤ off)) => hO.tail (by omega) h)
    simp only [Nat.add_sub_cancel] at HT
    have HTX : Hid (∀ off', (off' = off + 2 ∨ (c = 1 ∧ off' ≤ off)) → w.offRow 0 oneT 2 (.slice (some ⟨q, off', none⟩) r.length (c - 1)) r.length (plcs r)) := HT
    clear hcell hO d1 d2 e1 e2 hs hI HA HT
    by_cases h1 : c = 1
    · subst h1
      obtain rfl : r = [] := List.eq_nil_of_length_eq_zero (by omega)
      simp only [List.length_nil, Nat.zero_add] at *
      have HT0 := Lib.hid (HTX.out off (.inr (by first | exact ⟨rfl, Nat.le_refl _⟩ | exact ⟨trivial, Nat.le_refl _⟩)))
      go_enter Try.func14, Try.ntmps14
      go_wp2_with fail
      go_returns
      have CS : Chg (fun k => k = g) w (w.setCell ⟨g, 1, none⟩ (.slice (some ⟨q, off, none⟩) 0 0)) := Chg.setCell (G := fun k => k = g) (Chg.refl _ _) (fun _ => rfl) _ _
      exact ⟨rfl, RlP.fin (v := .slice (some ⟨q, off, none⟩) 1 1) (v' := .slice (some ⟨q, off, none⟩) 0 0) HE.out ⟨HB.out.set 1 _, CS.offRow HT0.out (fun k hk e => hne (by have hk : q = k := Option.some.inj hk; rw [hk]; exact e)), HK.out⟩ (CS.mono fun k _ e => .inl e) (fun b e => .inl e)⟩
    · go_enter Try.func14, Try.ntmps14
      go_wp2_with fail
      go_returns
      have CS : Chg (fun k => k = g) w (w.setCell ⟨g, 1, none⟩ (.slice (some ⟨q, off + 2, none⟩) r.length (c - 1))) := Chg.setCell (G := fun k => k = g) (Chg.refl _ _) (fun _ => rfl) _ _
      exact ⟨rfl, RlP.fin (v := .slice (some ⟨q, off, none⟩) (r.length + 1) c) (v' := .slice (some ⟨q, off + 2, none⟩) r.length (c - 1)) HE.out ⟨HB.out.set 1 _, CS.offRow (HTX.out (off + 2) (.inl rfl)) (fun k hk e => hne (by have hk : q = k := Option.some.inj hk; rw [hk]; exact e)), HK.out⟩ (CS.mono fun k _ e => .inl e) (fun b e => .inl e)⟩
set_option maxHeartbeats 2000000 in
theorem rlpush_any (g : Nat) (s : Ln) (x u : Int) (w : World) (F : Nat → Prop) (h : RlP g s w F) :
    Calls Try.prog 19 #[pz g, .int .i64 x, .int .i64 u] w fun e w' => e = .returned (.int .i64 (s.push x)) ∧ EndS w w' F (RlP g (s.aftPush x u)) := by
  have HP := Lib.hid h
  obtain ⟨v, hI, he⟩ := h
  have HE := Lib.hid he
  have HI := Lib.hid hI
  have hll := hI.ok.l
  obtain ⟨a, c, rfl⟩ := hI.sl
  have c1 := hI.c1
  have c0 := hI.c0
  have f1 := hI.hb.free 1
  have hgl := hI.hb.lt
  have HR := Lib.hid (off_plcs hI.ho)
  clear he hI
  have HL : Hid (∀ y, y ∈ s.ids ↔ ∃ k u, s.l[k]? = some (y, u)) := Lib.hid (fun y => by
    unfold Ln.ids
    rw [List.mem_map]
    constructor
    · rintro ⟨⟨y', u⟩, hm, rfl⟩
      obtain ⟨k, hk⟩ := List.mem_iff_getElem?.1 hm
      exact ⟨k, u, hk⟩
    · rintro ⟨k, u, hk⟩
      exact ⟨(y, u), List.mem_of_getElem? hk, rfl⟩)
  generalize hsl : s.l = l at *
  have HSL := Lib.hid hsl
  clear hsl
  go_enter Try.func19, Try.ntmps19
  go_wp2_with fail
  go_loopw [7] (fun i wr => ∃ k : Nat, k ≤ l.length ∧ i = .int .i64 k ∧ wr = w ∧ Hid (∀ j u, j < k → l[j]? ≠ some (x, u))) (fun i _ => l.length - (intOf i).toNat)
  case atStart => exact ⟨0, by omega, rfl, rfl, Lib.hid (fun j u hj => by omega)⟩
  case round =>
    obtain ⟨k, hk, rfl, rfl, HX⟩ := hrel
    by_cases hlt : k < l.length
    · obtain ⟨⟨y, t⟩, hy⟩ : ∃ y, l[k]? = some y := ⟨_, List.getElem?_eq_getElem hlt⟩
      obtain ⟨g2, off, rfl, hc, hg2, hcl⟩ := HR.out.resolve_left (fun e => by rw [e.2.2] at hlt; simp at hlt)
      have cy := (hcl k _ hy).1
      dsimp only at cy
      have d0 : decide ((k : Int) < (l.length : Int)) = true := decide_eq_true (by omega)
      have hk1 : IntKind.i64.wrap ((k : Int) + 1) = (k : Int) + 1 := IntWalk.i64_in _ ⟨by omega, by omega⟩
      have k1 : (0 : Int) ≤ (k : Int) := by omega
      have k2 : (k : Int) < (l.length : Int) := by omega
      by_cases e : y = x
      · have d1 : (y == x) = true := by simpa using e
        have HM : Hid (x ∈ s.ids) := Lib.hid ((HL.out x).2 ⟨k, t, by rw [← e]; exact hy⟩)
        clear hcl hy e
        go_wp2_with fail
        go_returns
        rw [Ln.push_no HM.out, Ln.aft_same (by rw [Ln.push_no HM.out]; decide)]
        exact ⟨rfl, RlP.same HP.out (Grow.G.refl _)⟩
      · have d1 : (y == x) = false := by simpa using e
        have HX2 : Hid (∀ j u, j < k + 1 → l[j]? ≠ some (x, u)) := Lib.hid (fun j u hj q => by
          rcases Nat.lt_or_ge j k with h | h
          · exact HX.out j u h q
          · obtain rfl : j = k := by omega
            rw [hy] at q
            cases q
            exact e rfl)
        clear hcl hy e HX
        go_wp2_with fail
        go_roundw
        case rel => exact ⟨k + 1, by omega, by go_num, trivial, HX2⟩
        case measure => simp [intOf]; omega
    · obtain rfl : k = l.length := by omega
      have d0 : decide ((l.length : Int) < (l.length : Int)) = false := decide_eq_false (by omega)
      have hx : x ∉ s.ids := fun q => by
        obtain ⟨j, u, hj⟩ := (HL.out x).1 q
        have := (List.getElem?_eq_some_iff.1 hj).1
        exact HX.out j u this hj
      have HN := Lib.hid hx
      clear HX hx
      have KC := Lib.hid (fun (w' : World) (h : Chg (fun _ => False) wr w') => (⟨h.cell c1 id, h.cell c0 id, trivial⟩ : w'.cell? ⟨g, 1, none⟩ = some (.slice a l.length c) ∧ w'.cell? ⟨g, 0, none⟩ = some (.int .i64 s.c) ∧ True))
      by_cases hf : s.c ≤ l.length
      · have hp := Ln.push_full HN.out (show s.c ≤ s.l.length from by rw [HSL.out]; exact hf)
        have PF := Lib.hid hp
        have d1 : decide (s.c ≤ (l.length : Int)) = true := decide_eq_true hf
        clear hp
        go_wp2_with fail
        refine wp_spec (fun a0 A W => ∃ x27 x28 x29 x30 x31 x32 x33 x34 x35 : Value, A = ((((((((((a0.put (some 27) x27).put (some 28) x28).put (some 29) x29).put (some 30) x30).put (some 31) x31).put (some 32) x32).put (some 33) x33).put (some 34) x34).put (some 35) x35).put (some 36) (.bool true)) ∧ Grow.G wr W) ?_ ?_
        all_goals simp only [Act.put, L0, L1, L2]
        ·
          refine Evo2.start' (ℓ := none) (S := Chg (fun _ => False)) (E := Grow.G) (by kernel_rfl) ⟨Chg.pre _, by decide +kernel, (by intro c a d v w h; cases d <;> exact h), by decide +kernel⟩ (fun ok => ?_)
          refine Evo2.va ok 0 _ _ ?_
          refine Evo2.va ok 1 _ _ ?_
          refine Evo2.va ok 2 _ _ ?_
          first | (refine Evo2.vl ok 3 KC.out (Chg.refl (fun _ => False) _) _ _ ?_) | (refine Evo2.va ok 3 _ _ ?_)
          refine Evo2.va ok 4 _ _ ?_
          refine Evo2.va ok 5 _ _ ?_
          refine Evo2.va ok 6 _ _ ?_
          refine Evo2.va ok 7 _ _ ?_
          first | (refine Evo2.vl ok 8 KC.out (Chg.refl (fun _ => False) _) _ _ ?_) | (refine Evo2.va ok 8 _ _ ?_)
          refine Evo2.va ok 9 _ _ ?_
          refine Evo2.done (by decide +kernel) (fun wz gz => ?_)
          have AZ := Chg.trans (Chg.refl (fun _ => False) _) (Chg.grow gz)
          dsimp only [PostN] 
          (repeat apply Exists.intro) 
          exact ⟨rfl, AZ.toGrow (fun _ _ => id)⟩
        ·
          rintro A W2 ⟨x27, x28, x29, x30, x31, x32, x33, x34, x35, rfl, g2⟩
          go_wp2_with fail
          go_returns
          rw [PF.out, Ln.aft_same (by rw [PF.out]; decide)]
          exact ⟨rfl, RlP.same HP.out g2⟩
      · have hf2 : (s.l.length : Int) < s.c := by rw [HSL.out]; omega
        have hp := Ln.push_yes HN.out hf2
        have PF := Lib.hid hp
        have HK := Lib.hid (Ln.ok_one (x := x) (u := u) HI.out.ok hf2)
        have d1 : decide (s.c ≤ (l.length : Int)) = false := decide_eq_false (by omega)
        clear hp hf2
        go_wp2_with fail
        refine wp_spec (fun a0 A W => ∃ x27 x28 x29 x30 x31 x32 x33 x34 x35 : Value, A = ((((((((((a0.put (some 27) x27).put (some 28) x28).put (some 29) x29).put (some 30) x30).put (some 31) x31).put (some 32) x32).put (some 33) x33).put (some 34) x34).put (some 35) x35).put (some 36) (.bool false)) ∧ Grow.G wr W) ?_ ?_
        all_goals simp only [Act.put, L0, L1, L2]
        ·
          refine Evo2.start' (ℓ := none) (S := Chg (fun _ => False)) (E := Grow.G) (by kernel_rfl) ⟨Chg.pre _, by decide +kernel, (by intro c a d v w h; cases d <;> exact h), by decide +kernel⟩ (fun ok => ?_)
          refine Evo2.va ok 0 _ _ ?_
          refine Evo2.va ok 1 _ _ ?_
          refine Evo2.va ok 2 _ _ ?_
          first | (refine Evo2.vl ok 3 KC.out (Chg.refl (fun _ => False) _) _ _ ?_) | (refine Evo2.va ok 3 _ _ ?_)
          refine Evo2.va ok 4 _ _ ?_
          refine Evo2.va ok 5 _ _ ?_
          refine Evo2.va ok 6 _ _ ?_
          refine Evo2.va ok 7 _ _ ?_
          first | (refine Evo2.vl ok 8 KC.out (Chg.refl (fun _ => False) _) _ _ ?_) | (refine Evo2.va ok 8 _ _ ?_)
          refine Evo2.va ok 9 _ _ ?_
          refine Evo2.done (by decide +kernel) (fun wz gz => ?_)
          have AZ := Chg.trans (Chg.refl (fun _ => False) _) (Chg.grow gz)
          dsimp only [PostN] 
          (repeat apply Exists.intro) 
          exact ⟨rfl, AZ.toGrow (fun _ _ => id)⟩
        ·
          rintro A W2 ⟨x27, x28, x29, x30, x31, x32, x33, x34, x35, rfl, g2⟩
          have H2 := HI.out.grow g2
          have c1' := H2.c1
          have hgl' := H2.hb.lt
          have hO := H2.ho
          have hB := H2.hb
          have hN := H2.ne
          rw [HSL.out] at hO
          have HO := Lib.hid hO
          have HB := Lib.hid hB
          have NE := Lib.hid hN
          have G2 := Lib.hid g2
          obtain ⟨i0, hi, hz0, hz1, hz2⟩ := info_parts infoOne
          have HII := Lib.hid hi; have HZ0 := Lib.hid hz0; have HZ1 := Lib.hid hz1; have HZ2 := Lib.hid hz2
          clear H2 g2 KC hi hz0 hz1 hz2 hf c1 c0 f1 hgl hO hB hN
          go_wp2_with (at_builtin; refine Fr.wpList_append_off _ rfl _ _ 45 rfl 0 oneT i0 (.agg #[.int .i64 0, .int .i64 0]) 2 16 Try.underlying45 HII.out HZ0.out HZ1.out HZ2.out rfl (by decide) _ _ _ rfl (World.offRow.later HO.out (Grow.G.alloc (Grow.G.refl _) _)) (some ⟨W2.heap.size, 0, none⟩) 1 1 [.int .i64 x, .int .i64 u] rfl rfl (.inr ⟨_, rfl, news_new _ _ _ _ rfl⟩) (by intro u hu; simp at hu; rcases hu with rfl | rfl <;> rfl) (by unfold maxLen; omega) (by omega) (Nat.zero_le _) ?_; intro v' w' hown hfr; obtain ⟨a9, c9, rfl⟩ := hown.shape; have AP := Chg.trans (Chg.grow (Grow.G.alloc (Grow.G.refl _) _)) (Chg.ofFr hfr); have V3 := HB.out.chg AP NE.out; have f0 := V3.free 1; have l0 := V3.lt; have e0 := (V3.cell 1).trans (show _ = some (Value.slice a l.length c) from rfl); have HW := Lib.hid (And.intro V3 (And.intro AP (And.intro hown hfr))); clear V3 AP hown hfr)
          go_returns
          rw [PF.out, Ln.aft_one PF.out]
          obtain ⟨V3, AP, OW, FR⟩ := HW.out
          have CS : Chg (fun k => k = g) w' (w'.setCell ⟨g, 1, none⟩ (.slice a9 (l.length + 1) c9)) := Chg.setCell (G := fun k => k = g) (Chg.refl _ _) (fun _ => rfl) _ _
          have N9 := off_blk_types OW V3 (by decide)
          refine ⟨rfl, RlP.fin (v := .slice a l.length c) (v' := .slice a9 (l.length + 1) c9) HE.out ⟨V3.set 1 _, ?_, HK.out⟩ (((Chg.grow G2.out).trans (AP.mono fun k _ e => .inr e)).trans (CS.mono fun k _ e => .inl e)) (fun b e => ?_)⟩
          · show World.offRow _ _ _ _ _ (s.l ++ [(x, u)]).length (List.flatMap _ (s.l ++ [(x, u)]))
            rw [List.length_append, List.length_singleton, List.flatMap_append, HSL.out]
            exact CS.offRow OW (fun k hk e => N9 (by rw [hk, show k = g from e]))
          · rcases FR.o with q | ⟨b', q, hb'⟩
            · exact .inl (q ▸ e)
            · refine .inr ?_
              have e2 : b = b' := Option.some.inj (e.symm.trans q)
              have := G2.out.size
              simp only [World.size_alloc] at hb'
              omega
end Go.Proofs.Ytlnffdkaleapbaa
