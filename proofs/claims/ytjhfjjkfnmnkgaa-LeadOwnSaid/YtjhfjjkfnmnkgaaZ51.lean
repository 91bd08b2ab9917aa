/- My own texts Rl8, Rl9, laid in one file. -/
import Derived.Test.YtjhfjjkfnmnkgaaZ50
import Derived.Test.YtjhfjjkfnmnkgaaZ48
import Derived.Test.YtjhfjjkfnmnkgaaZ40
import Derived.Test.YtjhfjjkfnmnkgaaZ2

/- roll.Shares. -/
namespace Go.Proofs.Ytjhfjjkfnmnkgaa
set_option maxRecDepth 100000
set_option linter.unusedVariables false
set_option linter.unusedSimpArgs false
set_option linter.unnecessarySimpa false
open Go.RowKit Go.Args

theorem own_of_blk {w : World} {b base sz n : Nat} {cs : List Value} {T : TypeId} (h : Blk w b cs.toArray T) (hb : base ≤ b) (hl : cs.length = n * sz) (hn : n ≤ maxLen) : w.ownsRow base T sz (.slice (some ⟨b, 0, none⟩) n n) n cs :=
  ⟨hl, .inr ⟨b, n, cs.toArray, rfl, hb, h, Nat.le_refl _, hn, by simpa using hl, by rw [← hl]; simp⟩⟩
theorem wtL_bd {l : List Shr} (h : Small l) (n : ByteArray) : 0 ≤ wtL l n ∧ wtL l n ≤ 1000 := by
  rcases wtL_cases l n with ⟨s, hs, _, e⟩ | ⟨_, e⟩
  · have := h.2 s hs
    rw [e]; omega
  · rw [e]; omega
theorem names_size {l m : List Shr} (h1 : Small l) (h2 : Small m) : (namesL l m).length ≤ 2000 ∧ ∀ x, x ∈ namesL l m → x.size ≤ 100000 := by
  refine ⟨by have := namesL_len l m; have := h1.1; have := h2.1; omega, fun x hx => ?_⟩
  rcases (namesL_mem l m x).1 hx with ⟨s, hs, rfl⟩ | ⟨s, hs, rfl⟩
  · exact (h1.2 s hs).2.2
  · exact (h2.2 s hs).2.2
theorem ways_ok {l m : List Shr} (h1 : Small l) (h2 : Small m) : WOk (waysL l m) := by
  obtain ⟨n1, n2⟩ := names_size h1 h2
  refine ⟨by unfold waysL; rw [List.length_map]; omega, fun x hx => ?_⟩
  obtain ⟨n, hn, rfl⟩ := List.mem_map.1 hx
  have a1 := wtL_bd h1 n
  have a2 := wtL_bd h2 n
  have := n2 n hn
  dsimp only
  omega
theorem ways_pos {l m : List Shr} (h : 0 < l.length) : 0 < (waysL l m).length := by
  unfold waysL
  rw [List.length_map]
  cases l with
  | nil => simp at h
  | cons x l =>
    have : x.rev ∈ namesL (x :: l) m := (namesL_mem _ _ _).2 (.inl ⟨x, by simp, rfl⟩)
    exact List.length_pos_of_mem this
theorem grown_ok {l : List Wy} {t n : Int} (h : ∀ x, x ∈ l → 0 ≤ x.w ∧ x.w ≤ 1000 ∧ -1000 ≤ x.c ∧ x.c ≤ 1000 ∧ x.rev.size ≤ 100000) (hl : l.length ≤ 4000) (h0 : 0 < t) (h1 : t < n) : WOk (l.map (grow1 t n)) := by
  refine ⟨by rw [List.length_map]; exact hl, fun x hx => ?_⟩
  obtain ⟨y, hy, rfl⟩ := List.mem_map.1 hx
  have := h y hy
  have := by_le (c := y.c) h0 h1
  unfold grow1
  dsimp only
  omega
theorem lose_revs {l : List Wy} {g : Int} (h : ∀ x, x ∈ l → x.rev.size ≤ 100000) : ∀ x, x ∈ loseL l g → x.rev.size ≤ 100000 := by
  induction l generalizing g with
  | nil => intro x hx; cases hx
  | cons y l ih =>
    intro x hx
    rw [loseL] at hx
    rcases List.mem_cons.1 hx with rfl | hx
    · exact h y (by simp)
    · exact ih (fun z hz => h z (by simp [hz])) x hx
set_option maxHeartbeats 8000000 in
theorem roll_any (a : Option Addr) (l : List Shr) (c : Nat) (b : Option Addr) (m : List Shr) (d : Nat) (t n : Int) (w : World) (s1 : Small l) (s2 : Small m) (p1 : 0 < l.length) (r1 : Asc (l.map (·.rev))) (r2 : Asc (m.map (·.rev))) (ht : -1099511627776 ≤ t ∧ t ≤ 1099511627776) (hn : -1099511627776 ≤ n ∧ n ≤ 1099511627776) (h1 : ShSl w a l) (h2 : ShSl w b m) :
    Calls Try.prog 47 #[.slice a l.length c, .slice b m.length d, .int .i64 t, .int .i64 n] w fun e w' => ∃ v, e = .returned v ∧ w'.ownsRow w.heap.size 53 2 v (rollL l m t n).length ((rollL l m t n).flatMap Shr.cells) ∧ Grow.G w w' := by
  by_cases g1 : n ≤ 0 ∨ t ≥ n
  · have RES : Hid (rollL l m t n = m) := Lib.hid (by unfold rollL; rw [if_pos g1])
    have EA := Lib.hid (eachS_any b m d w s2 h2)
    have hm := s2.1
    clear s1 s2 r1 r2 h1 h2
    go_enter Try.func47, Try.ntmps47
    by_cases g2 : n ≤ 0
    · have d0 : decide (n ≤ 0) = true := decide_eq_true g2
      clear g1 g2
      go_wp2_with fail
      refine EA.out.mono ?_
      rintro e w2 ⟨b2, rfl, hb2, B2, hg2⟩
      rw [List.map_id] at B2
      have O2 := Lib.hid (own_of_blk (sz := 2) (n := m.length) B2 hb2 (flat_len (cells := Shr.cells) (n := 2) (fun x => rfl) m) (by unfold maxLen; omega))
      have G2 := Lib.hid hg2
      clear B2 hg2
      go_wp2_with fail
      go_ret
      exact ⟨_, rfl, by rw [RES.out]; exact O2.out, G2.out⟩
    · have d0 : decide (n ≤ 0) = false := decide_eq_false g2
      have d1 : decide (t ≥ n) = true := decide_eq_true (by omega)
      clear g1 g2
      go_wp2_with fail
      refine EA.out.mono ?_
      rintro e w2 ⟨b2, rfl, hb2, B2, hg2⟩
      rw [List.map_id] at B2
      have O2 := Lib.hid (own_of_blk (sz := 2) (n := m.length) B2 hb2 (flat_len (cells := Shr.cells) (n := 2) (fun x => rfl) m) (by unfold maxLen; omega))
      have G2 := Lib.hid hg2
      clear B2 hg2
      go_wp2_with fail
      go_ret
      exact ⟨_, rfl, by rw [RES.out]; exact O2.out, G2.out⟩
  · have d0 : decide (n ≤ 0) = false := decide_eq_false (by omega)
    have d1 : decide (t ≥ n) = false := decide_eq_false (by omega)
    by_cases g2 : t ≤ 0
    · have RES : Hid (rollL l m t n = l) := Lib.hid (by unfold rollL; rw [if_neg g1, if_pos g2])
      have EA := Lib.hid (eachS_any a l c w s1 h1)
      have hm := s1.1
      have d2 : decide (t ≤ 0) = true := decide_eq_true g2
      clear s1 s2 r1 r2 h1 h2 g1 g2
      go_enter Try.func47, Try.ntmps47
      go_wp2_with fail
      refine EA.out.mono ?_
      rintro e w2 ⟨b2, rfl, hb2, B2, hg2⟩
      rw [List.map_id] at B2
      have O2 := Lib.hid (own_of_blk (sz := 2) (n := l.length) B2 hb2 (flat_len (cells := Shr.cells) (n := 2) (fun x => rfl) l) (by unfold maxLen; omega))
      have G2 := Lib.hid hg2
      clear B2 hg2
      go_wp2_with fail
      go_ret
      exact ⟨_, rfl, by rw [RES.out]; exact O2.out, G2.out⟩
    · have d2 : decide (t ≤ 0) = false := decide_eq_false g2
      have RES := Lib.hid (roll_eq r1 r2 g1 g2)
      have WA := ways_any a l c b m d w s1 s2 h1 h2
      rw [ways_eq r1 r2] at WA
      have WA := Lib.hid WA
      have OK := ways_ok s1 s2
      have PO := ways_pos (m := m) p1
      have h0 : 0 < t := by omega
      have h3 : t < n := by omega
      have OK2 : WOk ((waysL l m).map (grow1 t n)) := grown_ok (fun x hx => by
        obtain ⟨y, hy, rfl⟩ := List.mem_map.1 hx
        have a1 := wtL_bd s1 y
        have a2 := wtL_bd s2 y
        have := (names_size s1 s2).2 y hy
        dsimp only; omega) OK.1 h0 h3
      have GB := growS_le h0 h3 (l := waysL l m) (fun x hx => (OK.2 x hx).2.2.2.1)
      have hlen := OK.1
      clear s1 s2 r1 r2 h1 h2 g1 g2
      have LG : ((waysL l m).map (grow1 t n)).length = (waysL l m).length := List.length_map _
      have LL := loseL_len ((waysL l m).map (grow1 t n)) (growS t n (waysL l m))
      have LR := lose_revs (l := (waysL l m).map (grow1 t n)) (g := growS t n (waysL l m)) (fun x hx => (OK2.2 x hx).2.2.2.2)
      have GA := Lib.hid (fun (g c : Nat) (base : Nat) (w : World) (h : w.ownsRow base 106 3 (.slice (some ⟨g, 0, none⟩) (waysL l m).length c) (waysL l m).length ((waysL l m).flatMap Wy.cells)) => grow_any g (waysL l m) c t n base w OK h0 h3 (by omega) h)
      have LA := Lib.hid (fun (g c : Nat) (base : Nat) (w : World) (h : w.ownsRow base 106 3 (.slice (some ⟨g, 0, none⟩) (waysL l m).length c) (waysL l m).length (((waysL l m).map (grow1 t n)).flatMap Wy.cells)) => lose_any g ((waysL l m).map (grow1 t n)) c (growS t n (waysL l m)) base w OK2 GB.1 (by omega) (by rw [LG]; exact h))
      rw [LG] at LL LA
      generalize loseL ((waysL l m).map (grow1 t n)) (growS t n (waysL l m)) = L2 at *
      generalize (waysL l m).map (grow1 t n) = L1 at *
      generalize growS t n (waysL l m) = gs at *
      generalize hN : (waysL l m).length = N at *
      generalize waysL l m = L0 at *
      have HL := Lib.hid LL
      have HR := Lib.hid LR
      clear hN LG LL LR OK OK2 h0 h3
      go_enter Try.func47, Try.ntmps47
      go_wp2_with fail
      refine WA.out.mono ?_
      rintro e w2 ⟨v2, rfl, O2, hg2⟩
      obtain ⟨g, c2, rfl, hgb⟩ := own_some O2 (by omega)
      have G2 := Lib.hid hg2
      have GA := Lib.hid (GA.out g c2 _ w2 O2)
      clear hg2 O2
      go_wp2_with fail
      refine GA.out.mono ?_
      rintro e w3 ⟨rfl, O3, C3⟩
      have LA := Lib.hid (LA.out g c2 _ w3 O3)
      have C3 := Lib.hid C3
      clear O3
      go_wp2_with fail
      refine LA.out.mono ?_
      rintro e w4 ⟨rfl, O4, C4⟩
      have G4 := Lib.hid ((Chg.trans (Chg.trans (Chg.grow (G := fun k => k = g) G2.out) C3.out) C4).toGrow (fun k hk q => by have q : k = g := q; omega))
      have WS := SlOf.own (cells := Wy.cells) (n := 3) (l := L2) (base := w.heap.size) (e := 106) (c := c2) (fun x => rfl) (by rw [HL.out]; exact O4)
      have WE := weighty_any _ L2 c2 w4 (by rw [HL.out]; omega) HR.out WS
      rw [HL.out] at WE
      have WE := Lib.hid WE
      have hs4 := G4.out.size
      clear O4 C4 C3 WS LA GA
      go_wp2_with fail
      refine WE.out.mono ?_
      rintro e w5 ⟨v5, rfl, O5, hg5⟩
      have O5 := Lib.hid (own_base O5 hs4)
      have G5 := Lib.hid (G4.out.trans hg5)
      clear hg5 WE
      go_wp2_with fail
      go_ret
      exact ⟨_, rfl, by rw [← RES.out]; exact O5.out, G5.out⟩

end Go.Proofs.Ytjhfjjkfnmnkgaa
