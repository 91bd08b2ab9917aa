/- My own texts Rl8, Rl9, laid in one file. -/
import Derived.Test.YtjhfjjkfnmnkgaaZ50
import Derived.Test.YtjhfjjkfnmnkgaaZ48
import Derived.Test.YtjhfjjkfnmnkgaaZ40
import Derived.Test.YtjhfjjkfnmnkgaaZ2

/- roll.Shares. -/
namespace Go.Proofs.Ytjhfjjkfnmnkgaa
set_option maxRecDepth 100000
set_option linter.unusedVariables false
set_option linter.unusedSimpArgs false
set_option linter.unnecessarySimpa false
open Go.RowKit Go.Args

theorem own_of_blk {w : World} {b base sz n : Nat} {cs : List Value} {T : TypeId} (h : Blk w b cs.toArray T) (hb : base ≤ b) (hl : cs.length = n * sz) (hn : n ≤ maxLen) : w.ownsRow base T sz (.slice (some ⟨b, 0, none⟩) n n) n cs :=
  ⟨hl, .inr ⟨b, n, cs.toArray, rfl, hb, h, Nat.le_refl _, hn, by simpa using hl, by rw [← hl]; simp⟩⟩
theorem wtL_bd {l : List Shr} (h : Small l) (n : ByteArray) : 0 ≤ wtL l n ∧ wtL l n ≤ 1000 := by
  rcases wtL_cases l n with ⟨s, hs, _, e⟩ | ⟨_, e⟩
  · have := h.2 s hs
    rw [e]; omega
  · rw [e]; omega
theorem names_size {l m : List Shr} (h1 : Small l) (h2 : Small m) : (namesL l m).length ≤ 2000 ∧ ∀ x, x ∈ namesL l m → x.size ≤ 100000 := by
  refine ⟨by have := namesL_len l m; have := h1.1; have := h2.1; omega, fun x hx => ?_⟩
  rcases (namesL_mem l m x).1 hx with ⟨s, hs, rfl⟩ | ⟨s, hs, rfl⟩
  · exact (h1.2 s hs).2.2
  · exact (h2.2 s hs).2.2
theorem ways_ok {l m : List Shr} (h1 : Small l) (h2 : Small m) : WOk (waysL l m) := by
  obtain ⟨n1, n2⟩ := names_size h1 h2
  refine ⟨by unfold waysL; rw [List.length_map]; omega, fun x hx => ?_⟩
  obtain ⟨n, hn, rfl⟩ := List.mem_map.1 hx
  have a1 := wtL_bd h1 n
  have a2 := wtL_bd h2 n
  have := n2 n hn
  dsimp only
  omega
theorem ways_pos {l m : List Shr} (h : 0 < l.length) : 0 < (waysL l m).length := by
  unfold waysL
  rw [List.length_map]
  cases l with
  | nil => simp at h
  | cons x l =>
    have : x.rev ∈ namesL (x :: l) m := (namesL_mem _ _ _).2 (.inl ⟨x, by simp, rfl⟩)
    exact List.length_pos_of_mem this
theorem grown_ok {l : List Wy} {t n : Int} (h : ∀ x, x ∈ l → 0 ≤ x.w ∧ x.w ≤ 1000 ∧ -1000 ≤ x.c ∧ x.c ≤ 1000 ∧ x.rev.size ≤ 100000) (hl : l.length ≤ 4000) (h0 : 0 < t) (h1 : t < n) : WOk (l.map (grow1 t n)) := by
  refine ⟨by rw [List.length_map]; exact hl, fun x hx => ?_⟩
  obtain ⟨y, hy, rfl⟩ := List.mem_map.1 hx
  have := h y hy
  have := by_le (c := y.c) h0 h1
  unfold grow1
  dsimp only
  omega
theorem lose_revs {l : List Wy} {g : Int} (h : ∀ x, x ∈ l → x.rev.size ≤ 100000) : ∀ x, x ∈ loseL l g → x.rev.size ≤ 100000 := by
  induction l generalizing g with
  | nil => intro x hx; cases hx
  | cons y l ih =>
    intro x hx
    rw [loseL] at hx
    rcases List.mem_cons.1 hx with rfl | hx
    · exact h y (by simp)
    · exact ih (fun z hz => h z (by simp [hz])) x hx
set_option maxHeartbeats 8000000 in
theorem roll_any (a : Option Addr) (l : List Shr) (c : Nat) (b : Option Addr) (m : List Shr) (d : Nat) (t n : Int) (w : World) (s1 : Small l) (s2 : Small m) (p1 : 0 < l.length) (r1 : Asc (l.map (·.rev))) (r2 : Asc (m.map (·.rev))) (ht : -1099511627776 ≤ t ∧ t ≤ 1099511627776) (hn : -1099511627776 ≤ n ∧ n ≤ 1099511627776) (h1 : ShSl w a l) (h2 : ShSl w b m) :
    Calls Try.prog 47 #[.slice a l.length c, .slice b m.length d, .int .i64 t, .int .i64 n] w fun e w' => ∃ v, e = .returned v ∧ w'.ownsRow w.heap.size 53 2 v (rollL l m t n).length ((rollL l m t n).flatMap Shr.cells) ∧ Grow.G w w' := by
  by_cases g1 : n ≤ 0 ∨ t ≥ n
  · have RES : Hid (rollL l m t n = m) := Lib.hid (by unfold rollL; rw [if_pos g1])
    have EA := Lib.hid (eachS_any b m d w s2 h2)
    have hm := s2.1
    clear s1 s2 r1 r2 h1 h2
    go_enter Try.func47, Try.ntmps47
    by_cases g2 : n ≤ 0
    · have d0 : decide (n ≤ 0) = true := decide_eq_true g2
      clear g1 g2
      go_wp2_with fail
      refine EA.out.mono ?_
      rintro e w2 ⟨b2, rfl, hb2, B2, hg2⟩
      rw [List.map_id] at B2
      have O2 := Lib.hid (own_of_blk (sz := 2) (n := m.length) B2 hb2 (flat_len (cells := Shr.cells) (n := 2) (fun x => rfl) m) (by unfold maxLen; omega))
      have G2 := Lib.hid hg2
      clear B2 hg2
      go_wp2_with fail
      go_ret
      exact ⟨_, rfl, by rw [RES.out]; exact O2.out, G2.out⟩
    · have d0 : decide (n ≤ 0) = false := decide_eq_false g2
      have d1 : decide (t ≥ n) = true := decide_eq_true (by omega)
      clear g1 g2
      go_wp2_with fail
      refine EA.out.mono ?_
      rintro e w2 ⟨b2, rfl, hb2, B2, hg2⟩
      rw [List.map_id] at B2
      have O2 := Lib.hid (own_of_blk (sz := 2) (n := m.length) B2 hb2 (flat_len (cells := Shr.cells) (n := 2) (fun x => rfl) m) (by unfold maxLen; omega))
      have G2 := Lib.hid hg2
      clear B2 hg2
      go_wp2_with fail
      go_ret
      exact ⟨_, rfl, by rw [RES.out]; exact O2.out, G2.out⟩
  · have d0 : decide (n ≤ 0) = false := decide_eq_false (by omega)
    have d1 : decide (t ≥ n) = false := decide_eq_false (by omega)
    by_cases g2 : t ≤ 0
    · have RES : Hid (rollL l m t n = l) := Lib.hid (by unfold rollL; rw [if_neg g1, if_pos g2])
      have EA := Lib.hid (eachS_any a l c w s1 h1)
      have hm := s1.1
      have d2 : decide (t ≤ 0) = true := decide_eq_true g2
      clear s1 s2 r1 r2 h1 h2 g1 g2
      go_enter Try.func47, Try.ntmps47
      go_wp2_with fail
      refine EA.out.mono ?_
      rintro e w2 ⟨b2, rfl, hb2, B2, hg2⟩
      rw [List.map_id] at B2
      have O2 := Lib.hid (own_of_blk (sz := 2) (n := l.length) B2 hb2 (flat_len (cells := Shr.cells) (n := 2) (fun x => rfl) l) (by unfold maxLen; omega))
      have G2 := Lib.hid hg2
      clear B2 hg2
      go_wp2_with fail
      go_ret
      exact ⟨_, rfl, by rw [RES.out]; exact O2.out, G2.out⟩
    · have d2 : decide (t ≤ 0) = false := decide_eq_false g2
      have RES := Lib.hid (roll_eq r1 r2 g1 g2)
      have WA := ways_any a l c b m d w s1 s2 h1 h2
      rw [ways_eq r1 r2] at WA
      have WA := Lib.hid WA
      have OK := ways_ok s1 s2
      have PO := ways_pos (m := m) p1
      have h0 : 0 < t := by omega
      have h3 : t < n := by omega
      have OK2 : WOk ((waysL l m).map (grow1 t n)) := grown_ok (fun x hx => by
        obtain ⟨y, hy, rfl⟩ := List.mem_map.1 hx
        have a1 := wtL_bd s1 y
        have a2 := wtL_bd s2 y
        have := (names_size s1 s2).2 y hy
        dsimp only; omega) OK.1 h0 h3
      have GB := growS_le h0 h3 (l := waysL l m) (fun x hx => (OK.2 x hx).2.2.2.1)
      have hlen := OK.1
      clear s1 s2 r1 r2 h1 h2 g1 g2
      have LG : ((waysL l m).map (grow1 t n)).length = (waysL l m).length := List.length_map _
      have LL := loseL_len ((waysL l m).map (grow1 t n)) (growS t n (waysL l m))
      have LR := lose_revs (l := (waysL l m).map (grow1 t n)) (g := growS t n (waysL l m)) (fun x hx => (OK2.2 x hx).2.2.2.2)
      have GA := Lib.hid (fun (g c : Nat) (base : Nat) (w : World) (h : w.ownsRow base 106 3 (.slice (some ⟨g, 0, none⟩) (waysL l m).length c) (waysL l m).length ((waysL l m).flatMap Wy.cells)) => grow_any g (waysL l m) c t n base w OK h0 h3 (by omega) h)
      have LA := Lib.hid (fun (g c : Nat) (base : Nat) (w : World) (h : w.ownsRow base 106 3 (.slice (some ⟨g, 0, none⟩) (waysL l m).length c) (waysL l m).length (((waysL l m).map (grow1 t n)).flatMap Wy.cells)) => lose_any g ((waysL l m).map (grow1 t n)) c (growS t n (waysL l m)) base w OK2 GB.1 (by omega) (by rw [LG]; exact h))
      rw [LG] at LL LA
      generalize loseL ((waysL l m).map (grow1 t n)) (growS t n (waysL l m)) = L2 at *
      generalize (waysL l m).map (grow1 t n) = L1 at *
      generalize growS t n (waysL l m) = gs at *
      generalize hN : (waysL l m).length = N at *
      generalize waysL l m = L0 at *
      have HL := Lib.hid LL
      have HR := Lib.hid LR
      clear hN LG LL LR OK OK2 h0 h3
      go_enter Try.func47, Try.ntmps47
      go_wp2_with fail
      refine WA.out.mono ?_
      rintro e w2 ⟨v2, rfl, O2, hg2⟩
      obtain ⟨g, c2, rfl, hgb⟩ := own_some O2 (by omega)
      have G2 := Lib.hid hg2
      have GA := Lib.hid (GA.out g c2 _ w2 O2)
      clear hg2 O2
      go_wp2_with fail
      refine GA.out.mono ?_
      rintro e w3 ⟨rfl, O3, C3⟩
      have LA := Lib.hid (LA.out g c2 _ w3 O3)
      have C3 := Lib.hid C3
      clear O3
      go_wp2_with fail
      refine LA.out.mono ?_
      rintro e w4 ⟨rfl, O4, C4⟩
      have G4 := Lib.hid ((Chg.trans (Chg.trans (Chg.grow (G := fun k => k = g) G2.out) C3.out) C4).toGrow (fun k hk q => by have q : k = g := q; omega))
      have WS := SlOf.own (cells := Wy.cells) (n := 3) (l := L2) (base := w.heap.size) (e := 106) (c := c2) (fun x => rfl) (by rw [HL.out]; exact O4)
      have WE := weighty_any _ L2 c2 w4 (by rw [HL.out]; omega) HR.out WS
      rw [HL.out] at WE
      have WE := Lib.hid WE
      have hs4 := G4.out.size
      clear O4 C4 C3 WS LA GA
      go_wp2_with fail
      refine WE.out.mono ?_
      rintro e w5 ⟨v5, rfl, O5, hg5⟩
      have O5 := Lib.hid (own_base O5 hs4)
      have G5 := Lib.hid (G4.out.trans hg5)
      clear hg5 WE
      go_wp2_with fail
      go_ret
      exact ⟨_, rfl, by rw [← RES.out]; exact O5.out, G5.out⟩

theorem insN_pre (x : ByteArray) : ∀ (p r : List ByteArray), (∀ y, y ∈ p → ltS y x = true) → insN (p ++ r) x = p ++ insN r x
  | [], r, _ => rfl
  | y :: p, r, h => by rw [List.cons_append, insN, if_pos (h y (by simp)), insN_pre x p r (fun z hz => h z (by simp [hz]))]; rfl
theorem infoStr9 : (Try.prog.info? 9).map (fun i => (i.zero, i.size, i.bytes)) = some (some (.string ⟨#[]⟩), 1, 16) := by kernel_rfl
set_option maxHeartbeats 8000000 in
theorem rput_any (v : Value) (N : List ByteArray) (x : ByteArray) (base : Nat) (w : World) (hN : N.length ≤ 10000) (hb : base ≤ w.heap.size) (h : w.ownsRow base 9 1 v N.length (N.map Value.string)) :
    Calls Try.prog 49 #[v, .string x] w fun e w' => ∃ v', e = .returned v' ∧ w'.ownsRow base 9 1 v' (insN N x).length ((insN N x).map Value.string) ∧ Grow.G w w' := by
  obtain ⟨sa, c, rfl⟩ := own_shape h
  have H := Lib.hid h
  have hroom : (sa = none ∧ c = 0 ∧ N = []) ∨ ∃ g, sa = some ⟨g, 0, none⟩ ∧ N.length ≤ c ∧ ∀ k s, N[k]? = some s → w.cell? ⟨g, k, none⟩ = some (.string s) := by
    rcases h.2 with ⟨h1, h2⟩ | ⟨g, cap, cur, hv, hb, hg, hn, hm, hs, ht⟩
    · injection h1 with e1 e2 e3
      exact .inl ⟨e1, e3, List.eq_nil_of_length_eq_zero h2⟩
    · injection hv with e1 e2 e3
      subst e1 e3
      exact .inr ⟨g, rfl, hn, fun k s hk => own_cell h (by rw [List.getElem?_map, hk]; rfl)⟩
  have HR := Lib.hid hroom
  clear h hroom
  obtain ⟨i0, hi, ha0, ha1, ha2⟩ := info_parts infoStr9
  go_enter Try.func49, Try.ntmps49
  go_wp2_with fail
  go_loopw [5] (fun i wr => ∃ k : Nat, k ≤ N.length ∧ i = .int .i64 k ∧ wr = w ∧ Hid (∀ y, y ∈ N.take k → ltS y x = true)) (fun i _ => N.length - (intOf i).toNat)
  case atStart => exact ⟨0, by omega, rfl, rfl, Lib.hid (fun y hy => by simp at hy)⟩
  case round =>
    obtain ⟨k, hk, rfl, rfl, HP⟩ := hrel
    by_cases hlt : k < N.length
    · obtain ⟨s, hs⟩ : ∃ s, N[k]? = some s := ⟨_, List.getElem?_eq_getElem hlt⟩
      obtain ⟨g, rfl, hc, hcl⟩ := HR.out.resolve_left (fun e => by rw [e.2.2] at hlt; simp at hlt)
      have c0 := hcl k s hs
      have e1 := List.drop_eq_getElem_cons hlt
      have e2 : N[k] = s := (List.getElem?_eq_some_iff.1 hs).2
      rw [e2] at e1
      have INS := Lib.hid (insN_pre x (N.take k) (N.drop k) HP.out)
      have d0 : decide ((k : Int) < (N.length : Int)) = true := decide_eq_true (by omega)
      have hk1 : IntKind.i64.wrap ((k : Int) + 1) = (k : Int) + 1 := IntWalk.i64_in _ ⟨by omega, by omega⟩
      have k1 : (0 : Int) ≤ (k : Int) := by omega
      have k2 : (k : Int) < (N.length : Int) := by omega
      have HS := Lib.hid hs
      have HD := Lib.hid e1
      clear hs e1 e2 hcl
      rw [List.take_append_drop, HD.out] at INS
      cases hl : ltS s x with
      | true =>
        have HL : Hid (∀ y, y ∈ N.take (k + 1) → ltS y x = true) := Lib.hid (fun y hy => by
          rw [List.take_add_one, HS.out] at hy
          rcases List.mem_append.1 hy with q | q
          · exact HP.out y q
          · have q : y = s := by simpa using q
            rw [q]; exact hl)
        have hl' : Op.bytesLess s.toList x.toList = true := hl
        clear hl INS
        go_wp2_with fail
        go_roundw
        case rel => exact ⟨k + 1, by omega, by go_num, trivial, HL⟩
        case measure => simp [intOf]; omega
      | false =>
        have hl' : Op.bytesLess s.toList x.toList = false := hl
        by_cases e : s = x
        · subst e
          have E : (s.toList == s.toList) = true := eqS_iff.2 rfl
          have RES : Hid (insN N s = N) := Lib.hid (by
            rw [INS.out, insN, if_neg (by rw [hl]; exact Bool.false_ne_true), if_pos rfl, ← HD.out, List.take_append_drop])
          clear hl INS
          go_wp2_with fail
          go_ret
          exact ⟨_, rfl, by rw [RES.out]; exact H.out, Grow.G.refl _⟩
        · have E : (s.toList == x.toList) = false := neS_iff.2 e
          have RES : Hid (insN N x = N.take k ++ x :: N.drop k) := Lib.hid (by
            rw [INS.out, insN, if_neg (by rw [hl]; exact Bool.false_ne_true), if_neg e, ← HD.out])
          clear hl INS e
          have hkc : k ≤ c := by omega
          have SD := (own_srcd H.out (k := k) (by omega)).resolve_left (fun e => by cases e.1)
          obtain ⟨g', eg, SB, SA⟩ := SD
          cases eg
          rw [← List.map_drop] at SB
          rw [← List.map_take] at SA
          have SA := Lib.hid SA
          have SB : Hid (Fr.Src wr (if c = k then some ⟨g, 0, none⟩ else some ⟨g, k, none⟩) ((N.drop k).map Value.string)) := Lib.hid (by
            rw [if_neg (by omega)]; exact SB)
          have LA : Hid (((N.take k).map Value.string).length = k) := Lib.hid (by rw [List.length_map, List.length_take]; omega)
          have LB : Hid (((N.drop k).map Value.string).length = N.length - k) := Lib.hid (by rw [List.length_map, List.length_drop])
          have hs1 : (k : Int) ≤ (N.length : Int) := by omega
          have hs2 : (k : Int) ≤ (c : Int) := by omega
          have hs3 : (N.length : Int) ≤ (c : Int) := by omega
          go_wp2_with fail
          have TW := Lib.hid (TwoV.none (T := 9) wr)
          have HI := Lib.hid hi
          have HZ0 := Lib.hid ha0
          have HZ1 := Lib.hid ha1
          have HZ2 := Lib.hid ha2
          clear hi ha0 ha1 ha2
          refine wp_spec (fun a0 A W => ∃ x33 x34 x35 x36 x37 x38 x39 x40 x41 x42 x43 x44 : Value, ∃ (bv : Value), A = (((((((((((((a0.put (some 4) (bv)).put (some 33) x33).put (some 34) x34).put (some 35) x35).put (some 36) x36).put (some 37) x37).put (some 38) x38).put (some 39) x39).put (some 40) x40).put (some 41) x41).put (some 42) x42).put (some 43) x43).put (some 44) x44) ∧ Hid (W.ownsRow wr.heap.size 9 1 bv (((N.take k).map Value.string ++ [Value.string x]) ++ (N.drop k).map Value.string).length (((N.take k).map Value.string ++ [Value.string x]) ++ (N.drop k).map Value.string) ∧ Grow.G wr W)) ?_ ?_
          all_goals simp only [Act.put, L0, L1, L2]
          ·
            refine Evo2.start' (ℓ := none) (S := Chg (fun j => wr.heap.size ≤ j)) (E := Grow.G) (by kernel_rfl) ⟨Chg.pre _, by decide +kernel, (by intro c a d v w h; cases d <;> exact h), by decide +kernel⟩ (fun ok => ?_)
            refine Evo2.va ok 1 _ _ ?_
            refine Evo2.va ok 2 _ _ ?_
            refine Evo2.va ok 3 _ _ ?_
            refine Evo2.va ok 5 _ _ ?_
            refine Evo2.va ok 8 _ _ ?_
            refine Evo2.va ok 9 _ _ ?_
            refine Evo2.va ok 10 _ _ ?_
            refine Evo2.all [0, 6] (by decide +kernel) rfl ?_
            intro wp1 gp1 iq hq
            simp only [List.mem_cons, List.mem_nil_iff, or_false] at hq
            have AP1 := Chg.trans (Chg.refl (fun j => wr.heap.size ≤ j) _) (Chg.grow gp1)
            have TW := Lib.hid (TW.out.grow gp1)
            rcases hq with rfl | rfl
            ·
              refine Evo2.runs (by rfl) (by rfl) (fun K' hK' => ?_)
              go_simp
              (try (simp only [Evo.after_value, Evo.after_skip]))
              refine hK'.out _ _ ?_
              clear hK'
              simp only [Act.put, L0, L1, L2]
              refine ⟨.inr (Chg.alloc (Chg.refl _ _) _), ?_⟩
              generalize hG1 : World.alloc wp1 _ = wg1
              have GG1 : Grow.G wp1 wg1 := hG1 ▸ Grow.G.alloc (Grow.G.refl _) _
              have NC1 := (congrArg (fun W : World => W.heap[wp1.heap.size]?) hG1).symm.trans (MapKept.heap_alloc wp1 _).1
              have NL1 : wp1.heap.size < wg1.heap.size := by rw [← hG1]; simp
              clear hG1
              have TW := Lib.hid (TW.out.newL (xs := []) (n := 0) GG1 NC1 rfl (by decide))
              refine Evo2.all [4, 6] (by decide +kernel) rfl ?_
              intro wp2 gp2 iq hq
              simp only [List.mem_cons, List.mem_nil_iff, or_false] at hq
              have AP2 := Chg.trans (Chg.trans AP1 (Chg.grow GG1)) (Chg.grow gp2)
              have TW := Lib.hid (TW.out.grow gp2)
              have NC1 := (gp2.block _ NL1).trans NC1
              have NL1 := Nat.lt_of_lt_of_le NL1 gp2.size
              rcases hq with rfl | rfl
              ·
                refine Fr.own_src (by rfl) (by rfl) (Operand.tmp 33) (Operand.tmp 36) 30 (by rfl) wr.heap.size 9 i0 (.string ⟨#[]⟩) 1 16 Try.underlying30 HI.out HZ0.out HZ1.out HZ2.out rfl (by decide) _ _ _ (by rfl) TW.out.l _ _ _ ((N.take k).map Value.string) (by rfl) (by rw [Nat.mul_one]; exact LA.out) (SA.out.grow (AP2.toGrow (fun j hj q => by have q : wr.heap.size ≤ j := q; omega))) ?_ ?_ ?_ TW.out.b ?_ 
                · intro u hu; first | (obtain ⟨z, _, rfl⟩ := List.mem_map.1 hu; rfl) | (rw [List.mem_singleton] at hu; subst hu; rfl) 
                · (unfold maxLen; first | (simp; done) | (simp; omega)) 
                · (first | (simp; done) | (simp; omega))
                intro vw2 wc2 OW2 fr2
                have OX2 := own_app2 (zs := (N.take k).map Value.string) rfl (LA.out) OW2; have CH2 := TW.out.chgL fr2; have TW := Lib.hid (TW.out.left fr2 OX2)
                refine ⟨.inr CH2, ?_⟩
                have AC2 := Chg.trans AP2 CH2
                simp only [Act.put, L0, L1, L2]
                refine Evo2.all [6] (by decide +kernel) rfl ?_
                intro wp3 gp3 iq hq
                simp only [List.mem_cons, List.mem_nil_iff, or_false] at hq
                have AP3 := Chg.trans AC2 (Chg.grow gp3)
                have TW := Lib.hid (TW.out.grow gp3)
                subst hq
                refine Evo2.runs (by rfl) (by rfl) (fun K' hK' => ?_)
                go_simp
                (try (simp only [Evo.after_value, Evo.after_skip]))
                refine hK'.out _ _ ?_
                clear hK'
                simp only [Act.put, L0, L1, L2]
                refine ⟨.inr (Chg.alloc (Chg.refl _ _) _), ?_⟩
                generalize hG3 : World.alloc wp3 _ = wg3
                have GG3 : Grow.G wp3 wg3 := hG3 ▸ Grow.G.alloc (Grow.G.refl _) _
                have NC3 := (congrArg (fun W : World => W.heap[wp3.heap.size]?) hG3).symm.trans (MapKept.heap_alloc wp3 _).1
                have NL3 : wp3.heap.size < wg3.heap.size := by rw [← hG3]; simp
                clear hG3
                have TW := Lib.hid (TW.out.newR (ys := [.string x]) (n := 1) GG3 NC3 rfl (by decide))
                refine Evo2.all [7] (by decide +kernel) rfl ?_
                intro wp4 gp4 iq hq
                simp only [List.mem_cons, List.mem_nil_iff, or_false] at hq
                have AP4 := Chg.trans (Chg.trans AP3 (Chg.grow GG3)) (Chg.grow gp4)
                have TW := Lib.hid (TW.out.grow gp4)
                have NC3 := (gp4.block _ NL3).trans NC3
                have NL3 := Nat.lt_of_lt_of_le NL3 gp4.size
                subst hq
                refine Fr.own_src (by rfl) (by rfl) (Operand.tmp 37) (Operand.tmp 39) 30 (by rfl) wr.heap.size 9 i0 (.string ⟨#[]⟩) 1 16 Try.underlying30 HI.out HZ0.out HZ1.out HZ2.out rfl (by decide) _ _ _ (by rfl) TW.out.l _ _ _ ([Value.string x]) (by rfl) (rfl) (own_src0 TW.out.r) ?_ ?_ ?_ TW.out.b ?_ 
                · intro u hu; first | (obtain ⟨z, _, rfl⟩ := List.mem_map.1 hu; rfl) | (rw [List.mem_singleton] at hu; subst hu; rfl) 
                · (unfold maxLen; first | (simp; done) | (simp; omega)) 
                · (first | (simp; done) | (simp; omega))
                intro vw4 wc4 OW4 fr4
                have OX4 := own_app2 (zs := (N.take k).map Value.string ++ [Value.string x]) rfl (rfl) OW4; have CH4 := TW.out.chgL fr4; have TW := Lib.hid (TW.out.left fr4 OX4)
                refine ⟨.inr CH4, ?_⟩
                have AC4 := Chg.trans AP4 CH4
                simp only [Act.put, L0, L1, L2]
                refine Evo2.all [11] (by decide +kernel) rfl ?_
                intro wp5 gp5 iq hq
                simp only [List.mem_cons, List.mem_nil_iff, or_false] at hq
                have AP5 := Chg.trans AC4 (Chg.grow gp5)
                have TW := Lib.hid (TW.out.grow gp5)
                subst hq
                refine Fr.own_src (by rfl) (by rfl) (Operand.tmp 40) (Operand.tmp 43) 30 (by rfl) wr.heap.size 9 i0 (.string ⟨#[]⟩) 1 16 Try.underlying30 HI.out HZ0.out HZ1.out HZ2.out rfl (by decide) _ _ _ (by rfl) TW.out.l _ _ _ ((N.drop k).map Value.string) (by rfl) (by rw [Nat.mul_one]; exact LB.out) (SB.out.grow (AP5.toGrow (fun j hj q => by have q : wr.heap.size ≤ j := q; omega))) ?_ ?_ ?_ TW.out.b ?_ 
                · intro u hu; first | (obtain ⟨z, _, rfl⟩ := List.mem_map.1 hu; rfl) | (rw [List.mem_singleton] at hu; subst hu; rfl) 
                · (unfold maxLen; first | (simp; done) | (simp; omega)) 
                · (first | (simp; done) | (simp; omega))
                intro vw5 wc5 OW5 fr5
                have OX5 := own_app2 (zs := ((N.take k).map Value.string ++ [Value.string x]) ++ (N.drop k).map Value.string) rfl (LB.out) OW5; have CH5 := TW.out.chgL fr5; have TW := Lib.hid (TW.out.left fr5 OX5)
                refine ⟨.inr CH5, ?_⟩
                have AC5 := Chg.trans AP5 CH5
                simp only [Act.put, L0, L1, L2]
                refine Evo2.va ok 12 _ _ ?_
                refine Evo2.done (by decide +kernel) (fun wz gz => ?_)
                have AZ := Chg.trans AC5 (Chg.grow gz)
                have TW := Lib.hid (TW.out.grow gz)
                dsimp only [PostN] 
                (repeat apply Exists.intro) 
                exact ⟨rfl, Lib.hid ⟨TW.out.l, AZ.toGrow (fun j hj q => by have q : wr.heap.size ≤ j := q; omega)⟩⟩
              ·
                refine Evo2.runs (by rfl) (by rfl) (fun K' hK' => ?_)
                go_simp
                (try (simp only [Evo.after_value, Evo.after_skip]))
                refine hK'.out _ _ ?_
                clear hK'
                simp only [Act.put, L0, L1, L2]
                refine ⟨.inr (Chg.alloc (Chg.refl _ _) _), ?_⟩
                generalize hG2 : World.alloc wp2 _ = wg2
                have GG2 : Grow.G wp2 wg2 := hG2 ▸ Grow.G.alloc (Grow.G.refl _) _
                have NC1 := (GG2.block _ NL1).trans NC1
                have NL1 := Nat.lt_of_lt_of_le NL1 GG2.size
                have NC2 := (congrArg (fun W : World => W.heap[wp2.heap.size]?) hG2).symm.trans (MapKept.heap_alloc wp2 _).1
                have NL2 : wp2.heap.size < wg2.heap.size := by rw [← hG2]; simp
                clear hG2
                have TW := Lib.hid (TW.out.newR (ys := [.string x]) (n := 1) GG2 NC2 rfl (by decide))
                refine Evo2.all [4] (by decide +kernel) rfl ?_
                intro wp3 gp3 iq hq
                simp only [List.mem_cons, List.mem_nil_iff, or_false] at hq
                have AP3 := Chg.trans (Chg.trans AP2 (Chg.grow GG2)) (Chg.grow gp3)
                have TW := Lib.hid (TW.out.grow gp3)
                have NC1 := (gp3.block _ NL1).trans NC1
                have NL1 := Nat.lt_of_lt_of_le NL1 gp3.size
                have NC2 := (gp3.block _ NL2).trans NC2
                have NL2 := Nat.lt_of_lt_of_le NL2 gp3.size
                subst hq
                refine Fr.own_src (by rfl) (by rfl) (Operand.tmp 33) (Operand.tmp 36) 30 (by rfl) wr.heap.size 9 i0 (.string ⟨#[]⟩) 1 16 Try.underlying30 HI.out HZ0.out HZ1.out HZ2.out rfl (by decide) _ _ _ (by rfl) TW.out.l _ _ _ ((N.take k).map Value.string) (by rfl) (by rw [Nat.mul_one]; exact LA.out) (SA.out.grow (AP3.toGrow (fun j hj q => by have q : wr.heap.size ≤ j := q; omega))) ?_ ?_ ?_ TW.out.b ?_ 
                · intro u hu; first | (obtain ⟨z, _, rfl⟩ := List.mem_map.1 hu; rfl) | (rw [List.mem_singleton] at hu; subst hu; rfl) 
                · (unfold maxLen; first | (simp; done) | (simp; omega)) 
                · (first | (simp; done) | (simp; omega))
                intro vw3 wc3 OW3 fr3
                have OX3 := own_app2 (zs := (N.take k).map Value.string) rfl (LA.out) OW3; have CH3 := TW.out.chgL fr3; have TW := Lib.hid (TW.out.left fr3 OX3)
                refine ⟨.inr CH3, ?_⟩
                have AC3 := Chg.trans AP3 CH3
                simp only [Act.put, L0, L1, L2]
                refine Evo2.all [7] (by decide +kernel) rfl ?_
                intro wp4 gp4 iq hq
                simp only [List.mem_cons, List.mem_nil_iff, or_false] at hq
                have AP4 := Chg.trans AC3 (Chg.grow gp4)
                have TW := Lib.hid (TW.out.grow gp4)
                subst hq
                refine Fr.own_src (by rfl) (by rfl) (Operand.tmp 37) (Operand.tmp 39) 30 (by rfl) wr.heap.size 9 i0 (.string ⟨#[]⟩) 1 16 Try.underlying30 HI.out HZ0.out HZ1.out HZ2.out rfl (by decide) _ _ _ (by rfl) TW.out.l _ _ _ ([Value.string x]) (by rfl) (rfl) (own_src0 TW.out.r) ?_ ?_ ?_ TW.out.b ?_ 
                · intro u hu; first | (obtain ⟨z, _, rfl⟩ := List.mem_map.1 hu; rfl) | (rw [List.mem_singleton] at hu; subst hu; rfl) 
                · (unfold maxLen; first | (simp; done) | (simp; omega)) 
                · (first | (simp; done) | (simp; omega))
                intro vw4 wc4 OW4 fr4
                have OX4 := own_app2 (zs := (N.take k).map Value.string ++ [Value.string x]) rfl (rfl) OW4; have CH4 := TW.out.chgL fr4; have TW := Lib.hid (TW.out.left fr4 OX4)
                refine ⟨.inr CH4, ?_⟩
                have AC4 := Chg.trans AP4 CH4
                simp only [Act.put, L0, L1, L2]
                refine Evo2.all [11] (by decide +kernel) rfl ?_
                intro wp5 gp5 iq hq
                simp only [List.mem_cons, List.mem_nil_iff, or_false] at hq
                have AP5 := Chg.trans AC4 (Chg.grow gp5)
                have TW := Lib.hid (TW.out.grow gp5)
                subst hq
                refine Fr.own_src (by rfl) (by rfl) (Operand.tmp 40) (Operand.tmp 43) 30 (by rfl) wr.heap.size 9 i0 (.string ⟨#[]⟩) 1 16 Try.underlying30 HI.out HZ0.out HZ1.out HZ2.out rfl (by decide) _ _ _ (by rfl) TW.out.l _ _ _ ((N.drop k).map Value.string) (by rfl) (by rw [Nat.mul_one]; exact LB.out) (SB.out.grow (AP5.toGrow (fun j hj q => by have q : wr.heap.size ≤ j := q; omega))) ?_ ?_ ?_ TW.out.b ?_ 
                · intro u hu; first | (obtain ⟨z, _, rfl⟩ := List.mem_map.1 hu; rfl) | (rw [List.mem_singleton] at hu; subst hu; rfl) 
                · (unfold maxLen; first | (simp; done) | (simp; omega)) 
                · (first | (simp; done) | (simp; omega))
                intro vw5 wc5 OW5 fr5
                have OX5 := own_app2 (zs := ((N.take k).map Value.string ++ [Value.string x]) ++ (N.drop k).map Value.string) rfl (LB.out) OW5; have CH5 := TW.out.chgL fr5; have TW := Lib.hid (TW.out.left fr5 OX5)
                refine ⟨.inr CH5, ?_⟩
                have AC5 := Chg.trans AP5 CH5
                simp only [Act.put, L0, L1, L2]
                refine Evo2.va ok 12 _ _ ?_
                refine Evo2.done (by decide +kernel) (fun wz gz => ?_)
                have AZ := Chg.trans AC5 (Chg.grow gz)
                have TW := Lib.hid (TW.out.grow gz)
                dsimp only [PostN] 
                (repeat apply Exists.intro) 
                exact ⟨rfl, Lib.hid ⟨TW.out.l, AZ.toGrow (fun j hj q => by have q : wr.heap.size ≤ j := q; omega)⟩⟩
            ·
              refine Evo2.runs (by rfl) (by rfl) (fun K' hK' => ?_)
              go_simp
              (try (simp only [Evo.after_value, Evo.after_skip]))
              refine hK'.out _ _ ?_
              clear hK'
              simp only [Act.put, L0, L1, L2]
              refine ⟨.inr (Chg.alloc (Chg.refl _ _) _), ?_⟩
              generalize hG1 : World.alloc wp1 _ = wg1
              have GG1 : Grow.G wp1 wg1 := hG1 ▸ Grow.G.alloc (Grow.G.refl _) _
              have NC1 := (congrArg (fun W : World => W.heap[wp1.heap.size]?) hG1).symm.trans (MapKept.heap_alloc wp1 _).1
              have NL1 : wp1.heap.size < wg1.heap.size := by rw [← hG1]; simp
              clear hG1
              have TW := Lib.hid (TW.out.newR (ys := [.string x]) (n := 1) GG1 NC1 rfl (by decide))
              refine Evo2.all [0] (by decide +kernel) rfl ?_
              intro wp2 gp2 iq hq
              simp only [List.mem_cons, List.mem_nil_iff, or_false] at hq
              have AP2 := Chg.trans (Chg.trans AP1 (Chg.grow GG1)) (Chg.grow gp2)
              have TW := Lib.hid (TW.out.grow gp2)
              have NC1 := (gp2.block _ NL1).trans NC1
              have NL1 := Nat.lt_of_lt_of_le NL1 gp2.size
              subst hq
              refine Evo2.runs (by rfl) (by rfl) (fun K' hK' => ?_)
              go_simp
              (try (simp only [Evo.after_value, Evo.after_skip]))
              refine hK'.out _ _ ?_
              clear hK'
              simp only [Act.put, L0, L1, L2]
              refine ⟨.inr (Chg.alloc (Chg.refl _ _) _), ?_⟩
              generalize hG2 : World.alloc wp2 _ = wg2
              have GG2 : Grow.G wp2 wg2 := hG2 ▸ Grow.G.alloc (Grow.G.refl _) _
              have NC1 := (GG2.block _ NL1).trans NC1
              have NL1 := Nat.lt_of_lt_of_le NL1 GG2.size
              have NC2 := (congrArg (fun W : World => W.heap[wp2.heap.size]?) hG2).symm.trans (MapKept.heap_alloc wp2 _).1
              have NL2 : wp2.heap.size < wg2.heap.size := by rw [← hG2]; simp
              clear hG2
              have TW := Lib.hid (TW.out.newL (xs := []) (n := 0) GG2 NC2 rfl (by decide))
              refine Evo2.all [4] (by decide +kernel) rfl ?_
              intro wp3 gp3 iq hq
              simp only [List.mem_cons, List.mem_nil_iff, or_false] at hq
              have AP3 := Chg.trans (Chg.trans AP2 (Chg.grow GG2)) (Chg.grow gp3)
              have TW := Lib.hid (TW.out.grow gp3)
              have NC1 := (gp3.block _ NL1).trans NC1
              have NL1 := Nat.lt_of_lt_of_le NL1 gp3.size
              have NC2 := (gp3.block _ NL2).trans NC2
              have NL2 := Nat.lt_of_lt_of_le NL2 gp3.size
              subst hq
              refine Fr.own_src (by rfl) (by rfl) (Operand.tmp 33) (Operand.tmp 36) 30 (by rfl) wr.heap.size 9 i0 (.string ⟨#[]⟩) 1 16 Try.underlying30 HI.out HZ0.out HZ1.out HZ2.out rfl (by decide) _ _ _ (by rfl) TW.out.l _ _ _ ((N.take k).map Value.string) (by rfl) (by rw [Nat.mul_one]; exact LA.out) (SA.out.grow (AP3.toGrow (fun j hj q => by have q : wr.heap.size ≤ j := q; omega))) ?_ ?_ ?_ TW.out.b ?_ 
              · intro u hu; first | (obtain ⟨z, _, rfl⟩ := List.mem_map.1 hu; rfl) | (rw [List.mem_singleton] at hu; subst hu; rfl) 
              · (unfold maxLen; first | (simp; done) | (simp; omega)) 
              · (first | (simp; done) | (simp; omega))
              intro vw3 wc3 OW3 fr3
              have OX3 := own_app2 (zs := (N.take k).map Value.string) rfl (LA.out) OW3; have CH3 := TW.out.chgL fr3; have TW := Lib.hid (TW.out.left fr3 OX3)
              refine ⟨.inr CH3, ?_⟩
              have AC3 := Chg.trans AP3 CH3
              simp only [Act.put, L0, L1, L2]
              refine Evo2.all [7] (by decide +kernel) rfl ?_
              intro wp4 gp4 iq hq
              simp only [List.mem_cons, List.mem_nil_iff, or_false] at hq
              have AP4 := Chg.trans AC3 (Chg.grow gp4)
              have TW := Lib.hid (TW.out.grow gp4)
              subst hq
              refine Fr.own_src (by rfl) (by rfl) (Operand.tmp 37) (Operand.tmp 39) 30 (by rfl) wr.heap.size 9 i0 (.string ⟨#[]⟩) 1 16 Try.underlying30 HI.out HZ0.out HZ1.out HZ2.out rfl (by decide) _ _ _ (by rfl) TW.out.l _ _ _ ([Value.string x]) (by rfl) (rfl) (own_src0 TW.out.r) ?_ ?_ ?_ TW.out.b ?_ 
              · intro u hu; first | (obtain ⟨z, _, rfl⟩ := List.mem_map.1 hu; rfl) | (rw [List.mem_singleton] at hu; subst hu; rfl) 
              · (unfold maxLen; first | (simp; done) | (simp; omega)) 
              · (first | (simp; done) | (simp; omega))
              intro vw4 wc4 OW4 fr4
              have OX4 := own_app2 (zs := (N.take k).map Value.string ++ [Value.string x]) rfl (rfl) OW4; have CH4 := TW.out.chgL fr4; have TW := Lib.hid (TW.out.left fr4 OX4)
              refine ⟨.inr CH4, ?_⟩
              have AC4 := Chg.trans AP4 CH4
              simp only [Act.put, L0, L1, L2]
              refine Evo2.all [11] (by decide +kernel) rfl ?_
              intro wp5 gp5 iq hq
              simp only [List.mem_cons, List.mem_nil_iff, or_false] at hq
              have AP5 := Chg.trans AC4 (Chg.grow gp5)
              have TW := Lib.hid (TW.out.grow gp5)
              subst hq
              refine Fr.own_src (by rfl) (by rfl) (Operand.tmp 40) (Operand.tmp 43) 30 (by rfl) wr.heap.size 9 i0 (.string ⟨#[]⟩) 1 16 Try.underlying30 HI.out HZ0.out HZ1.out HZ2.out rfl (by decide) _ _ _ (by rfl) TW.out.l _ _ _ ((N.drop k).map Value.string) (by rfl) (by rw [Nat.mul_one]; exact LB.out) (SB.out.grow (AP5.toGrow (fun j hj q => by have q : wr.heap.size ≤ j := q; omega))) ?_ ?_ ?_ TW.out.b ?_ 
              · intro u hu; first | (obtain ⟨z, _, rfl⟩ := List.mem_map.1 hu; rfl) | (rw [List.mem_singleton] at hu; subst hu; rfl) 
              · (unfold maxLen; first | (simp; done) | (simp; omega)) 
              · (first | (simp; done) | (simp; omega))
              intro vw5 wc5 OW5 fr5
              have OX5 := own_app2 (zs := ((N.take k).map Value.string ++ [Value.string x]) ++ (N.drop k).map Value.string) rfl (LB.out) OW5; have CH5 := TW.out.chgL fr5; have TW := Lib.hid (TW.out.left fr5 OX5)
              refine ⟨.inr CH5, ?_⟩
              have AC5 := Chg.trans AP5 CH5
              simp only [Act.put, L0, L1, L2]
              refine Evo2.va ok 12 _ _ ?_
              refine Evo2.done (by decide +kernel) (fun wz gz => ?_)
              have AZ := Chg.trans AC5 (Chg.grow gz)
              have TW := Lib.hid (TW.out.grow gz)
              dsimp only [PostN] 
              (repeat apply Exists.intro) 
              exact ⟨rfl, Lib.hid ⟨TW.out.l, AZ.toGrow (fun j hj q => by have q : wr.heap.size ≤ j := q; omega)⟩⟩
          ·
            rintro A V6 ⟨x33, x34, x35, x36, x37, x38, x39, x40, x41, x42, x43, x44, bv, rfl, SV⟩
            go_wp2_with fail
            go_ret
            refine ⟨_, rfl, ?_, SV.out.2⟩
            have hz := own_base SV.out.1 hb
            rw [RES.out]
            simpa using hz
    · obtain rfl : k = N.length := by omega
      have d0 : decide ((N.length : Int) < (N.length : Int)) = false := decide_eq_false (by omega)
      have RES : Hid (insN N x = N.take N.length ++ x :: N.drop N.length) := Lib.hid (by
        have h := insN_pre x (N.take N.length) (N.drop N.length) HP.out
        rw [List.take_append_drop] at h
        rw [h, List.drop_length]; rfl)
      rcases HR.out with ⟨rfl, rfl, rfl⟩ | ⟨g, rfl, hc, hcl⟩
      · have SA : Hid (Fr.Src wr none ((([] : List ByteArray).take 0).map Value.string)) := Lib.hid (.inl ⟨rfl, rfl⟩)
        have SB : Hid (Fr.Src wr none ((([] : List ByteArray).drop 0).map Value.string)) := Lib.hid (.inl ⟨rfl, rfl⟩)
        have LA : Hid (((([] : List ByteArray).take 0).map Value.string).length = 0) := Lib.hid rfl
        have LB : Hid (((([] : List ByteArray).drop 0).map Value.string).length = 0) := Lib.hid rfl
        simp only [List.length_nil] at d0 ⊢
        go_wp2_with fail
        have TW := Lib.hid (TwoV.none (T := 9) wr)
        have HI := Lib.hid hi
        have HZ0 := Lib.hid ha0
        have HZ1 := Lib.hid ha1
        have HZ2 := Lib.hid ha2
        clear hi ha0 ha1 ha2
        refine wp_spec (fun a0 A W => ∃ x33 x34 x35 x36 x37 x38 x39 x40 x41 x42 x43 x44 : Value, ∃ (bv : Value), A = (((((((((((((a0.put (some 4) (bv)).put (some 33) x33).put (some 34) x34).put (some 35) x35).put (some 36) x36).put (some 37) x37).put (some 38) x38).put (some 39) x39).put (some 40) x40).put (some 41) x41).put (some 42) x42).put (some 43) x43).put (some 44) x44) ∧ Hid (W.ownsRow wr.heap.size 9 1 bv (((([] : List ByteArray).take 0).map Value.string ++ [Value.string x]) ++ (([] : List ByteArray).drop 0).map Value.string).length (((([] : List ByteArray).take 0).map Value.string ++ [Value.string x]) ++ (([] : List ByteArray).drop 0).map Value.string) ∧ Grow.G wr W)) ?_ ?_
        all_goals simp only [Act.put, L0, L1, L2]
        ·
          refine Evo2.start' (ℓ := none) (S := Chg (fun j => wr.heap.size ≤ j)) (E := Grow.G) (by kernel_rfl) ⟨Chg.pre _, by decide +kernel, (by intro c a d v w h; cases d <;> exact h), by decide +kernel⟩ (fun ok => ?_)
          refine Evo2.va ok 1 _ _ ?_
          refine Evo2.va ok 2 _ _ ?_
          refine Evo2.va ok 3 _ _ ?_
          refine Evo2.va ok 5 _ _ ?_
          refine Evo2.va ok 8 _ _ ?_
          refine Evo2.va ok 9 _ _ ?_
          refine Evo2.va ok 10 _ _ ?_
          refine Evo2.all [0, 6] (by decide +kernel) rfl ?_
          intro wp1 gp1 iq hq
          simp only [List.mem_cons, List.mem_nil_iff, or_false] at hq
          have AP1 := Chg.trans (Chg.refl (fun j => wr.heap.size ≤ j) _) (Chg.grow gp1)
          have TW := Lib.hid (TW.out.grow gp1)
          rcases hq with rfl | rfl
          ·
            refine Evo2.runs (by rfl) (by rfl) (fun K' hK' => ?_)
            go_simp
            (try (simp only [Evo.after_value, Evo.after_skip]))
            refine hK'.out _ _ ?_
            clear hK'
            simp only [Act.put, L0, L1, L2]
            refine ⟨.inr (Chg.alloc (Chg.refl _ _) _), ?_⟩
            generalize hG1 : World.alloc wp1 _ = wg1
            have GG1 : Grow.G wp1 wg1 := hG1 ▸ Grow.G.alloc (Grow.G.refl _) _
            have NC1 := (congrArg (fun W : World => W.heap[wp1.heap.size]?) hG1).symm.trans (MapKept.heap_alloc wp1 _).1
            have NL1 : wp1.heap.size < wg1.heap.size := by rw [← hG1]; simp
            clear hG1
            have TW := Lib.hid (TW.out.newL (xs := []) (n := 0) GG1 NC1 rfl (by decide))
            refine Evo2.all [4, 6] (by decide +kernel) rfl ?_
            intro wp2 gp2 iq hq
            simp only [List.mem_cons, List.mem_nil_iff, or_false] at hq
            have AP2 := Chg.trans (Chg.trans AP1 (Chg.grow GG1)) (Chg.grow gp2)
            have TW := Lib.hid (TW.out.grow gp2)
            have NC1 := (gp2.block _ NL1).trans NC1
            have NL1 := Nat.lt_of_lt_of_le NL1 gp2.size
            rcases hq with rfl | rfl
            ·
              refine Fr.own_src (by rfl) (by rfl) (Operand.tmp 33) (Operand.tmp 36) 30 (by rfl) wr.heap.size 9 i0 (.string ⟨#[]⟩) 1 16 Try.underlying30 HI.out HZ0.out HZ1.out HZ2.out rfl (by decide) _ _ _ (by rfl) TW.out.l _ _ _ ((([] : List ByteArray).take 0).map Value.string) (by rfl) (by rw [Nat.mul_one]; exact LA.out) (SA.out.grow (AP2.toGrow (fun j hj q => by have q : wr.heap.size ≤ j := q; omega))) ?_ ?_ ?_ TW.out.b ?_ 
              · intro u hu; first | (obtain ⟨z, _, rfl⟩ := List.mem_map.1 hu; rfl) | (rw [List.mem_singleton] at hu; subst hu; rfl) 
              · (unfold maxLen; first | (simp; done) | (simp; omega)) 
              · (first | (simp; done) | (simp; omega))
              intro vw2 wc2 OW2 fr2
              have OX2 := own_app2 (zs := (([] : List ByteArray).take 0).map Value.string) rfl (LA.out) OW2; have CH2 := TW.out.chgL fr2; have TW := Lib.hid (TW.out.left fr2 OX2)
              refine ⟨.inr CH2, ?_⟩
              have AC2 := Chg.trans AP2 CH2
              simp only [Act.put, L0, L1, L2]
              refine Evo2.all [6] (by decide +kernel) rfl ?_
              intro wp3 gp3 iq hq
              simp only [List.mem_cons, List.mem_nil_iff, or_false] at hq
              have AP3 := Chg.trans AC2 (Chg.grow gp3)
              have TW := Lib.hid (TW.out.grow gp3)
              subst hq
              refine Evo2.runs (by rfl) (by rfl) (fun K' hK' => ?_)
              go_simp
              (try (simp only [Evo.after_value, Evo.after_skip]))
              refine hK'.out _ _ ?_
              clear hK'
              simp only [Act.put, L0, L1, L2]
              refine ⟨.inr (Chg.alloc (Chg.refl _ _) _), ?_⟩
              generalize hG3 : World.alloc wp3 _ = wg3
              have GG3 : Grow.G wp3 wg3 := hG3 ▸ Grow.G.alloc (Grow.G.refl _) _
              have NC3 := (congrArg (fun W : World => W.heap[wp3.heap.size]?) hG3).symm.trans (MapKept.heap_alloc wp3 _).1
              have NL3 : wp3.heap.size < wg3.heap.size := by rw [← hG3]; simp
              clear hG3
              have TW := Lib.hid (TW.out.newR (ys := [.string x]) (n := 1) GG3 NC3 rfl (by decide))
              refine Evo2.all [7] (by decide +kernel) rfl ?_
              intro wp4 gp4 iq hq
              simp only [List.mem_cons, List.mem_nil_iff, or_false] at hq
              have AP4 := Chg.trans (Chg.trans AP3 (Chg.grow GG3)) (Chg.grow gp4)
              have TW := Lib.hid (TW.out.grow gp4)
              have NC3 := (gp4.block _ NL3).trans NC3
              have NL3 := Nat.lt_of_lt_of_le NL3 gp4.size
              subst hq
              refine Fr.own_src (by rfl) (by rfl) (Operand.tmp 37) (Operand.tmp 39) 30 (by rfl) wr.heap.size 9 i0 (.string ⟨#[]⟩) 1 16 Try.underlying30 HI.out HZ0.out HZ1.out HZ2.out rfl (by decide) _ _ _ (by rfl) TW.out.l _ _ _ ([Value.string x]) (by rfl) (rfl) (own_src0 TW.out.r) ?_ ?_ ?_ TW.out.b ?_ 
              · intro u hu; first | (obtain ⟨z, _, rfl⟩ := List.mem_map.1 hu; rfl) | (rw [List.mem_singleton] at hu; subst hu; rfl) 
              · (unfold maxLen; first | (simp; done) | (simp; omega)) 
              · (first | (simp; done) | (simp; omega))
              intro vw4 wc4 OW4 fr4
              have OX4 := own_app2 (zs := (([] : List ByteArray).take 0).map Value.string ++ [Value.string x]) rfl (rfl) OW4; have CH4 := TW.out.chgL fr4; have TW := Lib.hid (TW.out.left fr4 OX4)
              refine ⟨.inr CH4, ?_⟩
              have AC4 := Chg.trans AP4 CH4
              simp only [Act.put, L0, L1, L2]
              refine Evo2.all [11] (by decide +kernel) rfl ?_
              intro wp5 gp5 iq hq
              simp only [List.mem_cons, List.mem_nil_iff, or_false] at hq
              have AP5 := Chg.trans AC4 (Chg.grow gp5)
              have TW := Lib.hid (TW.out.grow gp5)
              subst hq
              refine Fr.own_src (by rfl) (by rfl) (Operand.tmp 40) (Operand.tmp 43) 30 (by rfl) wr.heap.size 9 i0 (.string ⟨#[]⟩) 1 16 Try.underlying30 HI.out HZ0.out HZ1.out HZ2.out rfl (by decide) _ _ _ (by rfl) TW.out.l _ _ _ ((([] : List ByteArray).drop 0).map Value.string) (by rfl) (by rw [Nat.mul_one]; exact LB.out) (SB.out.grow (AP5.toGrow (fun j hj q => by have q : wr.heap.size ≤ j := q; omega))) ?_ ?_ ?_ TW.out.b ?_ 
              · intro u hu; first | (obtain ⟨z, _, rfl⟩ := List.mem_map.1 hu; rfl) | (rw [List.mem_singleton] at hu; subst hu; rfl) 
              · (unfold maxLen; first | (simp; done) | (simp; omega)) 
              · (first | (simp; done) | (simp; omega))
              intro vw5 wc5 OW5 fr5
              have OX5 := own_app2 (zs := ((([] : List ByteArray).take 0).map Value.string ++ [Value.string x]) ++ (([] : List ByteArray).drop 0).map Value.string) rfl (LB.out) OW5; have CH5 := TW.out.chgL fr5; have TW := Lib.hid (TW.out.left fr5 OX5)
              refine ⟨.inr CH5, ?_⟩
              have AC5 := Chg.trans AP5 CH5
              simp only [Act.put, L0, L1, L2]
              refine Evo2.va ok 12 _ _ ?_
              refine Evo2.done (by decide +kernel) (fun wz gz => ?_)
              have AZ := Chg.trans AC5 (Chg.grow gz)
              have TW := Lib.hid (TW.out.grow gz)
              dsimp only [PostN] 
              (repeat apply Exists.intro) 
              exact ⟨rfl, Lib.hid ⟨TW.out.l, AZ.toGrow (fun j hj q => by have q : wr.heap.size ≤ j := q; omega)⟩⟩
            ·
              refine Evo2.runs (by rfl) (by rfl) (fun K' hK' => ?_)
              go_simp
              (try (simp only [Evo.after_value, Evo.after_skip]))
              refine hK'.out _ _ ?_
              clear hK'
              simp only [Act.put, L0, L1, L2]
              refine ⟨.inr (Chg.alloc (Chg.refl _ _) _), ?_⟩
              generalize hG2 : World.alloc wp2 _ = wg2
              have GG2 : Grow.G wp2 wg2 := hG2 ▸ Grow.G.alloc (Grow.G.refl _) _
              have NC1 := (GG2.block _ NL1).trans NC1
              have NL1 := Nat.lt_of_lt_of_le NL1 GG2.size
              have NC2 := (congrArg (fun W : World => W.heap[wp2.heap.size]?) hG2).symm.trans (MapKept.heap_alloc wp2 _).1
              have NL2 : wp2.heap.size < wg2.heap.size := by rw [← hG2]; simp
              clear hG2
              have TW := Lib.hid (TW.out.newR (ys := [.string x]) (n := 1) GG2 NC2 rfl (by decide))
              refine Evo2.all [4] (by decide +kernel) rfl ?_
              intro wp3 gp3 iq hq
              simp only [List.mem_cons, List.mem_nil_iff, or_false] at hq
              have AP3 := Chg.trans (Chg.trans AP2 (Chg.grow GG2)) (Chg.grow gp3)
              have TW := Lib.hid (TW.out.grow gp3)
              have NC1 := (gp3.block _ NL1).trans NC1
              have NL1 := Nat.lt_of_lt_of_le NL1 gp3.size
              have NC2 := (gp3.block _ NL2).trans NC2
              have NL2 := Nat.lt_of_lt_of_le NL2 gp3.size
              subst hq
              refine Fr.own_src (by rfl) (by rfl) (Operand.tmp 33) (Operand.tmp 36) 30 (by rfl) wr.heap.size 9 i0 (.string ⟨#[]⟩) 1 16 Try.underlying30 HI.out HZ0.out HZ1.out HZ2.out rfl (by decide) _ _ _ (by rfl) TW.out.l _ _ _ ((([] : List ByteArray).take 0).map Value.string) (by rfl) (by rw [Nat.mul_one]; exact LA.out) (SA.out.grow (AP3.toGrow (fun j hj q => by have q : wr.heap.size ≤ j := q; omega))) ?_ ?_ ?_ TW.out.b ?_ 
              · intro u hu; first | (obtain ⟨z, _, rfl⟩ := List.mem_map.1 hu; rfl) | (rw [List.mem_singleton] at hu; subst hu; rfl) 
              · (unfold maxLen; first | (simp; done) | (simp; omega)) 
              · (first | (simp; done) | (simp; omega))
              intro vw3 wc3 OW3 fr3
              have OX3 := own_app2 (zs := (([] : List ByteArray).take 0).map Value.string) rfl (LA.out) OW3; have CH3 := TW.out.chgL fr3; have TW := Lib.hid (TW.out.left fr3 OX3)
              refine ⟨.inr CH3, ?_⟩
              have AC3 := Chg.trans AP3 CH3
              simp only [Act.put, L0, L1, L2]
              refine Evo2.all [7] (by decide +kernel) rfl ?_
              intro wp4 gp4 iq hq
              simp only [List.mem_cons, List.mem_nil_iff, or_false] at hq
              have AP4 := Chg.trans AC3 (Chg.grow gp4)
              have TW := Lib.hid (TW.out.grow gp4)
              subst hq
              refine Fr.own_src (by rfl) (by rfl) (Operand.tmp 37) (Operand.tmp 39) 30 (by rfl) wr.heap.size 9 i0 (.string ⟨#[]⟩) 1 16 Try.underlying30 HI.out HZ0.out HZ1.out HZ2.out rfl (by decide) _ _ _ (by rfl) TW.out.l _ _ _ ([Value.string x]) (by rfl) (rfl) (own_src0 TW.out.r) ?_ ?_ ?_ TW.out.b ?_ 
              · intro u hu; first | (obtain ⟨z, _, rfl⟩ := List.mem_map.1 hu; rfl) | (rw [List.mem_singleton] at hu; subst hu; rfl) 
              · (unfold maxLen; first | (simp; done) | (simp; omega)) 
              · (first | (simp; done) | (simp; omega))
              intro vw4 wc4 OW4 fr4
              have OX4 := own_app2 (zs := (([] : List ByteArray).take 0).map Value.string ++ [Value.string x]) rfl (rfl) OW4; have CH4 := TW.out.chgL fr4; have TW := Lib.hid (TW.out.left fr4 OX4)
              refine ⟨.inr CH4, ?_⟩
              have AC4 := Chg.trans AP4 CH4
              simp only [Act.put, L0, L1, L2]
              refine Evo2.all [11] (by decide +kernel) rfl ?_
              intro wp5 gp5 iq hq
              simp only [List.mem_cons, List.mem_nil_iff, or_false] at hq
              have AP5 := Chg.trans AC4 (Chg.grow gp5)
              have TW := Lib.hid (TW.out.grow gp5)
              subst hq
              refine Fr.own_src (by rfl) (by rfl) (Operand.tmp 40) (Operand.tmp 43) 30 (by rfl) wr.heap.size 9 i0 (.string ⟨#[]⟩) 1 16 Try.underlying30 HI.out HZ0.out HZ1.out HZ2.out rfl (by decide) _ _ _ (by rfl) TW.out.l _ _ _ ((([] : List ByteArray).drop 0).map Value.string) (by rfl) (by rw [Nat.mul_one]; exact LB.out) (SB.out.grow (AP5.toGrow (fun j hj q => by have q : wr.heap.size ≤ j := q; omega))) ?_ ?_ ?_ TW.out.b ?_ 
              · intro u hu; first | (obtain ⟨z, _, rfl⟩ := List.mem_map.1 hu; rfl) | (rw [List.mem_singleton] at hu; subst hu; rfl) 
              · (unfold maxLen; first | (simp; done) | (simp; omega)) 
              · (first | (simp; done) | (simp; omega))
              intro vw5 wc5 OW5 fr5
              have OX5 := own_app2 (zs := ((([] : List ByteArray).take 0).map Value.string ++ [Value.string x]) ++ (([] : List ByteArray).drop 0).map Value.string) rfl (LB.out) OW5; have CH5 := TW.out.chgL fr5; have TW := Lib.hid (TW.out.left fr5 OX5)
              refine ⟨.inr CH5, ?_⟩
              have AC5 := Chg.trans AP5 CH5
              simp only [Act.put, L0, L1, L2]
              refine Evo2.va ok 12 _ _ ?_
              refine Evo2.done (by decide +kernel) (fun wz gz => ?_)
              have AZ := Chg.trans AC5 (Chg.grow gz)
              have TW := Lib.hid (TW.out.grow gz)
              dsimp only [PostN] 
              (repeat apply Exists.intro) 
              exact ⟨rfl, Lib.hid ⟨TW.out.l, AZ.toGrow (fun j hj q => by have q : wr.heap.size ≤ j := q; omega)⟩⟩
          ·
            refine Evo2.runs (by rfl) (by rfl) (fun K' hK' => ?_)
            go_simp
            (try (simp only [Evo.after_value, Evo.after_skip]))
            refine hK'.out _ _ ?_
            clear hK'
            simp only [Act.put, L0, L1, L2]
            refine ⟨.inr (Chg.alloc (Chg.refl _ _) _), ?_⟩
            generalize hG1 : World.alloc wp1 _ = wg1
            have GG1 : Grow.G wp1 wg1 := hG1 ▸ Grow.G.alloc (Grow.G.refl _) _
            have NC1 := (congrArg (fun W : World => W.heap[wp1.heap.size]?) hG1).symm.trans (MapKept.heap_alloc wp1 _).1
            have NL1 : wp1.heap.size < wg1.heap.size := by rw [← hG1]; simp
            clear hG1
            have TW := Lib.hid (TW.out.newR (ys := [.string x]) (n := 1) GG1 NC1 rfl (by decide))
            refine Evo2.all [0] (by decide +kernel) rfl ?_
            intro wp2 gp2 iq hq
            simp only [List.mem_cons, List.mem_nil_iff, or_false] at hq
            have AP2 := Chg.trans (Chg.trans AP1 (Chg.grow GG1)) (Chg.grow gp2)
            have TW := Lib.hid (TW.out.grow gp2)
            have NC1 := (gp2.block _ NL1).trans NC1
            have NL1 := Nat.lt_of_lt_of_le NL1 gp2.size
            subst hq
            refine Evo2.runs (by rfl) (by rfl) (fun K' hK' => ?_)
            go_simp
            (try (simp only [Evo.after_value, Evo.after_skip]))
            refine hK'.out _ _ ?_
            clear hK'
            simp only [Act.put, L0, L1, L2]
            refine ⟨.inr (Chg.alloc (Chg.refl _ _) _), ?_⟩
            generalize hG2 : World.alloc wp2 _ = wg2
            have GG2 : Grow.G wp2 wg2 := hG2 ▸ Grow.G.alloc (Grow.G.refl _) _
            have NC1 := (GG2.block _ NL1).trans NC1
            have NL1 := Nat.lt_of_lt_of_le NL1 GG2.size
            have NC2 := (congrArg (fun W : World => W.heap[wp2.heap.size]?) hG2).symm.trans (MapKept.heap_alloc wp2 _).1
            have NL2 : wp2.heap.size < wg2.heap.size := by rw [← hG2]; simp
            clear hG2
            have TW := Lib.hid (TW.out.newL (xs := []) (n := 0) GG2 NC2 rfl (by decide))
            refine Evo2.all [4] (by decide +kernel) rfl ?_
            intro wp3 gp3 iq hq
            simp only [List.mem_cons, List.mem_nil_iff, or_false] at hq
            have AP3 := Chg.trans (Chg.trans AP2 (Chg.grow GG2)) (Chg.grow gp3)
            have TW := Lib.hid (TW.out.grow gp3)
            have NC1 := (gp3.block _ NL1).trans NC1
            have NL1 := Nat.lt_of_lt_of_le NL1 gp3.size
            have NC2 := (gp3.block _ NL2).trans NC2
            have NL2 := Nat.lt_of_lt_of_le NL2 gp3.size
            subst hq
            refine Fr.own_src (by rfl) (by rfl) (Operand.tmp 33) (Operand.tmp 36) 30 (by rfl) wr.heap.size 9 i0 (.string ⟨#[]⟩) 1 16 Try.underlying30 HI.out HZ0.out HZ1.out HZ2.out rfl (by decide) _ _ _ (by rfl) TW.out.l _ _ _ ((([] : List ByteArray).take 0).map Value.string) (by rfl) (by rw [Nat.mul_one]; exact LA.out) (SA.out.grow (AP3.toGrow (fun j hj q => by have q : wr.heap.size ≤ j := q; omega))) ?_ ?_ ?_ TW.out.b ?_ 
            · intro u hu; first | (obtain ⟨z, _, rfl⟩ := List.mem_map.1 hu; rfl) | (rw [List.mem_singleton] at hu; subst hu; rfl) 
            · (unfold maxLen; first | (simp; done) | (simp; omega)) 
            · (first | (simp; done) | (simp; omega))
            intro vw3 wc3 OW3 fr3
            have OX3 := own_app2 (zs := (([] : List ByteArray).take 0).map Value.string) rfl (LA.out) OW3; have CH3 := TW.out.chgL fr3; have TW := Lib.hid (TW.out.left fr3 OX3)
            refine ⟨.inr CH3, ?_⟩
            have AC3 := Chg.trans AP3 CH3
            simp only [Act.put, L0, L1, L2]
            refine Evo2.all [7] (by decide +kernel) rfl ?_
            intro wp4 gp4 iq hq
            simp only [List.mem_cons, List.mem_nil_iff, or_false] at hq
            have AP4 := Chg.trans AC3 (Chg.grow gp4)
            have TW := Lib.hid (TW.out.grow gp4)
            subst hq
            refine Fr.own_src (by rfl) (by rfl) (Operand.tmp 37) (Operand.tmp 39) 30 (by rfl) wr.heap.size 9 i0 (.string ⟨#[]⟩) 1 16 Try.underlying30 HI.out HZ0.out HZ1.out HZ2.out rfl (by decide) _ _ _ (by rfl) TW.out.l _ _ _ ([Value.string x]) (by rfl) (rfl) (own_src0 TW.out.r) ?_ ?_ ?_ TW.out.b ?_ 
            · intro u hu; first | (obtain ⟨z, _, rfl⟩ := List.mem_map.1 hu; rfl) | (rw [List.mem_singleton] at hu; subst hu; rfl) 
            · (unfold maxLen; first | (simp; done) | (simp; omega)) 
            · (first | (simp; done) | (simp; omega))
            intro vw4 wc4 OW4 fr4
            have OX4 := own_app2 (zs := (([] : List ByteArray).take 0).map Value.string ++ [Value.string x]) rfl (rfl) OW4; have CH4 := TW.out.chgL fr4; have TW := Lib.hid (TW.out.left fr4 OX4)
            refine ⟨.inr CH4, ?_⟩
            have AC4 := Chg.trans AP4 CH4
            simp only [Act.put, L0, L1, L2]
            refine Evo2.all [11] (by decide +kernel) rfl ?_
            intro wp5 gp5 iq hq
            simp only [List.mem_cons, List.mem_nil_iff, or_false] at hq
            have AP5 := Chg.trans AC4 (Chg.grow gp5)
            have TW := Lib.hid (TW.out.grow gp5)
            subst hq
            refine Fr.own_src (by rfl) (by rfl) (Operand.tmp 40) (Operand.tmp 43) 30 (by rfl) wr.heap.size 9 i0 (.string ⟨#[]⟩) 1 16 Try.underlying30 HI.out HZ0.out HZ1.out HZ2.out rfl (by decide) _ _ _ (by rfl) TW.out.l _ _ _ ((([] : List ByteArray).drop 0).map Value.string) (by rfl) (by rw [Nat.mul_one]; exact LB.out) (SB.out.grow (AP5.toGrow (fun j hj q => by have q : wr.heap.size ≤ j := q; omega))) ?_ ?_ ?_ TW.out.b ?_ 
            · intro u hu; first | (obtain ⟨z, _, rfl⟩ := List.mem_map.1 hu; rfl) | (rw [List.mem_singleton] at hu; subst hu; rfl) 
            · (unfold maxLen; first | (simp; done) | (simp; omega)) 
            · (first | (simp; done) | (simp; omega))
            intro vw5 wc5 OW5 fr5
            have OX5 := own_app2 (zs := ((([] : List ByteArray).take 0).map Value.string ++ [Value.string x]) ++ (([] : List ByteArray).drop 0).map Value.string) rfl (LB.out) OW5; have CH5 := TW.out.chgL fr5; have TW := Lib.hid (TW.out.left fr5 OX5)
            refine ⟨.inr CH5, ?_⟩
            have AC5 := Chg.trans AP5 CH5
            simp only [Act.put, L0, L1, L2]
            refine Evo2.va ok 12 _ _ ?_
            refine Evo2.done (by decide +kernel) (fun wz gz => ?_)
            have AZ := Chg.trans AC5 (Chg.grow gz)
            have TW := Lib.hid (TW.out.grow gz)
            dsimp only [PostN] 
            (repeat apply Exists.intro) 
            exact ⟨rfl, Lib.hid ⟨TW.out.l, AZ.toGrow (fun j hj q => by have q : wr.heap.size ≤ j := q; omega)⟩⟩
        ·
          rintro A V6 ⟨x33, x34, x35, x36, x37, x38, x39, x40, x41, x42, x43, x44, bv, rfl, SV⟩
          go_wp2_with fail
          go_ret
          refine ⟨_, rfl, ?_, SV.out.2⟩
          have hz := own_base SV.out.1 hb
          rw [RES.out]
          simpa using hz
      · clear hcl
        have SA := ((own_srcd H.out (k := N.length) (by omega)).resolve_left (fun e => by cases e.1))
        obtain ⟨g', eg, SB, SA⟩ := SA
        cases eg
        rw [← List.map_take] at SA
        have SA := Lib.hid SA
        have SB : Hid (Fr.Src wr (if c = N.length then some ⟨g, 0, none⟩ else some ⟨g, N.length, none⟩) ((N.drop N.length).map Value.string)) := Lib.hid (by
          split
          · exact .inr ⟨_, rfl, fun j u h => by simp at h⟩
          · exact .inr ⟨_, rfl, fun j u h => by simp at h⟩)
        have LA : Hid (((N.take N.length).map Value.string).length = N.length) := Lib.hid (by simp)
        have LB : Hid (((N.drop N.length).map Value.string).length = 0) := Lib.hid (by simp)
        have hs3 : (N.length : Int) ≤ (c : Int) := by omega
        go_wp2_with fail
        have TW := Lib.hid (TwoV.none (T := 9) wr)
        have HI := Lib.hid hi
        have HZ0 := Lib.hid ha0
        have HZ1 := Lib.hid ha1
        have HZ2 := Lib.hid ha2
        clear hi ha0 ha1 ha2
        refine wp_spec (fun a0 A W => ∃ x33 x34 x35 x36 x37 x38 x39 x40 x41 x42 x43 x44 : Value, ∃ (bv : Value), A = (((((((((((((a0.put (some 4) (bv)).put (some 33) x33).put (some 34) x34).put (some 35) x35).put (some 36) x36).put (some 37) x37).put (some 38) x38).put (some 39) x39).put (some 40) x40).put (some 41) x41).put (some 42) x42).put (some 43) x43).put (some 44) x44) ∧ Hid (W.ownsRow wr.heap.size 9 1 bv (((N.take N.length).map Value.string ++ [Value.string x]) ++ (N.drop N.length).map Value.string).length (((N.take N.length).map Value.string ++ [Value.string x]) ++ (N.drop N.length).map Value.string) ∧ Grow.G wr W)) ?_ ?_
        all_goals simp only [Act.put, L0, L1, L2]
        ·
          refine Evo2.start' (ℓ := none) (S := Chg (fun j => wr.heap.size ≤ j)) (E := Grow.G) (by kernel_rfl) ⟨Chg.pre _, by decide +kernel, (by intro c a d v w h; cases d <;> exact h), by decide +kernel⟩ (fun ok => ?_)
          refine Evo2.va ok 1 _ _ ?_
          refine Evo2.va ok 2 _ _ ?_
          refine Evo2.va ok 3 _ _ ?_
          refine Evo2.va ok 5 _ _ ?_
          refine Evo2.va ok 8 _ _ ?_
          refine Evo2.va ok 9 _ _ ?_
          refine Evo2.va ok 10 _ _ ?_
          refine Evo2.all [0, 6] (by decide +kernel) rfl ?_
          intro wp1 gp1 iq hq
          simp only [List.mem_cons, List.mem_nil_iff, or_false] at hq
          have AP1 := Chg.trans (Chg.refl (fun j => wr.heap.size ≤ j) _) (Chg.grow gp1)
          have TW := Lib.hid (TW.out.grow gp1)
          rcases hq with rfl | rfl
          ·
            refine Evo2.runs (by rfl) (by rfl) (fun K' hK' => ?_)
            go_simp
            (try (simp only [Evo.after_value, Evo.after_skip]))
            refine hK'.out _ _ ?_
            clear hK'
            simp only [Act.put, L0, L1, L2]
            refine ⟨.inr (Chg.alloc (Chg.refl _ _) _), ?_⟩
            generalize hG1 : World.alloc wp1 _ = wg1
            have GG1 : Grow.G wp1 wg1 := hG1 ▸ Grow.G.alloc (Grow.G.refl _) _
            have NC1 := (congrArg (fun W : World => W.heap[wp1.heap.size]?) hG1).symm.trans (MapKept.heap_alloc wp1 _).1
            have NL1 : wp1.heap.size < wg1.heap.size := by rw [← hG1]; simp
            clear hG1
            have TW := Lib.hid (TW.out.newL (xs := []) (n := 0) GG1 NC1 rfl (by decide))
            refine Evo2.all [4, 6] (by decide +kernel) rfl ?_
            intro wp2 gp2 iq hq
            simp only [List.mem_cons, List.mem_nil_iff, or_false] at hq
            have AP2 := Chg.trans (Chg.trans AP1 (Chg.grow GG1)) (Chg.grow gp2)
            have TW := Lib.hid (TW.out.grow gp2)
            have NC1 := (gp2.block _ NL1).trans NC1
            have NL1 := Nat.lt_of_lt_of_le NL1 gp2.size
            rcases hq with rfl | rfl
            ·
              refine Fr.own_src (by rfl) (by rfl) (Operand.tmp 33) (Operand.tmp 36) 30 (by rfl) wr.heap.size 9 i0 (.string ⟨#[]⟩) 1 16 Try.underlying30 HI.out HZ0.out HZ1.out HZ2.out rfl (by decide) _ _ _ (by rfl) TW.out.l _ _ _ ((N.take N.length).map Value.string) (by rfl) (by rw [Nat.mul_one]; exact LA.out) (SA.out.grow (AP2.toGrow (fun j hj q => by have q : wr.heap.size ≤ j := q; omega))) ?_ ?_ ?_ TW.out.b ?_ 
              · intro u hu; first | (obtain ⟨z, _, rfl⟩ := List.mem_map.1 hu; rfl) | (rw [List.mem_singleton] at hu; subst hu; rfl) 
              · (unfold maxLen; first | (simp; done) | (simp; omega)) 
              · (first | (simp; done) | (simp; omega))
              intro vw2 wc2 OW2 fr2
              have OX2 := own_app2 (zs := (N.take N.length).map Value.string) rfl (LA.out) OW2; have CH2 := TW.out.chgL fr2; have TW := Lib.hid (TW.out.left fr2 OX2)
              refine ⟨.inr CH2, ?_⟩
              have AC2 := Chg.trans AP2 CH2
              simp only [Act.put, L0, L1, L2]
              refine Evo2.all [6] (by decide +kernel) rfl ?_
              intro wp3 gp3 iq hq
              simp only [List.mem_cons, List.mem_nil_iff, or_false] at hq
              have AP3 := Chg.trans AC2 (Chg.grow gp3)
              have TW := Lib.hid (TW.out.grow gp3)
              subst hq
              refine Evo2.runs (by rfl) (by rfl) (fun K' hK' => ?_)
              go_simp
              (try (simp only [Evo.after_value, Evo.after_skip]))
              refine hK'.out _ _ ?_
              clear hK'
              simp only [Act.put, L0, L1, L2]
              refine ⟨.inr (Chg.alloc (Chg.refl _ _) _), ?_⟩
              generalize hG3 : World.alloc wp3 _ = wg3
              have GG3 : Grow.G wp3 wg3 := hG3 ▸ Grow.G.alloc (Grow.G.refl _) _
              have NC3 := (congrArg (fun W : World => W.heap[wp3.heap.size]?) hG3).symm.trans (MapKept.heap_alloc wp3 _).1
              have NL3 : wp3.heap.size < wg3.heap.size := by rw [← hG3]; simp
              clear hG3
              have TW := Lib.hid (TW.out.newR (ys := [.string x]) (n := 1) GG3 NC3 rfl (by decide))
              refine Evo2.all [7] (by decide +kernel) rfl ?_
              intro wp4 gp4 iq hq
              simp only [List.mem_cons, List.mem_nil_iff, or_false] at hq
              have AP4 := Chg.trans (Chg.trans AP3 (Chg.grow GG3)) (Chg.grow gp4)
              have TW := Lib.hid (TW.out.grow gp4)
              have NC3 := (gp4.block _ NL3).trans NC3
              have NL3 := Nat.lt_of_lt_of_le NL3 gp4.size
              subst hq
              refine Fr.own_src (by rfl) (by rfl) (Operand.tmp 37) (Operand.tmp 39) 30 (by rfl) wr.heap.size 9 i0 (.string ⟨#[]⟩) 1 16 Try.underlying30 HI.out HZ0.out HZ1.out HZ2.out rfl (by decide) _ _ _ (by rfl) TW.out.l _ _ _ ([Value.string x]) (by rfl) (rfl) (own_src0 TW.out.r) ?_ ?_ ?_ TW.out.b ?_ 
              · intro u hu; first | (obtain ⟨z, _, rfl⟩ := List.mem_map.1 hu; rfl) | (rw [List.mem_singleton] at hu; subst hu; rfl) 
              · (unfold maxLen; first | (simp; done) | (simp; omega)) 
              · (first | (simp; done) | (simp; omega))
              intro vw4 wc4 OW4 fr4
              have OX4 := own_app2 (zs := (N.take N.length).map Value.string ++ [Value.string x]) rfl (rfl) OW4; have CH4 := TW.out.chgL fr4; have TW := Lib.hid (TW.out.left fr4 OX4)
              refine ⟨.inr CH4, ?_⟩
              have AC4 := Chg.trans AP4 CH4
              simp only [Act.put, L0, L1, L2]
              refine Evo2.all [11] (by decide +kernel) rfl ?_
              intro wp5 gp5 iq hq
              simp only [List.mem_cons, List.mem_nil_iff, or_false] at hq
              have AP5 := Chg.trans AC4 (Chg.grow gp5)
              have TW := Lib.hid (TW.out.grow gp5)
              subst hq
              refine Fr.own_src (by rfl) (by rfl) (Operand.tmp 40) (Operand.tmp 43) 30 (by rfl) wr.heap.size 9 i0 (.string ⟨#[]⟩) 1 16 Try.underlying30 HI.out HZ0.out HZ1.out HZ2.out rfl (by decide) _ _ _ (by rfl) TW.out.l _ _ _ ((N.drop N.length).map Value.string) (by rfl) (by rw [Nat.mul_one]; exact LB.out) (SB.out.grow (AP5.toGrow (fun j hj q => by have q : wr.heap.size ≤ j := q; omega))) ?_ ?_ ?_ TW.out.b ?_ 
              · intro u hu; first | (obtain ⟨z, _, rfl⟩ := List.mem_map.1 hu; rfl) | (rw [List.mem_singleton] at hu; subst hu; rfl) 
              · (unfold maxLen; first | (simp; done) | (simp; omega)) 
              · (first | (simp; done) | (simp; omega))
              intro vw5 wc5 OW5 fr5
              have OX5 := own_app2 (zs := ((N.take N.length).map Value.string ++ [Value.string x]) ++ (N.drop N.length).map Value.string) rfl (LB.out) OW5; have CH5 := TW.out.chgL fr5; have TW := Lib.hid (TW.out.left fr5 OX5)
              refine ⟨.inr CH5, ?_⟩
              have AC5 := Chg.trans AP5 CH5
              simp only [Act.put, L0, L1, L2]
              refine Evo2.va ok 12 _ _ ?_
              refine Evo2.done (by decide +kernel) (fun wz gz => ?_)
              have AZ := Chg.trans AC5 (Chg.grow gz)
              have TW := Lib.hid (TW.out.grow gz)
              dsimp only [PostN] 
              (repeat apply Exists.intro) 
              exact ⟨rfl, Lib.hid ⟨TW.out.l, AZ.toGrow (fun j hj q => by have q : wr.heap.size ≤ j := q; omega)⟩⟩
            ·
              refine Evo2.runs (by rfl) (by rfl) (fun K' hK' => ?_)
              go_simp
              (try (simp only [Evo.after_value, Evo.after_skip]))
              refine hK'.out _ _ ?_
              clear hK'
              simp only [Act.put, L0, L1, L2]
              refine ⟨.inr (Chg.alloc (Chg.refl _ _) _), ?_⟩
              generalize hG2 : World.alloc wp2 _ = wg2
              have GG2 : Grow.G wp2 wg2 := hG2 ▸ Grow.G.alloc (Grow.G.refl _) _
              have NC1 := (GG2.block _ NL1).trans NC1
              have NL1 := Nat.lt_of_lt_of_le NL1 GG2.size
              have NC2 := (congrArg (fun W : World => W.heap[wp2.heap.size]?) hG2).symm.trans (MapKept.heap_alloc wp2 _).1
              have NL2 : wp2.heap.size < wg2.heap.size := by rw [← hG2]; simp
              clear hG2
              have TW := Lib.hid (TW.out.newR (ys := [.string x]) (n := 1) GG2 NC2 rfl (by decide))
              refine Evo2.all [4] (by decide +kernel) rfl ?_
              intro wp3 gp3 iq hq
              simp only [List.mem_cons, List.mem_nil_iff, or_false] at hq
              have AP3 := Chg.trans (Chg.trans AP2 (Chg.grow GG2)) (Chg.grow gp3)
              have TW := Lib.hid (TW.out.grow gp3)
              have NC1 := (gp3.block _ NL1).trans NC1
              have NL1 := Nat.lt_of_lt_of_le NL1 gp3.size
              have NC2 := (gp3.block _ NL2).trans NC2
              have NL2 := Nat.lt_of_lt_of_le NL2 gp3.size
              subst hq
              refine Fr.own_src (by rfl) (by rfl) (Operand.tmp 33) (Operand.tmp 36) 30 (by rfl) wr.heap.size 9 i0 (.string ⟨#[]⟩) 1 16 Try.underlying30 HI.out HZ0.out HZ1.out HZ2.out rfl (by decide) _ _ _ (by rfl) TW.out.l _ _ _ ((N.take N.length).map Value.string) (by rfl) (by rw [Nat.mul_one]; exact LA.out) (SA.out.grow (AP3.toGrow (fun j hj q => by have q : wr.heap.size ≤ j := q; omega))) ?_ ?_ ?_ TW.out.b ?_ 
              · intro u hu; first | (obtain ⟨z, _, rfl⟩ := List.mem_map.1 hu; rfl) | (rw [List.mem_singleton] at hu; subst hu; rfl) 
              · (unfold maxLen; first | (simp; done) | (simp; omega)) 
              · (first | (simp; done) | (simp; omega))
              intro vw3 wc3 OW3 fr3
              have OX3 := own_app2 (zs := (N.take N.length).map Value.string) rfl (LA.out) OW3; have CH3 := TW.out.chgL fr3; have TW := Lib.hid (TW.out.left fr3 OX3)
              refine ⟨.inr CH3, ?_⟩
              have AC3 := Chg.trans AP3 CH3
              simp only [Act.put, L0, L1, L2]
              refine Evo2.all [7] (by decide +kernel) rfl ?_
              intro wp4 gp4 iq hq
              simp only [List.mem_cons, List.mem_nil_iff, or_false] at hq
              have AP4 := Chg.trans AC3 (Chg.grow gp4)
              have TW := Lib.hid (TW.out.grow gp4)
              subst hq
              refine Fr.own_src (by rfl) (by rfl) (Operand.tmp 37) (Operand.tmp 39) 30 (by rfl) wr.heap.size 9 i0 (.string ⟨#[]⟩) 1 16 Try.underlying30 HI.out HZ0.out HZ1.out HZ2.out rfl (by decide) _ _ _ (by rfl) TW.out.l _ _ _ ([Value.string x]) (by rfl) (rfl) (own_src0 TW.out.r) ?_ ?_ ?_ TW.out.b ?_ 
              · intro u hu; first | (obtain ⟨z, _, rfl⟩ := List.mem_map.1 hu; rfl) | (rw [List.mem_singleton] at hu; subst hu; rfl) 
              · (unfold maxLen; first | (simp; done) | (simp; omega)) 
              · (first | (simp; done) | (simp; omega))
              intro vw4 wc4 OW4 fr4
              have OX4 := own_app2 (zs := (N.take N.length).map Value.string ++ [Value.string x]) rfl (rfl) OW4; have CH4 := TW.out.chgL fr4; have TW := Lib.hid (TW.out.left fr4 OX4)
              refine ⟨.inr CH4, ?_⟩
              have AC4 := Chg.trans AP4 CH4
              simp only [Act.put, L0, L1, L2]
              refine Evo2.all [11] (by decide +kernel) rfl ?_
              intro wp5 gp5 iq hq
              simp only [List.mem_cons, List.mem_nil_iff, or_false] at hq
              have AP5 := Chg.trans AC4 (Chg.grow gp5)
              have TW := Lib.hid (TW.out.grow gp5)
              subst hq
              refine Fr.own_src (by rfl) (by rfl) (Operand.tmp 40) (Operand.tmp 43) 30 (by rfl) wr.heap.size 9 i0 (.string ⟨#[]⟩) 1 16 Try.underlying30 HI.out HZ0.out HZ1.out HZ2.out rfl (by decide) _ _ _ (by rfl) TW.out.l _ _ _ ((N.drop N.length).map Value.string) (by rfl) (by rw [Nat.mul_one]; exact LB.out) (SB.out.grow (AP5.toGrow (fun j hj q => by have q : wr.heap.size ≤ j := q; omega))) ?_ ?_ ?_ TW.out.b ?_ 
              · intro u hu; first | (obtain ⟨z, _, rfl⟩ := List.mem_map.1 hu; rfl) | (rw [List.mem_singleton] at hu; subst hu; rfl) 
              · (unfold maxLen; first | (simp; done) | (simp; omega)) 
              · (first | (simp; done) | (simp; omega))
              intro vw5 wc5 OW5 fr5
              have OX5 := own_app2 (zs := ((N.take N.length).map Value.string ++ [Value.string x]) ++ (N.drop N.length).map Value.string) rfl (LB.out) OW5; have CH5 := TW.out.chgL fr5; have TW := Lib.hid (TW.out.left fr5 OX5)
              refine ⟨.inr CH5, ?_⟩
              have AC5 := Chg.trans AP5 CH5
              simp only [Act.put, L0, L1, L2]
              refine Evo2.va ok 12 _ _ ?_
              refine Evo2.done (by decide +kernel) (fun wz gz => ?_)
              have AZ := Chg.trans AC5 (Chg.grow gz)
              have TW := Lib.hid (TW.out.grow gz)
              dsimp only [PostN] 
              (repeat apply Exists.intro) 
              exact ⟨rfl, Lib.hid ⟨TW.out.l, AZ.toGrow (fun j hj q => by have q : wr.heap.size ≤ j := q; omega)⟩⟩
          ·
            refine Evo2.runs (by rfl) (by rfl) (fun K' hK' => ?_)
            go_simp
            (try (simp only [Evo.after_value, Evo.after_skip]))
            refine hK'.out _ _ ?_
            clear hK'
            simp only [Act.put, L0, L1, L2]
            refine ⟨.inr (Chg.alloc (Chg.refl _ _) _), ?_⟩
            generalize hG1 : World.alloc wp1 _ = wg1
            have GG1 : Grow.G wp1 wg1 := hG1 ▸ Grow.G.alloc (Grow.G.refl _) _
            have NC1 := (congrArg (fun W : World => W.heap[wp1.heap.size]?) hG1).symm.trans (MapKept.heap_alloc wp1 _).1
            have NL1 : wp1.heap.size < wg1.heap.size := by rw [← hG1]; simp
            clear hG1
            have TW := Lib.hid (TW.out.newR (ys := [.string x]) (n := 1) GG1 NC1 rfl (by decide))
            refine Evo2.all [0] (by decide +kernel) rfl ?_
            intro wp2 gp2 iq hq
            simp only [List.mem_cons, List.mem_nil_iff, or_false] at hq
            have AP2 := Chg.trans (Chg.trans AP1 (Chg.grow GG1)) (Chg.grow gp2)
            have TW := Lib.hid (TW.out.grow gp2)
            have NC1 := (gp2.block _ NL1).trans NC1
            have NL1 := Nat.lt_of_lt_of_le NL1 gp2.size
            subst hq
            refine Evo2.runs (by rfl) (by rfl) (fun K' hK' => ?_)
            go_simp
            (try (simp only [Evo.after_value, Evo.after_skip]))
            refine hK'.out _ _ ?_
            clear hK'
            simp only [Act.put, L0, L1, L2]
            refine ⟨.inr (Chg.alloc (Chg.refl _ _) _), ?_⟩
            generalize hG2 : World.alloc wp2 _ = wg2
            have GG2 : Grow.G wp2 wg2 := hG2 ▸ Grow.G.alloc (Grow.G.refl _) _
            have NC1 := (GG2.block _ NL1).trans NC1
            have NL1 := Nat.lt_of_lt_of_le NL1 GG2.size
            have NC2 := (congrArg (fun W : World => W.heap[wp2.heap.size]?) hG2).symm.trans (MapKept.heap_alloc wp2 _).1
            have NL2 : wp2.heap.size < wg2.heap.size := by rw [← hG2]; simp
            clear hG2
            have TW := Lib.hid (TW.out.newL (xs := []) (n := 0) GG2 NC2 rfl (by decide))
            refine Evo2.all [4] (by decide +kernel) rfl ?_
            intro wp3 gp3 iq hq
            simp only [List.mem_cons, List.mem_nil_iff, or_false] at hq
            have AP3 := Chg.trans (Chg.trans AP2 (Chg.grow GG2)) (Chg.grow gp3)
            have TW := Lib.hid (TW.out.grow gp3)
            have NC1 := (gp3.block _ NL1).trans NC1
            have NL1 := Nat.lt_of_lt_of_le NL1 gp3.size
            have NC2 := (gp3.block _ NL2).trans NC2
            have NL2 := Nat.lt_of_lt_of_le NL2 gp3.size
            subst hq
            refine Fr.own_src (by rfl) (by rfl) (Operand.tmp 33) (Operand.tmp 36) 30 (by rfl) wr.heap.size 9 i0 (.string ⟨#[]⟩) 1 16 Try.underlying30 HI.out HZ0.out HZ1.out HZ2.out rfl (by decide) _ _ _ (by rfl) TW.out.l _ _ _ ((N.take N.length).map Value.string) (by rfl) (by rw [Nat.mul_one]; exact LA.out) (SA.out.grow (AP3.toGrow (fun j hj q => by have q : wr.heap.size ≤ j := q; omega))) ?_ ?_ ?_ TW.out.b ?_ 
            · intro u hu; first | (obtain ⟨z, _, rfl⟩ := List.mem_map.1 hu; rfl) | (rw [List.mem_singleton] at hu; subst hu; rfl) 
            · (unfold maxLen; first | (simp; done) | (simp; omega)) 
            · (first | (simp; done) | (simp; omega))
            intro vw3 wc3 OW3 fr3
            have OX3 := own_app2 (zs := (N.take N.length).map Value.string) rfl (LA.out) OW3; have CH3 := TW.out.chgL fr3; have TW := Lib.hid (TW.out.left fr3 OX3)
            refine ⟨.inr CH3, ?_⟩
            have AC3 := Chg.trans AP3 CH3
            simp only [Act.put, L0, L1, L2]
            refine Evo2.all [7] (by decide +kernel) rfl ?_
            intro wp4 gp4 iq hq
            simp only [List.mem_cons, List.mem_nil_iff, or_false] at hq
            have AP4 := Chg.trans AC3 (Chg.grow gp4)
            have TW := Lib.hid (TW.out.grow gp4)
            subst hq
            refine Fr.own_src (by rfl) (by rfl) (Operand.tmp 37) (Operand.tmp 39) 30 (by rfl) wr.heap.size 9 i0 (.string ⟨#[]⟩) 1 16 Try.underlying30 HI.out HZ0.out HZ1.out HZ2.out rfl (by decide) _ _ _ (by rfl) TW.out.l _ _ _ ([Value.string x]) (by rfl) (rfl) (own_src0 TW.out.r) ?_ ?_ ?_ TW.out.b ?_ 
            · intro u hu; first | (obtain ⟨z, _, rfl⟩ := List.mem_map.1 hu; rfl) | (rw [List.mem_singleton] at hu; subst hu; rfl) 
            · (unfold maxLen; first | (simp; done) | (simp; omega)) 
            · (first | (simp; done) | (simp; omega))
            intro vw4 wc4 OW4 fr4
            have OX4 := own_app2 (zs := (N.take N.length).map Value.string ++ [Value.string x]) rfl (rfl) OW4; have CH4 := TW.out.chgL fr4; have TW := Lib.hid (TW.out.left fr4 OX4)
            refine ⟨.inr CH4, ?_⟩
            have AC4 := Chg.trans AP4 CH4
            simp only [Act.put, L0, L1, L2]
            refine Evo2.all [11] (by decide +kernel) rfl ?_
            intro wp5 gp5 iq hq
            simp only [List.mem_cons, List.mem_nil_iff, or_false] at hq
            have AP5 := Chg.trans AC4 (Chg.grow gp5)
            have TW := Lib.hid (TW.out.grow gp5)
            subst hq
            refine Fr.own_src (by rfl) (by rfl) (Operand.tmp 40) (Operand.tmp 43) 30 (by rfl) wr.heap.size 9 i0 (.string ⟨#[]⟩) 1 16 Try.underlying30 HI.out HZ0.out HZ1.out HZ2.out rfl (by decide) _ _ _ (by rfl) TW.out.l _ _ _ ((N.drop N.length).map Value.string) (by rfl) (by rw [Nat.mul_one]; exact LB.out) (SB.out.grow (AP5.toGrow (fun j hj q => by have q : wr.heap.size ≤ j := q; omega))) ?_ ?_ ?_ TW.out.b ?_ 
            · intro u hu; first | (obtain ⟨z, _, rfl⟩ := List.mem_map.1 hu; rfl) | (rw [List.mem_singleton] at hu; subst hu; rfl) 
            · (unfold maxLen; first | (simp; done) | (simp; omega)) 
            · (first | (simp; done) | (simp; omega))
            intro vw5 wc5 OW5 fr5
            have OX5 := own_app2 (zs := ((N.take N.length).map Value.string ++ [Value.string x]) ++ (N.drop N.length).map Value.string) rfl (LB.out) OW5; have CH5 := TW.out.chgL fr5; have TW := Lib.hid (TW.out.left fr5 OX5)
            refine ⟨.inr CH5, ?_⟩
            have AC5 := Chg.trans AP5 CH5
            simp only [Act.put, L0, L1, L2]
            refine Evo2.va ok 12 _ _ ?_
            refine Evo2.done (by decide +kernel) (fun wz gz => ?_)
            have AZ := Chg.trans AC5 (Chg.grow gz)
            have TW := Lib.hid (TW.out.grow gz)
            dsimp only [PostN] 
            (repeat apply Exists.intro) 
            exact ⟨rfl, Lib.hid ⟨TW.out.l, AZ.toGrow (fun j hj q => by have q : wr.heap.size ≤ j := q; omega)⟩⟩
        ·
          rintro A V6 ⟨x33, x34, x35, x36, x37, x38, x39, x40, x41, x42, x43, x44, bv, rfl, SV⟩
          go_wp2_with fail
          go_ret
          refine ⟨_, rfl, ?_, SV.out.2⟩
          have hz := own_base SV.out.1 hb
          rw [RES.out]
          simpa using hz
end Go.Proofs.Ytjhfjjkfnmnkgaa
