/- My own texts Tab14, Tab13, laid in one file. -/
import Derived.Test.YtbagjeefoifpeaaDoorZ42
import Derived.Test.YtbagjeefoifpeaaDoorZ2
import Derived.Test.YtbagjeefoifpeaaDoorZ43

/- Whether two tables are the same: damperref5.Same. -/
namespace Go.Proofs.YtbagjeefoifpeaaDoor
set_option maxRecDepth 100000
set_option linter.unusedVariables false
set_option linter.unusedSimpArgs false
set_option linter.unnecessarySimpa false
open Go.RowKit Go.Args

def tgoB (s t : Tgo) : Bool := (s.tag.toList == t.tag.toList) && (s.rev.toList == t.rev.toList)
theorem tgoB_iff (s t : Tgo) : tgoB s t = true ↔ s = t := by
  obtain ⟨m0, m1⟩ := s
  obtain ⟨m0', m1'⟩ := t
  unfold tgoB
  rw [Bool.and_eq_true, eqS_iff, eqS_iff, Tgo.mk.injEq]
theorem run_neq_tgo (m0 m0' m1 m1' : ByteArray) (w : World) :
    (binOp .neq 35 (.agg #[.string m0, .string m1]) (.agg #[.string m0', .string m1'])).run Tryd.prog w = .ok (.bool (!tgoB ⟨m0, m1⟩ ⟨m0', m1'⟩)) w := by
  go_simp
  unfold tgoB
  by_cases h0 : m0.toList = m0'.toList <;> by_cases h1 : m1.toList = m1'.toList <;> simp [h0, h1]
abbrev sameTgo (xs ys : List Tgo) : Bool := sameL tgo0 tgoB xs ys
set_option maxRecDepth 100000 in
set_option maxHeartbeats 4000000 in
theorem rsame_any (a : Option Addr) (l : List Shr) (c : Nat) (a' : Option Addr) (xs : List Tgo) (c' : Nat) (b0 : Option Addr) (l2 : List Shr) (d : Nat) (b1 : Option Addr) (ys : List Tgo) (d' : Nat) (w : World)
    (h1 : ShSl w a l) (h2 : TgSl w a' xs) (h3 : ShSl w b0 l2) (h4 : TgSl w b1 ys) (n0 : l.length ≤ 1000) (n1 : xs.length ≤ 1000) :
    Calls Tryd.prog 21 #[tabV a l.length c a' xs.length c', tabV b0 l2.length d b1 ys.length d'] w fun e w' => e = .returned (.bool (sameShr l l2 && sameTgo xs ys)) ∧ Grow.G w w' := by
  have SH := Lib.hid (fun w' (g : Grow.G w w') => rshares_same a b0 l l2 c d w' (by omega) (h1.later g) (h3.later g))
  have HT := Lib.hid h2
  have HT' := Lib.hid h4
  clear h1 h2 h3 h4 n0
  unfold tabV
  generalize sameShr l l2 = p at *
  generalize l.length = ll at *
  generalize l2.length = ll2 at *
  go_enter Tryd.func21, Tryd.ntmps21
  go_wp2_with fail
  have b00 := (Blk.new w #[.slice a ll c, .slice a' xs.length c'] 25).alloc (.cells #[.slice b0 ll2 d, .slice b1 ys.length d'] 25)
  have b11 := Blk.new (w.alloc (.cells #[.slice a ll c, .slice a' xs.length c'] 25)) #[.slice b0 ll2 d, .slice b1 ys.length d'] 25
  have g00 : Grow.G w ((w.alloc (.cells #[.slice a ll c, .slice a' xs.length c'] 25)).alloc (.cells #[.slice b0 ll2 d, .slice b1 ys.length d'] 25)) := by (repeat (first | with_reducible exact Grow.G.refl _ | with_reducible exact Below.refl _ _ | with_reducible refine Grow.G.alloc ?_ _ | with_reducible refine Grow.G.trans ?_ hb1 | ((with_reducible refine Below.setCell ?_ ?_ _); rotate_left; (focus (first | omega | (simp; done) | (simp; omega)))) | with_reducible assumption | with_reducible refine Grow.G.trans ?_ (by with_reducible assumption)))
  simp only [World.size_alloc] at b11
  refine (SH.out _ g00).mono ?_
  rintro e W0 ⟨rfl, hg⟩
  have B0 := Lib.hid (b00.grow hg)
  have B1 := Lib.hid (b11.grow hg)
  have G0 := Lib.hid (g00.trans hg)
  clear hg SH g00 b00 b11
  generalize w.heap.size = gb at *
  have e0 := Blk.at (cs := [Value.slice a ll c, Value.slice a' xs.length c']) (k := 1) B0.out rfl
  have e1 := Blk.at (cs := [Value.slice b0 ll2 d, Value.slice b1 ys.length d']) (k := 1) B1.out rfl
  cases p with
  | false =>
    go_wp2_with fail
    go_ret
    exact ⟨rfl, G0.out⟩
  | true =>
  by_cases hn : xs.length = ys.length
  · have hn1 : (xs.length != ys.length) = false := by simpa using hn
    have HN := Lib.hid hn
    clear hn
    go_wp2_with fail
    clear e0 e1
    go_loopw [5] (fun i wr => ∃ k : Nat, k ≤ xs.length ∧ i = .int .i64 k ∧ Hid (Grow.G W0 wr) ∧ Hid (∀ j, j < k → tgoB (xs.getD j tgo0) (ys.getD j tgo0) = true)) (fun i _ => xs.length - (intOf i).toNat)
    case atStart => exact ⟨0, by omega, rfl, Grow.G.refl _, fun j h => by omega⟩
    case round =>
      obtain ⟨k, hk, rfl, G, H0⟩ := hrel
      have e0 := Blk.at (cs := [Value.slice a ll c, Value.slice a' xs.length c']) (k := 1) (B0.out.grow G.out) rfl
      have e1 := Blk.at (cs := [Value.slice b0 ll2 d, Value.slice b1 ys.length d']) (k := 1) (B1.out.grow G.out) rfl
      by_cases hlt : k < xs.length
      · have hlt' : k < ys.length := by have := HN.out; omega
        obtain ⟨b, off, rfl, hat⟩ := (HT.out.later (G0.out.trans G.out)).spot hlt
        obtain ⟨b', off', rfl, hat'⟩ := (HT'.out.later (G0.out.trans G.out)).spot hlt'
        have NO := Lib.hid (fun h => sameL_no (d := tgo0) (q := tgoB) (ys := ys) hlt h)
        have H1 : Hid (∀ j, j < k + 1 → j ≠ k → tgoB (xs.getD j tgo0) (ys.getD j tgo0) = true) := Lib.hid (fun j h1 h2 => H0.out j (by omega))
        obtain ⟨t, hs⟩ : ∃ t, xs[k]? = some t := ⟨_, List.getElem?_eq_getElem hlt⟩
        obtain ⟨t', hs'⟩ : ∃ t', ys[k]? = some t' := ⟨_, List.getElem?_eq_getElem hlt'⟩
        have E1 : Hid (xs.getD k tgo0 = t) := Lib.hid (by simp [List.getD, hs])
        have E2 : Hid (ys.getD k tgo0 = t') := Lib.hid (by simp [List.getD, hs'])
        have c0 : ∀ w', Grow.G wr w' → w'.cell? ⟨b, off + k * 2, none⟩ = some (.string t.tag) := fun w' g => cell_later g (hat k _ hs 0 _ rfl)
        have c1 : ∀ w', Grow.G wr w' → w'.cell? ⟨b, off + k * 2 + 1, none⟩ = some (.string t.rev) := fun w' g => cell_later g (hat k _ hs 1 _ rfl)
        have d0 : ∀ w', Grow.G wr w' → w'.cell? ⟨b', off' + k * 2, none⟩ = some (.string t'.tag) := fun w' g => cell_later g (hat' k _ hs' 0 _ rfl)
        have d1 : ∀ w', Grow.G wr w' → w'.cell? ⟨b', off' + k * 2 + 1, none⟩ = some (.string t'.rev) := fun w' g => cell_later g (hat' k _ hs' 1 _ rfl)
        have f0 : ∀ w', Grow.G wr w' → w'.cell? ⟨gb, 1, none⟩ = some (.slice (some ⟨b, off, none⟩) xs.length c') := fun w' g => cell_later g e0
        have f1 : ∀ w', Grow.G wr w' → w'.cell? ⟨gb + 1, 1, none⟩ = some (.slice (some ⟨b', off', none⟩) ys.length d') := fun w' g => cell_later g e1
        have k1 : (0 : Int) ≤ (k : Int) := by omega
        have k2 : (k : Int) < (xs.length : Int) := by omega
        have k3 : (k : Int) < (ys.length : Int) := by omega
        have t0 : decide ((k : Int) < (xs.length : Int)) = true := decide_eq_true (by omega)
        have hk1 : IntKind.i64.wrap ((k : Int) + 1) = (k : Int) + 1 := IntWalk.i64_in _ ⟨by omega, by omega⟩
        obtain ⟨m0, m1⟩ := t
        obtain ⟨m0', m1'⟩ := t'
        simp only at c0 d0 c1 d1
        have RN := run_neq_tgo m0 m0' m1 m1'
        clear hat hat' hs hs' hlt hlt'
        go_wp2_with fail
        refine Grow.region_seqT (by kernel_rfl) (by kernel_rfl) (by intro c a d v w h; cases d <;> exact h) (by kernel_rfl) ?_
        repeat (first
          | (refine Grow.seqT.value ?_ (by rfl) ?_ ?_; rotate_left; (intro w' hg; go_simp <;> with_reducible rfl); simp only [Act.put, L0, L1, L2])
          | (refine Grow.seqT.value ?_ (by rfl) ?_ ?_; rotate_left; (intro w' hg; have ⟨hgc, hgf, hgz⟩ := bcell hg; go_simp <;> with_reducible rfl); simp only [Act.put, L0, L1, L2])
          | (refine Grow.seqT.value ?_ (by rfl) ?_ ?_; rotate_left; (intro w' hg; go_simp; rw [if_neg (by omega)]); simp only [Act.put, L0, L1, L2])
          | (refine Grow.seqT.idle (by rfl) ?_; simp only [Act.put, L0, L1, L2])
          )
        refine Grow.seqT.done (fun w4 g4 => ?_)
        clear c0 d0 c1 d1 f0 f1 RN
        generalize hq : tgoB ⟨m0, m1⟩ ⟨m0', m1'⟩ = q at *
        have HQ := Lib.hid hq
        clear hq
        cases q with
        | true =>
          go_wp2_with fail
          go_roundw
          case rel => exact ⟨k + 1, by omega, by go_num, Grow.G.trans G.out g4, fun j hj => by
            by_cases e : j = k
            · rw [e, E1.out, E2.out]; exact HQ.out
            · exact H1.out j hj e⟩
          case measure => simp [intOf]; omega
        | false =>
          go_wp2_with fail
          go_ret
          exact ⟨ret_bool (NO.out (by rw [E1.out, E2.out]; exact HQ.out)).symm, (G0.out.trans G.out).trans g4⟩
      · have t0 : decide ((k : Int) < (xs.length : Int)) = false := decide_eq_false (by omega)
        have Y := Lib.hid (sameL_yes HN.out (fun i hi => H0.out i (by omega)))
        go_wp2_with fail
        go_ret
        exact ⟨ret_bool Y.out.symm, G0.out.trans G.out⟩
  · have hn1 : (xs.length != ys.length) = true := by simpa using hn
    have Y := Lib.hid (sameL_len (d := tgo0) (q := tgoB) hn)
    clear hn
    go_wp2_with fail
    go_ret
    exact ⟨ret_bool Y.out.symm, G0.out⟩

/-- A blank, and a row, for each row. -/
def runL (rs : List R3) : List UInt8 := Lib.joinTail [32] (rs.map (·.t.data.toList))
theorem runL_step {rs : List R3} {k : Nat} {r : R3} (h : rs[k]? = some r) : runL (rs.take (k + 1)) = runL (rs.take k) ++ [32] ++ (r.x.data.toList ++ (r.y.data.toList ++ r.z.data.toList)) := by
  unfold runL
  rw [List.map_take, List.map_take, Lib.joinTail_take_succ [32] _ k r.t.data.toList (by rw [List.getElem?_map, h]; rfl), R3.t_list]
theorem runL_text (l : List Shr) (m : List Tgo) : textB l m = ⟨((runL (rowsL l m)).drop 1).toArray⟩ := by
  unfold textB runL wordsL
  rw [List.map_map]
  show (⟨(Lib.join ((rowsL l m).map (·.t.data.toList)) [32]).toArray⟩ : ByteArray) = _
  cases rowsL l m with
  | nil => rfl
  | cons r rs => rw [List.map_cons, Lib.join_cons]; rfl
theorem toList_app (a b : ByteArray) : (a ++ b).data.toList = a.data.toList ++ b.data.toList := by simp [ByteArray.data_append]
theorem runL_size (l : List Shr) (m : List Tgo) (h : Small l) (h' : SmallT m) (k : Nat) : (runL ((rowsL l m).take k)).length ≤ 1000000000 := by
  have hk : ((rowsL l m).take k).length ≤ 2000 := by rw [List.length_take, rowsL_len]; have := h.1; have := h'.1; omega
  have hs : ∀ r, r ∈ (rowsL l m).take k → r.t.size ≤ 200001 := by
    intro r hr
    have := row_small h h' (List.mem_of_mem_take hr)
    have := r.t_size
    omega
  generalize (rowsL l m).take k = rs at *
  unfold runL
  rw [Lib.joinTail_length]
  have hle := lens_le 200001 (rs.map (·.t.data.toList)) (fun x hx => by
    rw [List.mem_map] at hx
    obtain ⟨y, hy, rfl⟩ := hx
    exact hs y hy)
  rw [List.length_map] at *
  have : ([32] : List UInt8).length = 1 := rfl
  rw [this]
  omega
theorem ext_one (s : ByteArray) : s.extract 1 s.size = ⟨(s.data.toList.drop 1).toArray⟩ := by
  apply ByteArray.ext
  rw [ByteArray.data_extract]
  apply Array.toList_inj.1
  rw [Array.toList_extract, List.extract_eq_take_drop]
  exact List.take_of_length_le (by rw [List.length_drop]; exact Nat.le_refl _)
set_option maxHeartbeats 12000000 in
theorem rtext_any (a : Option Addr) (l : List Shr) (c : Nat) (a' : Option Addr) (m : List Tgo) (c' : Nat) (w : World) (h1 : ShSl w a l) (h2 : TgSl w a' m) (s1 : Small l) (s2 : SmallT m) :
    Calls Tryd.prog 23 #[tabV a l.length c a' m.length c'] w fun e w' => e = .returned (.string (textB l m)) ∧ Grow.G w w' := by
  have HS := Lib.hid h1
  have HT := Lib.hid h2
  have HM := Lib.hid s1
  have hm := s2.1
  have hll := s1.1
  have RT := Lib.hid (runL_text l m)
  have RZ := Lib.hid (fun k => runL_size l m s1 s2 k)
  have RL := rowsL_len l m
  clear h1 h2 s1 s2
  unfold tabV
  go_enter Tryd.func23, Tryd.ntmps23
  go_wp2_with fail
  have B0 := Lib.hid (Blk.new w #[Value.slice a l.length c, Value.slice a' m.length c'] 25)
  obtain ⟨W0, hW0⟩ : ∃ W0, W0 = w.alloc (.cells #[Value.slice a l.length c, Value.slice a' m.length c'] 25) := ⟨_, rfl⟩
  rw [← hW0] at B0 ⊢
  have G0 : Hid (Grow.G w W0) := Lib.hid (by rw [hW0]; exact Grow.G.alloc (Grow.G.refl _) _)
  clear hW0
  generalize w.heap.size = gb at *
  go_loopw [3, 4] (fun sv i wr => ∃ (k : Nat) (s : ByteArray), k ≤ l.length ∧ sv = .string s ∧ i = .int .i64 k ∧ s.size ≤ 1000000000 ∧ Hid (s.data.toList = runL ((rowsL l m).take k)) ∧ Hid (Grow.G W0 wr)) (fun _ i _ => l.length - (intOf i).toNat)
  case atStart => exact ⟨0, ⟨#[]⟩, by omega, rfl, rfl, by decide, Lib.hid rfl, Lib.hid (Grow.G.refl _)⟩
  case round =>
    obtain ⟨k, s, hk, rfl, rfl, hsz, P, G⟩ := hrel
    have Bk := B0.out.grow G.out
    have e0 := Blk.at (cs := [Value.slice a l.length c, Value.slice a' m.length c']) (k := 0) Bk rfl
    have e1 := Blk.at (cs := [Value.slice a l.length c, Value.slice a' m.length c']) (k := 1) Bk rfl
    by_cases hlt : k < l.length
    · obtain ⟨x, hs⟩ : ∃ x, l[k]? = some x := ⟨_, List.getElem?_eq_getElem hlt⟩
      obtain ⟨b, off, rfl, hc⟩ := HS.out.at hs
      obtain ⟨c0, c1⟩ := hc _ (G0.out.trans G.out)
      have hsm := HM.out.2 x (List.mem_of_getElem? hs)
      have A1 := Lib.hid (runL_step (rowsL_sh (m := m) hs))
      obtain ⟨rv, n⟩ := x
      unfold rowS at A1
      dsimp only at *
      clear hs hc
      have d0 : decide ((k : Int) < (l.length : Int)) = true := decide_eq_true (by omega)
      have hk1 : IntKind.i64.wrap ((k : Int) + 1) = (k : Int) + 1 := IntWalk.i64_in _ ⟨by omega, by omega⟩
      have k1 : (0 : Int) ≤ (k : Int) := by omega
      have k2 : (k : Int) < (l.length : Int) := by omega
      have DG := Lib.hid (fun w => digits_any n w (by omega) (by omega))
      have Y : Hid ((s ++ ⟨#[32]⟩ ++ rv ++ ⟨#[58]⟩ ++ digS n.toNat).data.toList = runL ((rowsL l m).take (k + 1))) := Lib.hid (by
        rw [A1.out, ← P.out]
        simp only [toList_app]
        simp)
      have Z := RZ.out (k + 1)
      rw [← Y.out] at Z
      have Z : (s ++ ⟨#[32]⟩ ++ rv ++ ⟨#[58]⟩ ++ digS n.toNat).size ≤ 1000000000 := Z
      have Z1 : s.size + 1 + rv.size + 1 + (digS n.toNat).size ≤ 1000000000 := by
        simp only [ByteArray.size_append] at Z
        exact Z
      have Z := Lib.hid Z
      have KC := Lib.hid (fun (w' : World) (h : Chg (fun _ => False) wr w') => (⟨h.cell c0 id, h.cell c1 id, h.cell e0 id, trivial⟩ : w'.cell? ⟨b, off + k * 2, none⟩ = some (.string rv) ∧ w'.cell? ⟨b, off + k * 2 + 1, none⟩ = some (.int .i64 n) ∧ w'.cell? ⟨gb, 0, none⟩ = some (.slice (some ⟨b, off, none⟩) l.length c) ∧ True))
      clear Bk A1
      generalize digS n.toNat = dg at *
      go_wp2_with fail
      refine Evo2.start' (ℓ := none) (S := Chg (fun _ => False)) (E := Grow.G) (by kernel_rfl) ⟨Chg.pre _, by decide +kernel, (by intro c a d v w h; cases d <;> exact h), by decide +kernel⟩ (fun ok => ?_)
      refine Evo2.va ok 0 _ _ ?_
      refine Evo2.va ok 1 _ _ ?_
      refine Evo2.va ok 2 _ _ ?_
      first | (refine Evo2.vl ok 3 KC.out (Chg.refl (fun _ => False) _) _ _ ?_) | (refine Evo2.va ok 3 _ _ ?_)
      refine Evo2.va ok 4 _ _ ?_
      refine Evo2.va ok 5 _ _ ?_
      refine Evo2.va ok 6 _ _ ?_
      first | (refine Evo2.vl ok 7 KC.out (Chg.refl (fun _ => False) _) _ _ ?_) | (refine Evo2.va ok 7 _ _ ?_)
      refine Evo2.va ok 8 _ _ ?_
      refine Evo2.va ok 9 _ _ ?_
      refine Evo2.va ok 10 _ _ ?_
      first | (refine Evo2.vl ok 11 KC.out (Chg.refl (fun _ => False) _) _ _ ?_) | (refine Evo2.va ok 11 _ _ ?_)
      refine Evo2.va ok 12 _ _ ?_
      refine Evo2.va ok 13 _ _ ?_
      refine Evo2.va ok 14 _ _ ?_
      first | (refine Evo2.vl ok 15 KC.out (Chg.refl (fun _ => False) _) _ _ ?_) | (refine Evo2.va ok 15 _ _ ?_)
      (refine Evo2.cal ok 16 ?_ 40 ?_ ?_ ?_ ?_; rotate_left 2; (focus (intro w'; go_simp <;> with_reducible rfl)); (focus (intro w' g'; with_reducible exact DG.out w')); simp only [Act.put, L0, L1, L2])
      refine Evo2.va ok 17 _ _ ?_
      refine Evo2.va ok 18 _ _ ?_
      refine Evo2.done (by decide +kernel) (fun wz gz => ?_)
      have AZ := Chg.trans (Chg.refl (fun _ => False) _) (Chg.grow gz)
      go_wp2_with fail
      go_roundw
      case rel => exact ⟨k + 1, _, by omega, rfl, by go_num, Z.out, Y, Lib.hid (G.out.trans (g0 AZ))⟩
      case measure => simp [intOf]; omega
    · have d0 : decide ((k : Int) < (l.length : Int)) = false := decide_eq_false (by omega)
      have ek : k = l.length := by omega
      subst ek
      clear hlt hk Bk
      go_wp2_with fail
      go_loopw [3, 5] (fun sv i wr => ∃ (k : Nat) (s : ByteArray), k ≤ m.length ∧ sv = .string s ∧ i = .int .i64 k ∧ s.size ≤ 1000000000 ∧ Hid (s.data.toList = runL ((rowsL l m).take (l.length + k))) ∧ Hid (Grow.G W0 wr)) (fun _ i _ => m.length - (intOf i).toNat)
      case atStart => exact ⟨0, s, by omega, rfl, rfl, hsz, P, G⟩
      case round =>
        clear P hsz G e0 e1
        obtain ⟨k, s, hk, rfl, rfl, hsz, P, G⟩ := hrel
        have Bk := B0.out.grow G.out
        have e1 := Blk.at (cs := [Value.slice a l.length c, Value.slice a' m.length c']) (k := 1) Bk rfl
        by_cases hlt : k < m.length
        · obtain ⟨x, hs⟩ : ∃ x, m[k]? = some x := ⟨_, List.getElem?_eq_getElem hlt⟩
          obtain ⟨b, off, rfl, hc⟩ := HT.out.at hs
          obtain ⟨c0, c1⟩ := hc _ (G0.out.trans G.out)
          have A1 := Lib.hid (runL_step (rowsL_tg (l := l) hs))
          obtain ⟨tg, rv⟩ := x
          unfold rowT at A1
          dsimp only at *
          clear hs hc
          have d0 : decide ((k : Int) < (m.length : Int)) = true := decide_eq_true (by omega)
          have hk1 : IntKind.i64.wrap ((k : Int) + 1) = (k : Int) + 1 := IntWalk.i64_in _ ⟨by omega, by omega⟩
          have k1 : (0 : Int) ≤ (k : Int) := by omega
          have k2 : (k : Int) < (m.length : Int) := by omega
          have Y : Hid ((s ++ ⟨#[32]⟩ ++ tg ++ ⟨#[61]⟩ ++ rv).data.toList = runL ((rowsL l m).take (l.length + (k + 1)))) := Lib.hid (by
            rw [← Nat.add_assoc, A1.out, ← P.out]
            simp only [toList_app]
            simp)
          have Z := RZ.out (l.length + (k + 1))
          rw [← Y.out] at Z
          have Z : (s ++ ⟨#[32]⟩ ++ tg ++ ⟨#[61]⟩ ++ rv).size ≤ 1000000000 := Z
          have Z1 : s.size + 1 + tg.size + 1 + rv.size ≤ 1000000000 := by
            simp only [ByteArray.size_append] at Z
            exact Z
          have Z := Lib.hid Z
          have KC := Lib.hid (fun (w' : World) (h : Chg (fun _ => False) wr w') => (⟨h.cell c0 id, h.cell c1 id, h.cell e1 id, trivial⟩ : w'.cell? ⟨b, off + k * 2, none⟩ = some (.string tg) ∧ w'.cell? ⟨b, off + k * 2 + 1, none⟩ = some (.string rv) ∧ w'.cell? ⟨gb, 1, none⟩ = some (.slice (some ⟨b, off, none⟩) m.length c') ∧ True))
          clear Bk A1
          go_wp2_with fail
          refine Evo2.start' (ℓ := none) (S := Chg (fun _ => False)) (E := Grow.G) (by kernel_rfl) ⟨Chg.pre _, by decide +kernel, (by intro c a d v w h; cases d <;> exact h), by decide +kernel⟩ (fun ok => ?_)
          refine Evo2.va ok 0 _ _ ?_
          refine Evo2.va ok 1 _ _ ?_
          refine Evo2.va ok 2 _ _ ?_
          first | (refine Evo2.vl ok 3 KC.out (Chg.refl (fun _ => False) _) _ _ ?_) | (refine Evo2.va ok 3 _ _ ?_)
          refine Evo2.va ok 4 _ _ ?_
          refine Evo2.va ok 5 _ _ ?_
          refine Evo2.va ok 6 _ _ ?_
          first | (refine Evo2.vl ok 7 KC.out (Chg.refl (fun _ => False) _) _ _ ?_) | (refine Evo2.va ok 7 _ _ ?_)
          refine Evo2.va ok 8 _ _ ?_
          refine Evo2.va ok 9 _ _ ?_
          refine Evo2.va ok 10 _ _ ?_
          first | (refine Evo2.vl ok 11 KC.out (Chg.refl (fun _ => False) _) _ _ ?_) | (refine Evo2.va ok 11 _ _ ?_)
          refine Evo2.va ok 12 _ _ ?_
          refine Evo2.va ok 13 _ _ ?_
          refine Evo2.va ok 14 _ _ ?_
          first | (refine Evo2.vl ok 15 KC.out (Chg.refl (fun _ => False) _) _ _ ?_) | (refine Evo2.va ok 15 _ _ ?_)
          refine Evo2.va ok 16 _ _ ?_
          refine Evo2.va ok 17 _ _ ?_
          refine Evo2.done (by decide +kernel) (fun wz gz => ?_)
          have AZ := Chg.trans (Chg.refl (fun _ => False) _) (Chg.grow gz)
          go_wp2_with fail
          go_roundw
          case rel => exact ⟨k + 1, _, by omega, rfl, by go_num, Z.out, Y, Lib.hid (G.out.trans (g0 AZ))⟩
          case measure => simp [intOf]; omega
        · have d0 : decide ((k : Int) < (m.length : Int)) = false := decide_eq_false (by omega)
          have ek : k = m.length := by omega
          subst ek
          rw [← RL, List.take_length] at P
          have RT2 := RT.out
          rw [← P.out] at RT2
          have RT3 := Lib.hid RT2
          clear RT2 P Bk
          by_cases hs0 : s = ⟨#[]⟩
          · subst hs0
            go_wp2_with fail
            go_ret
            exact ⟨ret_str RT3.out.symm, G0.out.trans G.out⟩
          · have d1 : s.toList.isEmpty = false := by
              rw [ByteArray.toList_eq, List.isEmpty_eq_false_iff]
              exact fun e => hs0 (ByteArray.ext (Array.toList_inj.1 e))
            have s1 : 1 ≤ s.size := by
              rcases Nat.eq_zero_or_pos s.size with h | h
              · exact (hs0 (by apply ByteArray.ext; exact Array.eq_empty_of_size_eq_zero h)).elim
              · exact h
            go_wp2_with fail
            go_ret
            refine ⟨ret_str ?_, G0.out.trans G.out⟩
            rw [RT3.out]
            exact (ext_one s)
end Go.Proofs.YtbagjeefoifpeaaDoor
