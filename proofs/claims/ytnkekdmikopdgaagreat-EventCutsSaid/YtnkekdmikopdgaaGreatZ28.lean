/- My own texts RCut, ArgR, CutsD, laid in one file. -/
import Derived.Test.YtnkekdmikopdgaaGreatZ23
import Derived.Test.YtnkekdmikopdgaaGreatZ14
import Derived.Test.YtnkekdmikopdgaaGreatZ2
import Derived.Test.YtnkekdmikopdgaaGreatZ17
import Derived.Test.YtnkekdmikopdgaaGreatZ5
import Derived.Test.YtnkekdmikopdgaaGreatZ16

/- What damperref3's Cut tells. -/
namespace Go.Proofs.YtnkekdmikopdgaaGreat
set_option maxRecDepth 100000
set_option linter.unusedVariables false
set_option linter.unusedSimpArgs false
set_option linter.unnecessarySimpa false
open Go.RowKit

theorem PZ.drop {w : World} {sb off c : Nat} {z : List Int} (h : PZ w (some ⟨sb, off, none⟩) c z) {k : Nat} : PZ w (some ⟨sb, off + k, none⟩) (c - k) (z.drop k) := by
  rcases h with rfl | ⟨sb', off', h1, h2, h3, h4⟩
  · exact .inl (by simp)
  · injection h1 with h1
    injection h1 with e1 e2
    subst e1 e2
    refine .inr ⟨sb, off + k, rfl, by rw [List.length_drop]; omega, h3, fun i hi => ?_⟩
    rw [List.length_drop] at hi
    rw [Nat.add_assoc, h4 (k + i) (by omega)]
    simp [List.getD, List.getElem?_drop]
/-- One piece more behind a row of pieces of the call's own. -/
theorem wpList_morep {ops : Array Oper} {rest : List Oper} {o : Oper} {a : Act} {Q : Exit → Act → World → Prop} {w : World} (hgd : o.guard = none) (s x : Operand)
    (ho : o.op = .call { callee := .builtin .append, args := #[s, x], argTypes := #[47, 47] })
    {L : List (List Int)} {v : Value} (hs : a.eval s = v) {b c2 : Nat} {sa : Option Addr} {c n : Nat} (z : List Int) (hx : a.eval x = .slice (some ⟨b, 0, none⟩) 1 c2) (hb : Blk w b #[.slice sa n c] 41) (hn : n = z.length)
    {base : Nat} (hz : OwnB w base (.slice sa n c) z) (hown : PiecesAt w base v L) (hb1 : base ≤ w.heap.size) (hl : L.length ≤ 1000000)
    (h : ∀ sa' c' w', PiecesAt w' base (.slice sa' (L.length + 1) c') (L ++ [z]) → Chg (fun k => v.ownBlock = some k) w w' → wpList Tryz.prog ops Q rest (a.put o.dst (.slice sa' (L.length + 1) c')) w') : wpList Tryz.prog ops Q (o :: rest) a w := by
  obtain ⟨i0, hi, hz0, hz1, hz2⟩ := info_parts infoR
  subst hn
  obtain ⟨vs, hvs, hrow, hel⟩ := hown
  refine Fr.wpList_append_src _ hgd s x 47 ho base 41 i0 (.slice none 0 0) 1 24 Tryz.underlying47 hi hz0 hz1 hz2 rfl (by decide) _ _ _ hs hrow _ 1 c2 [.slice sa z.length c] hx rfl (.inr ⟨_, rfl, news_blk hb⟩) (one1 rfl) ?_ ?_ hb1 ?_
  · unfold maxLen; omega
  · omega
  · intro v' w' hown' hfr
    obtain ⟨sa', c', rfl⟩ := own_shape hown'
    have CH := Chg.ofFr hfr
    refine h sa' c' w' ⟨vs ++ [.slice sa z.length c], by simp [hvs], by rw [List.length_append]; exact hown', fun i hi => ?_⟩ CH
    rw [List.length_append, List.length_singleton] at hi
    by_cases ei : i = L.length
    · subst ei
      have h1 : (vs ++ [Value.slice sa z.length c]).getD L.length undef = .slice sa z.length c := by rw [← hvs]; simp [List.getD]
      have h2 : (L ++ [z]).getD L.length [] = z := by simp [List.getD]
      rw [h1, h2]
      exact CH.own hz (fun k hk q => own_types hz hrow (by decide) hk q)
    · have h1 : (vs ++ [Value.slice sa z.length c]).getD i undef = vs.getD i undef := by simp [List.getD, List.getElem?_append_left (show i < vs.length by omega)]
      have h2 : (L ++ [z]).getD i [] = L.getD i [] := by simp only [List.getD]; rw [List.getElem?_append_left (by omega)]
      rw [h1, h2]
      exact CH.own (hel i (by omega)) (fun k hk q => own_types (hel i (by omega)) hrow (by decide) hk q)
theorem PiecesAt.lt {w : World} {base : Nat} {v : Value} {L : List (List Int)} (h : PiecesAt w base v L) : ∀ k, v.ownBlock = some k → base ≤ k ∧ k < w.heap.size := by
  obtain ⟨vs, _, hrow, _⟩ := h
  exact fun k hk => hrow.lt k hk
theorem PiecesAt.grow {w w' : World} {base : Nat} {v : Value} {L : List (List Int)} (h : PiecesAt w base v L) (g : Grow.G w w') : PiecesAt w' base v L := by
  obtain ⟨vs, h1, hrow, hel⟩ := h
  exact ⟨vs, h1, own_later hrow g, fun i hi => own_later (hel i hi) g⟩
theorem PiecesAt.shape {w : World} {base : Nat} {v : Value} {L : List (List Int)} (h : PiecesAt w base v L) : ∃ a c, v = .slice a L.length c := by
  obtain ⟨vs, h1, hrow, hel⟩ := h
  obtain ⟨a, c, rfl⟩ := own_shape hrow
  exact ⟨a, c, rfl⟩
set_option maxHeartbeats 8000000 in
theorem rcut_any (a : Option Addr) (c : Nat) (zs : List Int) (w : World) (hs : PZ w a c zs) (hbt : Bts zs) (hl : zs.length ≤ 100000) :
    Calls Tryz.prog 24 #[.slice a zs.length c] w fun e w' => ∃ v, e = .returned v ∧ PiecesAt w' w.heap.size v (cutE zs) ∧ Grow.G w w' := by
  have HS := Lib.hid hs
  have HBT := Lib.hid hbt
  have CL := cut_len _ zs (Nat.le_refl _)
  have HCE : Hid (cutE zs = [] ++ cutE zs) := Lib.hid rfl
  generalize hD : cutE zs = D at *
  have HD := Lib.hid hD
  clear hs hbt hD
  go_enter Tryz.func24, Tryz.ntmps24
  go_wp2_with fail
  go_loopw [0, 3] (fun bb out wr => ∃ (pre : List (List Int)) (rest : List Int) (a : Option Addr) (c : Nat), bb = .slice a rest.length c ∧ rest.length ≤ zs.length ∧ pre.length ≤ D.length ∧ Hid (D = pre ++ cutE rest ∧ PZ w a c rest ∧ Bts rest ∧ PiecesAt wr w.heap.size out pre ∧ Grow.G w wr)) (fun bb _ _ => sLen bb)
  case atStart => exact ⟨[], zs, a, c, rfl, Nat.le_refl _, Nat.zero_le _, Lib.hid ⟨HD.out.symm, HS.out, HBT.out, ⟨[], rfl, ⟨rfl, .inl ⟨rfl, rfl⟩⟩, fun i hi => absurd hi (by simp)⟩, Grow.G.refl _⟩⟩
  case round =>
    obtain ⟨pre, rest, a, c, rfl, hrl, hpl, OI⟩ := hrel
    obtain ⟨h1, h2, h3, h4, h5⟩ := OI.out
    clear OI
    match rest with
    | [] =>
      have H1 : Hid (D = pre) := Lib.hid (by rw [h1, cutE_nil, List.append_nil])
      have H4 := Lib.hid h4
      have H5 := Lib.hid h5
      clear h1 h2 h3 h4 h5
      go_wp2_with fail
      go_ret
      exact ⟨_, rfl, by rw [H1.out]; exact H4.out, H5.out⟩
    | [x] =>
      have H1 : Hid (D = pre ++ [[x]]) := Lib.hid (by rw [h1, cutE_one])
      have H2 := Lib.hid (h2.grow h5).src
      have H4 := Lib.hid h4
      have H5 := Lib.hid h5
      clear h1 h2 h3 h4 h5
      go_wp2_with (at_builtin; refine wpList_copyb rfl _ _ rfl rfl (by first | (with_reducible rfl) | (simp; done)) [x] rfl rfl H2.out (by simp) ?_)
      intro s5 c5 w5 ho5 hg5
      have P5 := H4.out.grow hg5
      have HO5 := Lib.hid ho5
      have H6 := Lib.hid P5
      have hsz := H5.out.size
      have hsz5 := hg5.size
      have G5 := Lib.hid (H5.out.trans hg5)
      have lp := H6.out.lt
      have LP := Lib.hid lp
      clear ho5 P5 hg5 H2 H4 H5 lp
      go_wp2_with (at_builtin; refine wpList_morep rfl _ _ rfl rfl [x] rfl (Blk.new _ _ _) rfl (own_later HO5.out (Grow.G.alloc (Grow.G.refl _) _) |> fun h => own_base h (by omega)) (H6.out.grow (Grow.G.alloc (Grow.G.refl _) _)) (by simp; omega) (by omega) ?_)
      intro s7 c7 w7 hp7 ch7
      have G7 := Lib.hid (Below.trans G5.out (((Chg.alloc (Chg.refl _ _) _).trans ch7).below (B := w.heap.size) (by omega) (fun k hk q => by have := (LP.out k q).1; omega)))
      have HP7 := Lib.hid hp7
      clear hp7 ch7 HO5 H6 G5 LP
      go_wp2_with fail
      go_ret
      exact ⟨_, rfl, by rw [H1.out]; exact HP7.out, G7.out⟩
    | x :: y :: r =>
      have hx := h3 x (by simp)
      have hy := h3 y (by simp)
      have x0 := hx.1; have x1 := hx.2; have y0 := hy.1; have y1 := hy.2
      have H1 : Hid (D = (pre ++ [r.take (pieceN x y r)]) ++ cutE (r.drop (pieceN x y r))) := Lib.hid (by rw [h1, cutE_two, List.append_assoc]; rfl)
      obtain ⟨sb, off, rfl, cx, -⟩ := (h2.grow h5).at (i := 0) (by simp)
      obtain ⟨sb', off', e', cy, -⟩ := (h2.grow h5).at (i := 1) (by simp)
      injection e' with e'
      injection e' with e1 e2
      subst e1 e2
      have hcc : r.length + 2 ≤ c := by
        rcases h2 with h | ⟨_, _, _, h, _⟩
        · cases h
        · simpa using h
      have OR := or_byte x0 (by omega) y0 y1
      have P2 := Lib.hid (h2.drop (k := 2))
      have PN : pieceN x y r = min (x * 256 + y).toNat r.length := rfl
      obtain ⟨n, hn⟩ : ∃ n, pieceN x y r = n := ⟨_, rfl⟩
      rw [hn] at H1 PN
      have hn1 : n ≤ r.length := by omega
      have MN : min (x * 256 + y) (r.length : Int) = (n : Int) := by omega
      have P3 := Lib.hid (show PZ w (some ⟨sb, off + 2, none⟩) (c - 2) (r.take n) from (h2.drop (k := 2)).take n)
      have P4 := Lib.hid (show PZ w (some ⟨sb, off + (2 + n), none⟩) (c - (2 + n)) (r.drop n) from by have := h2.drop (k := 2 + n); rwa [show (x :: y :: r).drop (2 + n) = r.drop n from by rw [Nat.add_comm]; rfl] at this)
      have B4 : Hid (Bts (r.drop n)) := Lib.hid (fun z hz => h3 z (by simp [List.mem_of_mem_drop hz]))
      have TL : Hid ((r.take n).length = n) := Lib.hid (by rw [List.length_take]; omega)
      have DL : Hid ((r.drop n).length = r.length - n) := Lib.hid (by rw [List.length_drop])
      have H4 := Lib.hid h4
      have H5 := Lib.hid h5
      simp at cx cy
      obtain ⟨L, hL⟩ : ∃ L, (x :: y :: r).length = L := ⟨_, rfl⟩
      have hL2 : L = r.length + 2 := by rw [← hL]; rfl
      have l0 : (0 : Int) < (L : Int) := by omega
      have l1 : (1 : Int) < (L : Int) := by omega
      have l2 : ((L : Int) == 1) = false := by rw [beq_eq_false_iff_ne]; omega
      have wA : IntKind.i64.wrap ((L : Int) - 2) = (r.length : Int) := by rw [IntKind.wrap_i64]; omega
      have wB : IntKind.i64.wrap (x * 256) = x * 256 := by rw [IntKind.wrap_i64]; omega
      rw [hL] at hrl ⊢
      have HL2 := Lib.hid hL2
      have lc : L ≤ c := by omega
      clear h1 h2 h3 h4 PN hn hx hy hL hL2 hcc
      have KC := Lib.hid (fun (w' : World) (h : Chg (fun _ => False) wr w') => (⟨h.cell cx id, h.cell cy id, trivial⟩ : w'.cell? ⟨sb, off, none⟩ = some (.int .u8 x) ∧ w'.cell? ⟨sb, off + 1, none⟩ = some (.int .u8 y) ∧ True))
      clear cx cy h5
      go_wp2_with fail
      refine Evo2.start' (ℓ := none) (S := Chg (fun _ => False)) (E := Grow.G) (by kernel_rfl) ⟨Chg.pre _, by decide +kernel, (by intro c a d v w h; cases d <;> exact h), by decide +kernel⟩ (fun ok => ?_)
      first | (refine Evo2.val ok 0 ?_ ?_ ?_; rotate_left; (intro w' hg; go_simp <;> with_reducible rfl); simp only [Act.put, L0, L1, L2])
      first | (refine Evo2.val ok 1 ?_ ?_ ?_; rotate_left; (intro w' hg; go_simp <;> with_reducible rfl); simp only [Act.put, L0, L1, L2])
      first | (refine Evo2.val ok 2 ?_ ?_ ?_; rotate_left; (intro w' hg; obtain ⟨q1, q2, q3⟩ := KC.out w' (Chg.trans (Chg.refl (fun _ => False) _) hg); go_simp <;> with_reducible rfl); simp only [Act.put, L0, L1, L2]) | (refine Evo2.val ok 2 ?_ ?_ ?_; rotate_left; (intro w' hg; go_simp <;> with_reducible rfl); simp only [Act.put, L0, L1, L2])
      first | (refine Evo2.val ok 3 ?_ ?_ ?_; rotate_left; (intro w' hg; obtain ⟨q1, q2, q3⟩ := KC.out w' (Chg.trans (Chg.refl (fun _ => False) _) hg); go_simp <;> with_reducible rfl); simp only [Act.put, L0, L1, L2]) | (refine Evo2.val ok 3 ?_ ?_ ?_; rotate_left; (intro w' hg; go_simp <;> with_reducible rfl); simp only [Act.put, L0, L1, L2])
      first | (refine Evo2.val ok 4 ?_ ?_ ?_; rotate_left; (intro w' hg; go_simp <;> with_reducible rfl); simp only [Act.put, L0, L1, L2])
      first | (refine Evo2.val ok 5 ?_ ?_ ?_; rotate_left; (intro w' hg; go_simp <;> with_reducible rfl); simp only [Act.put, L0, L1, L2])
      first | (refine Evo2.val ok 6 ?_ ?_ ?_; rotate_left; (intro w' hg; go_simp <;> with_reducible rfl); simp only [Act.put, L0, L1, L2])
      first | (refine Evo2.val ok 7 ?_ ?_ ?_; rotate_left; (intro w' hg; obtain ⟨q1, q2, q3⟩ := KC.out w' (Chg.trans (Chg.refl (fun _ => False) _) hg); go_simp <;> with_reducible rfl); simp only [Act.put, L0, L1, L2]) | (refine Evo2.val ok 7 ?_ ?_ ?_; rotate_left; (intro w' hg; go_simp <;> with_reducible rfl); simp only [Act.put, L0, L1, L2])
      first | (refine Evo2.val ok 8 ?_ ?_ ?_; rotate_left; (intro w' hg; obtain ⟨q1, q2, q3⟩ := KC.out w' (Chg.trans (Chg.refl (fun _ => False) _) hg); go_simp <;> with_reducible rfl); simp only [Act.put, L0, L1, L2]) | (refine Evo2.val ok 8 ?_ ?_ ?_; rotate_left; (intro w' hg; go_simp <;> with_reducible rfl); simp only [Act.put, L0, L1, L2])
      first | (refine Evo2.val ok 9 ?_ ?_ ?_; rotate_left; (intro w' hg; go_simp <;> with_reducible rfl); simp only [Act.put, L0, L1, L2])
      first | (refine Evo2.val ok 10 ?_ ?_ ?_; rotate_left; (intro w' hg; go_simp <;> with_reducible rfl); simp only [Act.put, L0, L1, L2])
      first | (refine Evo2.val ok 11 ?_ ?_ ?_; rotate_left; (intro w' hg; go_simp <;> with_reducible rfl); simp only [Act.put, L0, L1, L2])
      first | (refine Evo2.val ok 12 ?_ ?_ ?_; rotate_left; (intro w' hg; go_simp <;> with_reducible rfl); simp only [Act.put, L0, L1, L2])
      first | (refine Evo2.val ok 13 ?_ ?_ ?_; rotate_left; (intro w' hg; go_simp <;> with_reducible rfl); simp only [Act.put, L0, L1, L2])
      first | (refine Evo2.val ok 14 ?_ ?_ ?_; rotate_left; (intro w' hg; go_simp <;> with_reducible rfl); simp only [Act.put, L0, L1, L2])
      refine Evo2.done (by decide +kernel) (fun wz gz => ?_)
      have AZ := Chg.trans (Chg.refl (fun _ => False) _) (Chg.grow gz)
      have G1 := Lib.hid (H5.out.trans (chg_none AZ))
      have P1 := H4.out.grow (chg_none AZ)
      have HP1 := Lib.hid P1
      have wx : IntKind.i64.wrap x = x := by rw [IntKind.wrap_i64]; omega
      have wy : IntKind.i64.wrap y = y := by rw [IntKind.wrap_i64]; omega
      have NV : min (bits .or .i64 (IntKind.i64.wrap (IntKind.i64.wrap x * 256)) (IntKind.i64.wrap y)) (r.length : Int) = (n : Int) := by rw [wx, wy, wB, OR, MN]
      rw [NV]
      clear KC H4 H5 P1 AZ gz ok OR NV wx wy wB wA
      have w2 : IntKind.i64.wrap (2 + (n : Int)) = ((2 + n : Nat) : Int) := by rw [IntKind.wrap_i64]; omega
      have w3 : IntKind.i64.wrap 2 = 2 := by decide
      have h2c : 2 + n ≤ c := by have := HL2.out; omega
      have e2 : 2 + n - 2 = n := by omega
      have S3 := Lib.hid (show Fr.Src wz (if c = 2 then some ⟨sb, off, none⟩ else some ⟨sb, off + 2, none⟩) ((r.take n).map (Value.int .u8)) from by
        split
        · rename_i e
          have hr : r = [] := List.eq_nil_of_length_eq_zero (by have := HL2.out; omega)
          rw [hr]
          exact .inr ⟨_, rfl, fun j u hj => by simp at hj⟩
        · exact (P3.out.grow G1.out).src)
      have PZ4 := Lib.hid (show PZ w (if c = 2 + n then some ⟨sb, off, none⟩ else some ⟨sb, off + (2 + n), none⟩) (c - (2 + n)) (r.drop n) from by
        split
        · rename_i e
          exact .inl (List.eq_nil_of_length_eq_zero (by rw [List.length_drop]; have := HL2.out; omega))
        · exact P4.out)
      obtain ⟨A2, hA2⟩ : ∃ A : Option Addr, (if c = 2 then some ⟨sb, off, none⟩ else some ⟨sb, off + 2, none⟩) = A := ⟨_, rfl⟩
      obtain ⟨A4, hA4⟩ : ∃ A : Option Addr, (if c = 2 + n then some ⟨sb, off, none⟩ else some ⟨sb, off + (2 + n), none⟩) = A := ⟨_, rfl⟩
      rw [hA2] at S3
      rw [hA4] at PZ4
      have TL2 : Hid ((r.take n).length = 2 + n - 2) := Lib.hid (by rw [TL.out]; omega)
      go_wp2_with (at_builtin; refine wpList_copyb rfl _ _ rfl rfl (by first | (with_reducible rfl) | (simp; done)) (r.take n) rfl TL2.out S3.out (by have := TL2.out; omega) ?_)
      intro s5 c5 w5 ho5 hg5
      have P5 := HP1.out.grow hg5
      have HO5 := Lib.hid ho5
      have H6 := Lib.hid P5
      have hsz := G1.out.size
      have hsz5 := hg5.size
      have G5 := Lib.hid (G1.out.trans hg5)
      have lp := H6.out.lt
      have LP := Lib.hid lp
      clear ho5 P5 hg5 HP1 G1 S3 lp
      go_wp2_with (at_builtin; refine wpList_morep rfl _ _ rfl rfl (r.take n) rfl (Blk.new _ _ _) TL.out.symm (own_later HO5.out (Grow.G.alloc (Grow.G.refl _) _) |> fun h => own_base h (by omega)) (H6.out.grow (Grow.G.alloc (Grow.G.refl _) _)) (by simp; omega) (by omega) ?_)
      intro s7 c7 w7 hp7 ch7
      have G7 := Lib.hid (Below.trans G5.out (((Chg.alloc (Chg.refl _ _) _).trans ch7).below (B := w.heap.size) (by omega) (fun k hk q => by have := (LP.out k q).1; omega)))
      have HP7 := Lib.hid hp7
      clear hp7 ch7 HO5 H6 G5 LP
      have hLn : 2 + n ≤ L := by have := HL2.out; omega
      have hLi : 2 + (n : Int) ≤ (L : Int) := by omega
      have EL : Hid (L - (2 + n) = (r.drop n).length) := Lib.hid (by rw [DL.out]; have := HL2.out; omega)
      go_wp2_with fail
      rw [EL.out]
      refine ⟨⟨pre ++ [r.take n], r.drop n, A4, _, by rw [← hA4], ?_, ?_, Lib.hid ⟨H1.out, PZ4.out, B4.out, HP7.out, G7.out⟩⟩, ?_⟩
      · rw [DL.out]; have := HL2.out; omega
      · have := congrArg List.length H1.out
        simp at this ⊢
        omega
      · rw [DL.out]; have := HL2.out; simp [sLen]; omega
end Go.Proofs.YtnkekdmikopdgaaGreat

/- How a row of rows of bytes that came in reads. -/
namespace Go.Proofs.YtnkekdmikopdgaaGreat
set_option maxRecDepth 100000
set_option linter.unusedVariables false
set_option linter.unusedSimpArgs false
open Go.ChangeShapes Go.WideShapes Go.ChangeAt Go.RowKit Go.Args

/-- Bytes in a row of such: where they lie, what they are, their room. -/
structure BRow where
  a : Option Addr
  zs : List Int
  c : Nat
def br0 : BRow := ⟨none, [], 0⟩
def BRow.ok (w : World) (r : BRow) : Prop := ByAt w r.a r.zs ∧ Bts r.zs ∧ r.zs.length ≤ 140737488351232 ∧ r.zs.length ≤ r.c
def RowsAt (w : World) (a : Option Addr) (R : List BRow) : Prop := R = [] ∨ ∃ b off, a = some ⟨b, off, none⟩ ∧ ∀ i, i < R.length → w.cell? ⟨b, off + i, none⟩ = some (.slice (R.getD i br0).a (R.getD i br0).zs.length (R.getD i br0).c) ∧ (R.getD i br0).ok w
section
variable {H : Type} {enc : TypeId × Value → H} {W : World}
theorem rows_rd {cs : List Value} {d : DataW H} (h : Rd enc Tryz.prog W 47 cs d) (hs : Sz Tryz.prog 47 d) :
    ∃ a R c, cs = [.slice a (List.length R) c] ∧ RowsAt W a R ∧ R.length ≤ maxLen := by
  rcases h.slice Tryz.underlying47 hs with rfl | ⟨a, len, cap, rfl, hl, hm, hr, hel⟩
  · exact ⟨none, [], 0, rfl, .inl rfl, by decide⟩
  · have c1 : Tryz.prog.cellsOf 41 = 1 := by kernel_rfl
    rw [c1] at hel
    obtain ⟨R, hlen, hp⟩ := choose_list br0 len (fun i r => r.ok W ∧ W.cell? (a.add i) = some (.slice r.a r.zs.length r.c)) (fun i hi => by
      obtain ⟨cs', di, hcl, hc, hr, hz⟩ := hel i hi
      obtain ⟨a', zs, c, rfl, h1⟩ := bytes_rd hr hz
      have h0 := hc 0 (by omega)
      exact ⟨⟨a', zs, c⟩, h1, by simpa using h0⟩)
    subst hlen
    refine ⟨some a, R, cap, rfl, ?_, by omega⟩
    cases R with
    | nil => exact .inl rfl
    | cons r0 R0 =>
      have hsp := addr_spot (hp 0 (by simp)).2 rfl
      rw [hsp] at hp
      refine .inr ⟨a.block, a.off, by rw [← hsp], fun i hi => ?_⟩
      have := hp i hi
      rw [addr_add0] at this
      exact ⟨this.2, this.1⟩
theorem rows_of {base : Nat} {v : Value} {d : DataW H} {p : List MemPlace} (hv : Value.okWide Tryz.prog W .any base 47 v) (h : DataW.Trod enc Tryz.prog W 0 (fun _ => true) true 47 v d p) (hs : Sz Tryz.prog 47 d) :
    ∃ a R c, v = .slice a (List.length R) c ∧ RowsAt W a R ∧ R.length ≤ maxLen := by
  obtain ⟨s, len, cap, rfl⟩ := okWide_slice Tryz.underlying47 hv
  obtain ⟨a, R, c, hc, hb⟩ := rows_rd (rd_of h) hs
  simp [Value.cells] at hc
  obtain ⟨rfl, rfl, rfl⟩ := hc
  exact ⟨s, R, cap, rfl, hb⟩
end
end Go.Proofs.YtnkekdmikopdgaaGreat

/- Pieces put behind one another, and what Cut makes of them: what EventCuts' walk leans on. -/
namespace Go.Proofs.YtnkekdmikopdgaaGreat
set_option maxRecDepth 100000
set_option linter.unusedVariables false
set_option linter.unusedSimpArgs false
set_option linter.unnecessarySimpa false
open Go.RowKit

/-- A row's piece. -/
def pcR (r : BRow) : List Int := r.zs.take 300
def packs (R : List BRow) (i : Nat) : List Int := ((R.take i).map pcR).flatMap pieceB
theorem packs_zero (R : List BRow) : packs R 0 = [] := rfl
theorem packs_succ {R : List BRow} {i : Nat} (h : i < R.length) : packs R (i + 1) = packs R i ++ pieceB (pcR (R.getD i br0)) := by
  have e : R.take (i + 1) = R.take i ++ [R.getD i br0] := by
    rw [List.take_add_one]; simp [List.getD, h]
  unfold packs
  rw [e, List.map_append, List.flatMap_append]
  simp
theorem packs_cut (R : List BRow) : cutE (packs R R.length) = R.map pcR := by
  unfold packs
  rw [List.take_length]
  refine cut_back _ fun x hx => ?_
  obtain ⟨r, _, rfl⟩ := List.mem_map.1 hx
  unfold pcR
  rw [List.length_take]
  omega
theorem packs_len {R : List BRow} : ∀ {i : Nat}, i ≤ R.length → (packs R i).length ≤ 302 * i
  | 0, _ => by rw [packs_zero]; simp
  | i + 1, h => by
    have ih := packs_len (R := R) (i := i) (by omega)
    rw [packs_succ (R := R) (i := i) (by omega), List.length_append]
    have : (pieceB (pcR (R.getD i br0))).length ≤ 302 := by
      unfold pieceB pcR
      rw [List.length_append, List.length_take]
      simp; omega
    omega
theorem pieceB_bts {z : List Int} (h : Bts z) : Bts (pieceB z) := by
  unfold pieceB
  refine Bts.app (fun x hx => ?_) h
  simp at hx
  rcases hx with rfl | rfl <;> omega
theorem packs_bts {R : List BRow} (h : ∀ r ∈ R, Bts r.zs) (i : Nat) : Bts (packs R i) := by
  intro x hx
  unfold packs at hx
  obtain ⟨y, hy, hx⟩ := List.mem_flatMap.1 hx
  obtain ⟨r, hr, rfl⟩ := List.mem_map.1 hy
  exact pieceB_bts ((h r (List.mem_of_mem_take hr)).take 300) x hx
theorem RowsAt.grow {w w' : World} {a : Option Addr} {R : List BRow} (h : RowsAt w a R) (g : Grow.G w w') {i : Nat} (hi : i < R.length) :
    ∃ b off, a = some ⟨b, off, none⟩ ∧ b < w.heap.size ∧ w'.cell? ⟨b, off + i, none⟩ = some (.slice (R.getD i br0).a (R.getD i br0).zs.length (R.getD i br0).c) ∧ PZ w' (R.getD i br0).a (R.getD i br0).c (R.getD i br0).zs ∧ Bts (R.getD i br0).zs ∧ (R.getD i br0).zs.length ≤ 140737488351232 ∧ (R.getD i br0).zs.length ≤ (R.getD i br0).c := by
  rcases h with rfl | ⟨b, off, ha, hc⟩
  · simp at hi
  · obtain ⟨h1, h2, h3, h4, h5⟩ := hc i hi
    have hb : b < w.heap.size := by
      rcases Nat.lt_or_ge b w.heap.size with h' | h'
      · exact h'
      · simp [World.cell?, Array.getElem?_eq_none h'] at h1
    exact ⟨b, off, ha, hb, cell_later g h1, (by_pz h2 h5).grow g, h3, h4, h5⟩
theorem PiecesAt.at {w : World} {base : Nat} {v : Value} {L : List (List Int)} (h : PiecesAt w base v L) {k : Nat} (hk : k < L.length) :
    ∃ g c sa ca, v = .slice (some ⟨g, 0, none⟩) L.length c ∧ base ≤ g ∧ w.cell? ⟨g, k, none⟩ = some (.slice sa (L.getD k []).length ca) ∧ OwnB w base (.slice sa (L.getD k []).length ca) (L.getD k []) := by
  obtain ⟨vs, hvs, hrow, hel⟩ := h
  obtain ⟨g, c, rfl, hg⟩ := own_some hrow (by omega)
  obtain ⟨sa, ca, e⟩ := own_shape (hel k hk)
  have := hrow.cells (g := g) rfl k (vs.getD k undef) (by simp [List.getD, show k < vs.length by omega])
  rw [Args.addr_add0, Nat.zero_add, e] at this
  exact ⟨g, c, sa, ca, rfl, hg, this, e ▸ hel k hk⟩
/-- Pieces none of which lies in block k0. -/
def PP (w : World) (base : Nat) (k0 : Option Nat) (u : Value) (L : List (List Int)) : Prop :=
  ∃ vs : List Value, vs.length = L.length ∧ w.ownsRow base 41 1 u L.length vs ∧ ∀ i, i < L.length → OwnB w base (vs.getD i undef) (L.getD i []) ∧ ∀ k, (vs.getD i undef).ownBlock = some k → k0 ≠ some k
namespace PP
variable {w w' : World} {base : Nat} {k0 : Option Nat} {u : Value} {L : List (List Int)}
theorem nil (w : World) (base : Nat) (k0 : Option Nat) : PP w base k0 (.slice none 0 0) [] := ⟨[], rfl, ⟨rfl, .inl ⟨rfl, rfl⟩⟩, fun i hi => absurd hi (by simp)⟩
theorem grow (h : PP w base k0 u L) (g : Grow.G w w') : PP w' base k0 u L := by
  obtain ⟨vs, h1, h2, h3⟩ := h
  exact ⟨vs, h1, own_later h2 g, fun i hi => ⟨own_later (h3 i hi).1 g, (h3 i hi).2⟩⟩
theorem of {b' : Nat} (h : PiecesAt w b' u L) (hb : base ≤ b') (hk : ∀ k, k0 = some k → k < b') : PP w base k0 u L := by
  obtain ⟨vs, h1, h2, h3⟩ := h
  exact ⟨vs, h1, own_base h2 hb, fun i hi => ⟨own_base (h3 i hi) hb, fun k hk1 e => by have := ((h3 i hi).lt k hk1).1; have := hk k e; omega⟩⟩
theorem new (h : PP w base k0 u L) {k1 : Nat} (hk : k1 = w.heap.size) (g : Grow.G w w') : PP w' base (some k1) u L := by
  obtain ⟨vs, h1, h2, h3⟩ := h
  exact ⟨vs, h1, own_later h2 g, fun i hi => ⟨own_later (h3 i hi).1 g, fun k hk1 e => by have := ((h3 i hi).1.lt k hk1).2; have e := Option.some.inj e; omega⟩⟩
theorem app {b' : Nat} {v v' : Value} {xs : List Int} (h : PP w base k0 u L) (hv : v.ownBlock = k0) (ho : OwnB w b' v xs) (f : Fr.Fr w w' v v') : PP w' base v'.ownBlock u L := by
  obtain ⟨vs, h1, h2, h3⟩ := h
  have C := Chg.ofFr f
  refine ⟨vs, h1, C.own h2 (fun k hk q => own_types ho h2 (by decide) q hk), fun i hi => ⟨C.own (h3 i hi).1 (fun k hk q => (h3 i hi).2 k hk (hv ▸ q)), fun k hk e => ?_⟩⟩
  rcases f.o with e1 | ⟨g, e1, hg⟩
  · exact (h3 i hi).2 k hk (by rw [← hv, ← e1]; exact e)
  · have := ((h3 i hi).1.lt k hk).2
    rw [e1] at e
    have e := Option.some.inj e
    omega
theorem p (h : PP w base k0 u L) : PiecesAt w base u L := by
  obtain ⟨vs, h1, h2, h3⟩ := h
  exact ⟨vs, h1, h2, fun i hi => (h3 i hi).1⟩
end PP
theorem PiecesAt.base {w : World} {base b' : Nat} {v : Value} {L : List (List Int)} (h : PiecesAt w b' v L) (hb : base ≤ b') : PiecesAt w base v L := by
  obtain ⟨vs, h1, h2, h3⟩ := h
  exact ⟨vs, h1, own_base h2 hb, fun i hi => own_base (h3 i hi) hb⟩
theorem PiecesAt.nil (w : World) (base : Nat) : PiecesAt w base (.slice none 0 0) [] := ⟨[], rfl, ⟨rfl, .inl ⟨rfl, rfl⟩⟩, fun i hi => absurd hi (by simp)⟩
theorem OwnB.ecut {w : World} {base n c : Nat} {a : Option Addr} {z : List Int} (h : OwnB w base (.slice a n c) z) (hw : 0 < w.heap.size) (hb : Bts z) (hl : z.length ≤ 100000) :
    Calls Tryz.prog 23 #[.slice a n c] w fun e w' => ∃ v, e = .returned v ∧ PiecesAt w' w.heap.size v (cutE z) ∧ Grow.G w w' := by
  obtain ⟨rfl, sb, h1, h2, _⟩ := own_sb h hw
  exact ecut_any sb a c z w h2 h1 hb hl
theorem OwnB.le {w : World} {base n c : Nat} {a : Option Addr} {z : List Int} (h : OwnB w base (.slice a n c) z) : n = z.length ∧ z.length ≤ c := by
  rcases h.2 with ⟨h0, h1⟩ | ⟨g, cap, cur, hv, hb, hg, hn, rest⟩
  · cases h0
    exact ⟨h1.symm, by omega⟩
  · injection hv with e1 e2 e3
    subst e1 e2 e3
    exact ⟨rfl, hn⟩
theorem cv_zero (w : World) (a : Option Addr) (c : Nat) : (convert 41 9 (.slice a 0 c)).run Tryz.prog w = .ok (.string (strOfNums [])) w := by
  cases a with
  | none => exact run_convert_bytes_nil w _ _ Tryz.underlying41 Tryz.underlying5 0 c _ Tryz.underlying9
  | some ad =>
    have hl : (loadCells ad 0).run Tryz.prog w = .ok (([] : List Int).map (Value.int .u8)).toArray w := by
      simpa using run_loadCells_list (P := Tryz.prog) w ad [] (fun j v hj => by cases hj)
    rw [run_convert_bytes_string w 41 9 5 _ 0 c Tryz.underlying41 Tryz.underlying5 Tryz.underlying9, run_bytesToString w _ 0 c [] hl]
    rfl
theorem PZ.cv {w : World} {a : Option Addr} {c : Nat} {z : List Int} (h : PZ w a c z) {n : Nat} (hn : n = z.length) : (convert 41 9 (.slice a n c)).run Tryz.prog w = .ok (.string (strOfNums z)) w := by
  subst hn
  by_cases hz : z = []
  · subst hz; exact cv_zero w a c
  · obtain ⟨sb, h1, h2⟩ := h.by hz
    exact cv_bytes h1
end Go.Proofs.YtnkekdmikopdgaaGreat
