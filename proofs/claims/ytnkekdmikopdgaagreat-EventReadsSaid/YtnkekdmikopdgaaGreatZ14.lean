/- My own texts Piece, Cut, Cut2, laid in one file. -/
import Derived.Test.YtnkekdmikopdgaaGreatZ8
import Derived.Test.YtnkekdmikopdgaaGreatZ5
import Derived.Test.YtnkekdmikopdgaaGreatZ11
import Derived.Test.YtnkekdmikopdgaaGreatZ13
import Derived.Test.YtnkekdmikopdgaaGreatZ2
import Derived.Test.YtnkekdmikopdgaaGreatShelf

/- What event's piece parts. -/
namespace Go.Proofs.YtnkekdmikopdgaaGreat
set_option maxRecDepth 100000
set_option linter.unusedVariables false
set_option linter.unusedSimpArgs false
set_option linter.unnecessarySimpa false
open Go.RowKit

theorem valB_two (x y : Int) : valB [x, y] = x * 256 + y := by simp [valB]
def Piece (sb : Nat) (first behind : List Int) (w : World) (e : Ending) (w' : World) : Prop :=
 ∃ a1 c1 a2 c2, e = .returned (.tuple #[.slice a1 first.length c1, .slice a2 behind.length c2]) ∧ BySl w' sb a1 c1 first ∧ BySl w' sb a2 c2 behind ∧ Grow.G w w'
set_option maxHeartbeats 1000000 in
theorem piece_one (sb : Nat) (a : Option Addr) (c : Nat) (x : Int) (w : World) (h : BySl w sb a c [x]) :
  Calls Tryz.prog 79 #[.slice a 1 c] w fun e w' => Piece sb [x] [] w e w' := by
 have H := Lib.hid h
 clear h
 go_enter Tryz.func79, Tryz.ntmps79
 go_wp2_with fail
 go_ret2
 exact ⟨a, c, none, 0, rfl, H.out, .inl ⟨rfl, rfl, rfl⟩, Grow.G.refl _⟩
set_option maxHeartbeats 1000000 in
theorem piece_more (sb : Nat) (a : Option Addr) (c : Nat) (x y : Int) (r : List Int) (w : World) (h : BySl w sb a c (x :: y :: r)) (hsb : sb < w.heap.size) (hbt : Bts (x :: y :: r)) :
  Calls Tryz.prog 79 #[.slice a (r.length + 2) c] w fun e w' => Piece sb (r.take (pieceN x y r)) (r.drop (pieceN x y r)) w e w' := by
 have hx := hbt x (by simp)
 have hy := hbt y (by simp)
 have E1 : Hid ((Lnum 2 (x :: y :: r, false)).1 = (((x * 256 + y).toNat : Nat) : Int)) := Lib.hid (by
  show valB ((x :: y :: r).take 2) = _
  rw [show (x :: y :: r).take 2 = [x, y] from rfl, valB_two]
  omega)
 have E2 : Hid ((Lnum 2 (x :: y :: r, false)).2 = (r, false)) := Lib.hid (by
  unfold Lnum
  simp)
 have TK : Hid (r.take (pieceN x y r) = r.take (x * 256 + y).toNat ∧ r.drop (pieceN x y r) = r.drop (x * 256 + y).toNat) := Lib.hid (by
  unfold pieceN
  rcases Nat.le_total (x * 256 + y).toNat r.length with h | h
  ·
   rw [Nat.min_eq_left h]; exact ⟨rfl, rfl⟩
  ·
   rw [Nat.min_eq_right h, List.take_of_length_le (Nat.le_refl _), List.take_of_length_le h, List.drop_of_length_le (Nat.le_refl _), List.drop_of_length_le h]
   exact ⟨rfl, rfl⟩)
 have H := Lib.hid h
 have HB := Lib.hid hbt
 generalize (x * 256 + y).toNat = n at *
 clear h hbt hx hy
 go_enter Tryz.func79, Tryz.ntmps79
 go_wp2_with fail
 have L0 := Blk.new w #[.slice a (r.length + 2) c, .bool false] 131
 have G0 := Grow.G.alloc (Grow.G.refl w) (.cells #[.slice a (r.length + 2) c, .bool false] 131)
 have R0 : RdAt (w.alloc (.cells #[.slice a (r.length + 2) c, .bool false] 131)) w.heap.size sb (x :: y :: r, false) := ⟨a, c, L0, H.out.chg (Chg.grow (G := fun _ => False) G0) id⟩
 refine (rdnum_any w.heap.size sb _ 2 _ R0 (by omega) (by decide) HB.out).mono ?_
 rintro e w1 ⟨he, r1, c1⟩
 rw [E1.out] at he
 subst he
 rw [E2.out] at r1
 have D1 := Lib.hid (And.intro r1 c1)
 clear r1 c1 R0 L0
 go_wp2_with fail
 refine (rd_take w.heap.size sb (r, false) n w1 D1.out.1 (by omega)).mono ?_
 rintro e w2 ⟨a1, c1', rfl, hs, ⟨a2, c2, b2, hs2⟩, ch⟩
 dsimp only at *
 have D2 := Lib.hid (And.intro hs (And.intro hs2 (Chg.toGrow (G := fun k => w.heap.size ≤ k) ((((Chg.grow G0).join D1.out.2 (fun i hi q => by have q : i = w.heap.size := q; show w.heap.size ≤ i; omega)) : Chg (fun k => w.heap.size ≤ k) w w1).join ch (fun i hi q => by have q : i = w.heap.size := q; show w.heap.size ≤ i; omega)) (fun k hk q => by have q : w.heap.size ≤ k := q; omega))))
 have b0 := (b2.cell 0)
 simp at b0
 have KC := Lib.hid (fun (w' : World) (h : Chg (fun _ => False) w2 w') => (⟨h.cell b0 id, trivial⟩ : w'.cell? ⟨w.heap.size, 0, none⟩ = some (.slice a2 (r.length - n) c2) ∧ True))
 clear hs hs2 ch D1 b2 G0 b0
 go_wp2_with fail
 refine Evo2.start' (ℓ := none) (S := Chg (fun _ => False)) (E := Grow.G) (by kernel_rfl) ⟨Chg.pre _, by decide +kernel, (by intro c a d v w h; cases d <;> exact h), by decide +kernel⟩ (fun ok => ?_)
 refine Evo2.va ok 0 _ _ ?_
 refine Evo2.va ok 1 _ _ ?_
 refine Evo2.va ok 2 _ _ ?_
 refine Evo2.va ok 3 _ _ ?_
 first | (refine Evo2.vl ok 4 KC.out (Chg.refl (fun _ => False) _) _ _ ?_) | (refine Evo2.va ok 4 _ _ ?_)
 refine Evo2.va ok 5 _ _ ?_
 refine Evo2.va ok 6 _ _ ?_
 refine Evo2.done (by decide +kernel) (fun wz gz => ?_)
 have AZ := Chg.trans (Chg.refl (fun _ => False) _) (Chg.grow gz)
 have GZ := AZ.toGrow (fun _ _ => id)
 go_wp2_with fail
 go_ret2
 refine ⟨a1, c1', a2, c2, ?_, ?_, ?_, D2.out.2.2.trans GZ⟩
 ·
  rw [TK.out.1, TK.out.2, List.length_drop, List.length_take]; rfl
 ·
  rw [TK.out.1]; exact D2.out.1.chg AZ id
 ·
  rw [TK.out.2]; exact D2.out.2.1.chg AZ id
end Go.Proofs.YtnkekdmikopdgaaGreat

/- What event's pieces yields, what Cut tells. -/
namespace Go.Proofs.YtnkekdmikopdgaaGreat
set_option maxRecDepth 100000
set_option linter.unusedVariables false
set_option linter.unusedSimpArgs false
set_option linter.unnecessarySimpa false
open Go.RowKit
attribute [local go_sem] Oper.semAt_some

theorem own_book' {w w' : World} {base e sz n m : Nat} {v : Value} {xs : List Value} (ho : w.ownsRow base e sz v n xs) (h : Iter.Book m w w') : w'.ownsRow base e sz v n xs := by
 refine ⟨ho.1, ho.2.imp id ?_⟩
 rintro ⟨k, cap, cur, hv, hb, hh, rest⟩
 exact ⟨k, cap, cur, hv, hb, h.same k _ hh (.inl rfl), rest⟩
theorem own_cells' {w : World} {base e sz n k : Nat} {v : Value} {xs : List Value} {o : Obj} (ho : w.ownsRow base e sz v n xs) (hv : v.ownBlock = some k) (hk : w.heap[k]? = some o) : o.isCells = true := by
 rcases ho.2 with ⟨rfl, _⟩ | ⟨b, cap, cur, rfl, hb, hh, rest⟩
 ·
  cases hv
 ·
  have : b = k := Option.some.inj hv
  subst this
  rw [hh] at hk; cases hk; rfl
def sLen : Value → Nat
 | .slice _ n _ => n
 | _ => 0
def PieceOk (sb : Nat) (l : List Int) (pre : List Value) (x : Value) (W : World) : Prop := ∃ z a c, (cutE l)[pre.length]? = some z ∧ x = .slice a z.length c ∧ BySl W sb a c z
def KeepB (sb : Nat) (A B : World) : Prop := A.heap.size ≤ B.heap.size ∧ (sb < A.heap.size → B.heap[sb]? = A.heap[sb]?)
theorem KeepB.trans {sb : Nat} {A B C : World} (h : KeepB sb A B) (k : KeepB sb B C) : KeepB sb A C :=
 ⟨Nat.le_trans h.1 k.1, fun hs => (k.2 (Nat.lt_of_lt_of_le hs h.1)).trans (h.2 hs)⟩
theorem KeepB.book {sb n : Nat} {A B : World} (h : Iter.Book n A B) (hs : sb < n) : KeepB sb A B :=
 ⟨h.size, fun hl => by rw [h.same sb _ (Array.getElem?_eq_getElem hl) (.inr hs), Array.getElem?_eq_getElem hl]⟩
theorem BySl.same {W W' : World} {sb : Nat} {a : Option Addr} {c : Nat} {l : List Int} (h : BySl W sb a c l) (k : W'.heap[sb]? = W.heap[sb]?) : BySl W' sb a c l := by
 rcases h with h | ⟨off, h1, h2, h3⟩
 ·
  exact .inl h
 ·
  exact .inr ⟨off, h1, h2, fun i hi => (World.cell?_of_block (w := W) (w' := W') (a := ⟨sb, off + i, none⟩) k).trans (h3 i hi)⟩
theorem BySl.book {W W' : World} {sb n : Nat} {a : Option Addr} {c : Nat} {l : List Int} (h : BySl W sb a c l) (k : Iter.Book n W W') : BySl W' sb a c l := by
 rcases h with h | ⟨off, h1, h2, h3⟩
 ·
  exact .inl h
 ·
  exact .inr ⟨off, h1, h2, fun i hi => k.cell (h3 i hi)⟩
set_option maxHeartbeats 4000000 in
theorem pieces_seq (sb bb : Nat) (a : Option Addr) (c : Nat) (l : List Int) (w : World) (hk : Blk w bb #[.slice a l.length c] 41) (hs : BySl w sb a c l) (hsb : sb < w.heap.size) (hbt : Bts l) :
  Iter.Seq Tryz.prog 78 #[ptr bb] (fun v => #[v]) (PieceOk sb l) (KeepB sb) (fun xs => xs.length = (cutE l).length) w := by
 intro ln J Jx W hG hJ hJx hY h0
 have b0 := evcell (hk.grow hG) (i := 0) rfl
 have HS := Lib.hid (hs.book (Iter.Book.grow (n := 0) hG))
 have HJ := Lib.hid hJ
 have HY := Lib.hid hY
 have H0 := Lib.hid h0
 have HB := Lib.hid hbt
 have hsW : sb < W.heap.size := Nat.lt_of_lt_of_le hsb hG.size
 clear hk hs hG hJ hJx hY h0 hbt
 refine (callsIn_wide (n := 0)).1 ?_
 refine callsIn_of_wp Tryz.func78 rfl trivial ?_
 simp only [Tryz.ntmps78, List.size_toArray, List.length_cons, List.length_nil, Nat.reduceAdd, Nat.reduceSub, Array.replicate_succ, Array.replicate_zero, List.push_toArray, List.append_toArray, List.nil_append, List.cons_append]
 gi_wp2_with fail
 clear b0
 gi_loopw [3, 4] (fun left _ wr => ∃ (pre : List Value) (rest : List Int) (a : Option Addr) (c : Nat), left = .slice a rest.length c ∧ Hid ((∃ D : List (List Int), cutE l = D ++ cutE rest ∧ D.length = pre.length) ∧ BySl wr sb a c rest ∧ Bts rest ∧ sb < wr.heap.size ∧ J pre wr)) (fun left _ _ => sLen left)
 case atStart => exact ⟨[], l, a, c, rfl, Lib.hid ⟨⟨[], rfl, rfl⟩, HS.out, HB.out, hsW, H0.out⟩⟩
 case round =>
  obtain ⟨pre, rest, a1, c1, rfl, HI⟩ := hrel
  obtain ⟨⟨D, hD, hDl⟩, hbs, hbt, hsr, hj⟩ := HI.out
  match rest with
  | [] =>
   have HN := Lib.hid (And.intro hj (show pre.length = (cutE l).length by rw [hD, cutE_nil, List.append_nil, hDl]))
   clear hD hDl hbs hbt hsr hj HI
   gi_wp2_with fail
   go_end0
   exact ⟨⟨_, rfl⟩, .inl ⟨pre, HN.out.2, HN.out.1⟩⟩
  | [x] =>
   have PC := Lib.hid (piece_one sb a1 c1 x wr hbs)
   have hok : ∀ aa cc W1, BySl W1 sb aa cc [x] → PieceOk sb l pre (.slice aa 1 cc) W1 := fun aa cc W1 h => ⟨[x], aa, cc, by rw [hD, cutE_one, ← hDl]; simp, rfl, h⟩
   have HOK := Lib.hid hok
   have HN := Lib.hid (And.intro hj (And.intro hbt hsr))
   have HDD := Lib.hid (And.intro hD hDl)
   clear hD hDl hbs hbt hsr hj HI hok
   gi_wp2_with fail
   refine ⟨trivial, rfl, (callsIn_wide.2 PC.out).mono ?_⟩
   rintro e w2 ⟨a2, c2, a3, c3, rfl, p1, p2, hg⟩
   have J2 := HJ.out _ _ _ HN.out.1 hg
   obtain ⟨fn, tmps, assign, body, hy, hR⟩ := HY.out pre _ w2 J2 (HOK.out a2 c2 w2 p1)
   have HP := Lib.hid (And.intro p2 hg.size)
   clear p1 p2 hg J2 PC HOK
   gi_wp2_with fail
   refine ⟨rfl, hR.mono ?_⟩
   rintro e w3 (⟨rfl, hj3, hk3⟩ | ⟨rfl, hx3⟩)
   ·
    have HK := Lib.hid (And.intro hj3 hk3)
    clear hj3 hk3 hR hy
    gi_wp2_with fail
    go_roundw
    case rel =>
     have hs2 : sb < w2.heap.size := Nat.lt_of_lt_of_le HN.out.2.2 HP.out.2
     exact ⟨pre ++ [_], [], a3, c3, rfl, Lib.hid ⟨⟨D ++ [[x]], by rw [HDD.out.1]; simp [cutE_one, cutE_nil], by simp [HDD.out.2]⟩, HP.out.1.same (HK.out.2.2 hs2), Bts.nil, Nat.lt_of_lt_of_le hs2 HK.out.2.1, HK.out.1⟩⟩
    case measure => simp [sLen]
   ·
    have HX := Lib.hid hx3
    clear hx3 hR hy
    gi_wp2_with fail
    refine bodyPost_ret (results_none rfl _ _ _) rfl ?_
    exact ⟨⟨_, rfl⟩, .inr ⟨_, HX.out⟩⟩
  | x :: y :: r =>
   have PC := Lib.hid (piece_more sb a1 c1 x y r wr hbs hsr hbt)
   have hbr : Bts r := fun z hz => hbt z (by simp [hz])
   have hok : ∀ aa cc W1, BySl W1 sb aa cc (r.take (pieceN x y r)) → PieceOk sb l pre (.slice aa (r.take (pieceN x y r)).length cc) W1 := fun aa cc W1 h => ⟨_, aa, cc, by rw [hD, cutE_two, ← hDl]; simp, rfl, h⟩
   have HOK := Lib.hid hok
   have HN := Lib.hid (And.intro hj (And.intro hbt hsr))
   have HDD := Lib.hid (And.intro hD hDl)
   clear hD hDl hbs hbt hsr hj HI hok
   gi_wp2_with fail
   refine ⟨trivial, rfl, (callsIn_wide.2 PC.out).mono ?_⟩
   rintro e w2 ⟨a2, c2, a3, c3, rfl, p1, p2, hg⟩
   have J2 := HJ.out _ _ _ HN.out.1 hg
   obtain ⟨fn, tmps, assign, body, hy, hR⟩ := HY.out pre _ w2 J2 (HOK.out a2 c2 w2 p1)
   rw [List.length_take] at hy
   have HP := Lib.hid (And.intro p2 hg.size)
   clear p1 p2 hg J2 PC HOK
   gi_wp2_with fail
   refine ⟨rfl, hR.mono ?_⟩
   rintro e w3 (⟨rfl, hj3, hk3⟩ | ⟨rfl, hx3⟩)
   ·
    have HK := Lib.hid (And.intro hj3 hk3)
    clear hj3 hk3 hR hy
    gi_wp2_with fail
    go_roundw
    case rel =>
     have hs2 : sb < w2.heap.size := Nat.lt_of_lt_of_le HN.out.2.2 HP.out.2
     exact ⟨pre ++ [_], (r.drop (pieceN x y r)), a3, c3, (by rw [List.length_drop]), Lib.hid ⟨⟨D ++ [r.take (pieceN x y r)], by rw [HDD.out.1]; simp [cutE_two], by simp [HDD.out.2]⟩, HP.out.1.same (HK.out.2.2 hs2), (hbr.drop _), Nat.lt_of_lt_of_le hs2 HK.out.2.1, HK.out.1⟩⟩
    case measure => simp [sLen]; omega
   ·
    have HX := Lib.hid hx3
    clear hx3 hR hy
    gi_wp2_with fail
    refine bodyPost_ret (results_none rfl _ _ _) rfl ?_
    exact ⟨⟨_, rfl⟩, .inr ⟨_, HX.out⟩⟩
/-- Rows of bytes, each in memory of its own, in a row of slices of the call's own. -/
def PiecesAt (w : World) (base : Nat) (v : Value) (L : List (List Int)) : Prop :=
 ∃ vs : List Value, vs.length = L.length ∧ w.ownsRow base 41 1 v L.length vs ∧ ∀ i, i < L.length → OwnB w base (vs.getD i undef) (L.getD i [])
theorem own_types {w : World} {base base' e e' sz sz' n n' k : Nat} {v v' : Value} {xs xs' : List Value} (h : w.ownsRow base e sz v n xs) (h' : w.ownsRow base' e' sz' v' n' xs') (hne : e ≠ e') (hv : v.ownBlock = some k) : ¬ v'.ownBlock = some k := by
 rcases h.2 with ⟨rfl, _⟩ | ⟨b, cap, cur, rfl, hb, hh, _⟩
 ·
  cases hv
 ·
  rcases h'.2 with ⟨rfl, _⟩ | ⟨b', cap', cur', rfl, hb', hh', _⟩
  ·
   intro q; cases q
  ·
   intro q
   have e1 : b = k := Option.some.inj hv
   have e2 : b' = k := Option.some.inj q
   subst e1 e2
   rw [hh] at hh'
   cases hh'
   exact hne rfl
theorem own_blk_types {w : World} {base e sz n k : Nat} {v : Value} {xs : List Value} {cs : Array Value} {T : TypeId} (h : w.ownsRow base e sz v n xs) (hb : Blk w k cs T) (hne : e ≠ T) : ¬ v.ownBlock = some k := by
 rcases h.2 with ⟨rfl, _⟩ | ⟨b, cap, cur, rfl, _, hh, _⟩
 ·
  intro q; cases q
 ·
  intro q
  have e1 : b = k := Option.some.inj q
  subst e1
  unfold Blk at hb
  rw [hh] at hb
  cases hb
  exact hne rfl
theorem PiecesAt.book {w w' : World} {base n : Nat} {v : Value} {L : List (List Int)} (h : PiecesAt w base v L) (k : Iter.Book n w w') : PiecesAt w' base v L := by
 obtain ⟨vs, h1, h2, h3⟩ := h
 exact ⟨vs, h1, own_book' h2 k, fun i hi => own_book' (h3 i hi) k⟩
theorem piece_len {l : List Int} (n : Nat) (hn : l.length ≤ n) (h : Bts l) : ∀ z ∈ cutE l, z.length ≤ 65535 := by
 induction n generalizing l with
 | zero =>
  obtain rfl := List.eq_nil_of_length_eq_zero (Nat.le_zero.1 hn)
  rw [cutE_nil]; intro z hz; cases hz
 | succ n ih =>
  match l, hn, h with
  | [], _, _ => rw [cutE_nil]; intro z hz; cases hz
  | [y], _, _ => rw [cutE_one]; intro z hz; simp at hz; subst hz; simp
  | a :: b :: r, hn, h =>
   rw [cutE_two]
   intro z hz
   rcases List.mem_cons.1 hz with rfl | hz
   ·
    have ha := h a (by simp); have hb := h b (by simp)
    rw [List.length_take]; unfold pieceN; omega
   ·
    refine ih (l := r.drop (pieceN a b r)) (by simp at hn ⊢; omega) ?_ z hz
    exact fun y hy => h y (by simp [List.mem_of_mem_drop hy])
theorem clone_by (sb : Nat) (a : Option Addr) (c : Nat) (z : List Int) (w : World) (h : BySl w sb a c z) (hz : z.length ≤ 65535) :
  Calls Tryz.prog 51 #[.slice a z.length c] w fun e w' => ∃ v', e = .returned v' ∧ OwnB w' w.heap.size v' z ∧ Grow.G w w' := by
 rcases h with ⟨rfl, rfl, rfl⟩ | ⟨off, rfl, hc, hz2⟩
 ·
  refine (Tryz.bytes_Clone_nil 0 0 w).mono ?_
  rintro e w' ⟨rfl, rfl⟩
  exact ⟨_, rfl, ⟨rfl, .inl ⟨rfl, rfl⟩⟩, Grow.G.refl _⟩
 ·
  refine (Tryz.bytes_Clone_at ⟨sb, off, none⟩ z.length c z w rfl (by omega) (fun i hi => by rw [show (⟨sb, off, none⟩ : Addr).add i = ⟨sb, off + i, none⟩ from by unfold Addr.add; split <;> simp_all]; exact hz2 i hi)).mono ?_
  rintro e w' ⟨v', rfl, ho, _, hb⟩
  exact ⟨v', rfl, ho, hb⟩
theorem infoR : (Tryz.prog.info? 41).map (fun i => (i.zero, i.size, i.bytes)) = some (some (.slice none 0 0), 1, 24) := by kernel_rfl
theorem pieces_new (a : Option Addr) (n c : Nat) (w : World) : Calls Tryz.prog 50 #[.slice a n c] w fun e w' => ∃ b, e = .returned (.func (.func 78) #[] #[ptr b]) ∧ w.heap.size ≤ b ∧ Blk w' b #[.slice a n c] 41 ∧ Grow.G w w' := by
 go_enter Tryz.func50, Tryz.ntmps50
 go_wp2
 go_ret
 refine ⟨w.heap.size, rfl, Nat.le_refl _, Blk.new w _ _, ?_⟩
 (repeat (first | with_reducible exact Grow.G.refl _ | with_reducible exact Below.refl _ _ | with_reducible refine Grow.G.alloc ?_ _ | with_reducible refine Grow.G.trans ?_ hb1 | ((with_reducible refine Below.setCell ?_ ?_ _); rotate_left; (focus (first | omega | (simp; done) | (simp; omega)))) | with_reducible assumption | with_reducible refine Grow.G.trans ?_ (by with_reducible assumption)))

theorem PieceOk.book {sb : Nat} {l : List Int} {pre : List Value} {x : Value} {A B : World} {n : Nat} (h : PieceOk sb l pre x A) (k : Iter.Book n A B) : PieceOk sb l pre x B := by
 obtain ⟨z, a, c, h1, h2, h3⟩ := h
 exact ⟨z, a, c, h1, h2, h3.book k⟩
def CutI (w : World) (lb : Nat) (zs : List Int) (pre : List Value) (W : World) : Prop :=
 ∃ v, Blk W lb #[v] 47 ∧ PiecesAt W w.heap.size v ((cutE zs).take pre.length) ∧ pre.length ≤ (cutE zs).length ∧ Below w.heap.size w W
set_option maxHeartbeats 4000000 in
theorem ecut_any (sb : Nat) (a : Option Addr) (c : Nat) (zs : List Int) (w : World) (hs : BySl w sb a c zs) (hsb : sb < w.heap.size) (hbt : Bts zs) (hl : zs.length ≤ 100000) :
  Calls Tryz.prog 23 #[.slice a zs.length c] w fun e w' => ∃ v, e = .returned v ∧ PiecesAt w' w.heap.size v (cutE zs) ∧ Grow.G w w' := by
 have HS := Lib.hid hs
 have HBT := Lib.hid hbt
 have CL := cut_len _ zs (Nat.le_refl _)
 have PL := Lib.hid (piece_len _ (Nat.le_refl _) hbt)
 clear hs hbt
 refine (callsIn_wide (n := 0)).1 ?_
 refine callsIn_of_wp_marks Tryz.func23 rfl trivial ?_
 simp only [Tryz.ntmps23, List.size_toArray, List.length_cons, List.length_nil, Nat.reduceAdd, Nat.reduceSub, Array.replicate_succ, Array.replicate_zero, List.push_toArray, List.append_toArray, List.nil_append, List.cons_append]
 gi_wp2_with fail
 have G0 := Grow.G.alloc (Grow.G.refl w) (.cells #[.slice none 0 0] 47)
 have L0 := Blk.new w #[.slice none 0 0] 47
 refine ⟨trivial, rfl, (callsIn_wide.2 (pieces_new _ _ _ _)).mono ?_⟩
 rintro x w1 ⟨bb, rfl, hbb, hk, hg1⟩
 have GA := G0.trans hg1
 have L1 := L0.grow hg1
 have S1 := HS.out.book (Iter.Book.grow (n := 0) GA)
 have hw1 : w.heap.size < w1.heap.size := L1.lt
 clear G0 L0 hg1 hbb
 gi_wp2_with fail
 refine Iter.range (gf := 78) (lb := #[ptr bb]) (encs := fun v => #[v]) (Ok := PieceOk sb zs) (Kp := KeepB sb) (S := fun xs => xs.length = (cutE zs).length) rfl (enters_of Tryz.func78 (by kernel_rfl) rfl) (pieces_seq sb bb a c zs w1 hk S1 (by omega) HBT.out) (Grow.G.refl _) (fun _ => rfl) (fun s x A B h b => h.book b) KeepB.trans (fun h => KeepB.book h (by omega))
  (CutI w w.heap.size zs) (fun _ _ _ => False) ?hI (fun _ _ _ _ h _ => h) ?h0 ?round ?done (fun _ _ _ h => h.elim)
 case hI =>
  rintro s A B ⟨v, hv, hp, hn, hB⟩ hbk
  exact ⟨v, hv.book hbk, hp.book hbk, hn, hB.trans (hbk.below.mono (by have := hB.size; omega))⟩
 case h0 => exact ⟨_, L1, ⟨[], rfl, ⟨rfl, .inl ⟨rfl, rfl⟩⟩, fun i hi => absurd hi (by simp)⟩, Nat.zero_le _, GA⟩
 case round =>
  rintro l pre x W hl2 ⟨v, hv, hp, hn, hB⟩ ⟨z, ap, cp, hz, rfl, hbs⟩
  simp only [zip_one, List.setIfInBounds_toArray, List.set_cons_zero, List.set_cons_succ]
  gi_wp2_with fail
  refine ⟨Grow.G.refl _, fun W₂ hbk hok => ?_⟩
  have V2 := hv.book hbk
  have Q2 := hp.book hbk
  have S2 := hbs.book hbk
  have BW := hB.trans (hbk.below.mono (by have := hB.size; omega))
  have hi1 := (List.getElem?_eq_some_iff.1 hz).1
  obtain ⟨vs, hvs, ho, hel⟩ := Q2
  have tl : ((cutE zs).take pre.length).length = pre.length := by rw [List.length_take]; omega
  rw [tl] at hvs ho hel
  have NV : ¬ v.ownBlock = some w.heap.size := own_blk_types ho V2 (by decide)
  have zl := PL.out z (List.mem_of_getElem? hz)
  have KC := Lib.hid (fun (w' : World) (h : Chg (fun k => v.ownBlock = some k) W₂ w') => (⟨h.cell (evcell V2 (i := 0) rfl) NV, trivial⟩ : w'.cell? ⟨w.heap.size, 0, none⟩ = some v ∧ True))
  have CLN := Lib.hid (fun (w' : World) (h : Grow.G W₂ w') => clone_by sb ap cp z w' (S2.book (Iter.Book.grow (n := 0) h)) zl)
  obtain ⟨i0, hi, hz0, hz1, hz2⟩ := info_parts infoR
  have HI := Lib.hid hi; have HZ0 := Lib.hid hz0; have HZ1 := Lib.hid hz1; have HZ2 := Lib.hid hz2
  have HO : Hid (W₂.ownsRow w.heap.size 41 1 v pre.length vs) := Lib.hid ho
  have H := Lib.hid (And.intro V2 (And.intro hel (And.intro BW (And.intro hz (And.intro hvs NV)))))
  have sW2 := BW.size
  clear V2 S2 BW hbk hok hv hp hB hbs ho hel hvs NV hi hz0 hz1 hz2 zl
  gi_wp2_with fail
  refine Round.region (ℓ := some 5) (S := Chg (fun k => v.ownBlock = some k)) (E := Grow.G) (by kernel_rfl) (by decide +kernel) ⟨Chg.pre _, by decide +kernel, (by intro c a d v w h; cases d <;> exact h), by decide +kernel⟩ (fun ok => ?_)
  first | (refine Evo2.vl ok 0 KC.out (Chg.refl (fun k => v.ownBlock = some k) _) _ _ ?_) | (refine Evo2.va ok 0 _ _ ?_)
  refine Evo2.va ok 1 _ _ ?_
  refine Evo2.all [2] (by decide +kernel) rfl ?_
  intro wp1 gp1 iq hq
  simp only [List.mem_cons, List.mem_nil_iff, or_false] at hq
  have AP1 := Chg.trans (Chg.refl (fun k => v.ownBlock = some k) _) (Chg.grow gp1)
  subst hq
  refine Evo2.enters 51 _ (by rfl) (by rfl) (by go_simp; exact ⟨rfl, rfl⟩) ?_
  refine (CLN.out _ gp1).mono ?_
  rintro e wc1 ⟨v1, rfl, O1, g1⟩; obtain ⟨sa1, ca1, rfl⟩ := own_shape O1; have CH1 := Chg.grow (G := fun k => v.ownBlock = some k) g1
  refine ⟨_, rfl, .inr CH1, ?_⟩
  have AC1 := Chg.trans AP1 CH1
  simp only [Act.put, L0, L1, L2]
  refine Evo2.all [3] (by decide +kernel) rfl ?_
  intro wp2 gp2 iq hq
  simp only [List.mem_cons, List.mem_nil_iff, or_false] at hq
  have AP2 := Chg.trans AC1 (Chg.grow gp2)
  subst hq
  refine Evo2.runs (by rfl) (by rfl) (fun K' hK' => ?_)
  (try obtain ⟨q1, q2⟩ := KC.out wp2 AP2)
  go_simp
  (try (simp only [Evo.after_value, Evo.after_skip]))
  refine hK'.out _ _ ?_
  clear hK'
  simp only [Act.put, L0, L1, L2]
  (try clear q1 q2)
  refine ⟨.inr (Chg.alloc (Chg.refl _ _) _), ?_⟩
  generalize hG2 : World.alloc wp2 _ = wg2
  have GG2 : Grow.G wp2 wg2 := hG2 ▸ Grow.G.alloc (Grow.G.refl _) _
  have NC2 := (congrArg (fun W : World => W.heap[wp2.heap.size]?) hG2).symm.trans (MapKept.heap_alloc wp2 _).1
  have NL2 : wp2.heap.size < wg2.heap.size := by rw [← hG2]; simp
  clear hG2
  refine Evo2.all [4] (by decide +kernel) rfl ?_
  intro wp3 gp3 iq hq
  simp only [List.mem_cons, List.mem_nil_iff, or_false] at hq
  have AP3 := Chg.trans (Chg.trans AP2 (Chg.grow GG2)) (Chg.grow gp3)
  have NC2 := (gp3.block _ NL2).trans NC2
  have NL2 := Nat.lt_of_lt_of_le NL2 gp3.size
  subst hq
  refine Fr.own_fr (by rfl) (by rfl) (Operand.tmp 8) (Operand.tmp 11) 47 (by rfl) w.heap.size 41 i0 (.slice none 0 0) 1 24 Tryz.underlying47 HI.out HZ0.out HZ1.out HZ2.out rfl (by decide) _ _ _ (by rfl) (own_later HO.out ?_) _ 1 1 [.slice sa1 z.length ca1] (by rfl) rfl (news_blk NC2) ?_ ?_ ?_ ?_ ?_ 
  ·
   exact ((gp1.trans g1).trans gp2).trans (GG2.trans gp3) 
  ·
   exact one1 rfl 
  ·
   unfold maxLen; omega 
  ·
   omega 
  ·
   have := AP3.size; omega
  intro vw3 wc3 OW3 fr3
  obtain ⟨g9, c9, rfl, hg9⟩ := own_some OW3 (by omega); have CH3 : Chg (fun k => v.ownBlock = some k) _ _ := Chg.ofFr fr3
  refine ⟨.inr CH3, ?_⟩
  have AC3 := Chg.trans AP3 CH3
  simp only [Act.put, L0, L1, L2]
  refine Evo2.all [5] (by decide +kernel) rfl ?_
  intro wp4 gp4 iq hq
  simp only [List.mem_cons, List.mem_nil_iff, or_false] at hq
  have AP4 := Chg.trans AC3 (Chg.grow gp4)
  subst hq
  refine Evo2.runs (by rfl) (by rfl) (fun K' hK' => ?_)
  (try obtain ⟨q1, q2⟩ := KC.out wp4 AP4)
  have BQ := H.out.1.chg AP4 H.out.2.2.2.2.2; have gl := BQ.lt; have e0 := evcell BQ (i := 0) rfl; have f0 := BQ.free 0; clear BQ
  go_simp
  (try (simp only [Evo.after_value, Evo.after_skip]))
  refine hK'.out _ _ ?_
  clear hK'
  simp only [Act.put, L0, L1, L2]
  (try clear gl e0 f0)
  (try clear q1 q2)
  refine ⟨.inl (by first | rfl | trivial), ?_⟩
  refine Evo2.done (by decide +kernel) (fun wz gz => ?_)
  obtain ⟨V2, hel, BW, hzz, hvs, NV⟩ := H.out
  have V4 := V2.chg AP4 NV
  have CS : Chg (fun k => k = w.heap.size) wp4 (wp4.setCell ⟨w.heap.size, 0, none⟩ (.slice (some ⟨g9, 0, none⟩) (pre.length + 1) c9)) := Chg.setCell (G := fun k => k = w.heap.size) (Chg.refl _ _) (fun _ => rfl) _ _
  have VZ := (V4.set 0 (.slice (some ⟨g9, 0, none⟩) (pre.length + 1) c9)).grow gz
  have RW4 := own_later OW3 gp4
  have RZ := own_later (CS.own RW4 (fun k hk q => by have q : k = w.heap.size := q; subst q; exact own_blk_types RW4 V4 (by decide) hk)) gz
  have PZ : ∀ u y, OwnB wp4 w.heap.size u y → OwnB wz w.heap.size u y := fun u y h => own_later (CS.own h (fun k hk q => by have q : k = w.heap.size := q; subst q; exact own_blk_types h V4 (by decide) hk)) gz
  have P1 : OwnB wp4 w.heap.size (.slice sa1 z.length ca1) z := by
   have h3 := own_later O1 (gp2.trans (GG2.trans gp3))
   have r3 : wp3.ownsRow w.heap.size 41 1 v pre.length vs := own_later HO.out (((gp1.trans g1).trans gp2).trans (GG2.trans gp3))
   have h4 := (Chg.ofFr fr3).own h3 (fun k hk q => own_types h3 r3 (by decide) hk q)
   exact own_base (own_later h4 gp4) (by have := gp1.size; omega)
  have PO : ∀ i, i < pre.length → OwnB wp4 w.heap.size (vs.getD i undef) (((cutE zs).take pre.length).getD i []) := fun i hi => AP4.own (hel i hi) (fun k hk q => own_types (hel i hi) HO.out (by decide) hk q)
  have hrow : ∀ k, v.ownBlock = some k → w.heap.size ≤ k := fun k hk => (HO.out.lt k hk).1
  have RT : Iter.Rest w1.heap.size W₂ wz := (AP4.rest (fun k _ q o ho => own_cells' HO.out q ho)).trans ((Iter.Rest.setCell _ _ _).trans (Iter.Rest.grow gz))
  have BZ := (BW.trans (AP4.below BW.size (fun k hk q => by have := hrow k q; omega))).trans ((CS.below (B := w.heap.size) (by have := AP4.size; omega) (fun k hk q => by have q : k = w.heap.size := q; omega)).trans (Below.mono gz (by have := AP4.size; have := CS.size; omega)))
  have KZ : KeepB sb W₂ wz := ⟨by have := AP4.size; have := CS.size; have := gz.size; omega, fun hs => by
   rw [gz.block sb (by have := AP4.size; have := CS.size; omega), CS.block sb (by have := AP4.size; omega) (fun q => by have q : sb = w.heap.size := q; omega), AP4.block sb hs (fun q => by have := hrow sb q; omega)]⟩
  have RES := Lib.hid (And.intro VZ (And.intro RZ (And.intro RT (And.intro BZ KZ))))
  have HPZ := Lib.hid (And.intro (PZ _ _ P1) (fun i hi => PZ _ _ (PO i hi)))
  clear VZ RZ RT BZ KZ PZ P1 PO hrow RW4 CS V4 V2 hel BW hzz NV gz gp1 gp2 gp3 gp4 g1 GG2 AP1 AP2 AP3 AP4 AC1 AC3 CH1 CH3 O1 OW3 fr3 NC2 NL2 ok
  dsimp only [Round.Calm]
  gi_wp2_with fail
  refine ⟨RES.out.2.2.1, RES.out.2.2.2.2, ⟨_, RES.out.1, ?_, by rw [List.length_append, List.length_singleton]; omega, RES.out.2.2.2.1⟩⟩
  have TS : (cutE zs).take (pre ++ [Value.slice ap z.length cp]).length = (cutE zs).take pre.length ++ [z] := by
   rw [List.length_append, List.length_singleton, List.take_add_one, hz]; rfl
  rw [TS]
  refine ⟨vs ++ [.slice sa1 z.length ca1], by simp [hvs, tl], ?_, fun i hi => ?_⟩
  ·
   rw [List.length_append, List.length_singleton, tl]; exact RES.out.2.1
  ·
   rw [List.length_append, List.length_singleton, tl] at hi
   by_cases ei : i = pre.length
   ·
    subst ei
    have h1 : (vs ++ [Value.slice sa1 z.length ca1]).getD pre.length undef = .slice sa1 z.length ca1 := by rw [← hvs]; simp [List.getD]
    have h2 : ((cutE zs).take pre.length ++ [z]).getD pre.length [] = z := by
     conv => lhs; rw [show pre.length = ((cutE zs).take pre.length).length from tl.symm]
     simp [List.getD]
    rw [h1, h2]; exact HPZ.out.1
   ·
    have h1 : (vs ++ [Value.slice sa1 z.length ca1]).getD i undef = vs.getD i undef := by simp [List.getD, List.getElem?_append_left (show i < vs.length by omega)]
    have h2 : ((cutE zs).take pre.length ++ [z]).getD i [] = ((cutE zs).take pre.length).getD i [] := by simp only [List.getD]; rw [List.getElem?_append_left (by rw [tl]; omega)]
    rw [h1, h2]; exact HPZ.out.2 i (by omega)
 case done =>
  rintro xs W hS ⟨v, hv, hp, hn, hB⟩ hD
  replace hS : xs.length = (cutE zs).length := hS
  rw [hS, List.take_length] at hp
  have v0 := evcell hv (i := 0) rfl
  have HP := Lib.hid hp
  have HB := Lib.hid hB
  have HDD := Lib.hid hD
  clear hp hB hv hD hS
  gi_wp2_with fail
  have sW := HB.out.size
  refine ⟨by simp, .inl ⟨_, _, rfl, run_takeDeferred HDD.out, ?_⟩⟩
  have BK : Iter.Book w.heap.size W (W.putObj w1.heap.size (.deferred none)) := Iter.Book.putObj _ HDD.out rfl (by omega)
  exact ⟨v, by simp [results, Tryz.results23, go_sem], v, rfl, HP.out.book BK, HB.out.trans (BK.below.mono (by omega))⟩
end Go.Proofs.YtnkekdmikopdgaaGreat
