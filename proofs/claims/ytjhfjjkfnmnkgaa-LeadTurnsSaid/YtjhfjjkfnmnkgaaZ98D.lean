/- My own texts LrU, LrL, laid in one file. -/
import Derived.Test.YtjhfjjkfnmnkgaaZ98C
import Derived.Test.YtjhfjjkfnmnkgaaZ52
import Derived.Test.YtjhfjjkfnmnkgaaZ91
import Derived.Test.YtjhfjjkfnmnkgaaZ29
import Derived.Test.YtjhfjjkfnmnkgaaZ98A

/- The second form's roller: Turn. -/
namespace Go.Proofs.Ytjhfjjkfnmnkgaa
set_option maxRecDepth 100000
set_option linter.unusedVariables false
set_option linter.unusedSimpArgs false
set_option linter.unnecessarySimpa false
open Go.RowKit Go.Args

theorem ShR.sl {w : World} {a : Option Addr} {c : Nat} {l : List Shr} (h : ShR w (.slice a l.length c) l) : ShSl w a l := SlOf.own (fun _ => rfl) h
/-- What a turn is given. -/
structure TurnIn (w : World) (a : Option Addr) (sh : List Shr) (b : Option Addr) (tg : List Tgo) : Prop where
  a : Fr.Src w a (sh.flatMap Shr.cells)
  b : Fr.Src w b (tg.flatMap Tgo.cells)
  sd : Sd sh
  tl : tg.length ≤ 1000
section
variable {w w0 : World} {L : List MBox} {B D : Hp} {F : Nat → Prop} {g : Nat} {v : Value} {l : List Wa} {p q : List WM} {m m' : WM} {vs vb : Value}
/-- A way taken out: its block, its rows, the rest. -/
theorem hold_way (h : Hold w0 w L (Sep (RolS g v (p ++ m :: q)) B)) : Hold w0 w L (Sep (BlkF m.p m.cells wayT13) (Sep (WrF m) (Sep (RolR g v p m q) B))) :=
  h.map fun F h => Sep.assoc (Sep.assoc (h.over fun F h => RolS.out13 h))|> fun h => h
theorem hold_way' (h : Hold w0 w L (Sep (BlkF m'.p m'.cells wayT13) (Sep (WrF m') (Sep (RolR g v p m q) B)))) (hp : m'.p = m.p) : Hold w0 w L (Sep (RolS g v (p ++ m' :: q)) B) :=
  h.map fun F h => (Sep.assoc' (Sep.assoc' h)).over fun F h => RolS.inn13 h hp
/-- Old rows and new ones are a way's. -/
theorem rows_keep {k1 k2 : Nat} {z1 z2 : List Value} (h : Sep (RowF 0 shareT13 2 vs k1 z1) (Sep (RowF 0 tagT13 2 vb k2 z2) (Sep (WrF m) D)) w F) (hf : m'.f = m.f) (ht : m'.t = m.t) (hs : m'.s = vs) (hg : m'.g = vb) (ef : m'.x.fr = m.x.fr) (et : m'.x.to = m.x.to)
    (es : k1 = m'.x.sh.length ∧ z1 = m'.x.sh.flatMap Shr.cells) (eg : k2 = m'.x.tg.length ∧ z2 = m'.x.tg.flatMap Tgo.cells) : ∃ F', Sep (WrF m') D w F' ∧ ∀ k, F' k → F k := by
  obtain ⟨F1, F2, ⟨o1, e1⟩, ⟨F3, F4, ⟨o2, e2⟩, ⟨F5, F6, ⟨⟨r1, r2, r3, r4⟩, e3⟩, hD, ap3, c3⟩, ap2, c2⟩, ap1, c1⟩ := h
  obtain ⟨rfl, rfl⟩ := es
  obtain ⟨rfl, rfl⟩ := eg
  refine ⟨fun k => WrK m' k ∨ F6 k, ⟨WrK m', F6, ⟨⟨by rw [hf, ef]; exact r1, by rw [ht, et]; exact r2, by rw [hs]; exact o1, by rw [hg]; exact o2⟩, fun k => Iff.rfl⟩, hD, ?_, fun k => Iff.rfl⟩, ?_⟩
  · intro k hk h6
    have h4 : F4 k := (c3 k).2 (.inr h6)
    have h2 : F2 k := (c2 k).2 (.inr h4)
    rcases hk with q | q | q | q
    · exact ap3 k ((e3 k).2 (.inl (hf ▸ q))) h6
    · exact ap3 k ((e3 k).2 (.inr (.inl (ht ▸ q)))) h6
    · exact ap1 k ((e1 k).2 (hs ▸ q)) h2
    · exact ap2 k ((e2 k).2 (hg ▸ q)) h4
  · rintro k ((q | q | q | q) | q)
    · exact (c1 k).2 (.inr ((c2 k).2 (.inr ((c3 k).2 (.inl ((e3 k).2 (.inl (hf ▸ q))))))))
    · exact (c1 k).2 (.inr ((c2 k).2 (.inr ((c3 k).2 (.inl ((e3 k).2 (.inr (.inl (ht ▸ q)))))))))
    · exact (c1 k).2 (.inl ((e1 k).2 (hs ▸ q)))
    · exact (c1 k).2 (.inr ((c2 k).2 (.inl ((e2 k).2 (hg ▸ q)))))
    · exact (c1 k).2 (.inr ((c2 k).2 (.inr ((c3 k).2 (.inr q)))))
end
theorem turnW_mid {p q : List Wa} {x : Wa} {s : ByteArray} {sh : List Shr} {tg : List Tgo} {now wh : Int} (ok : WaOk (p ++ x :: q)) (hx : x.nm = s) : turnW (p ++ x :: q) s sh tg now wh = p ++ stepW (some x) s sh tg now wh :: q := by
  have hno : ∀ y, y ∈ p ∨ y ∈ q → y.nm ≠ s := by
    intro y hy e
    unfold WaOk at ok
    rw [List.pairwise_append, List.pairwise_cons] at ok
    rcases hy with hy | hy
    · exact ok.2.2 y hy x List.mem_cons_self (e.trans hx.symm)
    · exact ok.2.1.1 y hy (hx.trans e.symm)
  have hf : findW (p ++ x :: q) s = some x := by
    unfold findW
    rw [List.find?_append, List.find?_eq_none.2 (fun y hy => by simpa using hno y (.inl hy)), Option.none_or, List.find?_cons_of_pos (by exact decide_eq_true hx)]
  unfold turnW
  rw [hf]
  dsimp only
  rw [List.map_append, List.map_cons, if_pos hx]
  congr 1
  · conv => rhs; rw [← List.map_id p]
    exact List.map_congr_left fun y hy => if_neg (hno y (.inl hy))
  · congr 1
    conv => rhs; rw [← List.map_id q]
    exact List.map_congr_left fun y hy => if_neg (hno y (.inr hy))
/-- Two new rows and a new block beside a way, then a store into the way's block. -/
theorem hold_two {w0 w w1 w' : World} {L : List MBox} {D : Hp} {mp r b1 b2 k1 k2 : Nat} {cs cs' rs : List Value} {T U : TypeId} {m m' : WM} {vs vb : Value} {z1 z2 : List Value}
    (h : Hold w0 w L (Sep (BlkF mp cs T) (Sep (WrF m) D))) (hD : Foot D) (g : Grow.G w w1) (hr : Blk w1 r rs.toArray U) (hrl : w.heap.size ≤ r ∧ r < b2) (o2 : w1.ownsRow b2 tagT13 2 vb k2 z2) (hlt : ∀ k, vb.ownBlock = some k → k < b1) (hb12 : b2 ≤ b1)
    (o1 : w1.ownsRow b1 shareT13 2 vs k1 z1) (c : Chg (fun k => k = mp) w1 w') (hb : Blk w' mp cs'.toArray T)
    (hf : m'.f = m.f) (ht : m'.t = m.t) (hs : m'.s = vs) (hg : m'.g = vb) (ef : m'.x.fr = m.x.fr) (et : m'.x.to = m.x.to)
    (es : k1 = m'.x.sh.length ∧ z1 = m'.x.sh.flatMap Shr.cells) (eg : k2 = m'.x.tg.length ∧ z2 = m'.x.tg.flatMap Tgo.cells) : Hold w0 w' L (Sep (BlkF mp cs' T) (Sep (BlkF r rs U) (Sep (WrF m') D))) := by
  have FR : Foot (Sep (WrF m) D) := (WrF.foot m).sep hD
  have FC : Foot (Sep (BlkF r rs U) (Sep (RowF 0 shareT13 2 vs k1 z1) (RowF 0 tagT13 2 vb k2 z2))) := (BlkF.foot _ _ _).sep ((RowF.foot _ _ _ _ _ _).sep (RowF.foot _ _ _ _ _ _))
  have H2 : Hold w0 w1 L (Sep (BlkF mp cs T) (Sep (Sep (BlkF r rs U) (Sep (RowF 0 shareT13 2 vs k1 z1) (RowF 0 tagT13 2 vb k2 z2))) (Sep (WrF m) D))) :=
    h.beside2 (BlkF.foot _ _ _) FR g (F₁ := fun k => k = r ∨ (vs.ownBlock = some k ∨ vb.ownBlock = some k))
      ⟨fun k => k = r, fun k => vs.ownBlock = some k ∨ vb.ownBlock = some k, ⟨hr, fun k => Iff.rfl⟩, ⟨fun k => vs.ownBlock = some k, fun k => vb.ownBlock = some k, ⟨own_base o1 (Nat.zero_le _), fun k => Iff.rfl⟩, ⟨own_base o2 (Nat.zero_le _), fun k => Iff.rfl⟩,
        fun k q1 q2 => by have := hlt k q2; have := (o1.lt k q1).1; omega, fun k => Iff.rfl⟩,
        fun k q1 q2 => by
          have q1 : k = r := q1
          rcases q2 with q2 | q2
          · have := (o1.lt k q2).1; omega
          · have := (o2.lt k q2).1; omega, fun k => Iff.rfl⟩
      (fun k hk => by
        rcases hk with hk | hk | hk
        · have hk : k = r := hk
          omega
        · have := (o1.lt k hk).1; omega
        · have := (o2.lt k hk).1; omega)
  have H3 := H2.step (Sep.stepL (A' := BlkF mp cs' T) (FC.sep FR) (fun F hF => ⟨F, ⟨hb, hF.2⟩, c.sub (fun k hk => (hF.2 k).2 hk), Fresh.refl _ _⟩))
  exact H3.weak fun F h => h.weakR fun F h => (Sep.assoc h).weakR fun F h => rows_keep (Sep.assoc h) hf ht hs hg ef et es eg
/-- A table by itself: two rows. -/
def TabF (sh : List Shr) (tg : List Tgo) (va vb : Value) : Hp := Sep (RowF 0 shareT13 2 va sh.length (sh.flatMap Shr.cells)) (RowF 0 tagT13 2 vb tg.length (tg.flatMap Tgo.cells))
theorem TabF.foot (sh : List Shr) (tg : List Tgo) (va vb : Value) : Foot (TabF sh tg va vb) := (RowF.foot _ _ _ _ _ _).sep (RowF.foot _ _ _ _ _ _)
theorem hold_tab {w0 w w' : World} {L : List MBox} {A B : Hp} {sh : List Shr} {tg : List Tgo} {va vb : Value} (h : Hold w0 w L (Sep A B)) (hA : Foot A) (hB : Foot B) (hc : CopyT w w' sh tg va vb) : Hold w0 w' L (Sep A (Sep (TabF sh tg va vb) B)) :=
  h.beside2 hA hB hc.2.2.2 (F₁ := fun k => va.ownBlock = some k ∨ vb.ownBlock = some k)
    ⟨fun k => va.ownBlock = some k, fun k => vb.ownBlock = some k, ⟨own_base hc.1 (Nat.zero_le _), fun k => Iff.rfl⟩, ⟨own_base hc.2.1 (Nat.zero_le _), fun k => Iff.rfl⟩, fun k q1 q2 => hc.2.2.1 k q1 q2, fun k => Iff.rfl⟩
    (fun k hk => hk.elim (fun q => (hc.1.lt k q).1) (fun q => (hc.2.1.lt k q).1))
theorem hold_last {w0 w : World} {L : List MBox} {A B C D E : Hp} (h : Hold w0 w L (Sep A (Sep B (Sep C (Sep D E))))) : Hold w0 w L (Sep B (Sep C (Sep D (Sep A E)))) :=
  h.rot.map fun F h => h.under fun F h => h.rot.under fun F h => h.rot
set_option maxHeartbeats 16000000 in
theorem hold_rolturn_keep {w0 w : World} {L : List MBox} {B : Hp} {g : Nat} {l : List Wa} {x : Wa} (h : Hold w0 w L (Sep (RolP g l) B)) (hB : Foot B) (s : ByteArray) (a : Option Addr) (sh : List Shr) (c : Nat) (b : Option Addr) (tg : List Tgo) (d : Nat) (now wh : Int)
    (hl : l.length ≤ 1000) (hz : ∀ x, x ∈ l → WSd x) (hin : TurnIn w a sh b tg) (hn : 0 ≤ now ∧ now ≤ 1000000) (hw : 0 ≤ wh ∧ wh ≤ 1000000) (hs : ∀ x, x ∈ l → 0 ≤ x.si ∧ x.si ≤ 1000000) (h1 : findW l s = some x) (hk : keepsW x sh wh = true) :
    Calls Try.prog 19 #[pz g, .string s, .agg #[.slice a sh.length c, .slice b tg.length d], .int .i64 now, .int .i64 wh] w fun e w' => ∃ va vb, e = .returned (.agg #[va, vb]) ∧ Hold w0 w' L (Sep (RolP g (turnW l s sh tg now wh)) (Sep (TabF (oldW x tg now).sh tg va vb) B)) := by
  obtain ⟨v, lm, e1, ok, HS⟩ := hold_rolopen h
  obtain ⟨F, hS⟩ := hold_rolS HS
  have FD := Lib.hid (fun w' (q : Grow.G w w') => rolfind_any g v lm s w' F (hS.grow q) (by rw [← e1, List.length_map] at hl; exact hl))
  have hmap := findM13_map lm s
  rw [e1, h1] at hmap
  obtain ⟨m, hm, rfl⟩ : ∃ m, findM13 lm s = some m ∧ m.x = x := by cases q : findM13 lm s with
    | none => rw [q] at hmap; cases hmap
    | some m => rw [q] at hmap; exact ⟨m, rfl, Option.some.inj hmap⟩
  rw [hm] at FD
  dsimp only [ptrW] at FD
  have hxl : m.x ∈ l := (findW_mem h1).1
  have hxn : m.x.nm = s := (findW_mem h1).2
  obtain ⟨i, hi⟩ := List.getElem?_of_mem (List.mem_of_find?_eq_some hm)
  have hin' := hS.ob hi
  obtain ⟨p, q, rfl, _⟩ := findM13_split hm
  have hsd := hz m.x hxl
  have hsi := hs m.x hxl
  obtain ⟨ewh, eto⟩ := keepsW_iff.1 hk
  have HT : Hid (turnW l s sh tg now wh = p.map WM.x ++ oldW m.x tg now :: q.map WM.x) := Lib.hid (by
    rw [← e1, List.map_append, List.map_cons, turnW_mid (by rw [← e1, List.map_append, List.map_cons] at ok; exact ok) hxn, ← ewh, ← eto, stepW_on])
  have HO := Lib.hid (ok.turn s sh tg now wh)
  have H1 := Lib.hid (hold_way HS)
  obtain ⟨mx, mp, mf, mt, ms, mg⟩ := m
  dsimp only at *
  have r1 : ShR w mf mx.fr := hin'.f
  have r2 : ShR w mt mx.to := hin'.t
  obtain ⟨fa, fc, rfl⟩ := own_shape r1
  obtain ⟨ta, tc, rfl⟩ := own_shape r2
  have hb := hin'.hb
  have BP := Lib.hid hb
  have hpl := hb.lt
  have SF := Lib.hid (ShR.sl r1)
  have ST := Lib.hid (ShR.sl r2)
  have CP := Lib.hid (fun w' (q : Grow.G w w') => rcopy_any a sh c b tg d w' (hin.a.grow q) (hin.b.grow q) (by have := sd_len hin.sd; omega) hin.tl)
  have FB := Lib.hid hB
  have sm1 := hsd.f.small
  have sm2 := hsd.t.small
  have hts : mx.to.length ≤ 1000 := sm2.1
  have hTS := Lib.hid (show sameShr mx.to sh = true from (sameL_iff shrB_iff).2 eto)
  have hgl := hS.hb.lt
  unfold WM.cells at BP H1
  dsimp only at BP H1
  have K1 := Lib.hid (fun w' (q : Grow.G w w') => BP.out.grow q)
  have RR := Lib.hid (fun w' (q : Grow.G w w') => rroll_any fa mx.fr fc ta mx.to tc (now - mx.si) wh w' sm1 sm2 (by omega) (by omega) (SlOf.later SF.out q) (SlOf.later ST.out q))
  have SS := Lib.hid (fun w' (q : Grow.G w w') (xa : Option Addr) (xc : Nat) (hx : ShSl w' xa sh) => rshares_same ta xa mx.to sh tc xc w' (by omega) (SlOf.later ST.out q) hx)
  rw [hTS.out] at SS
  have ewh' : (mx.wh != wh) = false := by rw [ewh]; simp
  have hsb : IntKind.i64.wrap (now - mx.si) = now - mx.si := IntWalk.i64_in _ ⟨by omega, by omega⟩
  have CT : (Try.prog.info? tablT13).map (·.size) = some 2 := by kernel_rfl
  have HRL := Lib.hid (show (rollL mx.fr mx.to (now - mx.si) wh).length ≤ 1000 by have q : Sd (rollL mx.fr mx.to (now - mx.si) wh) := roll_sd' hsd.f hsd.t; have := sd_len q; omega)
  have HTL := Lib.hid hin.tl
  have HKW := Lib.hid (And.intro ewh eto)
  clear hin' hS HS h hmap hm h1 hi hsd hin hk ok hz hs r1 r2 hb e1 ewh eto hTS sm1 sm2 hxl
  go_enter Try.func19, Try.ntmps19
  go_wp2_with fail
  refine (CP.out _ (Grow.G.alloc (Grow.G.alloc (Grow.G.refl _) _) _)).mono ?_
  rintro e w1 ⟨va, vb, rfl, hc⟩
  obtain ⟨xa, xc, rfl⟩ := own_shape hc.1
  obtain ⟨ya, yc, rfl⟩ := own_shape hc.2.1
  have HM : Hid (Mem w w1 [(w.heap.size, [.slice a sh.length c, .slice b tg.length d], tablT13), (w.heap.size + 1, [.slice none 0 0, .slice none 0 0], tablT13)]) := Lib.hid ((Mem.alloc' (Mem.alloc' (Mem.nil w) _ _ rfl) _ _ (g := w.heap.size + 1) (by simp)).grow hc.2.2.2)
  have hz2 : ((w.alloc (.cells #[.slice a sh.length c, .slice b tg.length d] tablT13)).alloc (.cells #[.slice none 0 0, .slice none 0 0] tablT13)).heap.size = w.heap.size + 2 := by simp
  have HC := Lib.hid hc
  unfold CopyT at HC
  rw [hz2] at HC
  clear hc hz2 CP
  go_wp2_with ((refine Mem.storeAll 0 (t := 40) rfl rfl rfl rfl (n := 2) (by kernel_rfl) HM.out rfl rfl rfl rfl ?_; intro W2 HMm CW2))
  simp only [K0, K1, L1, L2, K2, K3, K4, K5, K6, K7, Nat.reduceAdd, Nat.reduceSub] at HMm
  replace HM := Lib.hid HMm
  clear HMm
  refine Stay.go ?_
  have OA := Lib.hid (CW2.own HC.out.1 (fun k hk q => by have := (HC.out.1.lt k hk).1; have q : k = w.heap.size := q; omega))
  have OB := Lib.hid (CW2.own HC.out.2.1 (fun k hk q => by have := (HC.out.2.1.lt k hk).1; have q : k = w.heap.size := q; omega))
  clear CW2 HC
  have c4 := (K1.out W2 HM.out.below)
  go_wp2_with fail
  refine (FD.out _ HM.out.below).mono ?_
  rintro e w3 ⟨rfl, rfl⟩
  have KC := Lib.hid (fun (w' : World) (h : Chg (fun _ => False) W2 w') => (have q := (K1.out W2 HM.out.below).chg h id; ⟨Blk.at q (k := 4) rfl, Blk.at q (k := 2) rfl, h.cell (HM.out.cell (i := 0) (o := 0) rfl rfl) id, trivial⟩ : w'.cell? ⟨mp, 4, none⟩ = some (.int .i64 mx.wh) ∧ w'.cell? ⟨mp, 2, none⟩ = some (.slice ta mx.to.length tc) ∧ w'.cell? ⟨w.heap.size, 0, none⟩ = some (.slice xa sh.length xc) ∧ True))
  have S2 := Lib.hid (fun w' (q : Grow.G W2 w') => SS.out w' (Grow.G.trans HM.out.below q) xa xc (ShR.sl (show ShR w' (.slice xa sh.length xc) sh from own_base (own_later OA.out q) (Nat.zero_le _))))
  clear c4
  go_wp2_with fail
  refine Evo2.start' (ℓ := none) (S := Chg (fun _ => False)) (E := Grow.G) (by kernel_rfl) ⟨Chg.pre _, by decide +kernel, (by intro c a d v w h; cases d <;> exact h), by decide +kernel⟩ (fun ok => ?_)
  refine Evo2.va ok 0 _ _ ?_
  refine Evo2.va ok 1 _ _ ?_
  refine Evo2.va ok 2 _ _ ?_
  first | (refine Evo2.vl ok 3 KC.out (Chg.refl (fun _ => False) _) _ _ ?_) | (refine Evo2.va ok 3 _ _ ?_)
  refine Evo2.va ok 4 _ _ ?_
  refine Evo2.va ok 5 _ _ ?_
  refine Evo2.va ok 6 _ _ ?_
  first | (refine Evo2.va ok 7 _ _ ?_) | (refine Evo2.vi ok 7 _ ?_)
  first | (refine Evo2.va ok 8 _ _ ?_) | (refine Evo2.vi ok 8 _ ?_)
  first | (refine Evo2.va ok 9 _ _ ?_) | (refine Evo2.vi ok 9 _ ?_)
  first | (refine Evo2.vl ok 10 KC.out (Chg.refl (fun _ => False) _) _ _ ?_) | (refine Evo2.va ok 10 _ _ ?_) | (refine Evo2.vi ok 10 _ ?_)
  first | (refine Evo2.va ok 11 _ _ ?_) | (refine Evo2.vi ok 11 _ ?_)
  first | (refine Evo2.vl ok 12 KC.out (Chg.refl (fun _ => False) _) _ _ ?_) | (refine Evo2.va ok 12 _ _ ?_) | (refine Evo2.vi ok 12 _ ?_)
  first | (refine Evo2.cal ok 13 ?_ 25 ?_ ?_ ?_ ?_; rotate_left 2; (focus (intro w'; go_simp <;> with_reducible rfl)); (focus (intro w' g'; with_reducible exact S2.out w' ((Chg.trans (Chg.refl (fun _ => False) _) g').toGrow (fun _ _ => id)))); simp only [Act.put, L0, L1, L2]) | (refine Evo2.vi ok 13 _ ?_)
  first | (refine Evo2.va ok 14 _ _ ?_) | (refine Evo2.vi ok 14 _ ?_)
  refine Evo2.va ok 15 _ _ ?_
  refine Evo2.done (by decide +kernel) (fun wz gz => ?_)
  have AZ := Chg.trans (Chg.refl (fun _ => False) _) (Chg.grow gz)
  have GZ := AZ.toGrow (fun _ _ => id)
  have HM := Lib.hid (HM.out.grow GZ)
  have OA := Lib.hid (own_later OA.out GZ)
  have OB := Lib.hid (own_later OB.out GZ)
  clear AZ gz KC SS S2 GZ FD
  go_wp2_with fail
  rename World => W4
  have B4 := Lib.hid (K1.out W4 HM.out.below)
  have R4 := Lib.hid (RR.out W4 HM.out.below)
  have KC := Lib.hid (fun (w' : World) (h : Chg (fun _ => False) W4 w') => (have q := B4.out.chg h id; ⟨Blk.at q (k := 1) rfl, Blk.at q (k := 2) rfl, Blk.at q (k := 3) rfl, h.cell (HM.out.cell (i := 0) (o := 1) rfl rfl) id, trivial⟩ : w'.cell? ⟨mp, 1, none⟩ = some (.slice fa mx.fr.length fc) ∧ w'.cell? ⟨mp, 2, none⟩ = some (.slice ta mx.to.length tc) ∧ w'.cell? ⟨mp, 3, none⟩ = some (.int .i64 mx.si) ∧ w'.cell? ⟨w.heap.size, 1, none⟩ = some (.slice ya tg.length yc) ∧ True))
  have RG := Lib.hid (fun w' (q : Grow.G W4 w') => RR.out w' (Grow.G.trans HM.out.below q))
  refine Evo2.start' (ℓ := some 22) (S := Chg (fun _ => False)) (E := Grow.G) (by kernel_rfl) ⟨Chg.pre _, by decide +kernel, (by intro c a d v w h; cases d <;> exact h), by decide +kernel⟩ (fun ok => ?_)
  refine Evo2.va ok 0 _ _ ?_
  refine Evo2.va ok 1 _ _ ?_
  refine Evo2.va ok 2 _ _ ?_
  refine Evo2.va ok 3 _ _ ?_
  first | (refine Evo2.vl ok 4 KC.out (Chg.refl (fun _ => False) _) _ _ ?_) | (refine Evo2.va ok 4 _ _ ?_)
  refine Evo2.va ok 5 _ _ ?_
  refine Evo2.va ok 6 _ _ ?_
  refine Evo2.va ok 7 _ _ ?_
  first | (refine Evo2.vl ok 8 KC.out (Chg.refl (fun _ => False) _) _ _ ?_) | (refine Evo2.va ok 8 _ _ ?_)
  refine Evo2.va ok 9 _ _ ?_
  refine Evo2.va ok 10 _ _ ?_
  refine Evo2.va ok 11 _ _ ?_
  refine Evo2.va ok 12 _ _ ?_
  first | (refine Evo2.vl ok 13 KC.out (Chg.refl (fun _ => False) _) _ _ ?_) | (refine Evo2.va ok 13 _ _ ?_)
  refine Evo2.va ok 14 _ _ ?_
  refine Evo2.va ok 15 _ _ ?_
  refine Evo2.va ok 17 _ _ ?_
  first | (refine Evo2.vl ok 18 KC.out (Chg.refl (fun _ => False) _) _ _ ?_) | (refine Evo2.va ok 18 _ _ ?_)
  refine Evo2.all [16] (by decide +kernel) rfl ?_
  intro wp1 gp1 iq hq
  simp only [List.mem_cons, List.mem_nil_iff, or_false] at hq
  have AP1 := Chg.trans (Chg.refl (fun _ => False) _) (Chg.grow gp1)
  (try replace RO := Lib.hid (own_later RO.out gp1))
  subst hq
  refine Evo2.enters 34 _ (by rfl) (by rfl) (by go_simp; exact ⟨rfl, rfl⟩) ?_
  refine (RG.out wp1 gp1).mono ?_
  rintro e wc1 ⟨u, rfl, ho, hg⟩; obtain ⟨ua, uc, rfl⟩ := own_shape ho; have CH1 := Chg.grow (G := fun _ => False) hg; have RO := Lib.hid (own_base ho gp1.size)
  refine ⟨_, rfl, .inr CH1, ?_⟩
  have AC1 := Chg.trans AP1 CH1
  simp only [Act.put, L0, L1, L2]
  refine Evo2.va ok 19 _ _ ?_
  refine Evo2.va ok 20 _ _ ?_
  refine Evo2.va ok 21 _ _ ?_
  refine Evo2.all [22] (by decide +kernel) rfl ?_
  intro wp2 gp2 iq hq
  simp only [List.mem_cons, List.mem_nil_iff, or_false] at hq
  have AP2 := Chg.trans AC1 (Chg.grow gp2)
  (try replace RO := Lib.hid (own_later RO.out gp2))
  subst hq
  refine upStoreAt (by rfl) (by rfl) rfl rfl rfl (B4.out.chg AP2 id)  (v := .agg #[.slice ua (rollL mx.fr mx.to (now - mx.si) wh).length uc, .slice ya tg.length yc]) ⟨by kernel_rfl, by rw [show Try.prog.cellsOf tablT13 = 2 by kernel_rfl]; rfl⟩ (by show 5 + 2 ≤ 7; decide) (by intro u hu; simp [Value.cells] at hu; rcases hu with rfl | rfl <;> rfl) ?_
  intro wc2 BZ CW2
  refine ⟨.inl (by first | rfl | trivial), ?_⟩
  simp only [Act.put, L0, L1, L2]
  refine Evo2.done (by decide +kernel) (fun wz gz => ?_)
  have AZ := AP2
  have BZ : Blk wc2 mp [.string mx.nm, .slice fa mx.fr.length fc, .slice ta mx.to.length tc, .int .i64 mx.si, .int .i64 mx.wh, .slice ua (rollL mx.fr mx.to (now - mx.si) wh).length uc, .slice ya tg.length yc].toArray wayT13 := BZ
  have G2 : Grow.G w wp2 := Grow.G.trans HM.out.below (AZ.toGrow (fun _ _ => id))
  have OB2 := own_later OB.out (AZ.toGrow (fun _ _ => id))
  have HM4 : w.heap.size + 2 ≤ W4.heap.size := (HM.out.blk (i := 1) rfl).lt
  have HA : Hid (Hold w0 wc2 L (Sep (BlkF mp [.string mx.nm, .slice fa mx.fr.length fc, .slice ta mx.to.length tc, .int .i64 mx.si, .int .i64 mx.wh, .slice ua (rollL mx.fr mx.to (now - mx.si) wh).length uc, .slice ya tg.length yc] wayT13) (Sep (BlkF (w.heap.size + 1) [.slice none 0 0, .slice none 0 0] tablT13) (Sep (WrF ⟨oldW mx tg now, mp, .slice fa mx.fr.length fc, .slice ta mx.to.length tc, .slice ua (rollL mx.fr mx.to (now - mx.si) wh).length uc, .slice ya tg.length yc⟩) (Sep (RolR g v p ⟨mx, mp, .slice fa mx.fr.length fc, .slice ta mx.to.length tc, ms, mg⟩ q) B))))) := Lib.hid (hold_two H1.out ((RolR.foot _ _ _ _ _).sep FB.out) G2 ((HM.out.blk (i := 1) rfl).chg (AZ) id) ⟨by omega, by omega⟩ OB2 (fun k hk => ((OB.out.lt k hk).2)) HM4 RO.out CW2 BZ rfl rfl rfl rfl rfl rfl
    ⟨by show _ = (rollL mx.fr mx.to (now - mx.si) mx.wh).length; rw [HKW.out.1], by show _ = (rollL mx.fr mx.to (now - mx.si) mx.wh).flatMap Shr.cells; rw [HKW.out.1]⟩ ⟨rfl, rfl⟩)
  have FAll := Lib.hid ((BlkF.foot mp [.string mx.nm, .slice fa mx.fr.length fc, .slice ta mx.to.length tc, .int .i64 mx.si, .int .i64 mx.wh, .slice ua (rollL mx.fr mx.to (now - mx.si) wh).length uc, .slice ya tg.length yc] wayT13).sep ((WrF.foot ⟨oldW mx tg now, mp, .slice fa mx.fr.length fc, .slice ta mx.to.length tc, .slice ua (rollL mx.fr mx.to (now - mx.si) wh).length uc, .slice ya tg.length yc⟩).sep ((RolR.foot g v p ⟨mx, mp, .slice fa mx.fr.length fc, .slice ta mx.to.length tc, ms, mg⟩ q).sep FB.out)))
  have HAz := Lib.hid (HA.out.rot.grow ((BlkF.foot _ _ _).sep FAll.out) gz)
  have R1 := Lib.hid (own_later (CW2.own RO.out (fun k hk q => by have := (RO.out.lt k hk).1; have q : k = mp := q; omega)) gz)
  have R2 := Lib.hid (own_later (CW2.own OB2 (fun k hk q => by have := (OB2.lt k hk).1; have q : k = mp := q; omega)) gz)
  have CP := Lib.hid (fun w' (q : Grow.G wz w') => rcopy_any ua (rollL mx.fr mx.to (now - mx.si) wh) uc ya tg yc w' ((ShR.src (own_base R1.out (Nat.zero_le _))).grow q) ((TgR.src (own_base R2.out (Nat.zero_le _))).grow q) HRL.out HTL.out)
  have c5 : wz.cell? ⟨mp, 5, none⟩ = some (.slice ua (rollL mx.fr mx.to (now - mx.si) wh).length uc) := ((BZ.grow gz).cell 5).trans rfl
  have c6 : wz.cell? ⟨mp, 6, none⟩ = some (.slice ya tg.length yc) := ((BZ.grow gz).cell 6).trans rfl
  clear AZ BZ OB2 G2 HA gz CW2 RO R1 R2 OA OB HM4 HM H1 RR RG BP K1
  go_wp2_with fail
  refine (CP.out _ (Grow.G.refl _)).mono ?_
  rintro e w5 ⟨va, vb, rfl, hc⟩
  have H6 := Lib.hid (hold_tab HAz.out (BlkF.foot _ _ _) FAll.out hc)
  obtain ⟨ra, rc, rfl⟩ := own_shape hc.1
  obtain ⟨za, zc, rfl⟩ := own_shape hc.2.1
  have FX := Lib.hid ((TabF.foot (rollL mx.fr mx.to (now - mx.si) wh) tg (.slice ra (rollL mx.fr mx.to (now - mx.si) wh).length rc) (.slice za tg.length zc)).sep FAll.out)
  clear hc CP c5 c6
  go_wp2_with (refine Hold.setB (off := 0) (vs := [.slice ra (rollL mx.fr mx.to (now - mx.si) wh).length rc, .slice za tg.length zc]) FX.out rfl rfl rfl rfl rfl (n := 2) CT H6.out rfl (by simp) rfl ?_; intro w7 H7)
  refine Stay.go ?_
  obtain ⟨F7, ⟨F8, F9, ⟨BF, _⟩, _⟩, _⟩ := id H7.st
  have BF : Blk w7 (w.heap.size + 1) #[.slice ra (rollL mx.fr mx.to (now - mx.si) wh).length rc, .slice za tg.length zc] tablT13 := BF
  clear FAll FX H6 HAz HRL HTL
  go_wp2_with fail
  refine bodyPost_ret (v := .agg #[.slice ra (rollL mx.fr mx.to (now - mx.si) wh).length rc, .slice za tg.length zc]) (by simp [results, Try.results19, go_sem, BF.cell]) rfl ?_
  refine ⟨_, _, rfl, ?_⟩
  have H8 := hold_way' (m' := ⟨oldW mx tg now, mp, .slice fa mx.fr.length fc, .slice ta mx.to.length tc, .slice ua (rollL mx.fr mx.to (now - mx.si) wh).length uc, .slice ya tg.length yc⟩) (hold_last (H7.weak fun F h => h.dropL)) rfl
  rw [HT.out]
  have e8 : (oldW mx tg now).sh = rollL mx.fr mx.to (now - mx.si) wh := by show rollL mx.fr mx.to (now - mx.si) mx.wh = _; rw [HKW.out.1]
  rw [e8]
  exact hold_rolclose H8 (by rw [List.map_append, List.map_cons]) (HT.out ▸ HO.out)
end Go.Proofs.Ytjhfjjkfnmnkgaa

/- The second form's roller: what Turn's last steps leave is a way again. -/
namespace Go.Proofs.Ytjhfjjkfnmnkgaa
set_option maxRecDepth 100000
set_option linter.unusedVariables false
set_option linter.unusedSimpArgs false
set_option linter.unnecessarySimpa false
open Go.RowKit Go.Args

section
variable {w w0 : World} {L : List MBox} {B D : Hp} {F : Nat → Prop} {g : Nat} {v : Value} {l : List Wa} {p q lm : List WM} {m m' : WM} {vs va vb : Value} {sh : List Shr} {tg : List Tgo} {k1 : Nat} {z1 : List Value}
/-- Gone elsewhere: from the row told last, to the new one. -/
theorem rows_go (h : Sep (RowF 0 shareT13 2 vs k1 z1) (Sep (TabF sh tg va vb) (Sep (WrF m) D)) w F) (hf : m'.f = m.s) (ht : m'.t = va) (hs : m'.s = vs) (hg : m'.g = vb) (ef : m'.x.fr = m.x.sh) (et : m'.x.to = sh) (eg : m'.x.tg = tg)
    (es : k1 = m'.x.sh.length ∧ z1 = m'.x.sh.flatMap Shr.cells) : ∃ F', Sep (WrF m') D w F' ∧ ∀ k, F' k → F k := by
  obtain ⟨F1, F2, ⟨o1, e1⟩, ⟨F3, F4, ⟨Fa, Fb, ⟨oa, ea⟩, ⟨ob, eb⟩, apab, cab⟩, ⟨F5, F6, ⟨⟨r1, r2, r3, r4⟩, e3⟩, hD, ap3, c3⟩, ap2, c2⟩, ap1, c1⟩ := h
  obtain ⟨rfl, rfl⟩ := es
  refine ⟨fun k => WrK m' k ∨ F6 k, ⟨WrK m', F6, ⟨⟨by rw [hf, ef]; exact r3, by rw [ht, et]; exact oa, by rw [hs]; exact o1, by rw [hg, eg]; exact ob⟩, fun k => Iff.rfl⟩, hD, ?_, fun k => Iff.rfl⟩, ?_⟩
  · intro k hk h6
    have h4 : F4 k := (c3 k).2 (.inr h6)
    have h2 : F2 k := (c2 k).2 (.inr h4)
    rcases hk with q | q | q | q
    · exact ap3 k ((e3 k).2 (.inr (.inr (.inl (hf ▸ q))))) h6
    · exact ap2 k ((cab k).2 (.inl ((ea k).2 (ht ▸ q)))) h4
    · exact ap1 k ((e1 k).2 (hs ▸ q)) h2
    · exact ap2 k ((cab k).2 (.inr ((eb k).2 (hg ▸ q)))) h4
  · rintro k ((q | q | q | q) | q)
    · exact (c1 k).2 (.inr ((c2 k).2 (.inr ((c3 k).2 (.inl ((e3 k).2 (.inr (.inr (.inl (hf ▸ q))))))))))
    · exact (c1 k).2 (.inr ((c2 k).2 (.inl ((cab k).2 (.inl ((ea k).2 (ht ▸ q)))))))
    · exact (c1 k).2 (.inl ((e1 k).2 (hs ▸ q)))
    · exact (c1 k).2 (.inr ((c2 k).2 (.inl ((cab k).2 (.inr ((eb k).2 (hg ▸ q)))))))
    · exact (c1 k).2 (.inr ((c2 k).2 (.inr ((c3 k).2 (.inr q)))))
/-- A new way: from the new row to itself. -/
theorem rows_new (h : Sep (RowF 0 shareT13 2 vs k1 z1) (Sep (TabF sh tg va vb) D) w F) (hf : m'.f = va) (ht : m'.t = va) (hs : m'.s = vs) (hg : m'.g = vb) (ef : m'.x.fr = sh) (et : m'.x.to = sh) (eg : m'.x.tg = tg)
    (es : k1 = m'.x.sh.length ∧ z1 = m'.x.sh.flatMap Shr.cells) : ∃ F', Sep (WrF m') D w F' ∧ ∀ k, F' k → F k := by
  obtain ⟨F1, F2, ⟨o1, e1⟩, ⟨F3, F4, ⟨Fa, Fb, ⟨oa, ea⟩, ⟨ob, eb⟩, apab, cab⟩, hD, ap2, c2⟩, ap1, c1⟩ := h
  obtain ⟨rfl, rfl⟩ := es
  refine ⟨fun k => WrK m' k ∨ F4 k, ⟨WrK m', F4, ⟨⟨by rw [hf, ef]; exact oa, by rw [ht, et]; exact oa, by rw [hs]; exact o1, by rw [hg, eg]; exact ob⟩, fun k => Iff.rfl⟩, hD, ?_, fun k => Iff.rfl⟩, ?_⟩
  · intro k hk h4
    have h2 : F2 k := (c2 k).2 (.inr h4)
    rcases hk with q | q | q | q
    · exact ap2 k ((cab k).2 (.inl ((ea k).2 (hf ▸ q)))) h4
    · exact ap2 k ((cab k).2 (.inl ((ea k).2 (ht ▸ q)))) h4
    · exact ap1 k ((e1 k).2 (hs ▸ q)) h2
    · exact ap2 k ((cab k).2 (.inr ((eb k).2 (hg ▸ q)))) h4
  · rintro k ((q | q | q | q) | q)
    · exact (c1 k).2 (.inr ((c2 k).2 (.inl ((cab k).2 (.inl ((ea k).2 (hf ▸ q)))))))
    · exact (c1 k).2 (.inr ((c2 k).2 (.inl ((cab k).2 (.inl ((ea k).2 (ht ▸ q)))))))
    · exact (c1 k).2 (.inl ((e1 k).2 (hs ▸ q)))
    · exact (c1 k).2 (.inr ((c2 k).2 (.inl ((cab k).2 (.inr ((eb k).2 (hg ▸ q)))))))
    · exact (c1 k).2 (.inr ((c2 k).2 (.inr q)))
/-- One way more. -/
theorem RolS.snoc13 (h : Sep (BlkF m.p m.cells wayT13) (Sep (WrF m) (Sep (BlkF g [v] rolT13) (Sep (RowF 0 wptT13 1 v (lm ++ [m]).length (wptrs (lm ++ [m]))) (SepL WmF lm)))) w F) : RolS g v (lm ++ [m]) w F := by
  have h1 : Sep (WmF m) (Sep (BlkF g [v] rolT13) (Sep (RowF 0 wptT13 1 v (lm ++ [m]).length (wptrs (lm ++ [m]))) (SepL WmF lm))) w F := Sep.assoc' h
  have h2 : Sep (BlkF g [v] rolT13) (Sep (RowF 0 wptT13 1 v (lm ++ [m]).length (wptrs (lm ++ [m]))) (Sep (WmF m) (SepL WmF lm))) w F := (h1.rot).under fun F h => h.rot
  exact h2.under fun F h => h.under fun F h => SepL.inn (p := lm) (q := []) (by rw [List.append_nil]; exact h)
end
theorem infoWpt : (Try.prog.info? wptT13).map (fun i => (i.zero, i.size, i.bytes)) = some (some (.pointer none), 1, 8) := by kernel_rfl
theorem wpList_appW {w0 w : World} {L : List MBox} {A B : Hp} {v : Value} {ls : List WM} {m : WM} {ops : Array Oper} {rest : List Oper} {o : Oper} {a : Act} {Q : Exit → Act → World → Prop} (hgd : o.guard = none) (s x : Operand)
    (ho : o.op = .call { callee := .builtin .append, args := #[s, x], argTypes := #[27, 27] })
    (h : Hold w0 w L (Sep A (Sep (RowF 0 wptT13 1 v ls.length (wptrs ls)) B))) (hA : Foot A) (hB : Foot B) (hs : a.eval s = v) {ad : Option Addr} {c : Nat} (hx : a.eval x = .slice ad 1 c) (hsrc : Fr.Src w ad [pz m.p]) (hl : ls.length ≤ 100000)
    (k : ∀ a' c' w', Hold w0 w' L (Sep A (Sep (RowF 0 wptT13 1 (.slice a' (ls.length + 1) c') (ls.length + 1) (wptrs (ls ++ [m]))) B)) → Stay (wpList Try.prog ops Q rest (a.put o.dst (.slice a' (ls.length + 1) c')) w')) : wpList Try.prog ops Q (o :: rest) a w := by
  obtain ⟨i0, hi, hz0, hz1, hz2⟩ := info_parts infoWpt
  refine Fr.wpList_append_src w hgd s x 27 ho 0 wptT13 i0 (.pointer none) 1 8 Try.underlying27 hi hz0 hz1 hz2 rfl (by decide) v _ _ hs (hold_rowR h) ad 1 c [pz m.p] hx rfl hsrc (by simp [Value.oneCell']) ?_ ?_ (Nat.zero_le _) ?_
  · unfold maxLen; omega
  · omega
  · intro v' w' hown hfr
    have H := hold_rowFr h hA hB hown hfr
    obtain ⟨a', c', rfl⟩ := own_shape hown
    have e1 : wptrs ls ++ [pz m.p] = wptrs (ls ++ [m]) := by unfold wptrs; rw [List.map_append]; rfl
    rw [e1] at H
    exact k a' c' w' H
end Go.Proofs.Ytjhfjjkfnmnkgaa
