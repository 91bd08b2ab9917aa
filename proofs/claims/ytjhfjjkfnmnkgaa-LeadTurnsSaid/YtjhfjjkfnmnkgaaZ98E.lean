/- My own texts LrG, laid in one file. -/
import Derived.Test.YtjhfjjkfnmnkgaaZ98D

/- The second form's roller: Turn, where the way goes elsewhere. -/
namespace Go.Proofs.Ytjhfjjkfnmnkgaa
set_option maxRecDepth 100000
set_option linter.unusedVariables false
set_option linter.unusedSimpArgs false
set_option linter.unnecessarySimpa false
open Go.RowKit Go.Args

theorem fin_go {w w0 : World} {L : List MBox} {r t : Nat} {rs ts : List Value} {T : TypeId} {X2 U T1 W R B : Hp} (m' : WM) (h : Hold w0 w L (Sep (BlkF r rs T) (Sep (BlkF m'.p m'.cells wayT13) (Sep X2 (Sep U (Sep (BlkF t ts T) (Sep T1 (Sep W (Sep R B)))))))))
    (hr : ∀ w F D, Sep U (Sep T1 (Sep W D)) w F → ∃ F', Sep (WrF m') D w F' ∧ ∀ k, F' k → F k) : Hold w0 w L (Sep (BlkF m'.p m'.cells wayT13) (Sep (WrF m') (Sep R (Sep X2 B)))) :=
  h.weak fun F h => by
    obtain ⟨F1, h1, s1⟩ := h.dropL
    obtain ⟨F2, h2, s2⟩ := h1.weakR fun F h => by
      have h3 : Sep U (Sep (BlkF t ts T) (Sep T1 (Sep W (Sep R (Sep X2 B))))) w F := Sep.push5 h
      obtain ⟨F3, h4, s4⟩ := (Sep.rot h3).dropL
      obtain ⟨F4, h5, s5⟩ := hr _ _ _ h4
      exact ⟨F4, h5, fun k hk => s4 k (s5 k hk)⟩
    exact ⟨F2, h2, fun k hk => s1 k (s2 k hk)⟩
set_option maxHeartbeats 16000000 in
theorem hold_rolturn_go {w0 w : World} {L : List MBox} {B : Hp} {g : Nat} {l : List Wa} {x : Wa} (h : Hold w0 w L (Sep (RolP g l) B)) (hB : Foot B) (s : ByteArray) (a : Option Addr) (sh : List Shr) (c : Nat) (b : Option Addr) (tg : List Tgo) (d : Nat) (now wh : Int)
    (hl : l.length ≤ 1000) (hz : ∀ x, x ∈ l → WSd x) (hin : TurnIn w a sh b tg) (hn : 0 ≤ now ∧ now ≤ 1000000) (hw : 0 ≤ wh ∧ wh ≤ 1000000) (h1 : findW l s = some x) (hk : keepsW x sh wh = false) :
    Calls Try.prog 19 #[pz g, .string s, .agg #[.slice a sh.length c, .slice b tg.length d], .int .i64 now, .int .i64 wh] w fun e w' => ∃ va vb, e = .returned (.agg #[va, vb]) ∧ Hold w0 w' L (Sep (RolP g (turnW l s sh tg now wh)) (Sep (TabF (rollL x.sh sh 0 wh) tg va vb) B)) := by
  obtain ⟨v, lm, e1, ok, HS⟩ := hold_rolopen h
  obtain ⟨F, hS⟩ := hold_rolS HS
  have FD : Hid (∀ w' F', RolS g v lm w' F' → _) := Lib.hid (fun w' F' (q : RolS g v lm w' F') => rolfind_any g v lm s w' F' q (by rw [← e1, List.length_map] at hl; exact hl))
  have hmap := findM13_map lm s
  rw [e1, h1] at hmap
  obtain ⟨m, hm, rfl⟩ : ∃ m, findM13 lm s = some m ∧ m.x = x := by cases q : findM13 lm s with
    | none => rw [q] at hmap; cases hmap
    | some m => rw [q] at hmap; exact ⟨m, rfl, Option.some.inj hmap⟩
  rw [hm] at FD
  dsimp only [ptrW] at FD
  have hxl : m.x ∈ l := (findW_mem h1).1
  have hxn : m.x.nm = s := (findW_mem h1).2
  obtain ⟨i, hi⟩ := List.getElem?_of_mem (List.mem_of_find?_eq_some hm)
  have hin' := hS.ob hi
  obtain ⟨p, q, rfl, _⟩ := findM13_split hm
  have hsd := hz m.x hxl
  have HT : Hid (turnW l s sh tg now wh = p.map WM.x ++ newW m.x.nm m.x.sh sh tg now wh :: q.map WM.x) := Lib.hid (by
    rw [← e1, List.map_append, List.map_cons, turnW_mid (by rw [← e1, List.map_append, List.map_cons] at ok; exact ok) hxn]
    unfold stepW
    dsimp only
    rw [hk, hxn]; rfl)
  have HO := Lib.hid (ok.turn s sh tg now wh)
  have H1 := Lib.hid (hold_way HS)
  obtain ⟨mx, mp, mf, mt, ms, mg⟩ := m
  dsimp only at *
  have r2 : ShR w mt mx.to := hin'.t
  have r3 : ShR w ms mx.sh := hin'.s
  have r4 : TgR w mg mx.tg := hin'.g
  have r1 : ShR w mf mx.fr := hin'.f
  obtain ⟨fa, fc, rfl⟩ := own_shape r1
  obtain ⟨ta, tc, rfl⟩ := own_shape r2
  obtain ⟨sa, sc, rfl⟩ := own_shape r3
  obtain ⟨ga, gc, rfl⟩ := own_shape r4
  have hpl := hin'.hb.lt
  have ST := Lib.hid (ShR.sl r2)
  have SM := Lib.hid (ShR.sl r3)
  have CP := Lib.hid (fun w' (q : Grow.G w w') => rcopy_any a sh c b tg d w' (hin.a.grow q) (hin.b.grow q) (by have := sd_len hin.sd; omega) hin.tl)
  have sm1 := hsd.s.small
  have sm2 := hin.sd.small
  have hts : mx.to.length ≤ 1000 := hsd.t.small.1
  unfold WM.cells at H1
  dsimp only at H1
  have FM : Hid (∀ cs, Foot (BlkF mp cs wayT13)) := Lib.hid (fun cs => BlkF.foot _ _ _)
  have FT : Hid (∀ t cs, Foot (BlkF t cs tablT13)) := Lib.hid (fun t cs => BlkF.foot _ _ _)
  have FX : Hid (∀ sh tg va vb, Foot (TabF sh tg va vb)) := Lib.hid (fun sh tg va vb => TabF.foot _ _ _ _)
  have FU : Hid (∀ v n xs, Foot (RowF 0 shareT13 2 v n xs)) := Lib.hid (fun v n xs => RowF.foot _ _ _ _ _ _)
  have FDD : Hid (Foot (Sep (WrF ⟨mx, mp, .slice fa mx.fr.length fc, .slice ta mx.to.length tc, .slice sa mx.sh.length sc, .slice ga mx.tg.length gc⟩) (Sep (RolR g v p ⟨mx, mp, .slice fa mx.fr.length fc, .slice ta mx.to.length tc, .slice sa mx.sh.length sc, .slice ga mx.tg.length gc⟩ q) B))) := Lib.hid ((WrF.foot _).sep ((RolR.foot _ _ _ _ _).sep hB))
  have RG : Hid (∀ xa xc w', SlOf w' Shr.cells 2 sa mx.sh → SlOf w' Shr.cells 2 xa sh → _) := Lib.hid (fun xa xc w' (h1 : SlOf w' Shr.cells 2 sa mx.sh) (h2 : SlOf w' Shr.cells 2 xa sh) => rroll_any sa mx.sh sc xa sh xc 0 wh w' sm1 sm2 (by omega) (by omega) h1 h2)
  have SS : Hid (∀ xa xc w', SlOf w' Shr.cells 2 ta mx.to → ShSl w' xa sh → _) := Lib.hid (fun xa xc w' (h1 : SlOf w' Shr.cells 2 ta mx.to) (hx : ShSl w' xa sh) => rshares_same ta xa mx.to sh tc xc w' (by omega) h1 hx)
  have HRL := Lib.hid (show (rollL mx.sh sh 0 wh).length ≤ 1000 by have q : Sd (rollL mx.sh sh 0 wh) := roll_sd' hsd.s hin.sd; have := sd_len q; omega)
  have HTL := Lib.hid hin.tl
  have HKW := Lib.hid hk
  have CT : (Try.prog.info? tablT13).map (·.size) = some 2 := by kernel_rfl
  have h00 : IntKind.i64.wrap (now - now) = 0 := by rw [Int.sub_self]; rfl
  clear hin' hS HS h hmap hm h1 hi hsd hin hk ok hz r1 r2 r3 r4 e1 sm1 sm2 hxl
  go_enter Try.func19, Try.ntmps19
  go_wp2_with fail
  have HA := hold_new1 H1.out (FM.out _) FDD.out [.slice a sh.length c, .slice b tg.length d] tablT13 rfl
  have HB := hold_new1 (r := w.heap.size + 1) HA.rot (FT.out _ _) ((FM.out _).sep FDD.out) [.slice none 0 0, .slice none 0 0] tablT13 (by simp)
  refine (CP.out _ (Grow.G.alloc (Grow.G.alloc (Grow.G.refl _) _) _)).mono ?_
  rintro e w1 ⟨va, vb, rfl, hc⟩
  have HC := Lib.hid (hold_tab HB (FT.out _ _) ((FT.out _ _).sep ((FM.out _).sep FDD.out)) hc)
  have G1 := Lib.hid (Grow.G.trans (Grow.G.alloc (Grow.G.alloc (Grow.G.refl w) (.cells #[.slice a sh.length c, .slice b tg.length d] tablT13)) (.cells #[.slice none 0 0, .slice none 0 0] tablT13)) hc.2.2.2)
  obtain ⟨xa, xc, rfl⟩ := own_shape hc.1
  obtain ⟨ya, yc, rfl⟩ := own_shape hc.2.1
  have hwl : w.heap.size + 2 ≤ w1.heap.size := by have := hc.2.2.2.size; simp at this; omega
  clear hc CP HA HB H1
  have FZ := Lib.hid ((FX.out sh tg (.slice xa sh.length xc) (.slice ya tg.length yc)).sep ((FT.out (w.heap.size + 1) [.slice none 0 0, .slice none 0 0]).sep ((FM.out [.string mx.nm, .slice fa mx.fr.length fc, .slice ta mx.to.length tc, .int .i64 mx.si, .int .i64 mx.wh, .slice sa mx.sh.length sc, .slice ga mx.tg.length gc]).sep FDD.out)))
  go_wp2_with (refine Hold.setB (off := 0) (vs := [.slice xa sh.length xc, .slice ya tg.length yc]) FZ.out rfl rfl rfl rfl rfl (n := 2) CT HC.out rfl (by simp) rfl ?_; intro w2 H2)
  refine Stay.go ?_
  have H2 : Hold w0 w2 L (Sep (BlkF w.heap.size [.slice xa sh.length xc, .slice ya tg.length yc] tablT13) _) := H2
  have H3 := Lib.hid (H2.map fun F h => Sep.pull3 h)
  clear H2 HC FZ
  have FD2 : Hid (∃ F2, RolS g v (p ++ ⟨mx, mp, .slice fa mx.fr.length fc, .slice ta mx.to.length tc, .slice sa mx.sh.length sc, .slice ga mx.tg.length gc⟩ :: q) w2 F2) := Lib.hid (hold_rolS (hold_way' (m' := ⟨mx, mp, .slice fa mx.fr.length fc, .slice ta mx.to.length tc, .slice sa mx.sh.length sc, .slice ga mx.tg.length gc⟩) (m := ⟨mx, mp, .slice fa mx.fr.length fc, .slice ta mx.to.length tc, .slice sa mx.sh.length sc, .slice ga mx.tg.length gc⟩) (H3.out.map fun F h => h.under fun F h => (Sep.pull3 h).under fun F h => Sep.pull3 h) rfl))
  go_wp2_with fail
  refine (FD.out _ _ FD2.out.choose_spec).mono ?_
  rintro e w3 ⟨rfl, rfl⟩
  clear FD FD2
  have b0 := hold_b1 H3.out
  have t0 := hold_b1 H3.out.rot
  have KC := Lib.hid (fun (w' : World) (h : Chg (fun _ => False) w2 w') => (⟨Blk.at (b0.chg h id) (k := 4) rfl, Blk.at (b0.chg h id) (k := 2) rfl, Blk.at (t0.chg h id) (k := 0) rfl, trivial⟩ : w'.cell? ⟨mp, 4, none⟩ = some (.int .i64 mx.wh) ∧ w'.cell? ⟨mp, 2, none⟩ = some (.slice ta mx.to.length tc) ∧ w'.cell? ⟨w.heap.size, 0, none⟩ = some (.slice xa sh.length xc) ∧ True))
  have HR : Hid (ShR w2 (.slice ta mx.to.length tc) mx.to ∧ ShR w2 (.slice sa mx.sh.length sc) mx.sh ∧ ShR w2 (.slice xa sh.length xc) sh) := Lib.hid (H3.out.see fun F ⟨_, _, _, ⟨_, _, _, ⟨_, _, ⟨_, _, rx, _, _, _⟩, ⟨_, _, _, ⟨_, _, ⟨⟨_, r2, r3, _⟩, _⟩, _⟩, _⟩, _⟩, _⟩, _⟩ => ⟨r2, r3, rx.1⟩)
  have S2 := Lib.hid (fun w' (q : Grow.G w2 w') => SS.out xa xc w' (SlOf.later (ShR.sl HR.out.1) q) (SlOf.later (ShR.sl HR.out.2.2) q))
  have hcase : (mx.wh != wh) = true ∨ ((mx.wh != wh) = false ∧ sameShr mx.to sh = false) := by
    have q := HKW.out
    unfold keepsW at q
    rw [Bool.and_eq_false_iff] at q
    by_cases e : mx.wh = wh
    · refine .inr ⟨by rw [e]; simp, q.resolve_left (by rw [e]; simp)⟩
    · exact .inl (by simp [e])
  clear b0 t0
  go_wp2_with fail
  refine wp_spec (fun a0 A W => ∃ x38 x39 x40 x41 x42 x43 x44 x45 x46 x47 x48 x49 x50 x51 x52 : Value, A = ((((((((((((((((a0.put (some 38) x38).put (some 39) x39).put (some 40) x40).put (some 41) x41).put (some 42) x42).put (some 43) x43).put (some 44) x44).put (some 45) x45).put (some 46) x46).put (some 47) x47).put (some 48) x48).put (some 49) x49).put (some 50) x50).put (some 51) x51).put (some 52) x52).put (some 53) (.bool true)) ∧ Grow.G w2 W) ?_ ?_
  all_goals simp only [Act.put, L0, L1, L2]
  ·
    rcases hcase with q1 | ⟨q1, q2⟩
    ·
      refine Evo2.start' (ℓ := none) (S := Chg (fun _ => False)) (E := Grow.G) (by kernel_rfl) ⟨Chg.pre _, by decide +kernel, (by intro c a d v w h; cases d <;> exact h), by decide +kernel⟩ (fun ok => ?_)
      refine Evo2.va ok 0 _ _ ?_
      refine Evo2.va ok 1 _ _ ?_
      refine Evo2.va ok 2 _ _ ?_
      first | (refine Evo2.vl ok 3 KC.out (Chg.refl (fun _ => False) _) _ _ ?_) | (refine Evo2.va ok 3 _ _ ?_)
      refine Evo2.va ok 4 _ _ ?_
      refine Evo2.va ok 5 _ _ ?_
      refine Evo2.va ok 6 _ _ ?_
      first | (refine Evo2.va ok 7 _ _ ?_) | (refine Evo2.vi ok 7 _ ?_)
      first | (refine Evo2.va ok 8 _ _ ?_) | (refine Evo2.vi ok 8 _ ?_)
      first | (refine Evo2.va ok 9 _ _ ?_) | (refine Evo2.vi ok 9 _ ?_)
      first | (refine Evo2.vl ok 10 KC.out (Chg.refl (fun _ => False) _) _ _ ?_) | (refine Evo2.va ok 10 _ _ ?_) | (refine Evo2.vi ok 10 _ ?_)
      first | (refine Evo2.va ok 11 _ _ ?_) | (refine Evo2.vi ok 11 _ ?_)
      first | (refine Evo2.vl ok 12 KC.out (Chg.refl (fun _ => False) _) _ _ ?_) | (refine Evo2.va ok 12 _ _ ?_) | (refine Evo2.vi ok 12 _ ?_)
      first | (refine Evo2.cal ok 13 ?_ 25 ?_ ?_ ?_ ?_; rotate_left 2; (focus (intro w'; go_simp <;> with_reducible rfl)); (focus (intro w' g'; with_reducible exact S2.out w' ((Chg.trans (Chg.refl (fun _ => False) _) g').toGrow (fun _ _ => id)))); simp only [Act.put, L0, L1, L2]) | (refine Evo2.vi ok 13 _ ?_)
      first | (refine Evo2.va ok 14 _ _ ?_) | (refine Evo2.vi ok 14 _ ?_)
      refine Evo2.va ok 15 _ _ ?_
      refine Evo2.done (by decide +kernel) (fun wz gz => ?_)
      have AZ := Chg.trans (Chg.refl (fun _ => False) _) (Chg.grow gz)
      dsimp only [PostN] 
      (repeat apply Exists.intro) 
      exact ⟨rfl, AZ.toGrow (fun _ _ => id)⟩
    · rw [q2] at S2
      refine Evo2.start' (ℓ := none) (S := Chg (fun _ => False)) (E := Grow.G) (by kernel_rfl) ⟨Chg.pre _, by decide +kernel, (by intro c a d v w h; cases d <;> exact h), by decide +kernel⟩ (fun ok => ?_)
      refine Evo2.va ok 0 _ _ ?_
      refine Evo2.va ok 1 _ _ ?_
      refine Evo2.va ok 2 _ _ ?_
      first | (refine Evo2.vl ok 3 KC.out (Chg.refl (fun _ => False) _) _ _ ?_) | (refine Evo2.va ok 3 _ _ ?_)
      refine Evo2.va ok 4 _ _ ?_
      refine Evo2.va ok 5 _ _ ?_
      refine Evo2.va ok 6 _ _ ?_
      first | (refine Evo2.va ok 7 _ _ ?_) | (refine Evo2.vi ok 7 _ ?_)
      first | (refine Evo2.va ok 8 _ _ ?_) | (refine Evo2.vi ok 8 _ ?_)
      first | (refine Evo2.va ok 9 _ _ ?_) | (refine Evo2.vi ok 9 _ ?_)
      first | (refine Evo2.vl ok 10 KC.out (Chg.refl (fun _ => False) _) _ _ ?_) | (refine Evo2.va ok 10 _ _ ?_) | (refine Evo2.vi ok 10 _ ?_)
      first | (refine Evo2.va ok 11 _ _ ?_) | (refine Evo2.vi ok 11 _ ?_)
      first | (refine Evo2.vl ok 12 KC.out (Chg.refl (fun _ => False) _) _ _ ?_) | (refine Evo2.va ok 12 _ _ ?_) | (refine Evo2.vi ok 12 _ ?_)
      first | (refine Evo2.cal ok 13 ?_ 25 ?_ ?_ ?_ ?_; rotate_left 2; (focus (intro w'; go_simp <;> with_reducible rfl)); (focus (intro w' g'; with_reducible exact S2.out w' ((Chg.trans (Chg.refl (fun _ => False) _) g').toGrow (fun _ _ => id)))); simp only [Act.put, L0, L1, L2]) | (refine Evo2.vi ok 13 _ ?_)
      first | (refine Evo2.va ok 14 _ _ ?_) | (refine Evo2.vi ok 14 _ ?_)
      refine Evo2.va ok 15 _ _ ?_
      refine Evo2.done (by decide +kernel) (fun wz gz => ?_)
      have AZ := Chg.trans (Chg.refl (fun _ => False) _) (Chg.grow gz)
      dsimp only [PostN] 
      (repeat apply Exists.intro) 
      exact ⟨rfl, AZ.toGrow (fun _ _ => id)⟩
  ·
    rintro A W6 ⟨x38, x39, x40, x41, x42, x43, x44, x45, x46, x47, x48, x49, x50, x51, x52, rfl, hg6⟩
    have FF := Lib.hid ((FT.out w.heap.size [.slice xa sh.length xc, .slice ya tg.length yc]).sep ((FX.out sh tg (.slice xa sh.length xc) (.slice ya tg.length yc)).sep ((FT.out (w.heap.size + 1) [.slice none 0 0, .slice none 0 0]).sep FDD.out)))
    have H6 := Lib.hid (H3.out.grow ((FM.out _).sep FF.out) hg6)
    have HR6 : Hid (ShR W6 (.slice sa mx.sh.length sc) mx.sh ∧ ShR W6 (.slice xa sh.length xc) sh) := Lib.hid ⟨own_later HR.out.2.1 hg6, own_later HR.out.2.2 hg6⟩
    have hwl6 := (hold_b1 (H6.out.map fun F h => Sep.pull3 h)).lt
    clear HR S2 KC H3 hg6 hcase SS hwl
    have B4 := Lib.hid (hold_b1 H6.out)
    have t0 := hold_b1 H6.out.rot
    have KC := Lib.hid (fun (w' : World) (h : Chg (fun k => k = mp) W6 w') => (⟨Blk.at (t0.chg h (by omega)) (k := 0) rfl, trivial⟩ : w'.cell? ⟨w.heap.size, 0, none⟩ = some (.slice xa sh.length xc) ∧ True))
    clear t0
    go_wp2_with fail
    refine Evo2.start' (ℓ := none) (S := Chg (fun k => k = mp)) (E := Grow.G) (by kernel_rfl) ⟨Chg.pre _, by decide +kernel, (by intro c a d v w h; cases d <;> exact h), by decide +kernel⟩ (fun ok => ?_)
    refine Evo2.va ok 0 _ _ ?_
    refine Evo2.va ok 1 _ _ ?_
    refine Evo2.va ok 2 _ _ ?_
    refine Evo2.va ok 3 _ _ ?_
    refine Evo2.va ok 4 _ _ ?_
    refine Evo2.va ok 5 _ _ ?_
    refine Evo2.va ok 6 _ _ ?_
    refine Evo2.va ok 7 _ _ ?_
    refine Evo2.va ok 9 _ _ ?_
    first | (refine Evo2.vl ok 10 KC.out (Chg.refl (fun k => k = mp) _) _ _ ?_) | (refine Evo2.va ok 10 _ _ ?_)
    refine Evo2.va ok 11 _ _ ?_
    refine Evo2.va ok 12 _ _ ?_
    refine Evo2.all [8] (by decide +kernel) rfl ?_
    intro wp1 gp1 iq hq
    simp only [List.mem_cons, List.mem_nil_iff, or_false] at hq
    have AP1 := Chg.trans (Chg.refl (fun k => k = mp) _) (Chg.grow gp1)
    (try replace B4 := Lib.hid (B4.out.grow gp1)); (try have e5 := Blk.at B4.out (k := 5) rfl)
    subst hq
    refine Evo2.runs (by rfl) (by rfl) (fun K' hK' => ?_)
    (try obtain ⟨q1⟩ := KC.out wp1 AP1)
    go_simp
    (try (simp only [Evo.after_value, Evo.after_skip]))
    refine hK'.out _ _ ?_
    clear hK'
    simp only [Act.put, L0, L1, L2]
    (try clear q1)
    refine ⟨.inr (Chg.refl _ _), ?_⟩
    refine Evo2.va ok 13 _ _ ?_
    refine Evo2.va ok 14 _ _ ?_
    refine Evo2.all [15] (by decide +kernel) rfl ?_
    intro wp2 gp2 iq hq
    simp only [List.mem_cons, List.mem_nil_iff, or_false] at hq
    have AP2 := Chg.trans AP1 (Chg.grow gp2)
    (try replace B4 := Lib.hid (B4.out.grow gp2)); (try have e5 := Blk.at B4.out (k := 5) rfl)
    subst hq
    refine upStoreAt (by rfl) (by rfl) rfl rfl rfl (B4.out)  (v := .slice sa mx.sh.length sc) ⟨by kernel_rfl, by rw [show Try.prog.cellsOf 37 = 1 by kernel_rfl]; rfl⟩ (by show 1 + 1 ≤ 7; decide) (by intro u hu; simp [Value.cells] at hu; rcases hu with rfl; rfl) ?_
    intro wc2 BZ CW2
    have CH2 : Chg (fun k => k = mp) _ _ := CW2.mono (fun j _ e => by exact e)
    replace B4 : Hid (Blk wc2 mp [.string mx.nm, .slice sa mx.sh.length sc, .slice ta mx.to.length tc, .int .i64 (mx.si), .int .i64 (mx.wh), .slice sa mx.sh.length sc, .slice ga mx.tg.length gc].toArray wayT13) := Lib.hid BZ; clear BZ
    refine ⟨.inr CH2, ?_⟩
    simp only [Act.put, L0, L1, L2]
    refine Evo2.va ok 16 _ _ ?_
    refine Evo2.va ok 17 _ _ ?_
    refine Evo2.all [18] (by decide +kernel) rfl ?_
    intro wp3 gp3 iq hq
    simp only [List.mem_cons, List.mem_nil_iff, or_false] at hq
    have AP3 := Chg.trans (Chg.trans AP2 CH2) (Chg.grow gp3)
    (try replace B4 := Lib.hid (B4.out.grow gp3)); (try have e5 := Blk.at B4.out (k := 5) rfl)
    subst hq
    refine upStoreAt (by rfl) (by rfl) rfl rfl rfl (B4.out)  (v := .slice xa sh.length xc) ⟨by kernel_rfl, by rw [show Try.prog.cellsOf 37 = 1 by kernel_rfl]; rfl⟩ (by show 2 + 1 ≤ 7; decide) (by intro u hu; simp [Value.cells] at hu; rcases hu with rfl; rfl) ?_
    intro wc3 BZ CW3
    have CH3 : Chg (fun k => k = mp) _ _ := CW3.mono (fun j _ e => by exact e)
    replace B4 : Hid (Blk wc3 mp [.string mx.nm, .slice sa mx.sh.length sc, .slice xa sh.length xc, .int .i64 (mx.si), .int .i64 (mx.wh), .slice sa mx.sh.length sc, .slice ga mx.tg.length gc].toArray wayT13) := Lib.hid BZ; clear BZ
    refine ⟨.inr CH3, ?_⟩
    simp only [Act.put, L0, L1, L2]
    refine Evo2.va ok 19 _ _ ?_
    refine Evo2.va ok 20 _ _ ?_
    refine Evo2.all [21] (by decide +kernel) rfl ?_
    intro wp4 gp4 iq hq
    simp only [List.mem_cons, List.mem_nil_iff, or_false] at hq
    have AP4 := Chg.trans (Chg.trans AP3 CH3) (Chg.grow gp4)
    (try replace B4 := Lib.hid (B4.out.grow gp4)); (try have e5 := Blk.at B4.out (k := 5) rfl)
    subst hq
    refine upStoreAt (by rfl) (by rfl) rfl rfl rfl (B4.out)  (v := .int .i64 now) ⟨by kernel_rfl, by rw [show Try.prog.cellsOf 3 = 1 by kernel_rfl]; rfl⟩ (by show 3 + 1 ≤ 7; decide) (by intro u hu; simp [Value.cells] at hu; rcases hu with rfl; rfl) ?_
    intro wc4 BZ CW4
    have CH4 : Chg (fun k => k = mp) _ _ := CW4.mono (fun j _ e => by exact e)
    replace B4 : Hid (Blk wc4 mp [.string mx.nm, .slice sa mx.sh.length sc, .slice xa sh.length xc, .int .i64 (now), .int .i64 (mx.wh), .slice sa mx.sh.length sc, .slice ga mx.tg.length gc].toArray wayT13) := Lib.hid BZ; clear BZ
    refine ⟨.inr CH4, ?_⟩
    simp only [Act.put, L0, L1, L2]
    refine Evo2.va ok 22 _ _ ?_
    refine Evo2.va ok 23 _ _ ?_
    refine Evo2.all [24] (by decide +kernel) rfl ?_
    intro wp5 gp5 iq hq
    simp only [List.mem_cons, List.mem_nil_iff, or_false] at hq
    have AP5 := Chg.trans (Chg.trans AP4 CH4) (Chg.grow gp5)
    (try replace B4 := Lib.hid (B4.out.grow gp5)); (try have e5 := Blk.at B4.out (k := 5) rfl)
    subst hq
    refine upStoreAt (by rfl) (by rfl) rfl rfl rfl (B4.out)  (v := .int .i64 wh) ⟨by kernel_rfl, by rw [show Try.prog.cellsOf 3 = 1 by kernel_rfl]; rfl⟩ (by show 4 + 1 ≤ 7; decide) (by intro u hu; simp [Value.cells] at hu; rcases hu with rfl; rfl) ?_
    intro wc5 BZ CW5
    have CH5 : Chg (fun k => k = mp) _ _ := CW5.mono (fun j _ e => by exact e)
    replace B4 : Hid (Blk wc5 mp [.string mx.nm, .slice sa mx.sh.length sc, .slice xa sh.length xc, .int .i64 (now), .int .i64 (wh), .slice sa mx.sh.length sc, .slice ga mx.tg.length gc].toArray wayT13) := Lib.hid BZ; clear BZ
    refine ⟨.inr CH5, ?_⟩
    simp only [Act.put, L0, L1, L2]
    refine Evo2.done (by decide +kernel) (fun wz gz => ?_)
    have AZ := Chg.trans (Chg.trans AP5 CH5) (Chg.grow gz)
    (try replace B4 := Lib.hid (B4.out.grow gz)); (try have e5 := Blk.at B4.out (k := 5) rfl)
    have H7 := Lib.hid (hold_chg1 H6.out FF.out AZ B4.out)
    have HR8 : Hid (ShR wz (.slice sa mx.sh.length sc) mx.sh ∧ ShR wz (.slice xa sh.length xc) sh) := Lib.hid (H7.out.see fun F ⟨_, _, _, ⟨_, _, _, ⟨_, _, ⟨_, _, rx, _, _, _⟩, ⟨_, _, _, ⟨_, _, ⟨⟨_, r2, r3, _⟩, _⟩, _⟩, _⟩, _⟩, _⟩, _⟩ => ⟨r3, rx.1⟩)
    clear HR6 H6 KC AZ gz B4
    go_wp2_with fail
    rename World => W8
    have B8 := Lib.hid (hold_b1 H7.out)
    have t8 := hold_b1 H7.out.rot
    have KC := Lib.hid (fun (w' : World) (h : Chg (fun _ => False) W8 w') => (have q := B8.out.chg h id; ⟨Blk.at q (k := 1) rfl, Blk.at q (k := 2) rfl, Blk.at q (k := 3) rfl, Blk.at (t8.chg h id) (k := 1) rfl, trivial⟩ : w'.cell? ⟨mp, 1, none⟩ = some (.slice sa mx.sh.length sc) ∧ w'.cell? ⟨mp, 2, none⟩ = some (.slice xa sh.length xc) ∧ w'.cell? ⟨mp, 3, none⟩ = some (.int .i64 now) ∧ w'.cell? ⟨w.heap.size, 1, none⟩ = some (.slice ya tg.length yc) ∧ True))
    clear t8
    have RH := Lib.hid (fun w' (q : Grow.G W8 w') => RG.out xa xc w' (SlOf.later (ShR.sl HR8.out.1) q) (SlOf.later (ShR.sl HR8.out.2) q))
    refine Evo2.start' (ℓ := some 22) (S := Chg (fun _ => False)) (E := Grow.G) (by kernel_rfl) ⟨Chg.pre _, by decide +kernel, (by intro c a d v w h; cases d <;> exact h), by decide +kernel⟩ (fun ok => ?_)
    refine Evo2.va ok 0 _ _ ?_
    refine Evo2.va ok 1 _ _ ?_
    refine Evo2.va ok 2 _ _ ?_
    refine Evo2.va ok 3 _ _ ?_
    first | (refine Evo2.vl ok 4 KC.out (Chg.refl (fun _ => False) _) _ _ ?_) | (refine Evo2.va ok 4 _ _ ?_)
    refine Evo2.va ok 5 _ _ ?_
    refine Evo2.va ok 6 _ _ ?_
    refine Evo2.va ok 7 _ _ ?_
    first | (refine Evo2.vl ok 8 KC.out (Chg.refl (fun _ => False) _) _ _ ?_) | (refine Evo2.va ok 8 _ _ ?_)
    refine Evo2.va ok 9 _ _ ?_
    refine Evo2.va ok 10 _ _ ?_
    refine Evo2.va ok 11 _ _ ?_
    refine Evo2.va ok 12 _ _ ?_
    first | (refine Evo2.vl ok 13 KC.out (Chg.refl (fun _ => False) _) _ _ ?_) | (refine Evo2.va ok 13 _ _ ?_)
    refine Evo2.va ok 14 _ _ ?_
    refine Evo2.va ok 15 _ _ ?_
    refine Evo2.va ok 17 _ _ ?_
    first | (refine Evo2.vl ok 18 KC.out (Chg.refl (fun _ => False) _) _ _ ?_) | (refine Evo2.va ok 18 _ _ ?_)
    refine Evo2.all [16] (by decide +kernel) rfl ?_
    intro wp1 gp1 iq hq
    simp only [List.mem_cons, List.mem_nil_iff, or_false] at hq
    have AP1 := Chg.trans (Chg.refl (fun _ => False) _) (Chg.grow gp1)
    (try replace RO := Lib.hid (own_later RO.out gp1))
    subst hq
    refine Evo2.enters 34 _ (by rfl) (by rfl) (by go_simp; exact ⟨rfl, rfl⟩) ?_
    refine (RH.out wp1 (Chg.toGrow AP1 (fun _ _ => id))).mono ?_
    rintro e wc1 ⟨u, rfl, ho, hg⟩; obtain ⟨ua, uc, rfl⟩ := own_shape ho; have CH1 := Chg.grow (G := fun _ => False) hg; have RO := Lib.hid (own_base ho gp1.size)
    refine ⟨_, rfl, .inr CH1, ?_⟩
    have AC1 := Chg.trans AP1 CH1
    simp only [Act.put, L0, L1, L2]
    refine Evo2.va ok 19 _ _ ?_
    refine Evo2.va ok 20 _ _ ?_
    refine Evo2.va ok 21 _ _ ?_
    refine Evo2.all [22] (by decide +kernel) rfl ?_
    intro wp2 gp2 iq hq
    simp only [List.mem_cons, List.mem_nil_iff, or_false] at hq
    have AP2 := Chg.trans AC1 (Chg.grow gp2)
    (try replace RO := Lib.hid (own_later RO.out gp2))
    subst hq
    refine upStoreAt (by rfl) (by rfl) rfl rfl rfl (B8.out.chg AP2 id)  (v := .agg #[.slice ua (rollL mx.sh sh 0 wh).length uc, .slice ya tg.length yc]) ⟨by kernel_rfl, by rw [show Try.prog.cellsOf tablT13 = 2 by kernel_rfl]; rfl⟩ (by show 5 + 2 ≤ 7; decide) (by intro u hu; simp [Value.cells] at hu; rcases hu with rfl | rfl <;> rfl) ?_
    intro wc2 BZ CW2
    refine ⟨.inl (by first | rfl | trivial), ?_⟩
    simp only [Act.put, L0, L1, L2]
    refine Evo2.done (by decide +kernel) (fun wz gz => ?_)
    have AZ := AP2
    have BZ : Blk wc2 mp [.string mx.nm, .slice sa mx.sh.length sc, .slice xa sh.length xc, .int .i64 (now), .int .i64 (wh), .slice ua (rollL mx.sh sh 0 wh).length uc, .slice ya tg.length yc].toArray wayT13 := BZ
    have H8 := hold_row1 H7.out (FM.out _) FF.out (AZ.toGrow (fun _ _ => id)) RO.out (Nat.le_refl _)
    have FG := Lib.hid ((FU.out (.slice ua (rollL mx.sh sh 0 wh).length uc) (rollL mx.sh sh 0 wh).length ((rollL mx.sh sh 0 wh).flatMap Shr.cells)).sep FF.out)
    have H9 := Lib.hid ((hold_chg1 H8 FG.out CW2 BZ).grow ((FM.out _).sep FG.out) gz)
    clear AZ H8 BZ CW2 gz RO RH HR8 B8 KC H7
    rename World => W9
    have B9 := hold_b1 H9.out
    have c5 := Blk.at B9 (k := 5) rfl
    have c6 := Blk.at B9 (k := 6) rfl
    have hp9 := B9.lt
    have HR9 : Hid (ShR W9 (.slice ua (rollL mx.sh sh 0 wh).length uc) (rollL mx.sh sh 0 wh) ∧ TgR W9 (.slice ya tg.length yc) tg) := Lib.hid (H9.out.see fun F ⟨_, _, _, ⟨_, _, ru, ⟨_, _, _, ⟨_, _, ⟨_, _, _, ry, _, _⟩, _⟩, _⟩, _⟩, _⟩ => ⟨ru.1, ry.1⟩)
    have CP := Lib.hid (fun w' (q : Grow.G W9 w') => rcopy_any ua (rollL mx.sh sh 0 wh) uc ya tg yc w' ((ShR.src HR9.out.1).grow q) ((TgR.src HR9.out.2).grow q) HRL.out HTL.out)
    clear HR9 B9
    go_wp2_with fail
    refine (CP.out _ (Grow.G.refl _)).mono ?_
    rintro e w5 ⟨va, vb, rfl, hc⟩
    have H10 := hold_tab H9.out (FM.out _) FG.out hc
    obtain ⟨ra, rc, rfl⟩ := own_shape hc.1
    obtain ⟨za, zc, rfl⟩ := own_shape hc.2.1
    have H11 := Lib.hid (H10.map fun F h => Sep.pull5 h)
    have FH := Lib.hid ((FM.out [.string mx.nm, .slice sa mx.sh.length sc, .slice xa sh.length xc, .int .i64 (now), .int .i64 (wh), .slice ua (rollL mx.sh sh 0 wh).length uc, .slice ya tg.length yc]).sep ((FX.out (rollL mx.sh sh 0 wh) tg (.slice ra (rollL mx.sh sh 0 wh).length rc) (.slice za tg.length zc)).sep ((FU.out (.slice ua (rollL mx.sh sh 0 wh).length uc) (rollL mx.sh sh 0 wh).length ((rollL mx.sh sh 0 wh).flatMap Shr.cells)).sep ((FT.out w.heap.size [.slice xa sh.length xc, .slice ya tg.length yc]).sep ((FX.out sh tg (.slice xa sh.length xc) (.slice ya tg.length yc)).sep FDD.out)))))
    clear hc H10 H9 CP c5 c6
    go_wp2_with (refine Hold.setB (off := 0) (vs := [.slice ra (rollL mx.sh sh 0 wh).length rc, .slice za tg.length zc]) FH.out rfl rfl rfl rfl rfl (n := 2) CT H11.out rfl (by simp) rfl ?_; intro w7 H7)
    refine Stay.go ?_
    have H12 := Lib.hid H7
    have BF : Blk w7 (w.heap.size + 1) #[.slice ra (rollL mx.sh sh 0 wh).length rc, .slice za tg.length zc] tablT13 := hold_b1 H7
    clear H7 H11 FH
    go_wp2_with fail
    refine bodyPost_ret (v := .agg #[.slice ra (rollL mx.sh sh 0 wh).length rc, .slice za tg.length zc]) (by simp [results, Try.results19, go_sem, BF.cell]) rfl ?_
    refine ⟨_, _, rfl, ?_⟩
    have H13 := fin_go ⟨newW mx.nm mx.sh sh tg now wh, mp, .slice sa mx.sh.length sc, .slice xa sh.length xc, .slice ua (rollL mx.sh sh 0 wh).length uc, .slice ya tg.length yc⟩ H12.out (by intro w F D h; exact rows_go (m := ⟨mx, mp, .slice fa mx.fr.length fc, .slice ta mx.to.length tc, .slice sa mx.sh.length sc, .slice ga mx.tg.length gc⟩) h rfl rfl rfl rfl rfl rfl rfl ⟨rfl, rfl⟩)
    rw [HT.out]
    exact hold_rolclose (hold_way' H13 rfl) (by rw [List.map_append, List.map_cons]) (HT.out ▸ HO.out)
end Go.Proofs.Ytjhfjjkfnmnkgaa
