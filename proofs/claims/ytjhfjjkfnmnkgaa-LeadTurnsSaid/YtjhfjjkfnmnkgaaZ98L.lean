/- My own texts Lw0, Lkn, Lw1, laid in one file. -/
import Derived.Test.YtjhfjjkfnmnkgaaZ98K
import Derived.Test.YtjhfjjkfnmnkgaaZ46
import Derived.Test.YtjhfjjkfnmnkgaaZ47
import Derived.Test.YtjhfjjkfnmnkgaaZ39
import Derived.Test.YtjhfjjkfnmnkgaaZ53
import Derived.Test.YtjhfjjkfnmnkgaaZ98B

/- Routes led: what the laws hold; known. -/
namespace Go.Proofs.Ytjhfjjkfnmnkgaa
set_option maxRecDepth 100000
set_option linter.unusedVariables false
set_option linter.unusedSimpArgs false
set_option linter.unnecessarySimpa false
open Go.RowKit Go.Args

/-- A table as it may be. -/
structure MkT (sh : List Shr) (tg : List Tgo) : Prop where
  sd : Sd sh
  tl : tg.length ≤ 1000
  zt : ∀ t, t ∈ tg → SzT t
  hr : rightB sh tg = true
theorem mk_tab (zs ms : List Int) : MkT (mkS zs) (mkT ms) := ⟨mk_sd zs, by have := mkT_len ms; omega, fun t ht => (mkT_small ms).2 t ht, mk_right zs ms⟩
/-- A table's two rows, told by where they lie. -/
abbrev TabS (sh : List Shr) (tg : List Tgo) (a : Option Addr) (c : Nat) (b : Option Addr) (d : Nat) : Hp := TabF sh tg (.slice a sh.length c) (.slice b tg.length d)
section
variable {w0 w w' : World} {L : List MBox} {A B C D : Hp} {sh : List Shr} {tg : List Tgo} {va vb : Value} {a b : Option Addr} {c d : Nat} {F : Nat → Prop}
theorem tab_shape (h : TabF sh tg va vb w F) : ∃ a c b d, va = .slice a sh.length c ∧ vb = .slice b tg.length d := by
  obtain ⟨F1, F2, ⟨h1, _⟩, ⟨h2, _⟩, _⟩ := h
  obtain ⟨a, c, e1⟩ := own_shape h1
  obtain ⟨b, d, e2⟩ := own_shape h2
  exact ⟨a, c, b, d, e1, e2⟩
theorem tab_rows (h : TabS sh tg a c b d w F) : ShSl w a sh ∧ TgSl w b tg := by
  obtain ⟨F1, F2, ⟨h1, _⟩, ⟨h2, _⟩, _⟩ := h
  exact ⟨SlOf.own (fun x => rfl) h1, SlOf.own (fun x => rfl) h2⟩
theorem hold_rows2 (h : Hold w0 w L (Sep A (Sep (TabS sh tg a c b d) B))) : ShSl w a sh ∧ TgSl w b tg := h.see fun F ⟨_, _, _, ⟨_, _, q, _⟩, _⟩ => tab_rows q
theorem hold_rows4 (h : Hold w0 w L (Sep A (Sep C (Sep D (Sep (TabS sh tg a c b d) B))))) : ShSl w a sh ∧ TgSl w b tg := h.see fun F ⟨_, _, _, ⟨_, _, _, ⟨_, _, _, ⟨_, _, q, _⟩, _⟩, _⟩, _⟩ => tab_rows q
theorem MkT.pt (m : MkT sh tg) (h : ShSl w a sh ∧ TgSl w b tg) : PTurn w a sh b tg := ⟨h.1, h.2, m.sd, m.tl, m.zt, m.hr⟩
theorem hold_drop2 (h : Hold w0 w L (Sep A (Sep C B))) : Hold w0 w L (Sep A B) := h.weak fun F h => h.weakR fun F h => h.dropL
/-- What is told, by where it lies. -/
theorem told_at {R : Value → Value} {Q : World → World → Prop} {P : Program} {f : FuncId} {args : Array Value} (h : Calls P f args w fun e w' => ∃ va vb, e = .returned (R (.agg #[va, vb])) ∧ Hold w0 w' L (Sep A (Sep (TabF sh tg va vb) B))) :
    Calls P f args w fun e w' => ∃ a c b d, e = .returned (R (.agg #[.slice a sh.length c, .slice b tg.length d])) ∧ Hold w0 w' L (Sep A (Sep (TabS sh tg a c b d) B)) := h.mono fun e w' ⟨va, vb, q, H⟩ => by
  obtain ⟨a, c, b, d, rfl, rfl⟩ := H.see (p := ∃ a c b d, va = .slice a sh.length c ∧ vb = .slice b tg.length d) fun F ⟨_, _, _, ⟨_, _, z, _⟩, _⟩ => tab_shape z
  exact ⟨a, c, b, d, q, H⟩
end
section
variable {w0 w : World} {L : List MBox} {B A : Hp} {g c : Nat} {nw : Int} {l : List Wa} {x : Wa}
theorem at_table_no (h : Hold w0 w L (Sep (PlP g l nw c) B)) (hB : Foot B) (s : ByteArray) (hs : s.size ≤ 100000) (h1 : findW l s = none) :
    Calls Try.prog 20 #[pz g, .string s] w fun e w' => ∃ a k b d, e = .returned (.tuple #[.agg #[.slice a 0 k, .slice b 0 d], .bool false]) ∧ Hold w0 w' L (Sep (PlP g l nw c) (Sep (TabS [] [] a k b d) B)) :=
  told_at (R := fun v => .tuple #[v, .bool false]) (Q := fun _ _ => True) (hold_pltable_no h hB s (by unfold maxLen; omega) h1)
theorem at_table (h : Hold w0 w L (Sep (PlP g l nw c) B)) (hB : Foot B) (s : ByteArray) (hs : s.size ≤ 100000) {k : Nat} (hi : WInv l k) (h1 : findW l s = some x) {sh : List Shr} (e1 : x.sh = sh) {tg : List Tgo} (e2 : x.tg = tg) :
    Calls Try.prog 20 #[pz g, .string s] w fun e w' => ∃ a k b d, e = .returned (.tuple #[.agg #[.slice a sh.length k, .slice b tg.length d], .bool true]) ∧ Hold w0 w' L (Sep (PlP g l nw c) (Sep (TabS sh tg a k b d) B)) := by
  subst e1 e2
  exact told_at (R := fun v => .tuple #[v, .bool true]) (Q := fun _ _ => True) (hold_pltable_yes h hB s (by unfold maxLen; omega) hi h1)
theorem at_turn (h : Hold w0 w L (Sep (PlP g l nw c) B)) (hB : Foot B) (s : ByteArray) (hs : s.size ≤ 100000) (a : Option Addr) (sh : List Shr) (ca : Nat) (b : Option Addr) (tg : List Tgo) (cb : Nat) (now wh : Int)
    (hc : c ≤ 1000) {k : Nat} (hi : WInv l k) (m : MkT sh tg) (hin : ShSl w a sh ∧ TgSl w b tg) (hn : 0 ≤ now ∧ now ≤ 1000000) (hnw : nw ≤ now) (hw : 0 ≤ wh ∧ wh ≤ 1000000) {l' : List Wa} (el : turnW l s sh tg now wh = l') {r : List Shr} (er : (stepW (findW l s) s sh tg now wh).sh = r) :
    Calls Try.prog 17 #[pz g, .string s, .agg #[.slice a sh.length ca, .slice b tg.length cb], .int .i64 now, .int .i64 wh] w fun e w' => ∃ a k b d, e = .returned (.agg #[.slice a r.length k, .slice b tg.length d]) ∧ Hold w0 w' L (Sep (PlP g l' now (c + 1)) (Sep (TabS r tg a k b d) B)) := by
  subst el er
  exact told_at (R := fun v => v) (Q := fun _ _ => True) (hold_plturn h hB s hs a sh ca b tg cb now wh hc hi (m.pt hin) hn hnw hw)
theorem at_rturn (h : Hold w0 w L (Sep (RolP g l) B)) (hB : Foot B) (s : ByteArray) (a : Option Addr) (sh : List Shr) (ca : Nat) (b : Option Addr) (tg : List Tgo) (cb : Nat) (now wh : Int)
    {k : Nat} (hk : k ≤ 1000) (hi : WInv l k) (m : MkT sh tg) (hin : ShSl w a sh ∧ TgSl w b tg) (hn : 0 ≤ now ∧ now ≤ 1000000) (hw : 0 ≤ wh ∧ wh ≤ 1000000) {l' : List Wa} (el : turnW l s sh tg now wh = l') {r : List Shr} (er : (stepW (findW l s) s sh tg now wh).sh = r) :
    Calls Try.prog 19 #[pz g, .string s, .agg #[.slice a sh.length ca, .slice b tg.length cb], .int .i64 now, .int .i64 wh] w fun e w' => ∃ a k b d, e = .returned (.agg #[.slice a r.length k, .slice b tg.length d]) ∧ Hold w0 w' L (Sep (RolP g l') (Sep (TabS r tg a k b d) B)) := by
  subst el er
  exact told_at (R := fun v => v) (Q := fun _ _ => True) (hold_rolturn h hB s a sh ca b tg cb now wh hk hi (m.pt hin).rol hn hw)
end
theorem kA_mk : MkT kA [] := ⟨kA_sd, by decide, (fun t h => by cases h), by decide +kernel⟩

set_option maxHeartbeats 4000000 in
theorem known13_any (w : World) : Calls Try.prog 10 #[] w fun e w' => e = .returned (.bool true) ∧ Grow.G w w' := by
  have FE := Lib.hid Emp.foot
  have FT := Lib.hid (fun sh tg va vb => TabF.foot sh tg va vb)
  have E1 : Hid ((stepW (findW [] ⟨#[120]⟩) ⟨#[120]⟩ kA [] 5 10).sh = kA) := Lib.hid (show rollL kA kA 0 10 = kA from roll_self kA_sd)
  go_enter Try.func10, Try.ntmps10
  go_wp2_with fail
  refine (hold_plnew (Hold.nil w) FE.out).mono ?_
  rintro e w1 ⟨g, rfl, hh⟩
  have H := Lib.hid hh
  clear hh
  go_wp2_with fail
  refine (at_table_no H.out FE.out ⟨#[120]⟩ (by decide) rfl).mono ?_
  rintro e w2 ⟨a, k, b, d, rfl, hh⟩
  have H2 := hold_drop2 hh
  have H3 := Lib.hid ((H2.grow ((PlP.foot _ _ _ _).sep FE.out) (Grow.G.alloc (Grow.G.refl _) (.cells #[.slice a 0 k, .slice b 0 d] 40))).grow ((PlP.foot _ _ _ _).sep FE.out) (Grow.G.alloc (Grow.G.refl _) (.cells #[.string ⟨#[97, 45, 49]⟩, .int .i64 100] 53)))
  have SK : Hid (ShSl ((w2.alloc (.cells #[.slice a 0 k, .slice b 0 d] 40)).alloc (.cells #[.string ⟨#[97, 45, 49]⟩, .int .i64 100] 53)) (some ⟨w2.heap.size + 1, 0, none⟩) kA) := Lib.hid (sh1 (Blk.new' (w := w2.alloc (.cells #[.slice a 0 k, .slice b 0 d] 40)) (cs := #[.string ⟨#[97, 45, 49]⟩, .int .i64 100]) (T := 53) (g := w2.heap.size + 1) (by simp)))
  clear hh H2 H
  go_wp2_with fail
  refine (at_turn H3.out FE.out ⟨#[120]⟩ (by decide) _ kA _ _ [] _ 5 10 (by omega) WInv.nil kA_mk ⟨SK.out, .inl rfl⟩ (by omega) (by omega) (by omega) rfl E1.out).mono ?_
  rintro e w4 ⟨a2, k2, b2, d2, rfl, hh⟩
  obtain ⟨bb, off, rfl, hc⟩ := (hold_rows2 hh).1.spot (i := 0) (by decide)
  have c1 : w4.cell? ⟨bb, off + 1, none⟩ = some (.int .i64 100) := hc 0 _ rfl 1 _ rfl
  have hbl : bb < w4.heap.size := cell_in c1
  have G4 := Lib.hid hh.below
  clear hh hc H3 SK E1
  rw [show kA.length = 1 from rfl, show ([] : List Tgo).length = 0 from rfl]
  go_wp2_with fail
  go_ret
  exact ⟨rfl, G4.out.trans (Grow.G.alloc (Grow.G.refl _) _)⟩
end Go.Proofs.Ytjhfjjkfnmnkgaa

/- Routes led: a turn in a region that draws its order. -/
namespace Go.Proofs.Ytjhfjjkfnmnkgaa
set_option maxRecDepth 100000
set_option linter.unusedVariables false
set_option linter.unusedSimpArgs false
set_option linter.unnecessarySimpa false
open Go.RowKit Go.Args

section
variable {w0 w : World} {L : List MBox} {B A : Hp} {g c : Nat} {nw : Int} {l : List Wa} {F : Nat → Prop}
theorem at_turnF (h : HoldF w0 w L (Sep (PlP g l nw c) B) F) (hB : Foot B) (s : ByteArray) (hs : s.size ≤ 100000) (a : Option Addr) (sh : List Shr) (ca : Nat) (b : Option Addr) (tg : List Tgo) (cb : Nat) (now wh : Int)
    (hc : c ≤ 1000) {k : Nat} (hi : WInv l k) (m : MkT sh tg) (hin : ShSl w a sh ∧ TgSl w b tg) (hn : 0 ≤ now ∧ now ≤ 1000000) (hnw : nw ≤ now) (hw : 0 ≤ wh ∧ wh ≤ 1000000) {l' : List Wa} (el : turnW l s sh tg now wh = l') {r : List Shr} (er : (stepW (findW l s) s sh tg now wh).sh = r) :
    Calls Try.prog 17 #[pz g, .string s, .agg #[.slice a sh.length ca, .slice b tg.length cb], .int .i64 now, .int .i64 wh] w fun e w' => ∃ a k b d, e = .returned (.agg #[.slice a r.length k, .slice b tg.length d]) ∧ ∃ F', HoldF w0 w' L (Sep (PlP g l' now (c + 1)) (Sep (TabS r tg a k b d) B)) F' ∧ Chg F w w' ∧ Fresh w F F' := by
  refine (HoldF.callN (ι := Option Addr × Nat × Option Addr × Nat) (A' := fun i => Sep (PlP g l' now (c + 1)) (Sep (TabS r tg i.1 i.2.1 i.2.2.1 i.2.2.2) B)) (R := fun i e => e = .returned (.agg #[.slice i.1 r.length i.2.1, .slice i.2.2.1 tg.length i.2.2.2])) h ((PlP.foot _ _ _ _).sep hB) (fun w1 B1 hB1 H1 => ?_)).mono ?_
  · refine (at_turn (H1.map fun F h => Sep.assoc h) (hB.sep hB1) s hs a sh ca b tg cb now wh hc hi m hin hn hnw hw el er).mono ?_
    rintro e w' ⟨a1, k1, b1, d1, q, H2⟩
    exact ⟨(a1, k1, b1, d1), q, H2.map fun F h => Sep.assoc' (h.under fun F h => Sep.assoc' h)⟩
  · rintro e w' ⟨⟨a1, k1, b1, d1⟩, q, z⟩
    exact ⟨a1, k1, b1, d1, q, z⟩
theorem at_rturnF (h : HoldF w0 w L (Sep (RolP g l) B) F) (hB : Foot B) (s : ByteArray) (a : Option Addr) (sh : List Shr) (ca : Nat) (b : Option Addr) (tg : List Tgo) (cb : Nat) (now wh : Int)
    {k : Nat} (hk : k ≤ 1000) (hi : WInv l k) (m : MkT sh tg) (hin : ShSl w a sh ∧ TgSl w b tg) (hn : 0 ≤ now ∧ now ≤ 1000000) (hw : 0 ≤ wh ∧ wh ≤ 1000000) {l' : List Wa} (el : turnW l s sh tg now wh = l') {r : List Shr} (er : (stepW (findW l s) s sh tg now wh).sh = r) :
    Calls Try.prog 19 #[pz g, .string s, .agg #[.slice a sh.length ca, .slice b tg.length cb], .int .i64 now, .int .i64 wh] w fun e w' => ∃ a k b d, e = .returned (.agg #[.slice a r.length k, .slice b tg.length d]) ∧ ∃ F', HoldF w0 w' L (Sep (RolP g l') (Sep (TabS r tg a k b d) B)) F' ∧ Chg F w w' ∧ Fresh w F F' := by
  refine (HoldF.callN (ι := Option Addr × Nat × Option Addr × Nat) (A' := fun i => Sep (RolP g l') (Sep (TabS r tg i.1 i.2.1 i.2.2.1 i.2.2.2) B)) (R := fun i e => e = .returned (.agg #[.slice i.1 r.length i.2.1, .slice i.2.2.1 tg.length i.2.2.2])) h ((RolP.foot _ _).sep hB) (fun w1 B1 hB1 H1 => ?_)).mono ?_
  · refine (at_rturn (H1.map fun F h => Sep.assoc h) (hB.sep hB1) s a sh ca b tg cb now wh hk hi m hin hn hw el er).mono ?_
    rintro e w' ⟨a1, k1, b1, d1, q, H2⟩
    exact ⟨(a1, k1, b1, d1), q, H2.map fun F h => Sep.assoc' (h.under fun F h => Sep.assoc' h)⟩
  · rintro e w' ⟨⟨a1, k1, b1, d1⟩, q, z⟩
    exact ⟨a1, k1, b1, d1, q, z⟩
end
theorem quiet13 {P : Program} {f : FuncId} {args : Array Value} {w : World} {v : Value} (h : Calls P f args w fun e w' => e = .returned v ∧ w = w') : Calls P f args w fun e w' => e = .returned v ∧ Grow.G w w' :=
  h.mono fun e w' ⟨q1, q2⟩ => ⟨q1, q2 ▸ Grow.G.refl _⟩
theorem keepc {w0 w w' : World} {L : List MBox} {A : Hp} {F : Nat → Prop} (h : HoldF w0 w L A F) (c : Chg (fun j => F j ∨ w.heap.size ≤ j) w w') {i g : Nat} {cs : List Value} {T : TypeId} (hi : L[i]? = some (g, cs, T)) {o : Nat} {v : Value} (hv : cs[o]? = some v) : w'.cell? ⟨g, o, none⟩ = some v :=
  c.cell (h.mem.cell hi hv) (fun q => q.elim (h.ap _ (List.mem_of_getElem? hi)) (fun z => by have := h.mem.lt hi; omega))
theorem same_true {a b a2 b2 : Option Addr} {sh : List Shr} {tg : List Tgo} {c d c2 d2 : Nat} (w : World) (h1 : ShSl w a sh ∧ TgSl w b tg) (h2 : ShSl w a2 sh ∧ TgSl w b2 tg) (n1 : sh.length ≤ 1000) (n2 : tg.length ≤ 1000) :
    Calls Try.prog 16 #[.agg #[.slice a sh.length c, .slice b tg.length d], .agg #[.slice a2 sh.length c2, .slice b2 tg.length d2]] w fun e w' => e = .returned (.bool true) ∧ Grow.G w w' :=
  (rsame_any a sh c b tg d a2 sh c2 b2 tg d2 w h1.1 h1.2 h2.1 h2.2 n1 n2).mono fun e w' ⟨q1, q2⟩ => ⟨by rw [q1, show sameShr sh sh = true from (sameL_iff shrB_iff).2 rfl, show sameTgo tg tg = true from (sameL_iff tgoB_iff).2 rfl]; rfl, q2⟩
abbrev fr13 : ByteArray := ⟨#[102, 114, 111, 110, 116]⟩
abbrev bk13 : ByteArray := ⟨#[98, 97, 99, 107]⟩
/-- Where a way has its shares. -/
theorem winv_len {l : List Wa} {n : Nat} (h : WInv l n) {s : ByteArray} {x : Wa} (e : findW l s = some x) : x.sh.length ≤ 500 := (h.sd x (findW_mem e).1).s.len
theorem turned_len {l : List Wa} {n : Nat} (h : WInv l n) {s : ByteArray} {sh : List Shr} {tg : List Tgo} {now wh : Int} (m : MkT sh tg) (hn : 0 ≤ now ∧ now ≤ 1000000) : (stepW (findW l s) s sh tg now wh).sh.length ≤ 500 :=
  winv_len (h.turn m.sd m.tl m.zt hn) (findW_turn l s sh tg now wh)
end Go.Proofs.Ytjhfjjkfnmnkgaa
