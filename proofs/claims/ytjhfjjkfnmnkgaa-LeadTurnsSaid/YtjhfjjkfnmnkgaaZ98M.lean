/- My own texts ArgW, Lw2, laid in one file. -/
import Derived.Test.YtjhfjjkfnmnkgaaZ36
import Derived.Test.YtjhfjjkfnmnkgaaLift
import Derived.Test.YtjhfjjkfnmnkgaaZ98L
import Derived.Test.YtjhfjjkfnmnkgaaZ2
import Derived.Test.YtjhfjjkfnmnkgaaZ72

/- Rows of turns that came in. -/
namespace Go.Proofs.Ytjhfjjkfnmnkgaa
set_option linter.unusedVariables false
set_option linter.unusedSimpArgs false
set_option maxRecDepth 100000
open Go.ChangeShapes Go.WideShapes Go.ChangeAt Go.RowKit Go.Args
structure TurnD where
  nm : Int
  kd : Int
  af : Int
  wh : Int
  va : Value
  vb : Value
  ns : List Int
  ms : List Int
def turnD0 : TurnD := ⟨0, 0, 0, 0, .slice none 0 0, .slice none 0 0, [], []⟩
def TurnD.cells (x : TurnD) : List Value := [.int .i64 x.nm, .int .i64 x.kd, .int .i64 x.af, .int .i64 x.wh, x.va, x.vb]
structure TurnD.ok (W : World) (x : TurnD) : Prop where
  n : wf64 x.nm
  k : wf64 x.kd
  a : wf64 x.af
  w : wf64 x.wh
  hx : IntSlice W x.va x.ns
  hy : IntSlice W x.vb x.ms
section
variable {H : Type} {enc : TypeId × Value → H} {W : World}
theorem rd_ints {cs : List Value} {d : DataW H} (h : Rd enc Try.prog W 33 cs d) (hs : Sz Try.prog 33 d) : ∃ v zs, cs = [v] ∧ IntSlice W v zs := by
  rcases h.slice Try.underlying33 hs with rfl | ⟨a, len, cap, rfl, hl, hm, _, hel⟩
  · exact ⟨_, [], rfl, .inr ⟨rfl, none, 0, rfl⟩⟩
  · obtain ⟨fuel, ps, hf⟩ := h
    obtain ⟨zs, hz⟩ := intSlice_of Try.underlying33 Try.underlying3 (by kernel_rfl) hf
    exact ⟨_, zs, rfl, hz⟩
theorem turn_rd {cs : List Value} {d : DataW H} (h : Rd enc Try.prog W 35 cs d) (hs : Sz Try.prog 35 d) : ∃ x : TurnD, cs = x.cells ∧ x.ok W := by
  obtain ⟨hl, hf⟩ := h.struct Try.underlying35 hs
  obtain ⟨x0, x1, x2, x3, x4, x5, rfl⟩ := list6 (hl.trans (show Try.prog.cellsOf 35 = 6 by kernel_rfl))
  obtain ⟨d0, r0, s0⟩ := hf 0 _ rfl
  obtain ⟨d1, r1, s1⟩ := hf 1 _ rfl
  obtain ⟨d2, r2, s2⟩ := hf 2 _ rfl
  obtain ⟨d3, r3, s3⟩ := hf 3 _ rfl
  obtain ⟨d4, r4, s4⟩ := hf 4 _ rfl
  obtain ⟨d5, r5, s5⟩ := hf 5 _ rfl
  clear hf
  obtain ⟨k, e0, b0⟩ := rd_i64 r0
  obtain ⟨g, e1, b1⟩ := rd_i64 r1
  obtain ⟨n, e2, b2⟩ := rd_i64 r2
  obtain ⟨q, e3, b3⟩ := rd_i64 r3
  obtain ⟨va, zs, e4, b4⟩ := rd_ints r4 s4
  obtain ⟨vb, ms, e5, b5⟩ := rd_ints r5 s5
  have cI : Try.prog.cellsOf 3 = 1 := by kernel_rfl
  have cS : Try.prog.cellsOf 33 = 1 := by kernel_rfl
  simp [cI] at e0 e1 e2 e3
  simp [cS] at e4 e5
  exact ⟨⟨k, g, n, q, va, vb, zs, ms⟩, by simp [TurnD.cells, *], b0, b1, b2, b3, b4, b5⟩
/-- What is known of a row of turns that came in. -/
structure TurnsL (W : World) (a : Option Addr) (xs : List TurnD) : Prop where
  sl : SlOf W TurnD.cells 6 a xs
  ok : ∀ x, x ∈ xs → x.ok W
  le : xs.length ≤ maxLen
theorem turns_of {base : Nat} {v : Value} {d : DataW H} {p : List MemPlace} (hv : Value.okWide Try.prog W .any base 22 v) (h : DataW.Trod enc Try.prog W 0 (fun _ => true) true 22 v d p) (hs : Sz Try.prog 22 d) :
    ∃ a xs c, v = .slice a (List.length xs) c ∧ TurnsL W a xs := by
  obtain ⟨s, len, cap, rfl⟩ := okWide_slice Try.underlying22 hv
  obtain ⟨a, xs, c, e, h1, h2, h3⟩ := SlOf.of_rd turnD0 TurnD.cells (fun x => x.ok W) (rd_of h) Try.underlying22 hs (n := 6) (by kernel_rfl) (fun cs d h hs => turn_rd h hs) (fun x _ => by simp [TurnD.cells])
  exact ⟨a, xs, c, by simpa [Value.cells] using e, h1, h2, h3⟩
/-- An element's place and cells. -/
theorem TurnsL.at {w : World} {a : Option Addr} {xs : List TurnD} (h : TurnsL w a xs) {i : Nat} {x : TurnD} (hi : xs[i]? = some x) : ∃ b off, a = some ⟨b, off, none⟩ ∧ (∀ w', Grow.G w w' → ∀ j v, x.cells[j]? = some v → w'.cell? ⟨b, off + i * 6 + j, none⟩ = some v) := by
  have hl : i < xs.length := (List.getElem?_eq_some_iff.1 hi).1
  obtain ⟨b, off, ha, hc⟩ := h.sl.spot hl
  exact ⟨b, off, ha, fun w' g j v hj => cell_later g (hc i x hi j v hj)⟩
end
end Go.Proofs.Ytjhfjjkfnmnkgaa

/- What the law of the turns holds: the goals it has made. -/
namespace Go.Proofs.Ytjhfjjkfnmnkgaa
set_option maxRecDepth 100000
set_option linter.unusedVariables false
set_option linter.unusedSimpArgs false
set_option linter.unnecessarySimpa false
open Go.RowKit Go.Args

structure Gl where
  a : Option Addr
  sh : List Shr
  c : Nat
  b : Option Addr
  tg : List Tgo
  d : Nat
def gl0 : Gl := ⟨none, [], 0, none, [], 0⟩
def Gl.va (m : Gl) : Value := .slice m.a m.sh.length m.c
def Gl.vb (m : Gl) : Value := .slice m.b m.tg.length m.d
def glCells (G : Nat → Gl) : List Value := [(G 0).va, (G 0).vb, (G 1).va, (G 1).vb, (G 2).va, (G 2).vb]
def upG (G : Nat → Gl) (k : Nat) (m : Gl) : Nat → Gl := fun j => if j = k then m else G j
theorem gl_va (G : Nat → Gl) {k : Nat} (h : k < 3) : (glCells G)[k * 2]? = some (.slice (G k).a (G k).sh.length (G k).c) := by
  match k, h with
  | 0, _ => rfl
  | 1, _ => rfl
  | 2, _ => rfl
theorem gl_vb (G : Nat → Gl) {k : Nat} (h : k < 3) : (glCells G)[k * 2 + 1]? = some (.slice (G k).b (G k).tg.length (G k).d) := by
  match k, h with
  | 0, _ => rfl
  | 1, _ => rfl
  | 2, _ => rfl
theorem gl_put (G : Nat → Gl) {k : Nat} (h : k < 3) (m : Gl) : (glCells G).take (k * 2) ++ [m.va, m.vb] ++ (glCells G).drop (k * 2 + 2) = glCells (upG G k m) := by
  match k, h with
  | 0, _ => rfl
  | 1, _ => rfl
  | 2, _ => rfl
/-- The tables of all goals: no one writes to them. -/
def GoalF (G : Nat → Gl) : Hp := fun w F => (∀ k, F k → k < w.heap.size) ∧ ∀ j, ∃ Fj, TabS (G j).sh (G j).tg (G j).a (G j).c (G j).b (G j).d w Fj ∧ ∀ k, Fj k → F k
theorem GoalF.foot (G : Nat → Gl) : Foot (GoalF G) where
  lt := fun h k hk => h.1 k hk
  frame := fun ⟨h1, h2⟩ c hs => ⟨fun k hk => Nat.lt_of_lt_of_le (h1 k hk) c.size, fun j => by
    obtain ⟨Fj, q1, q2⟩ := h2 j
    exact ⟨Fj, (TabF.foot _ _ _ _).frame q1 c (fun k hk => hs k (q2 k hk)), q2⟩⟩
theorem GoalF.zero (w : World) : GoalF (fun _ => gl0) w (fun _ => False) :=
  ⟨fun k q => q.elim, fun j => ⟨fun _ => False, ⟨fun _ => False, fun _ => False, ⟨⟨by first | rfl | simp, .inl ⟨rfl, by first | rfl | simp⟩⟩, fun k => ⟨False.elim, fun q => by cases q⟩⟩, ⟨⟨by first | rfl | simp, .inl ⟨rfl, by first | rfl | simp⟩⟩, fun k => ⟨False.elim, fun q => by cases q⟩⟩, fun k q _ => q.elim, fun k => ⟨False.elim, fun q => q.elim id id⟩⟩, fun k q => q⟩⟩
theorem GoalF.put {G : Nat → Gl} {k : Nat} {m : Gl} {w : World} {F : Nat → Prop} (h : Sep (TabS m.sh m.tg m.a m.c m.b m.d) (GoalF G) w F) : GoalF (upG G k m) w F := by
  obtain ⟨F1, F2, h1, ⟨h2, h3⟩, ap, e⟩ := h
  refine ⟨fun j hj => ((e j).1 hj).elim ((TabF.foot _ _ _ _).lt h1 j) (h2 j), fun j => ?_⟩
  unfold upG
  by_cases q : j = k
  · rw [if_pos q]
    exact ⟨F1, h1, fun x hx => (e x).2 (.inl hx)⟩
  · rw [if_neg q]
    obtain ⟨Fj, q1, q2⟩ := h3 j
    exact ⟨Fj, q1, fun x hx => (e x).2 (.inr (q2 x hx))⟩
theorem GoalF.rows {G : Nat → Gl} {w : World} {F : Nat → Prop} (h : GoalF G w F) (j : Nat) : ShSl w (G j).a (G j).sh ∧ TgSl w (G j).b (G j).tg := by
  obtain ⟨Fj, q1, _⟩ := h.2 j
  exact tab_rows q1
/-- A goal is a table as it may be, or it has no shares. -/
def GoodG (G : Nat → Gl) : Prop := ∀ j, MkT (G j).sh (G j).tg ∨ (G j).sh = []
theorem GoodG.put {G : Nat → Gl} (h : GoodG G) (k : Nat) {m : Gl} (hm : MkT m.sh m.tg) : GoodG (upG G k m) := fun j => by
  unfold upG
  by_cases q : j = k
  · rw [if_pos q]; exact .inl hm
  · rw [if_neg q]; exact h j
theorem upG_at (G : Nat → Gl) (k : Nat) (m : Gl) : upG G k m k = m := by unfold upG; rw [if_pos rfl]
abbrev r113 : ByteArray := ⟨#[114, 45, 49]⟩
def nmK (k : Nat) : ByteArray := if k = 0 then fr13 else if k = 1 then bk13 else r113
theorem nm13 {k : Nat} (h : k < 3) : ([.string fr13, .string bk13, .string r113] : List Value)[k]? = some (.string (nmK k)) := by
  match k, h with
  | 0, _ => rfl
  | 1, _ => rfl
  | 2, _ => rfl
theorem nmK_size (k : Nat) : (nmK k).size ≤ 100000 := by
  unfold nmK
  split
  · decide
  · split <;> decide
theorem infoTab13 : (Try.prog.info? 40).map (fun i => (i.zero, i.size, i.bytes)) = some (some (.agg #[.slice none 0 0, .slice none 0 0]), 2, 48) := by kernel_rfl
theorem make_goals (w : World) : (Instr.makeSlice 31 (.int .i64 3) (.int .i64 3)).run Try.prog w = .ok (.slice (some ⟨w.heap.size, 0, none⟩) 3 3) (w.alloc (.cells (glCells fun _ => gl0).toArray tablT13)) := by
  obtain ⟨i0, hi, hz0, hz1, hz2⟩ := info_parts infoTab13
  have RM := run_makeSlice (P := Try.prog) w 31 40 i0 _ Try.underlying31 hi hz0 .i64 .i64 3 3 (by omega) (by omega) (by rw [hz1]; decide) (by rw [hz2]; decide) (by omega)
  rw [hz1] at RM
  rw [RM, show madeCells (Value.agg #[Value.slice none 0 0, Value.slice none 0 0]).cells (Int.toNat 3 * 2) = (glCells fun _ => gl0).toArray from by kernel_rfl]
  rfl
section
variable {w0 w : World} {L : List MBox} {A B : Hp} {g c : Nat} {nw : Int} {l : List Wa} {F : Nat → Prop} {x : Wa}
theorem WInv.sz {n : Nat} (h : WInv l n) : ∀ x, x ∈ l → WSz x := fun x hx => ⟨by have := (h.sd x hx).f.len; omega, by have := (h.sd x hx).t.len; omega, by have := (h.sd x hx).s.len; omega, h.tl x hx⟩
theorem at_rtable (h : Hold w0 w L (Sep (RolP g l) B)) (hB : Foot B) (s : ByteArray) {k : Nat} (hk : k ≤ 1000) (hi : WInv l k) (h1 : findW l s = some x) {sh : List Shr} (e1 : x.sh = sh) {tg : List Tgo} (e2 : x.tg = tg) :
    Calls Try.prog 21 #[pz g, .string s] w fun e w' => ∃ a k b d, e = .returned (.tuple #[.agg #[.slice a sh.length k, .slice b tg.length d], .bool true]) ∧ Hold w0 w' L (Sep (RolP g l) (Sep (TabS sh tg a k b d) B)) := by
  subst e1 e2
  have hl := hi.len
  refine told_at (R := fun v => .tuple #[v, .bool true]) (Q := fun _ _ => True) ((hold_roltable_yes h hB s (by omega) hi.sz h1).mono ?_)
  rintro e w' ⟨va, vb, q, hc, _⟩
  exact ⟨va, vb, q, hold_tab h (RolP.foot _ _) hB hc⟩
theorem at_rtable_no (h : Hold w0 w L (Sep (RolP g l) B)) (hB : Foot B) (s : ByteArray) {k : Nat} (hk : k ≤ 1000) (hi : WInv l k) (h1 : findW l s = none) :
    Calls Try.prog 21 #[pz g, .string s] w fun e w' => e = .returned (.tuple #[.agg #[.slice none 0 0, .slice none 0 0], .bool false]) ∧ Hold w0 w' L (Sep (RolP g l) B) := by
  have hl := hi.len
  exact (hold_roltable_no h hB s (by omega) h1).mono fun e w' ⟨q, _, H⟩ => ⟨q, H⟩
theorem makeC {v v2 : Value} {zs ms : List Int} (hz : IntSlice w v zs) (hm : IntSlice w v2 ms) {sh : List Shr} (e1 : mkS zs = sh) {tg : List Tgo} (e2 : mkT ms = tg) :
    Calls Try.prog 15 #[v, v2] w fun e w' => ∃ va vb, e = .returned (.agg #[va, vb]) ∧ CopyT w w' sh tg va vb := by
  subst e1 e2
  refine (make_any w v zs hz v2 ms hm).mono ?_
  rintro e w' ⟨a, k, b, d, rfl, hm, hg⟩
  refine ⟨_, _, rfl, hm.sh, hm.tg, fun x q1 q2 => ?_, hg⟩
  rcases hm.sh.2 with ⟨z, _⟩ | ⟨g1, c1, u1, z, _, hg1, _⟩
  · rw [z] at q1; cases q1
  · rcases hm.tg.2 with ⟨y, _⟩ | ⟨g2, c2, u2, y, _, hg2, _⟩
    · rw [y] at q2; cases q2
    · rw [z] at q1
      rw [y] at q2
      have f1 : g1 = x := Option.some.inj q1
      have f2 : g2 = x := Option.some.inj q2
      subst f1
      subst f2
      rw [hg1] at hg2
      cases hg2
theorem told_copyF {P : Program} {f : FuncId} {args : Array Value} {sh : List Shr} {tg : List Tgo} (h : HoldF w0 w L A F) (hA : Foot A) (hc : Calls P f args w fun e w' => ∃ va vb, e = .returned (.agg #[va, vb]) ∧ CopyT w w' sh tg va vb) :
    Calls P f args w fun e w' => ∃ a k b d, e = .returned (.agg #[.slice a sh.length k, .slice b tg.length d]) ∧ ∃ F', HoldF w0 w' L (Sep A (TabS sh tg a k b d)) F' ∧ Chg F w w' ∧ Fresh w F F' := by
  refine (HoldF.callN (ι := Option Addr × Nat × Option Addr × Nat) (A' := fun i => Sep A (TabS sh tg i.1 i.2.1 i.2.2.1 i.2.2.2)) (R := fun i e => e = .returned (.agg #[.slice i.1 sh.length i.2.1, .slice i.2.2.1 tg.length i.2.2.2])) h hA (fun w1 B1 hB1 H1 => ?_)).mono ?_
  · refine (told_at (R := fun v => v) (Q := fun _ _ => True) (A := A) (B := B1) (w0 := w1) (L := []) (sh := sh) (tg := tg) (hc.mono ?_)).mono ?_
    · rintro e w' ⟨va, vb, q, hc⟩
      exact ⟨va, vb, q, hold_tab H1 hA hB1 hc⟩
    · rintro e w' ⟨a1, k1, b1, d1, q, H2⟩
      exact ⟨(a1, k1, b1, d1), q, H2.map fun F h => Sep.assoc' h⟩
  · rintro e w' ⟨⟨a1, k1, b1, d1⟩, q, z⟩
    exact ⟨a1, k1, b1, d1, q, z⟩
theorem at_makeF (h : HoldF w0 w L A F) (hA : Foot A) {v v2 : Value} {zs ms : List Int} (hz : IntSlice w0 v zs) (hm : IntSlice w0 v2 ms) {sh : List Shr} (e1 : mkS zs = sh) {tg : List Tgo} (e2 : mkT ms = tg) :
    Calls Try.prog 15 #[v, v2] w fun e w' => ∃ a k b d, e = .returned (.agg #[.slice a sh.length k, .slice b tg.length d]) ∧ ∃ F', HoldF w0 w' L (Sep A (TabS sh tg a k b d)) F' ∧ Chg F w w' ∧ Fresh w F F' := by
  exact told_copyF h hA (makeC (hz.below h.hold.below) (hm.below h.hold.below) e1 e2)
theorem at_copyF (h : HoldF w0 w L A F) (hA : Foot A) (a : Option Addr) (sh : List Shr) (ca : Nat) (b : Option Addr) (tg : List Tgo) (cb : Nat) (m : MkT sh tg) (hin : ShSl w a sh ∧ TgSl w b tg) :
    Calls Try.prog 18 #[.agg #[.slice a sh.length ca, .slice b tg.length cb]] w fun e w' => ∃ a k b d, e = .returned (.agg #[.slice a sh.length k, .slice b tg.length d]) ∧ ∃ F', HoldF w0 w' L (Sep A (TabS sh tg a k b d)) F' ∧ Chg F w w' ∧ Fresh w F F' := by
  exact told_copyF h hA (rcopy_any a sh ca b tg cb w (SlOf.src (cells := Shr.cells) (n := 2) (fun x => rfl) hin.1) (SlOf.src (cells := Tgo.cells) (n := 2) (fun x => rfl) hin.2) (by have := m.sd.len; omega) m.tl)
theorem holdF_re (h : HoldF w0 w L A F) (f : ∀ F, A w F → B w F) : HoldF w0 w L B F := ⟨h.mem, f F h.st, h.lo, h.ap⟩
theorem sep_swap (h : Sep A B w F) : Sep B A w F := by
  obtain ⟨F1, F2, a, b, ap, e⟩ := h
  exact ⟨F2, F1, b, a, fun k q1 q2 => ap k q2 q1, fun k => (e k).trans Or.comm⟩
theorem put_goal {C : Hp} {G : Nat → Gl} {k : Nat} {m : Gl} (h : Sep (Sep A (Sep C (GoalF G))) (TabS m.sh m.tg m.a m.c m.b m.d) w F) : Sep A (Sep C (GoalF (upG G k m))) w F :=
  (h.assoc).under fun F h => (h.assoc).under fun F h => GoalF.put (sep_swap h)
theorem nil_tab (w : World) : TabS [] [] none 0 none 0 w (fun _ => False) := by
  obtain ⟨Fj, q, e⟩ := (GoalF.zero w).2 0
  have : Fj = fun _ => False := funext fun k => propext ⟨e k, False.elim⟩
  exact this ▸ q
theorem add_nil (h : B w F) : Sep (TabS [] [] none 0 none 0) B w F := ⟨fun _ => False, F, nil_tab w, h, fun k q => q.elim, fun k => ⟨.inr, fun q => q.elim False.elim id⟩⟩
def shO (l : List Wa) (s : ByteArray) : List Shr := match findW l s with
  | none => []
  | some x => x.sh
def tgO (l : List Wa) (s : ByteArray) : List Tgo := match findW l s with
  | none => []
  | some x => x.tg
theorem shO_len {n : Nat} (h : WInv l n) (s : ByteArray) : (shO l s).length ≤ 500 := by
  unfold shO
  split
  · exact Nat.zero_le _
  · exact winv_len h ‹_›
theorem tgO_len {n : Nat} (h : WInv l n) (s : ByteArray) : (tgO l s).length ≤ 1000 := by
  unfold tgO
  split
  · exact Nat.zero_le _
  · exact h.tl _ (findW_mem ‹_›).1
theorem at_tableU (h : Hold w0 w L (Sep (PlP g l nw c) B)) (hB : Foot B) (s : ByteArray) (hs : s.size ≤ 100000) {k : Nat} (hi : WInv l k) {bo : Bool} (eb : (findW l s).isSome = bo) {sh : List Shr} (e1 : shO l s = sh) {tg : List Tgo} (e2 : tgO l s = tg) :
    Calls Try.prog 20 #[pz g, .string s] w fun e w' => ∃ a k b d, e = .returned (.tuple #[.agg #[.slice a sh.length k, .slice b tg.length d], .bool bo]) ∧ Hold w0 w' L (Sep (PlP g l nw c) (Sep (TabS sh tg a k b d) B)) := by
  unfold shO at e1
  unfold tgO at e2
  cases h1 : findW l s with
  | none => rw [h1] at eb e1 e2; subst eb e1 e2; exact at_table_no h hB s hs h1
  | some x => rw [h1] at eb e1 e2; subst eb; exact at_table h hB s hs hi h1 e1 e2
theorem at_rtableU (h : Hold w0 w L (Sep (RolP g l) B)) (hB : Foot B) (s : ByteArray) {k : Nat} (hk : k ≤ 1000) (hi : WInv l k) {bo : Bool} (eb : (findW l s).isSome = bo) {sh : List Shr} (e1 : shO l s = sh) {tg : List Tgo} (e2 : tgO l s = tg) :
    Calls Try.prog 21 #[pz g, .string s] w fun e w' => ∃ a k b d, e = .returned (.tuple #[.agg #[.slice a sh.length k, .slice b tg.length d], .bool bo]) ∧ Hold w0 w' L (Sep (RolP g l) (Sep (TabS sh tg a k b d) B)) := by
  unfold shO at e1
  unfold tgO at e2
  cases h1 : findW l s with
  | none =>
    rw [h1] at eb e1 e2; subst eb e1 e2
    exact (at_rtable_no h hB s hk hi h1).mono fun e w' ⟨q, H⟩ => ⟨none, 0, none, 0, q, H.map fun F h => h.under fun F h => add_nil h⟩
  | some x => rw [h1] at eb e1 e2; subst eb; exact at_rtable h hB s hk hi h1 e1 e2
end
end Go.Proofs.Ytjhfjjkfnmnkgaa
