/- My own texts FlH, FlM, laid in one file. -/
import Derived.Test.YtfnpghekkhnjkaaZ90
import Derived.Test.YtfnpghekkhnjkaaZ74
import Derived.Test.YtfnpghekkhnjkaaZ59
import Derived.Test.YtfnpghekkhnjkaaZ2
import Derived.Test.YtfnpghekkhnjkaaZ29
import Derived.Test.YtfnpghekkhnjkaaZ73

/- Fleets among what a law holds; damperlaw11's known. -/
namespace Go.Proofs.Ytfnpghekkhnjkaa
set_option maxRecDepth 100000
set_option linter.unusedVariables false
set_option linter.unusedSimpArgs false
set_option linter.unnecessarySimpa false
open Go.RowKit Go.Args

/-- A row of what Pods tells. -/
def LookO (v : Value) (l : List Po) : Hp := fun w F => w.offRow 0 49 3 v l.length (looks l) ∧ ∀ k, F k ↔ v.ownBlock = some k
theorem LookO.foot (v : Value) (l : List Po) : Foot (LookO v l) where
  lt := fun ⟨h, q⟩ k hk => (h.lt k ((q k).1 hk)).2
  frame := fun ⟨h, q⟩ c hs => ⟨c.offRow h fun k hk => hs k ((q k).2 hk), q⟩
section
variable {w0 w : World} {L : List MBox} {A B : Hp} {g : Nat} {f f' : Fl} {er : Int} {bo : Bool} {tl ul : List Int} {st : ByteArray} {pl : List Po}
theorem hold_fok (h : Hold w0 w L (Sep (FlP g f) B)) : f.ok := by obtain ⟨mp, ma, lm, e1, ok, _⟩ := hold_flopen h; exact ok
theorem findM_find (lm : List PM) (id : Int) : (findM lm id).map PM.h = findP (lm.map PM.h) id := by
  unfold findM findP
  rw [List.find?_map]; rfl
theorem hold_fof (h : Hold w0 w L (Sep (FlP g f) B)) (hB : Foot B) (id : Int) (hi : wf64 id) (h1 : f.ofP id = st := by rfl) :
    Calls Try.prog 17 #[pz g, .int .i64 id] w fun e w' => e = .returned (.string st) ∧ Grow.G w w' ∧ Hold w0 w' L (Sep (FlP g f) B) := by
  obtain ⟨mp, ma, lm, e1, ok, HS⟩ := hold_flopen h
  obtain ⟨F, hF⟩ := hold_FS HS
  refine (fof_low g f.room f.n mp ma lm id w hF.hb hF.hm hi).mono ?_
  rintro e w' ⟨rfl, rfl⟩
  refine ⟨?_, Grow.G.refl _, h⟩
  rw [← h1]
  unfold Fl.ofP
  rw [← e1, ← findM_find]
  cases findM lm id <;> rfl
theorem hold_flive (h : Hold w0 w L (Sep (FlP g f) B)) (hB : Foot B) (h1 : (f.l.length : Int) = er := by rfl) :
    Calls Try.prog 16 #[pz g] w fun e w' => e = .returned (.int .i64 er) ∧ Grow.G w w' ∧ Hold w0 w' L (Sep (FlP g f) B) := by
  obtain ⟨mp, ma, lm, e1, ok, HS⟩ := hold_flopen h
  obtain ⟨F, hF⟩ := hold_FS HS
  refine (flive_any F g f.room f.n mp ma lm w hF).mono ?_
  rintro e w' ⟨rfl, rfl⟩
  refine ⟨?_, Grow.G.refl _, h⟩
  rw [← h1, ← e1, List.length_map]
set_option maxHeartbeats 1000000 in
theorem hold_fpods (h : Hold w0 w L (Sep (FlP g f) B)) (hB : Foot B) (rv : ByteArray) (hs : rv.size ≤ 100) (h1 : f.pods rv = pl := by rfl) :
    Calls Try.prog 15 #[pz g, .string rv] w fun e w' => ∃ u, e = .returned u ∧ Hold w0 w' L (Sep (FlP g f) (Sep (LookO u pl) B)) := by
  obtain ⟨mp, ma, lm, e1, ok, HS⟩ := hold_flopen h
  have okm : PosOk (lm.map PM.h) := by rw [e1]; exact ok.l
  have hlen : lm.length ≤ 1000 := by
    have := ok.len; have := ok.room
    rw [← e1, List.length_map] at *
    omega
  have hwfm : ∀ m, m ∈ lm → wf64 m.h.id := fun m hm => Fl.wf ok (by rw [← e1]; exact List.mem_map.2 ⟨m, hm, rfl⟩)
  have EN := Lib.hid (each_new g rv)
  have H0 := Lib.hid h
  have HS1 := Lib.hid HS
  have HR := Lib.hid (And.intro e1 (And.intro okm h1))
  have HWM := Lib.hid hwfm
  have FB := Lib.hid hB
  clear h HS h1 e1 ok okm hwfm hB
  go_enter Try.func15, Try.ntmps15
  go_wp2_with fail
  refine (EN.out w).mono ?_
  rintro e w1 ⟨b1, b2, rfl, hb1, hb2, k1, k2, hg1⟩
  have FS := Lib.hid (FlS.foot g f.room f.n mp ma lm (reqsP f.l) (whereV f.l))
  have H1 := HS1.out.grow (FS.out.sep FB.out) hg1
  have H1' := Lib.hid (H0.out.grow ((FlP.foot g f).sep FB.out) hg1)
  obtain ⟨F0, hF1⟩ := hold_FS H1
  have SF := Lib.hid (collect_any 60 #[pz b1, pz b2] (enters_of Try.func60 (by kernel_rfl) rfl) (fun k => F0 k ∨ k = b1 ∨ k = b2) (eachL (lm.map PM.h) rv) w1
    (fun k hk => by rcases hk with hk | rfl | rfl <;> first | exact hF1.lt _ hk | exact k1.lt | exact k2.lt) (by unfold eachL; exact Nat.le_trans (List.length_filter_le _ _) (by rw [List.length_map]; exact hlen)) (each_seq b1 b2 g rv F0 f.room f.n mp ma lm w1 k1 k2 hF1 HR.out.2.1 hlen HWM.out))
  clear H1 hF1 k1 k2 hg1 EN HS1 H0 hb1 hb2
  go_wp2_with fail
  refine SF.out.mono ?_
  rintro e w2 ⟨v, rfl, ho, hg2⟩
  have e9 : eachL (lm.map PM.h) rv = pl := by rw [HR.out.1]; exact HR.out.2.2
  rw [e9] at ho
  have H2 := Lib.hid (H1'.out.beside2 (FlP.foot g f) FB.out hg2 (C := LookO v pl) (F₁ := fun k => v.ownBlock = some k) ⟨(own_base ho (Nat.zero_le _)).off, fun k => Iff.rfl⟩ (fun k hk => (ho.lt k hk).1))
  clear ho hg2 H1' SF e9
  go_wp2_with fail
  go_ret
  exact ⟨v, rfl, H2.out⟩
end
section
variable {w0 w : World} {L : List MBox} {A B : Hp} {v : Value} {l : List Int}
/-- A row of numbers behind a state. -/
theorem hold_row (h : Hold w0 w L (Sep A (Sep (IntO v l) B))) : ∃ a c, v = .slice a l.length c ∧ IntR w a l := by
  have ho := hold_reads8 h
  obtain ⟨a, c, rfl⟩ := ho.shape
  exact ⟨a, c, rfl, off_intR ho⟩
theorem hold_row3 {C : Hp} (h : Hold w0 w L (Sep A (Sep C (Sep (IntO v l) B)))) : ∃ a c, v = .slice a l.length c ∧ IntR w a l := by
  obtain ⟨F, ⟨F1, F2, _, ⟨F3, F4, _, ⟨F5, F6, ho, _⟩, _⟩, _⟩, _⟩ := h.st
  obtain ⟨a, c, rfl⟩ := ho.1.shape
  exact ⟨a, c, rfl, off_intR ho.1⟩
theorem drop3 {C : Hp} (h : Hold w0 w L (Sep A (Sep C (Sep (IntO v l) B)))) : Hold w0 w L (Sep A (Sep C B)) := (h.map fun F q => q.under fun F q => q.rot).rot.drop1
theorem hold_look {pl : List Po} (h : Hold w0 w L (Sep A (Sep (LookO v pl) B))) : ∃ a c, v = .slice a pl.length c := by
  obtain ⟨F, ⟨F1, F2, _, ⟨F3, F4, ho, _⟩, _⟩, _⟩ := h.st
  exact ho.1.shape
theorem drop2 (h : Hold w0 w L (Sep A (Sep (IntO v l) B))) : Hold w0 w L (Sep A B) := h.rot.drop1
end
theorem blk_intR {w : World} {b : Nat} {l : List Int} {T : TypeId} (h : Blk w b (intsV l).toArray T) : IntR w (some ⟨b, 0, none⟩) l :=
  .inr ⟨b, 0, rfl, fun k x hk => by rw [Nat.zero_add, h.cell k, List.getElem?_toArray, List.getElem?_map, hk]; rfl⟩
theorem take_same {f : Fl} {rv : ByteArray} {x : Int} (h : f.takeB rv x = false) : f.aftTake rv x = f := by
  unfold Fl.takeB at h
  unfold Fl.aftTake
  cases e : f.takeH rv x with
  | none => rfl
  | some b => rw [e] at h; cases h
theorem give_same {f : Fl} {x : Int} (h : f.give x = 6) : f.aftGive x = f := by
  unfold Fl.give at h
  unfold Fl.aftGive
  cases e : whereP f.l x with
  | none => rfl
  | some b => rw [e] at h; cases h
def rvA1 : ByteArray := ⟨#[97, 45, 49]⟩
def rvA2 : ByteArray := ⟨#[97, 45, 50]⟩
def rvB1 : ByteArray := ⟨#[98, 45, 49]⟩
set_option maxHeartbeats 4000000 in
theorem known11_any (w : World) : Calls Try.prog 10 #[] w fun e w' => e = .returned (.bool true) ∧ Below w.heap.size w w' := by
  have FE := Lib.hid Emp.foot
  have FP := Lib.hid (fun g f => (FlP.foot g f).sep Emp.foot)
  have e1 : (Fl.new 3).made rvA1 1 = [1] := by decide +kernel
  have e2 : (Fl.new 3).gone rvA1 1 = [] := by decide +kernel
  obtain ⟨f1, hf1⟩ : ∃ f1, (Fl.new 3).scale rvA1 2 1 = f1 := ⟨_, rfl⟩
  have e3 : f1.l.length = 1 ∧ f1.ofP 1 = rvA1 ∧ f1.up 1 = 0 := by rw [← hf1]; decide +kernel
  have E := Lib.hid (And.intro e1 (And.intro e2 (And.intro hf1 e3)))
  clear e1 e2 hf1 e3
  go_enter Try.func10, Try.ntmps10
  go_wp2_with fail
  refine (hold_fnew (Hold.nil w) FE.out 3 (by decide)).mono ?_
  rintro e w1 ⟨g, rfl, hh⟩
  have H := Lib.hid hh
  clear hh
  go_wp2_with fail
  refine (hold_flive (er := 0) H.out FE.out rfl).mono ?_
  rintro e ws1 ⟨rfl, -, hst⟩
  replace H := Lib.hid hst
  clear hst
  go_wp2_with fail
  refine (hold_fscale H.out FE.out rvA1 2 1 (by decide) (by decide) (by decide) (by decide) E.out.1 E.out.2.1 E.out.2.2.1).mono ?_
  rintro e w2 ⟨v, u, rfl, hh⟩
  obtain ⟨a1, d1, rfl, hr1⟩ := hold_row hh
  obtain ⟨a2, d2, rfl, hr2⟩ := hold_row3 hh
  obtain ⟨b1, o1, rfl, hc1⟩ := hr1.resolve_left (by simp)
  have c1 := hc1 0 1 rfl
  rw [Nat.add_zero] at c1
  replace H := Lib.hid (drop2 (drop2 hh))
  clear hh hr1 hr2 hc1
  have l1 : b1 < w2.heap.size := by
    rcases Nat.lt_or_ge b1 w2.heap.size with h' | h'
    · exact h'
    · simp [World.cell?, Array.getElem?_eq_none h'] at c1
  go_wp2_with fail
  refine (hold_flive (er := 1) H.out FE.out (by rw [E.out.2.2.2.1]; rfl)).mono ?_
  rintro e ws2 ⟨rfl, -, hst⟩
  replace H := Lib.hid hst
  clear hst
  go_wp2_with fail
  refine (hold_fof (st := ⟨#[97, 45, 49]⟩) H.out FE.out 1 ⟨by decide, by decide⟩ E.out.2.2.2.2.1).mono ?_
  rintro e ws3 ⟨rfl, -, hst⟩
  replace H := Lib.hid hst
  clear hst
  go_wp2_with fail
  refine (hold_fup (er := 0) H.out FE.out 1 ⟨by decide, by decide⟩ E.out.2.2.2.2.2 rfl).mono ?_
  rintro e ws4 ⟨rfl, hst⟩
  replace H := Lib.hid hst
  clear hst
  go_wp2_with fail
  go_ret
  exact ⟨rfl, H.out.below⟩

theorem made_repO (z : Value) (n : Nat) : madeCells #[z] n = (List.replicate n z).toArray := by
  apply Array.ext
  · rw [size_madeCells]; simp
  · intro i h1 h2
    simp [madeCells, Nat.mod_one]
theorem make_ints (n : Nat) (hn : n ≤ 1000) (w : World) : (Instr.makeSlice 22 (.int .i64 n) (.int .i64 n)).run Try.prog w = .ok (.slice (some ⟨w.heap.size, 0, none⟩) n n) (w.alloc (.cells (intsV (List.replicate n 0)).toArray 3)) := by
  obtain ⟨i0, hi, hz0, hz1, hz2⟩ := info_parts infoIntO
  have RM := run_makeSlice (P := Try.prog) w 22 3 i0 (.int .i64 0) Try.underlying22 hi hz0 .i64 .i64 n n (by omega) (by omega) (by rw [hz1]; omega) (by rw [hz2]; omega) (by omega)
  rw [RM, hz1, Nat.mul_one, Int.toNat_natCast]
  show _ = Result.ok _ (w.alloc (.cells _ _))
  have e : (intsV (List.replicate n 0)).toArray = madeCells #[.int .i64 0] n := by rw [made_repO]; simp
  rw [e]; rfl
theorem lt_of_cellO {w : World} {b o : Nat} {v : Value} (h : w.cell? ⟨b, o, none⟩ = some v) : b < w.heap.size := by
  rcases Nat.lt_or_ge b w.heap.size with h' | h'
  · exact h'
  · simp [World.cell?, Array.getElem?_eq_none h'] at h
theorem int_set (l : List Int) (q : Nat) (m : Int) (h : q < l.length) : (intsV l).take q ++ [.int .i64 m] ++ (intsV l).drop (q + 1) = intsV (l.set q m) := by
  unfold intsV
  rw [List.map_set, List.set_eq_take_append_cons_drop, if_pos (by simpa using h)]
  simp
/-- Row A, behind it row B. -/
theorem hold_reads2 {w0 w : World} {L : List MBox} {A B C : Hp} {v : Value} {l : List Int} (h : Hold w0 w L (Sep A (Sep C (Sep (IntO v l) B)))) : w.offRow 0 3 1 v l.length (intsV l) := hold_reads8 h.drop1
theorem off_intR2 {w : World} {base n c : Nat} {a : Option Addr} {l : List Int} (h : w.offRow base 3 1 (.slice a n c) l.length (intsV l)) : IntR w a l := by
  rcases h.at with ⟨_, _, h3⟩ | ⟨g, off, c', hv, _, _, _, hc⟩
  · exact .inl (by simpa using h3)
  · injection hv with e1
    subst e1
    exact .inr ⟨g, off, rfl, fun k x hk => hc k _ (by rw [List.getElem?_map, hk]; rfl)⟩
abbrev boolsV (l : List Bool) : List Value := l.map Value.bool
theorem infoBool : (Try.prog.info? 4).map (fun i => (i.zero, i.size, i.bytes)) = some (some (.bool false), 1, 1) := by kernel_rfl
theorem make_bools (n : Nat) (hn : n ≤ 1000) (w : World) : (Instr.makeSlice 36 (.int .i64 n) (.int .i64 n)).run Try.prog w = .ok (.slice (some ⟨w.heap.size, 0, none⟩) n n) (w.alloc (.cells (boolsV (List.replicate n false)).toArray 4)) := by
  obtain ⟨i0, hi, hz0, hz1, hz2⟩ := info_parts infoBool
  have RM := run_makeSlice (P := Try.prog) w 36 4 i0 (.bool false) Try.underlying36 hi hz0 .i64 .i64 n n (by omega) (by omega) (by rw [hz1]; omega) (by rw [hz2]; omega) (by omega)
  rw [RM, hz1, Nat.mul_one, Int.toNat_natCast]
  show _ = Result.ok _ (w.alloc (.cells _ _))
  have e : (boolsV (List.replicate n false)).toArray = madeCells #[.bool false] n := by rw [made_repO]; simp
  rw [e]; rfl
theorem bool_set (l : List Bool) (q : Nat) (m : Bool) (h : q < l.length) : (boolsV l).take q ++ [.bool m] ++ (boolsV l).drop (q + 1) = boolsV (l.set q m) := by
  unfold boolsV
  rw [List.map_set, List.set_eq_take_append_cons_drop, if_pos (by simpa using h)]
  simp
end Go.Proofs.Ytfnpghekkhnjkaa
