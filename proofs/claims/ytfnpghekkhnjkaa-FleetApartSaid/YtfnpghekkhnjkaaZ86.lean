/- My own texts FpS, FpT, laid in one file. -/
import Derived.Test.YtfnpghekkhnjkaaZ85
import Derived.Test.YtfnpghekkhnjkaaZ83
import Derived.Test.YtfnpghekkhnjkaaShelf
import Derived.Handy
import Derived.Test.YtfnpghekkhnjkaaSortF

/- The program's fleet: how pods are ordered. -/
namespace Go.Proofs.Ytfnpghekkhnjkaa
set_option maxRecDepth 100000
set_option linter.unusedVariables false
set_option linter.unusedSimpArgs false
set_option linter.unnecessarySimpa false
open Go.RowKit Go.Args

abbrev T3 := Int × Int × Int
def e3 (x : T3) : List Value := [.int .i64 x.1, .int .i64 x.2.1, .int .i64 x.2.2]
/-- The first one that is not zero. -/
def orL (l : List Int) : Int := (l.find? fun x => x != 0).getD 0
theorem find_firstO {α : Type} {l : List α} {p : α → Bool} {k : Nat} {m : α} (hm : l[k]? = some m) (hp : p m = true) (hn : ∀ x, x ∈ l.take k → p x = false) : l.find? p = some m := by
  have e : l = l.take k ++ m :: l.drop (k + 1) := by
    obtain ⟨h1, h2⟩ := List.getElem?_eq_some_iff.1 hm
    rw [← h2, ← List.drop_eq_getElem_cons h1, List.take_append_drop]
  rw [e, List.find?_append, List.find?_eq_none.2 (fun x hx => by rw [hn x hx]; decide)]
  simp [hp]
theorem take_snocO {α : Type} {l : List α} {k : Nat} {m : α} (hm : l[k]? = some m) {q : α → Prop} (h1 : ∀ x, x ∈ l.take k → q x) (h2 : q m) : ∀ x, x ∈ l.take (k + 1) → q x := fun x hx => by
  rw [List.take_add_one, hm] at hx
  rcases List.mem_append.1 hx with hx | hx
  · exact h1 x hx
  · have : x = m := by simpa using hx
    rw [this]; exact h2
theorem cmpc_any (x y : Int) (w : World) : Calls Try.prog 55 #[.int .i64 x, .int .i64 y] w fun e w' => e = .returned (.int .i64 (Lib.compareInt x y)) ∧ GD w w' := GD.same (Try.cmp_Compare_int x y w)
set_option maxHeartbeats 1000000 in
theorem or_any (b c : Nat) (l : List Int) (w : World) (h : Blk w b (intsV l).toArray 3) (hl : l.length ≤ 10) :
    Calls Try.prog 54 #[.slice (some ⟨b, 0, none⟩) l.length c] w fun e w' => e = .returned (.int .i64 (orL l)) ∧ GD w w' := by
  have HB := Lib.hid h
  have hbl := h.lt
  clear h
  go_enter Try.func54, Try.ntmps54
  go_wp2_with fail
  go_loopw [8] (fun i wr => ∃ k : Nat, k ≤ l.length ∧ i = .int .i64 k ∧ wr = w ∧ Hid (∀ x, x ∈ l.take k → (x != 0) = false)) (fun i _ => l.length - (_root_.Go.RowKit.intOf i).toNat)
  case atStart => exact ⟨0, by omega, rfl, rfl, Lib.hid (fun p hp => by simp at hp)⟩
  case round =>
    obtain ⟨k, hk, rfl, rfl, HX⟩ := hrel
    by_cases hlt : k < l.length
    · obtain ⟨x, hx⟩ : ∃ x, l[k]? = some x := ⟨_, List.getElem?_eq_getElem hlt⟩
      have ck : wr.cell? ⟨b, k, none⟩ = some (.int .i64 x) := by rw [HB.out.cell k, List.getElem?_toArray, List.getElem?_map, hx]; rfl
      have d0 : decide ((k : Int) < (l.length : Int)) = true := decide_eq_true (by omega)
      have hk1 : IntKind.i64.wrap ((k : Int) + 1) = (k : Int) + 1 := IntWalk.i64_in _ ⟨by omega, by omega⟩
      have k1 : (0 : Int) ≤ (k : Int) := by omega
      have k2 : (k : Int) < (l.length : Int) := by omega
      by_cases e : x = 0
      · have d1 : (x != 0) = false := by simpa using e
        have HX2 := Lib.hid (take_snocO hx HX.out d1)
        clear hx HX e
        go_wp2_with fail
        go_roundw
        case rel => exact ⟨k + 1, by omega, by go_num, trivial, HX2⟩
        case measure => simp [_root_.Go.RowKit.intOf]; omega
      · have d1 : (x != 0) = true := by simpa using e
        have RES : Hid (orL l = x) := Lib.hid (by unfold orL; rw [find_firstO hx d1 HX.out]; rfl)
        clear hx HX e
        go_wp2_with fail
        go_ret
        rw [RES.out]
        exact ⟨rfl, GD.refl _⟩
    · obtain rfl : k = l.length := by omega
      have d0 : decide ((l.length : Int) < (l.length : Int)) = false := decide_eq_false (by omega)
      have RES : Hid (orL l = 0) := Lib.hid (by unfold orL; rw [List.find?_eq_none.2 (fun x hx => by rw [HX.out x (by rw [List.take_length]; exact hx)]; decide)]; rfl)
      clear HX
      go_wp2_with fail
      go_ret
      rw [RES.out]
      exact ⟨rfl, GD.refl _⟩
def soonC (x y : T3) : Int := orL [Lib.compareInt x.2.1 y.2.1, Lib.compareInt x.2.2 y.2.2, Lib.compareInt y.1 x.1]
def freeC (x y : T3) : Int := orL [Lib.compareInt x.2.2 y.2.2, Lib.compareInt x.1 y.1]

set_option maxHeartbeats 4000000 in
theorem sooner_any (x y : T3) (w : World) : Calls Try.prog 30 #[.agg (e3 x).toArray, .agg (e3 y).toArray] w fun e w' => e = .returned (.int .i64 (soonC x y)) ∧ ∃ q os', w' = Go.Sort.grow (w.drewN q) os' := by
  have CMP := Lib.hid cmpc_any
  have ORC : ∀ {b : Nat} (w' : World), Blk w' b (intsV [Lib.compareInt x.2.1 y.2.1, Lib.compareInt x.2.2 y.2.2, Lib.compareInt y.1 x.1]).toArray 3 → Calls Try.prog 54 #[.slice (some ⟨b, 0, none⟩) 3 3] w' fun e w'' => e = .returned (.int .i64 (soonC x y)) ∧ GD w' w'' := fun w' h => or_any _ 3 _ w' h (by simp)
  unfold e3
  go_enter Try.func30, Try.ntmps30
  go_wp2_with fail
  have B0 := (Blk.new w (e3 x).toArray lookT).alloc (.cells (e3 y).toArray lookT)
  have B1 := Blk.new (w.alloc (.cells (e3 x).toArray lookT)) (e3 y).toArray lookT
  rw [World.size_alloc] at B1
  have GA : GD w ((w.alloc (.cells (e3 x).toArray lookT)).alloc (.cells (e3 y).toArray lookT)) := (GD.alloc _ _).trans (GD.alloc _ _)
  obtain ⟨W, hW⟩ : ∃ W, W = (w.alloc (.cells (e3 x).toArray lookT)).alloc (.cells (e3 y).toArray lookT) := ⟨_, rfl⟩
  rw [← hW] at B0 B1 GA
  rw [show (w.alloc (.cells #[.int .i64 x.1, .int .i64 x.2.1, .int .i64 x.2.2] lookT)).alloc (.cells #[.int .i64 y.1, .int .i64 y.2.1, .int .i64 y.2.2] lookT) = W from hW.symm]
  clear hW
  have KC := Lib.hid (fun (w' : World) (h : GD W w') => (⟨(Blk.at (cs := e3 x) (k := 0) (B0.grow h.1) rfl), (Blk.at (cs := e3 x) (k := 1) (B0.grow h.1) rfl), (Blk.at (cs := e3 x) (k := 2) (B0.grow h.1) rfl), (Blk.at (cs := e3 y) (k := 0) (B1.grow h.1) rfl), (Blk.at (cs := e3 y) (k := 1) (B1.grow h.1) rfl), (Blk.at (cs := e3 y) (k := 2) (B1.grow h.1) rfl), trivial⟩ : w'.cell? ⟨w.heap.size, 0, none⟩ = some (.int .i64 x.1) ∧ w'.cell? ⟨w.heap.size, 1, none⟩ = some (.int .i64 x.2.1) ∧ w'.cell? ⟨w.heap.size, 2, none⟩ = some (.int .i64 x.2.2) ∧ w'.cell? ⟨w.heap.size + 1, 0, none⟩ = some (.int .i64 y.1) ∧ w'.cell? ⟨w.heap.size + 1, 1, none⟩ = some (.int .i64 y.2.1) ∧ w'.cell? ⟨w.heap.size + 1, 2, none⟩ = some (.int .i64 y.2.2) ∧ True))
  clear B0 B1
  refine Evo2.start' (ℓ := none) (S := GD) (E := GD) (by kernel_rfl) ⟨GD.pre, by decide +kernel, (by intro c a d v w h; cases d <;> exact h), by decide +kernel⟩ (fun ok => ?_)
  refine Evo2.va ok 0 _ _ ?_
  (refine Evo2.vl ok 1 KC.out (GD.refl _) _ _ ?_)
  refine Evo2.va ok 2 _ _ ?_
  (refine Evo2.vl ok 3 KC.out (GD.refl _) _ _ ?_)
  (refine Evo2.cal ok 4 ?_ 55 ?_ ?_ ?_ ?_; rotate_left 2; (focus (intro w'; go_simp <;> with_reducible rfl)); (focus (intro w' g'; with_reducible exact CMP.out _ _ w')); simp only [Act.put, L0, L1, L2])
  refine Evo2.va ok 5 _ _ ?_
  (refine Evo2.vl ok 6 KC.out (GD.refl _) _ _ ?_)
  refine Evo2.va ok 7 _ _ ?_
  (refine Evo2.vl ok 8 KC.out (GD.refl _) _ _ ?_)
  (refine Evo2.cal ok 9 ?_ 55 ?_ ?_ ?_ ?_; rotate_left 2; (focus (intro w'; go_simp <;> with_reducible rfl)); (focus (intro w' g'; with_reducible exact CMP.out _ _ w')); simp only [Act.put, L0, L1, L2])
  refine Evo2.va ok 10 _ _ ?_
  (refine Evo2.vl ok 11 KC.out (GD.refl _) _ _ ?_)
  refine Evo2.va ok 12 _ _ ?_
  (refine Evo2.vl ok 13 KC.out (GD.refl _) _ _ ?_)
  (refine Evo2.cal ok 14 ?_ 55 ?_ ?_ ?_ ?_; rotate_left 2; (focus (intro w'; go_simp <;> with_reducible rfl)); (focus (intro w' g'; with_reducible exact CMP.out _ _ w')); simp only [Act.put, L0, L1, L2])
  refine Evo2.all [15] (by decide +kernel) rfl ?_
  intro wp1 gp1 iq hq
  simp only [List.mem_cons, List.mem_nil_iff, or_false] at hq
  subst hq
  refine Evo2.runs (by rfl) (by rfl) (fun K' hK' => ?_)
  go_simp
  (try (simp only [Evo.after_value, Evo.after_skip]))
  refine hK'.out _ _ ?_
  clear hK'
  simp only [Act.put, L0, L1, L2]
  refine ⟨.inr (GD.alloc _ _), ?_⟩
  have BB := Blk.new wp1 (intsV [Lib.compareInt x.2.1 y.2.1, Lib.compareInt x.2.2 y.2.2, Lib.compareInt y.1 x.1]).toArray 3
  generalize hG1 : World.alloc wp1 _ = wg1
  have GG1 : GD wp1 wg1 := hG1 ▸ GD.alloc _ _
  rw [show wp1.alloc (.cells (intsV [Lib.compareInt x.2.1 y.2.1, Lib.compareInt x.2.2 y.2.2, Lib.compareInt y.1 x.1]).toArray 3) = wg1 from hG1] at BB
  clear hG1
  (refine Evo2.cal ok 16 ?_ 54 ?_ ?_ ?_ ?_; rotate_left 2; (focus (intro w'; go_simp <;> with_reducible rfl)); (focus (intro w' g'; exact ORC w' (BB.grow g'.1))); simp only [Act.put, L0, L1, L2])
  refine Evo2.va ok 17 _ _ ?_
  refine Evo2.done (by decide +kernel) (fun wz gz => ?_)
  have AZ := (gp1.trans GG1).trans gz
  have HZ := Lib.hid (GD.grown (GA.trans AZ))
  clear AZ gz GG1 gp1 KC CMP ORC BB ok GA
  go_wp2_with fail
  go_returns
  exact ⟨rfl, HZ.out⟩

set_option maxHeartbeats 4000000 in
theorem freer_any (x y : T3) (w : World) : Calls Try.prog 38 #[.agg (e3 x).toArray, .agg (e3 y).toArray] w fun e w' => e = .returned (.int .i64 (freeC x y)) ∧ ∃ q os', w' = Go.Sort.grow (w.drewN q) os' := by
  have CMP := Lib.hid cmpc_any
  have ORC : ∀ {b : Nat} (w' : World), Blk w' b (intsV [Lib.compareInt x.2.2 y.2.2, Lib.compareInt x.1 y.1]).toArray 3 → Calls Try.prog 54 #[.slice (some ⟨b, 0, none⟩) 2 2] w' fun e w'' => e = .returned (.int .i64 (freeC x y)) ∧ GD w' w'' := fun w' h => or_any _ 2 _ w' h (by simp)
  unfold e3
  go_enter Try.func38, Try.ntmps38
  go_wp2_with fail
  have B0 := (Blk.new w (e3 x).toArray lookT).alloc (.cells (e3 y).toArray lookT)
  have B1 := Blk.new (w.alloc (.cells (e3 x).toArray lookT)) (e3 y).toArray lookT
  rw [World.size_alloc] at B1
  have GA : GD w ((w.alloc (.cells (e3 x).toArray lookT)).alloc (.cells (e3 y).toArray lookT)) := (GD.alloc _ _).trans (GD.alloc _ _)
  obtain ⟨W, hW⟩ : ∃ W, W = (w.alloc (.cells (e3 x).toArray lookT)).alloc (.cells (e3 y).toArray lookT) := ⟨_, rfl⟩
  rw [← hW] at B0 B1 GA
  rw [show (w.alloc (.cells #[.int .i64 x.1, .int .i64 x.2.1, .int .i64 x.2.2] lookT)).alloc (.cells #[.int .i64 y.1, .int .i64 y.2.1, .int .i64 y.2.2] lookT) = W from hW.symm]
  clear hW
  have KC := Lib.hid (fun (w' : World) (h : GD W w') => (⟨(Blk.at (cs := e3 x) (k := 0) (B0.grow h.1) rfl), (Blk.at (cs := e3 x) (k := 1) (B0.grow h.1) rfl), (Blk.at (cs := e3 x) (k := 2) (B0.grow h.1) rfl), (Blk.at (cs := e3 y) (k := 0) (B1.grow h.1) rfl), (Blk.at (cs := e3 y) (k := 1) (B1.grow h.1) rfl), (Blk.at (cs := e3 y) (k := 2) (B1.grow h.1) rfl), trivial⟩ : w'.cell? ⟨w.heap.size, 0, none⟩ = some (.int .i64 x.1) ∧ w'.cell? ⟨w.heap.size, 1, none⟩ = some (.int .i64 x.2.1) ∧ w'.cell? ⟨w.heap.size, 2, none⟩ = some (.int .i64 x.2.2) ∧ w'.cell? ⟨w.heap.size + 1, 0, none⟩ = some (.int .i64 y.1) ∧ w'.cell? ⟨w.heap.size + 1, 1, none⟩ = some (.int .i64 y.2.1) ∧ w'.cell? ⟨w.heap.size + 1, 2, none⟩ = some (.int .i64 y.2.2) ∧ True))
  clear B0 B1
  refine Evo2.start' (ℓ := none) (S := GD) (E := GD) (by kernel_rfl) ⟨GD.pre, by decide +kernel, (by intro c a d v w h; cases d <;> exact h), by decide +kernel⟩ (fun ok => ?_)
  refine Evo2.va ok 0 _ _ ?_
  (refine Evo2.vl ok 1 KC.out (GD.refl _) _ _ ?_)
  refine Evo2.va ok 2 _ _ ?_
  (refine Evo2.vl ok 3 KC.out (GD.refl _) _ _ ?_)
  (refine Evo2.cal ok 4 ?_ 55 ?_ ?_ ?_ ?_; rotate_left 2; (focus (intro w'; go_simp <;> with_reducible rfl)); (focus (intro w' g'; with_reducible exact CMP.out _ _ w')); simp only [Act.put, L0, L1, L2])
  refine Evo2.va ok 5 _ _ ?_
  (refine Evo2.vl ok 6 KC.out (GD.refl _) _ _ ?_)
  refine Evo2.va ok 7 _ _ ?_
  (refine Evo2.vl ok 8 KC.out (GD.refl _) _ _ ?_)
  (refine Evo2.cal ok 9 ?_ 55 ?_ ?_ ?_ ?_; rotate_left 2; (focus (intro w'; go_simp <;> with_reducible rfl)); (focus (intro w' g'; with_reducible exact CMP.out _ _ w')); simp only [Act.put, L0, L1, L2])
  refine Evo2.all [10] (by decide +kernel) rfl ?_
  intro wp1 gp1 iq hq
  simp only [List.mem_cons, List.mem_nil_iff, or_false] at hq
  subst hq
  refine Evo2.runs (by rfl) (by rfl) (fun K' hK' => ?_)
  go_simp
  (try (simp only [Evo.after_value, Evo.after_skip]))
  refine hK'.out _ _ ?_
  clear hK'
  simp only [Act.put, L0, L1, L2]
  refine ⟨.inr (GD.alloc _ _), ?_⟩
  have BB := Blk.new wp1 (intsV [Lib.compareInt x.2.2 y.2.2, Lib.compareInt x.1 y.1]).toArray 3
  generalize hG1 : World.alloc wp1 _ = wg1
  have GG1 : GD wp1 wg1 := hG1 ▸ GD.alloc _ _
  rw [show wp1.alloc (.cells (intsV [Lib.compareInt x.2.2 y.2.2, Lib.compareInt x.1 y.1]).toArray 3) = wg1 from hG1] at BB
  clear hG1
  (refine Evo2.cal ok 11 ?_ 54 ?_ ?_ ?_ ?_; rotate_left 2; (focus (intro w'; go_simp <;> with_reducible rfl)); (focus (intro w' g'; exact ORC w' (BB.grow g'.1))); simp only [Act.put, L0, L1, L2])
  refine Evo2.va ok 12 _ _ ?_
  refine Evo2.done (by decide +kernel) (fun wz gz => ?_)
  have AZ := (gp1.trans GG1).trans gz
  have HZ := Lib.hid (GD.grown (GA.trans AZ))
  clear AZ gz GG1 gp1 KC CMP ORC BB ok GA
  go_wp2_with fail
  go_returns
  exact ⟨rfl, HZ.out⟩

theorem soon_lt (x y : T3) : ltOf soonC x y = decide (x.2.1 < y.2.1 ∨ x.2.1 = y.2.1 ∧ (x.2.2 < y.2.2 ∨ x.2.2 = y.2.2 ∧ y.1 < x.1)) := by
  obtain ⟨a, b, c⟩ := x
  obtain ⟨a', b', c'⟩ := y
  unfold ltOf soonC orL Lib.compareInt
  dsimp only
  rcases Int.lt_trichotomy b b' with h1 | h1 | h1 <;> rcases Int.lt_trichotomy c c' with h2 | h2 | h2 <;> rcases Int.lt_trichotomy a a' with h3 | h3 | h3 <;>
    (try subst h1) <;> (try subst h2) <;> (try subst h3) <;> simp_all [Int.not_lt.2, Int.le_of_lt, Int.lt_irrefl] <;> omega
theorem free_lt (x y : T3) : ltOf freeC x y = decide (x.2.2 < y.2.2 ∨ x.2.2 = y.2.2 ∧ x.1 < y.1) := by
  obtain ⟨a, b, c⟩ := x
  obtain ⟨a', b', c'⟩ := y
  unfold ltOf freeC orL Lib.compareInt
  dsimp only
  rcases Int.lt_trichotomy c c' with h2 | h2 | h2 <;> rcases Int.lt_trichotomy a a' with h3 | h3 | h3 <;>
    (try subst h2) <;> (try subst h3) <;> simp_all [Int.not_lt.2, Int.le_of_lt, Int.lt_irrefl] <;> omega
theorem swoS : Go.Sort.SWO (ltOf soonC) where
  irrefl x := by rw [soon_lt]; simp
  trans x y z h1 h2 := by rw [soon_lt] at *; simp only [decide_eq_true_eq] at *; omega
  ntrans x y z h1 h2 := by rw [soon_lt] at *; simp only [decide_eq_false_iff_not] at *; omega
theorem swoF : Go.Sort.SWO (ltOf freeC) where
  irrefl x := by rw [free_lt]; simp
  trans x y z h1 h2 := by rw [free_lt] at *; simp only [decide_eq_true_eq] at *; omega
  ntrans x y z h1 h2 := by rw [free_lt] at *; simp only [decide_eq_false_iff_not] at *; omega
theorem perm_map {α β : Type} (f : α → β) : ∀ {l m : List β}, l.Perm m → ∀ L : List α, m = L.map f → ∃ L' : List α, L'.Perm L ∧ L'.map f = l := by
  intro l m h
  induction h with
  | nil => exact fun L e => ⟨[], by rw [List.map_eq_nil_iff.1 e.symm], rfl⟩
  | cons x _ ih =>
    intro L e
    obtain ⟨a, L0, rfl, rfl, rfl⟩ := List.map_eq_cons_iff.1 e.symm
    obtain ⟨L', h1, h2⟩ := ih L0 rfl
    exact ⟨a :: L', h1.cons a, by rw [List.map_cons, h2]⟩
  | swap x y l =>
    intro L e
    obtain ⟨a, L0, rfl, rfl, e2⟩ := List.map_eq_cons_iff.1 e.symm
    obtain ⟨b, L1, rfl, rfl, rfl⟩ := List.map_eq_cons_iff.1 e2
    exact ⟨b :: a :: L1, List.Perm.swap a b L1, rfl⟩
  | trans _ _ ih1 ih2 =>
    intro L e
    obtain ⟨L1, h1, h2⟩ := ih2 L e
    obtain ⟨L2, h3, h4⟩ := ih1 L1 h2.symm
    exact ⟨L2, h3.trans h1, h4⟩
def t3 (h : Po) : T3 := (h.id, h.p.st, (h.load : Int))
theorem looks_t3 (l : List Po) : looks l = (l.map t3).flatMap e3 := by unfold looks; rw [List.flatMap_map]; rfl
theorem oneCell_e3 (x : T3) : ∀ v ∈ e3 x, v.oneCell' = true := by
  intro v hv
  simp only [e3, List.mem_cons, List.mem_nil_iff, or_false] at hv
  rcases hv with rfl | rfl | rfl <;> rfl
theorem sortf_any (f : Nat) (cf : T3 → T3 → Int) (hO : Go.Sort.SWO (ltOf cf)) (eg : ∀ args w, (callFunc f args).run Try.prog w = .ok (.enter f args) w)
    (hc : ∀ x y w, Calls Try.prog f #[.agg (e3 x).toArray, .agg (e3 y).toArray] w fun e w' => e = .returned (.int .i64 (cf x y)) ∧ ∃ q os', w' = Go.Sort.grow (w.drewN q) os')
    (base : Nat) (v : Value) (l : List T3) (w : World) (hl : l.length ≤ 1000) (ho : w.ownsRow base lookT 3 v l.length (l.flatMap e3)) :
    Calls Try.prog 52 #[v, .func (.func f) #[] #[]] w fun e w' => e = .returned (.tuple #[]) ∧ ∃ l' : List T3, l'.Perm l ∧ (l'.Pairwise fun a b => ltOf cf b a = false) ∧ w'.ownsRow base lookT 3 v l'.length (l'.flatMap e3) ∧ Chg (fun k => v.ownBlock = some k) w w' := by
  obtain ⟨a, c, rfl⟩ := own_shape ho
  rcases ho.2 with ⟨h1, h2⟩ | ⟨g, cap, cur, hv, hb, hg, _⟩
  · have hl0 : l = [] := List.eq_nil_of_length_eq_zero h2
    subst hl0
    have hcon := AnyF.slices_SortFunc_none (P := Try.prog) (ρ := Try.sortF52_ren) Try.sortF52 a c (.func (.func f) #[] #[]) w
    change Calls Try.prog 52 _ _ _ at hcon
    refine hcon.mono ?_
    rintro e w' ⟨rfl, rfl⟩
    exact ⟨rfl, [], List.Perm.refl _, List.Pairwise.nil, ho, Chg.refl _ _⟩
  · injection hv with e1 e2 e3'
    subst e1
    have hgl : g < w.heap.size := Chg.lt_of hg
    have hk : ∀ x : T3, (e3 x).length = 3 := fun _ => rfl
    have ho2 : w.ownsRow base lookT 3 (.slice (some ⟨g, 0, none⟩) l.length c) l.length (l.toArray.toList.flatMap e3) := ho
    have hH : Go.Sort.HoldsK e3 3 w g 0 l.toArray := fun j hj => by
      rw [Nat.zero_add]
      refine ⟨own_cell ho2 ?_, own_free ho2 j⟩
      rw [← SortRow.flat_list hk, Array.getElem?_toList, Array.getElem?_eq_getElem hj, getElem!_pos (Go.Sort.flatK e3 3 l.toArray) j hj]; rfl
    have hcon := AnyQ.slices_SortFunc (P := Try.prog) (ρ := Try.sortF52_ren) Try.sortF52 3 Try.isAgg49 Try.sizeOf49 e3 hk oneCell_e3 cf hO f #[] g 0 c l.toArray w eg (fun m os dk hdk x y => hc x y _) hH hgl (by simp; omega)
    change Calls Try.prog 52 _ _ _ at hcon
    rw [List.size_toArray] at hcon
    refine hcon.mono ?_
    rintro e w' ⟨rfl, d', n, os, hp, hs, rfl⟩
    have hds : d'.size = l.toArray.size := by rw [List.size_toArray]; exact hp.1
    obtain ⟨q1, q2⟩ := SortRow.own_sorted hk ho2 hds n os
    have hp' : d'.toList.Perm l := SortRow.perm_list (d := l.toArray) (by rw [List.size_toArray]; exact hp)
    refine ⟨rfl, d'.toList, hp', SortRow.sorted_list (by rw [hds, List.size_toArray]; exact hs), ?_, q2.mono fun k _ e => by rw [e]; rfl⟩
    rw [hp'.length_eq]
    exact q1
set_option maxHeartbeats 1000000 in
theorem sortedf_any (f : Nat) (cf : T3 → T3 → Int) (hO : Go.Sort.SWO (ltOf cf)) (egf : ∀ args w, (callFunc f args).run Try.prog w = .ok (.enter f args) w)
    (hc : ∀ x y w, Calls Try.prog f #[.agg (e3 x).toArray, .agg (e3 y).toArray] w fun e w' => e = .returned (.int .i64 (cf x y)) ∧ ∃ q os', w' = Go.Sort.grow (w.drewN q) os')
    (gf : FuncId) (lb : Array Value) (eg : ∀ args w, (callFunc gf args).run Try.prog w = .ok (.enter gf args) w) (F : Nat → Prop) (L : List Po) (w : World) (hF : ∀ k, F k → k < w.heap.size) (hL : L.length ≤ 1000)
    (hseq : Iter.SeqQ Try.prog gf lb lkE (LkOk L) (Iter.KeepP F) (fun xs => xs = L) w) :
    Calls Try.prog 28 #[.func (.func gf) #[] lb, .func (.func f) #[] #[]] w fun e w' => ∃ (v : Value) (l : List Po), e = .returned v ∧ l.Perm L ∧ (l.Pairwise fun a b => ltOf cf (t3 b) (t3 a) = false) ∧ w'.ownsRow w.heap.size lookT 3 v l.length (looks l) ∧ Grow.G w w' := by
  have CO := Lib.hid (collect_any gf lb eg F L w hF hL hseq)
  have SO := Lib.hid (fun v w' ho => sortf_any f cf hO egf hc w.heap.size v (L.map t3) w' (by rw [List.length_map]; exact hL) ho)
  clear hseq hF hc hO egf eg
  go_enter Try.func28, Try.ntmps28
  go_wp2_with fail
  refine CO.out.mono ?_
  rintro e w1 ⟨v, rfl, ho, hg⟩
  have S2 := Lib.hid (SO.out v w1 (by rw [List.length_map, ← looks_t3]; exact ho))
  have HO := Lib.hid (And.intro ho hg)
  clear ho hg CO SO
  go_wp2_with fail
  refine S2.out.mono ?_
  rintro e w2 ⟨rfl, l3, hp, hs, ho2, hc2⟩
  have RES := Lib.hid (And.intro hp (And.intro hs (And.intro ho2 hc2)))
  clear hp hs ho2 hc2 S2
  go_wp2_with fail
  go_ret
  obtain ⟨hp, hs, ho2, hc2⟩ := RES.out
  obtain ⟨l, h1, rfl⟩ := perm_map t3 hp L rfl
  refine ⟨v, l, rfl, h1, List.pairwise_map.1 hs, by rw [looks_t3]; rw [List.length_map] at ho2; exact ho2, Below.trans HO.out.2 (hc2.below (B := w.heap.size) HO.out.2.size fun k hk q => by have := (HO.out.1.lt k q).1; omega)⟩
end Go.Proofs.Ytfnpghekkhnjkaa
