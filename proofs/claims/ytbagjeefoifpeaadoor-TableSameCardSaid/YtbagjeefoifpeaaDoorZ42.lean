/- My own texts Tab9, Tab10, Tab8, laid in one file. -/
import Derived.Test.YtbagjeefoifpeaaDoorZ41
import Derived.Test.YtbagjeefoifpeaaDoorZ37
import Derived.Test.YtbagjeefoifpeaaDoorZ29
import Derived.ChangeKeysEq
import Derived.Test.YtbagjeefoifpeaaDoorZ38

/- slices.Equal over a table's rows. -/
namespace Go.Proofs.YtbagjeefoifpeaaDoor
set_option maxRecDepth 100000
set_option linter.unusedVariables false
set_option linter.unusedSimpArgs false
set_option linter.unnecessarySimpa false
open Go.RowKit Go.Args

theorem infoStr : (Tryd.prog.info? 9).map (fun i => (i.zero, i.size, i.bytes)) = some (some (.string ⟨#[]⟩), 1, 16) := by kernel_rfl
def r30 : R3 := ⟨⟨#[]⟩, ⟨#[]⟩, ⟨#[]⟩⟩
def r3B (s t : R3) : Bool := (s.x.toList == t.x.toList) && (s.y.toList == t.y.toList) && (s.z.toList == t.z.toList)
theorem r3B_iff (s t : R3) : r3B s t = true ↔ s = t := by
  obtain ⟨m0, m1, m2⟩ := s
  obtain ⟨m0', m1', m2'⟩ := t
  unfold r3B
  rw [Bool.and_eq_true, Bool.and_eq_true, eqS_iff, eqS_iff, eqS_iff, R3.mk.injEq, and_assoc]
theorem run_neq_r3 (m0 m0' m1 m1' m2 m2' : ByteArray) (w : World) :
    (binOp .neq 62 (.agg #[.string m0, .string m1, .string m2]) (.agg #[.string m0', .string m1', .string m2'])).run Tryd.prog w = .ok (.bool (!r3B ⟨m0, m1, m2⟩ ⟨m0', m1', m2'⟩)) w := by
  obtain ⟨i0, hi, hz0, hz1, hz2⟩ := info_parts infoStr
  have hc1 : Tryd.prog.cellsOf 9 = 1 := by kernel_rfl
  have e := run_equalIn_array (P := Tryd.prog) (w := w) 9999 (t := 62) (e := 9) (n := 3) (i := i0) #[.string m0, .string m1, .string m2] #[.string m0', .string m1', .string m2'] Tryd.underlying62 hi
  go_simp
  unfold r3B
  by_cases h0 : m0.toList = m0'.toList <;> by_cases h1 : m1.toList = m1'.toList <;> by_cases h2 : m2.toList = m2'.toList <;> simp [Op.eqItems, h0, h1, h2, part, go_sem, List.range, List.range.loop, hc1]
  all_goals trace_state
abbrev sameR3 (xs ys : List R3) : Bool := sameL r30 r3B xs ys
set_option maxRecDepth 100000 in
set_option maxHeartbeats 1000000 in
theorem equal3_any (a a' : Option Addr) (xs ys : List R3) (c c' : Nat) (w : World) (hl : xs.length ≤ 1000000) (ht : SlOf w R3.cells 3 a xs) (ht' : SlOf w R3.cells 3 a' ys) :
    Calls Tryd.prog 35 #[.slice a xs.length c, .slice a' ys.length c'] w fun x w' => x = .returned (.bool (sameR3 xs ys)) ∧ Grow.G w w' := by
  have HT := Lib.hid ht
  have HT' := Lib.hid ht'
  clear ht ht'
  by_cases hn : xs.length = ys.length
  · have hn1 : (xs.length != ys.length) = false := by simpa using hn
    have HN := Lib.hid hn
    clear hn
    go_enter Tryd.func35, Tryd.ntmps35
    go_wp2
    go_loopw [13] (fun i wr => ∃ k : Nat, k ≤ xs.length ∧ i = .int .i64 k ∧ Hid (Grow.G w wr) ∧ Hid (∀ j, j < k → r3B (xs.getD j r30) (ys.getD j r30) = true)) (fun i _ => xs.length - (intOf i).toNat)
    case atStart => exact ⟨0, by omega, rfl, Grow.G.refl _, fun j h => by omega⟩
    case round =>
      obtain ⟨k, hk, rfl, G, H0⟩ := hrel
      by_cases hlt : k < xs.length
      · have hlt' : k < ys.length := by have := HN.out; omega
        obtain ⟨b, off, rfl, hat⟩ := (HT.out.later G.out).spot hlt
        obtain ⟨b', off', rfl, hat'⟩ := (HT'.out.later G.out).spot hlt'
        have NO := Lib.hid (fun h => sameL_no (d := r30) (q := r3B) (ys := ys) hlt h)
        have H1 : Hid (∀ j, j < k + 1 → j ≠ k → r3B (xs.getD j r30) (ys.getD j r30) = true) := Lib.hid (fun j h1 h2 => H0.out j (by omega))
        obtain ⟨t, hs⟩ : ∃ t, xs[k]? = some t := ⟨_, List.getElem?_eq_getElem hlt⟩
        obtain ⟨t', hs'⟩ : ∃ t', ys[k]? = some t' := ⟨_, List.getElem?_eq_getElem hlt'⟩
        have E1 : Hid (xs.getD k r30 = t) := Lib.hid (by simp [List.getD, hs])
        have E2 : Hid (ys.getD k r30 = t') := Lib.hid (by simp [List.getD, hs'])
        have c0 : ∀ w', Grow.G wr w' → w'.cell? ⟨b, off + k * 3, none⟩ = some (.string t.x) := fun w' g => cell_later g (hat k _ hs 0 _ rfl)
        have c1 : ∀ w', Grow.G wr w' → w'.cell? ⟨b, off + k * 3 + 1, none⟩ = some (.string t.y) := fun w' g => cell_later g (hat k _ hs 1 _ rfl)
        have c2 : ∀ w', Grow.G wr w' → w'.cell? ⟨b, off + k * 3 + 1 + 1, none⟩ = some (.string t.z) := fun w' g => cell_later g (hat k _ hs 2 _ rfl)
        have d0 : ∀ w', Grow.G wr w' → w'.cell? ⟨b', off' + k * 3, none⟩ = some (.string t'.x) := fun w' g => cell_later g (hat' k _ hs' 0 _ rfl)
        have d1 : ∀ w', Grow.G wr w' → w'.cell? ⟨b', off' + k * 3 + 1, none⟩ = some (.string t'.y) := fun w' g => cell_later g (hat' k _ hs' 1 _ rfl)
        have d2 : ∀ w', Grow.G wr w' → w'.cell? ⟨b', off' + k * 3 + 1 + 1, none⟩ = some (.string t'.z) := fun w' g => cell_later g (hat' k _ hs' 2 _ rfl)
        have k1 : (0 : Int) ≤ (k : Int) := by omega
        have k2 : (k : Int) < (xs.length : Int) := by omega
        have k3 : (k : Int) < (ys.length : Int) := by omega
        have t0 : decide ((k : Int) < (xs.length : Int)) = true := decide_eq_true (by omega)
        have hk1 : IntKind.i64.wrap ((k : Int) + 1) = (k : Int) + 1 := IntWalk.i64_in _ ⟨by omega, by omega⟩
        obtain ⟨m0, m1, m2⟩ := t
        obtain ⟨m0', m1', m2'⟩ := t'
        simp only at c0 d0 c1 d1 c2 d2
        have RN := run_neq_r3 m0 m0' m1 m1' m2 m2' 
        clear hat hat' hs hs' hlt hlt'
        go_wp2_with fail
        refine Grow.region_seqT (by kernel_rfl) (by kernel_rfl) (by intro c a d v w h; cases d <;> exact h) (by kernel_rfl) ?_
        repeat (first
          | (refine Grow.seqT.value ?_ (by rfl) ?_ ?_; rotate_left; (intro w' hg; go_simp <;> with_reducible rfl); simp only [Act.put, L0, L1, L2])
          | (refine Grow.seqT.value ?_ (by rfl) ?_ ?_; rotate_left; (intro w' hg; have ⟨hgc, hgf, hgz⟩ := bcell hg; go_simp <;> with_reducible rfl); simp only [Act.put, L0, L1, L2])
          | (refine Grow.seqT.value ?_ (by rfl) ?_ ?_; rotate_left; (intro w' hg; go_simp; rw [if_neg (by omega)]); simp only [Act.put, L0, L1, L2])
          | (refine Grow.seqT.idle (by rfl) ?_; simp only [Act.put, L0, L1, L2])
          )
        refine Grow.seqT.done (fun w4 g4 => ?_)
        clear c0 d0 c1 d1 c2 d2 RN
        generalize hq : r3B ⟨m0, m1, m2⟩ ⟨m0', m1', m2'⟩ = q at *
        have HQ := Lib.hid hq
        clear hq
        cases q with
        | true =>
          go_wp2_with fail
          go_roundw
          case rel => exact ⟨k + 1, by omega, by go_num, Grow.G.trans G.out g4, fun j hj => by
            by_cases e : j = k
            · rw [e, E1.out, E2.out]; exact HQ.out
            · exact H1.out j hj e⟩
          case measure => simp [intOf]; omega
        | false =>
          go_wp2_with fail
          go_ret
          exact ⟨ret_bool (NO.out (by rw [E1.out, E2.out]; exact HQ.out)).symm, Grow.G.trans G.out g4⟩
      · have t0 : decide ((k : Int) < (xs.length : Int)) = false := decide_eq_false (by omega)
        have Y := Lib.hid (sameL_yes HN.out (fun i hi => H0.out i (by omega)))
        go_wp2_with fail
        go_ret
        exact ⟨ret_bool Y.out.symm, G.out⟩
  · have hn1 : (xs.length != ys.length) = true := by simpa using hn
    have Y := Lib.hid (sameL_len (d := r30) (q := r3B) hn)
    clear hn
    go_enter Tryd.func35, Tryd.ntmps35
    go_wp2
    go_ret
    exact ⟨ret_bool Y.out.symm, Grow.G.refl _⟩

def rowsV (bb : Nat) : Value := .func (.func 48) #[] #[.pointer (some ⟨bb, 0, none⟩)]
theorem rows_any (a : Option Addr) (c : Nat) (l : List Shr) (a' : Option Addr) (c' : Nat) (m : List Tgo) (w : World) (h : ShSl w a l) (h' : TgSl w a' m) (ht : Tab w) :
    Calls Tryd.prog 37 #[tabV a l.length c a' m.length c'] w fun e w' => ∃ bb, e = .returned (rowsV bb) ∧ RowI l a c m a' c' bb w' ∧ Grow.G w w' :=
  (rows_new a l.length c a' m.length c' w).mono fun e w' ⟨he, hw⟩ => by
    subst hw
    have g : Grow.G w (w.alloc (.cells #[.slice a l.length c, .slice a' m.length c'] 25)) := Grow.G.alloc (Grow.G.refl _) _
    exact ⟨_, he, ⟨h.later g, h'.later g, Blk.new w _ _, ht.below g⟩, g⟩
theorem collect_any (bb : Nat) (a : Option Addr) (c : Nat) (l : List Shr) (a' : Option Addr) (c' : Nat) (m : List Tgo) (w : World) (h : RowI l a c m a' c' bb w) (hsm : Small l) (hm : m.length ≤ 1000) :
    Calls Tryd.prog 36 #[rowsV bb] w fun e w' => ∃ s k, e = .returned (.slice s (rowsL l m).length k) ∧ SlOf w' R3.cells 3 s (rowsL l m) ∧ Grow.G w w' := by
  have AS := Lib.hid (appseq_any bb a c l a' c' m w h hsm hm)
  clear h hsm
  unfold rowsV
  go_enter Tryd.func36, Tryd.ntmps36
  go_wp2_with fail
  refine AS.out.mono ?_
  rintro e w1 ⟨v, rfl, ho, hg⟩
  obtain ⟨s, k, rfl⟩ := own_shape ho
  go_wp2_with fail
  go_ret
  exact ⟨s, k, rfl, SlOf.own (fun x => rfl) ho, hg⟩
def tabSame (l : List Shr) (m : List Tgo) (l' : List Shr) (m' : List Tgo) : Bool := sameR3 (rowsL l m) (rowsL l' m')
set_option maxHeartbeats 4000000 in
theorem same_any (a : Option Addr) (l : List Shr) (c : Nat) (a' : Option Addr) (m : List Tgo) (c' : Nat) (b : Option Addr) (l2 : List Shr) (d : Nat) (b' : Option Addr) (m2 : List Tgo) (d' : Nat) (w : World)
    (h1 : ShSl w a l) (h2 : TgSl w a' m) (h3 : ShSl w b l2) (h4 : TgSl w b' m2) (s1 : Small l) (s2 : Small l2) (n1 : m.length ≤ 1000) (n2 : m2.length ≤ 1000) (ht : Tab w) :
    Calls Tryd.prog 20 #[tabV a l.length c a' m.length c', tabV b l2.length d b' m2.length d'] w fun e w' => e = .returned (.bool (tabSame l m l2 m2)) ∧ Grow.G w w' := by
  have RA := Lib.hid (fun w' (g : Grow.G w w') => rows_any a c l a' c' m w' (h1.later g) (h2.later g) (ht.below g))
  have RB := Lib.hid (fun w' (g : Grow.G w w') => rows_any b d l2 b' d' m2 w' (h3.later g) (h4.later g) (ht.below g))
  have CA := Lib.hid (fun bb w' h => collect_any bb a c l a' c' m w' h s1 n1)
  have CB := Lib.hid (fun bb w' h => collect_any bb b d l2 b' d' m2 w' h s2 n2)
  have L1 : (rowsL l m).length ≤ 1000000 := by rw [rowsL_len]; have := s1.1; omega
  have EQ := Lib.hid (fun s k s' k' w' h h' => equal3_any s s' (rowsL l m) (rowsL l2 m2) k k' w' L1 h h')
  obtain ⟨q, hq⟩ : ∃ q, tabSame l m l2 m2 = q := ⟨_, rfl⟩
  unfold tabSame at hq
  rw [show tabSame l m l2 m2 = q from hq]
  rw [hq] at EQ
  clear h1 h2 h3 h4 s1 s2 n1 n2 ht hq
  unfold tabV at *
  generalize l.length = ll at *
  generalize m.length = lm at *
  generalize l2.length = ll2 at *
  generalize m2.length = lm2 at *
  go_enter Tryd.func20, Tryd.ntmps20
  go_wp2_with fail
  have B0 := (Blk.new w #[.slice a ll c, .slice a' lm c'] 25).alloc (.cells #[.slice b ll2 d, .slice b' lm2 d'] 25)
  have B1 := Blk.new (w.alloc (.cells #[.slice a ll c, .slice a' lm c'] 25)) #[.slice b ll2 d, .slice b' lm2 d'] 25
  obtain ⟨W1, hW1⟩ : ∃ W1, W1 = (w.alloc (.cells #[.slice a ll c, .slice a' lm c'] 25)).alloc (.cells #[.slice b ll2 d, .slice b' lm2 d'] 25) := ⟨_, rfl⟩
  have G1 : Hid (Grow.G w W1) := Lib.hid (by rw [hW1]; (repeat (first | with_reducible exact Grow.G.refl _ | with_reducible exact Below.refl _ _ | with_reducible refine Grow.G.alloc ?_ _ | with_reducible refine Grow.G.trans ?_ hb1 | ((with_reducible refine Below.setCell ?_ ?_ _); rotate_left; (focus (first | omega | (simp; done) | (simp; omega)))) | with_reducible assumption | with_reducible refine Grow.G.trans ?_ (by with_reducible assumption))))
  rw [← hW1] at B0 B1 ⊢
  simp only [World.size_alloc] at B1 ⊢
  have KC := Lib.hid (fun (w' : World) (h : Chg (fun _ => False) W1 w') => (⟨h.cell (Blk.at (cs := [.slice a ll c, .slice a' lm c']) (k := 0) B0 rfl) id, h.cell (Blk.at (cs := [.slice a ll c, .slice a' lm c']) (k := 1) B0 rfl) id, h.cell (Blk.at (cs := [.slice b ll2 d, .slice b' lm2 d']) (k := 0) B1 rfl) id, h.cell (Blk.at (cs := [.slice b ll2 d, .slice b' lm2 d']) (k := 1) B1 rfl) id, trivial⟩ : w'.cell? ⟨w.heap.size, 0, none⟩ = some (.slice a ll c) ∧ w'.cell? ⟨w.heap.size, 1, none⟩ = some (.slice a' lm c') ∧ w'.cell? ⟨w.heap.size + 1, 0, none⟩ = some (.slice b ll2 d) ∧ w'.cell? ⟨w.heap.size + 1, 1, none⟩ = some (.slice b' lm2 d') ∧ True))
  clear B0 B1 hW1
  refine Evo2.start' (ℓ := none) (S := Chg (fun _ => False)) (E := Grow.G) (by kernel_rfl) ⟨Chg.pre _, by decide +kernel, (by intro c a d v w h; cases d <;> exact h), by decide +kernel⟩ (fun ok => ?_)
  first | (refine Evo2.vl ok 0 KC.out (Chg.refl (fun _ => False) _) _ _ ?_) | (refine Evo2.va ok 0 _ _ ?_)
  first | (refine Evo2.vl ok 3 KC.out (Chg.refl (fun _ => False) _) _ _ ?_) | (refine Evo2.va ok 3 _ _ ?_)
  refine Evo2.all [1] (by decide +kernel) rfl ?_
  intro wp1 gp1 iq hq
  simp only [List.mem_cons, List.mem_nil_iff, or_false] at hq
  have AP1 := Chg.trans (Chg.refl (fun _ => False) _) (Chg.grow gp1)
  (try replace IA := RowI.grow IA gp1); (try replace IB := RowI.grow IB gp1); (try replace SA := SlOf.later SA gp1); (try replace SB := SlOf.later SB gp1)
  subst hq
  refine Evo2.enters 37 _ (by rfl) (by rfl) (by go_simp; exact ⟨rfl, rfl⟩) ?_
  refine (RA.out _ (G1.out.trans (g0 AP1))).mono ?_
  rintro e wc1 ⟨bA, rfl, IA, hg⟩; (try replace IB := RowI.grow IB hg); (try replace SB := SlOf.later SB hg); have CH1 := Chg.grow (G := fun _ => False) hg; clear hg
  refine ⟨_, rfl, .inr CH1, ?_⟩
  have AC1 := Chg.trans AP1 CH1
  simp only [Act.put, L0, L1, L2]
  refine Evo2.all [2] (by decide +kernel) rfl ?_
  intro wp2 gp2 iq hq
  simp only [List.mem_cons, List.mem_nil_iff, or_false] at hq
  have AP2 := Chg.trans AC1 (Chg.grow gp2)
  (try replace IA := RowI.grow IA gp2); (try replace IB := RowI.grow IB gp2); (try replace SA := SlOf.later SA gp2); (try replace SB := SlOf.later SB gp2)
  subst hq
  refine Evo2.enters 36 _ (by rfl) (by rfl) (by go_simp; exact ⟨rfl, rfl⟩) ?_
  refine (CA.out _ _ IA).mono ?_
  rintro e wc2 ⟨sA, kA, rfl, SA, hg⟩; (try replace IB := RowI.grow IB hg); (try replace SB := SlOf.later SB hg); have CH2 := Chg.grow (G := fun _ => False) hg; clear hg
  refine ⟨_, rfl, .inr CH2, ?_⟩
  have AC2 := Chg.trans AP2 CH2
  simp only [Act.put, L0, L1, L2]
  refine Evo2.all [4] (by decide +kernel) rfl ?_
  intro wp3 gp3 iq hq
  simp only [List.mem_cons, List.mem_nil_iff, or_false] at hq
  have AP3 := Chg.trans AC2 (Chg.grow gp3)
  (try replace IA := RowI.grow IA gp3); (try replace IB := RowI.grow IB gp3); (try replace SA := SlOf.later SA gp3); (try replace SB := SlOf.later SB gp3)
  subst hq
  refine Evo2.enters 37 _ (by rfl) (by rfl) (by go_simp; exact ⟨rfl, rfl⟩) ?_
  refine (RB.out _ (G1.out.trans (g0 AP3))).mono ?_
  rintro e wc3 ⟨bB, rfl, IB, hg⟩; (try replace IA := RowI.grow IA hg); (try replace SA := SlOf.later SA hg); have CH3 := Chg.grow (G := fun _ => False) hg; clear hg
  refine ⟨_, rfl, .inr CH3, ?_⟩
  have AC3 := Chg.trans AP3 CH3
  simp only [Act.put, L0, L1, L2]
  refine Evo2.all [5] (by decide +kernel) rfl ?_
  intro wp4 gp4 iq hq
  simp only [List.mem_cons, List.mem_nil_iff, or_false] at hq
  have AP4 := Chg.trans AC3 (Chg.grow gp4)
  (try replace IA := RowI.grow IA gp4); (try replace IB := RowI.grow IB gp4); (try replace SA := SlOf.later SA gp4); (try replace SB := SlOf.later SB gp4)
  subst hq
  refine Evo2.enters 36 _ (by rfl) (by rfl) (by go_simp; exact ⟨rfl, rfl⟩) ?_
  refine (CB.out _ _ IB).mono ?_
  rintro e wc4 ⟨sB, kB, rfl, SB, hg⟩; (try replace IA := RowI.grow IA hg); (try replace SA := SlOf.later SA hg); have CH4 := Chg.grow (G := fun _ => False) hg; clear hg
  refine ⟨_, rfl, .inr CH4, ?_⟩
  have AC4 := Chg.trans AP4 CH4
  simp only [Act.put, L0, L1, L2]
  refine Evo2.all [6] (by decide +kernel) rfl ?_
  intro wp5 gp5 iq hq
  simp only [List.mem_cons, List.mem_nil_iff, or_false] at hq
  have AP5 := Chg.trans AC4 (Chg.grow gp5)
  (try replace IA := RowI.grow IA gp5); (try replace IB := RowI.grow IB gp5); (try replace SA := SlOf.later SA gp5); (try replace SB := SlOf.later SB gp5)
  subst hq
  refine Evo2.enters 35 _ (by rfl) (by rfl) (by go_simp; exact ⟨rfl, rfl⟩) ?_
  refine (EQ.out _ _ _ _ _ SA SB).mono ?_
  rintro e wc5 ⟨rfl, hg⟩; have CH5 := Chg.grow (G := fun _ => False) hg; clear hg SA SB
  refine ⟨_, rfl, .inr CH5, ?_⟩
  have AC5 := Chg.trans AP5 CH5
  simp only [Act.put, L0, L1, L2]
  refine Evo2.va ok 7 _ _ ?_
  refine Evo2.done (by decide +kernel) (fun wz gz => ?_)
  have AZ := Chg.trans AC5 (Chg.grow gz)
  (try replace IA := RowI.grow IA gz); (try replace IB := RowI.grow IB gz); (try replace SA := SlOf.later SA gz); (try replace SB := SlOf.later SB gz)
  all_goals (go_wp2_with fail; go_ret; exact ⟨rfl, G1.out.trans (g0 AZ)⟩)

def shrB (s t : Shr) : Bool := (s.rev.toList == t.rev.toList) && (s.w == t.w)
theorem shrB_iff (s t : Shr) : shrB s t = true ↔ s = t := by
  obtain ⟨m0, m1⟩ := s
  obtain ⟨m0', m1'⟩ := t
  unfold shrB
  rw [Bool.and_eq_true, eqS_iff, beq_iff_eq, Shr.mk.injEq]
theorem run_neq_shr (m0 m0' : ByteArray) (m1 m1' : Int) (w : World) :
    (binOp .neq 32 (.agg #[.string m0, .int .i64 m1]) (.agg #[.string m0', .int .i64 m1'])).run Tryd.prog w = .ok (.bool (!shrB ⟨m0, m1⟩ ⟨m0', m1'⟩)) w := by
  go_simp
  unfold shrB
  by_cases h0 : m0.toList = m0'.toList <;> by_cases h1 : m1 = m1' <;> simp [h0, h1]
abbrev sameShr (xs ys : List Shr) : Bool := sameL shr0 shrB xs ys
set_option maxRecDepth 100000 in
set_option maxHeartbeats 1000000 in
theorem rshares_same (a a' : Option Addr) (xs ys : List Shr) (c c' : Nat) (w : World) (hl : xs.length ≤ 1000000) (ht : SlOf w Shr.cells 2 a xs) (ht' : SlOf w Shr.cells 2 a' ys) :
    Calls Tryd.prog 38 #[.slice a xs.length c, .slice a' ys.length c'] w fun x w' => x = .returned (.bool (sameShr xs ys)) ∧ Grow.G w w' := by
  have HT := Lib.hid ht
  have HT' := Lib.hid ht'
  clear ht ht'
  by_cases hn : xs.length = ys.length
  · have hn1 : (xs.length != ys.length) = false := by simpa using hn
    have HN := Lib.hid hn
    clear hn
    go_enter Tryd.func38, Tryd.ntmps38
    go_wp2
    go_loopw [5] (fun i wr => ∃ k : Nat, k ≤ xs.length ∧ i = .int .i64 k ∧ Hid (Grow.G w wr) ∧ Hid (∀ j, j < k → shrB (xs.getD j shr0) (ys.getD j shr0) = true)) (fun i _ => xs.length - (intOf i).toNat)
    case atStart => exact ⟨0, by omega, rfl, Grow.G.refl _, fun j h => by omega⟩
    case round =>
      obtain ⟨k, hk, rfl, G, H0⟩ := hrel
      by_cases hlt : k < xs.length
      · have hlt' : k < ys.length := by have := HN.out; omega
        obtain ⟨b, off, rfl, hat⟩ := (HT.out.later G.out).spot hlt
        obtain ⟨b', off', rfl, hat'⟩ := (HT'.out.later G.out).spot hlt'
        have NO := Lib.hid (fun h => sameL_no (d := shr0) (q := shrB) (ys := ys) hlt h)
        have H1 : Hid (∀ j, j < k + 1 → j ≠ k → shrB (xs.getD j shr0) (ys.getD j shr0) = true) := Lib.hid (fun j h1 h2 => H0.out j (by omega))
        obtain ⟨t, hs⟩ : ∃ t, xs[k]? = some t := ⟨_, List.getElem?_eq_getElem hlt⟩
        obtain ⟨t', hs'⟩ : ∃ t', ys[k]? = some t' := ⟨_, List.getElem?_eq_getElem hlt'⟩
        have E1 : Hid (xs.getD k shr0 = t) := Lib.hid (by simp [List.getD, hs])
        have E2 : Hid (ys.getD k shr0 = t') := Lib.hid (by simp [List.getD, hs'])
        have c0 : ∀ w', Grow.G wr w' → w'.cell? ⟨b, off + k * 2, none⟩ = some (.string t.rev) := fun w' g => cell_later g (hat k _ hs 0 _ rfl)
        have c1 : ∀ w', Grow.G wr w' → w'.cell? ⟨b, off + k * 2 + 1, none⟩ = some (.int .i64 t.w) := fun w' g => cell_later g (hat k _ hs 1 _ rfl)
        have d0 : ∀ w', Grow.G wr w' → w'.cell? ⟨b', off' + k * 2, none⟩ = some (.string t'.rev) := fun w' g => cell_later g (hat' k _ hs' 0 _ rfl)
        have d1 : ∀ w', Grow.G wr w' → w'.cell? ⟨b', off' + k * 2 + 1, none⟩ = some (.int .i64 t'.w) := fun w' g => cell_later g (hat' k _ hs' 1 _ rfl)
        have k1 : (0 : Int) ≤ (k : Int) := by omega
        have k2 : (k : Int) < (xs.length : Int) := by omega
        have k3 : (k : Int) < (ys.length : Int) := by omega
        have t0 : decide ((k : Int) < (xs.length : Int)) = true := decide_eq_true (by omega)
        have hk1 : IntKind.i64.wrap ((k : Int) + 1) = (k : Int) + 1 := IntWalk.i64_in _ ⟨by omega, by omega⟩
        obtain ⟨m0, m1⟩ := t
        obtain ⟨m0', m1'⟩ := t'
        simp only at c0 d0 c1 d1
        have RN := run_neq_shr m0 m0' m1 m1'
        clear hat hat' hs hs' hlt hlt'
        go_wp2_with fail
        refine Grow.region_seqT (by kernel_rfl) (by kernel_rfl) (by intro c a d v w h; cases d <;> exact h) (by kernel_rfl) ?_
        repeat (first
          | (refine Grow.seqT.value ?_ (by rfl) ?_ ?_; rotate_left; (intro w' hg; go_simp <;> with_reducible rfl); simp only [Act.put, L0, L1, L2])
          | (refine Grow.seqT.value ?_ (by rfl) ?_ ?_; rotate_left; (intro w' hg; have ⟨hgc, hgf, hgz⟩ := bcell hg; go_simp <;> with_reducible rfl); simp only [Act.put, L0, L1, L2])
          | (refine Grow.seqT.value ?_ (by rfl) ?_ ?_; rotate_left; (intro w' hg; go_simp; rw [if_neg (by omega)]); simp only [Act.put, L0, L1, L2])
          | (refine Grow.seqT.idle (by rfl) ?_; simp only [Act.put, L0, L1, L2])
          )
        refine Grow.seqT.done (fun w4 g4 => ?_)
        clear c0 d0 c1 d1 RN
        generalize hq : shrB ⟨m0, m1⟩ ⟨m0', m1'⟩ = q at *
        have HQ := Lib.hid hq
        clear hq
        cases q with
        | true =>
          go_wp2_with fail
          go_roundw
          case rel => exact ⟨k + 1, by omega, by go_num, Grow.G.trans G.out g4, fun j hj => by
            by_cases e : j = k
            · rw [e, E1.out, E2.out]; exact HQ.out
            · exact H1.out j hj e⟩
          case measure => simp [intOf]; omega
        | false =>
          go_wp2_with fail
          go_ret
          exact ⟨ret_bool (NO.out (by rw [E1.out, E2.out]; exact HQ.out)).symm, Grow.G.trans G.out g4⟩
      · have t0 : decide ((k : Int) < (xs.length : Int)) = false := decide_eq_false (by omega)
        have Y := Lib.hid (sameL_yes HN.out (fun i hi => H0.out i (by omega)))
        go_wp2_with fail
        go_ret
        exact ⟨ret_bool Y.out.symm, G.out⟩
  · have hn1 : (xs.length != ys.length) = true := by simpa using hn
    have Y := Lib.hid (sameL_len (d := shr0) (q := shrB) hn)
    clear hn
    go_enter Tryd.func38, Tryd.ntmps38
    go_wp2
    go_ret
    exact ⟨ret_bool Y.out.symm, Grow.G.refl _⟩
end Go.Proofs.YtbagjeefoifpeaaDoor
