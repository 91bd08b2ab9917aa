
/- TablePicks: where any draw, each tag leads, what is the same, and its text, are the document's. -/
import Derived.Test.YtbagjeefoifpeaaDoorTableCopy
import Derived.Test.YtbagjeefoifpeaaDoorZ47
namespace Go.Proofs.YtbagjeefoifpeaaDoor
set_option maxRecDepth 100000
set_option linter.unusedVariables false
set_option linter.unusedSimpArgs false
set_option linter.unnecessarySimpa false
open Go.RowKit Go.Args

theorem rowT_inj {a b : Tgo} (h : rowT a = rowT b) : a = b := by
  obtain ⟨x, y⟩ := a
  obtain ⟨x', y'⟩ := b
  simp only [rowT, R3.mk.injEq] at h
  rw [h.1, h.2.2]
theorem rowS_inj {a b : Shr} (ha : 1 ≤ a.w) (hb : 1 ≤ b.w) (h : rowS a = rowS b) : a = b := by
  obtain ⟨x, y⟩ := a
  obtain ⟨x', y'⟩ := b
  simp only [rowS, R3.mk.injEq] at h ha hb
  have := digS_inj (by omega) (by omega) h.2.2
  rw [h.1, show y = y' by omega]
theorem row_ne (a : Shr) (b : Tgo) : rowS a ≠ rowT b := by
  intro h
  simp only [rowS, rowT, R3.mk.injEq] at h
  exact absurd h.2.1 (by decide)
theorem rows_inj : ∀ (l l2 : List Shr) (m m2 : List Tgo), (∀ s, s ∈ l → 1 ≤ s.w) → (∀ s, s ∈ l2 → 1 ≤ s.w) → rowsL l m = rowsL l2 m2 → l = l2 ∧ m = m2
  | [], [], m, m2, _, _, h => by
    simp only [rowsL, List.map_nil, List.nil_append] at h
    exact ⟨rfl, List.map_inj_right (fun a b => rowT_inj) |>.1 h⟩
  | x :: r, [], m, m2, _, _, h => by
    cases m2 with
    | nil => simp [rowsL] at h
    | cons y q =>
      simp only [rowsL, List.map_nil, List.nil_append, List.map_cons, List.cons_append, List.cons.injEq] at h
      exact (row_ne _ _ h.1).elim
  | [], x :: r, m, m2, _, _, h => by
    cases m with
    | nil => simp [rowsL] at h
    | cons y q =>
      simp only [rowsL, List.map_nil, List.nil_append, List.map_cons, List.cons_append, List.cons.injEq] at h
      exact (row_ne _ _ h.1.symm).elim
  | x :: r, y :: q, m, m2, h1, h2, h => by
    simp only [rowsL, List.map_cons, List.cons_append, List.cons.injEq] at h
    have e := rowS_inj (h1 x (by simp)) (h2 y (by simp)) h.1
    obtain ⟨e1, e2⟩ := rows_inj r q m m2 (fun s hs => h1 s (by simp [hs])) (fun s hs => h2 s (by simp [hs])) h.2
    exact ⟨by rw [e, e1], e2⟩
theorem same_both {l l2 : List Shr} {m m2 : List Tgo} (h1 : ∀ s, s ∈ l → 1 ≤ s.w) (h2 : ∀ s, s ∈ l2 → 1 ≤ s.w) : tabSame l m l2 m2 = (sameShr l l2 && sameTgo m m2) := by
  rw [Bool.eq_iff_iff, tabSame_iff, Bool.and_eq_true, sameL_iff shrB_iff, sameL_iff tgoB_iff]
  exact ⟨fun h => rows_inj _ _ _ _ h1 h2 h, fun ⟨a, b⟩ => by rw [a, b]⟩
theorem tag_tuple (o : Option ByteArray) : ∃ s b, tagV o = .tuple #[.string s, .bool b] := by
  cases o with
  | none => exact ⟨_, _, rfl⟩
  | some r => exact ⟨_, _, rfl⟩
def tagsL : List ByteArray := [⟨#[116, 48]⟩, ⟨#[116, 49]⟩, ⟨#[116, 50]⟩, ⟨#[116, 51]⟩, ⟨#[]⟩, ⟨#[113]⟩]
set_option maxHeartbeats 8000000 in
theorem walkTablePicks (w : World) (v : Value) (zs : List Int) (hz : IntSlice w v zs) (v2 : Value) (ms : List Int) (hm : IntSlice w v2 ms) (d : Int) (hd : wf64 d) (v3 : Value) (os : List Int) (ho : IntSlice w v3 os) (v4 : Value) (ps : List Int) (hp : IntSlice w v4 ps) (ht : Tab w) :
    Calls Tryd.prog 4 #[v, v2, .int .i64 d, v3, v4] w fun e w' => e = .returned (.bool true) ∧ Below w.heap.size w w' := by
  have KN := Lib.hid (known5_any w ht)
  have HT := Lib.hid ht
  have MK := Lib.hid (fun w' (g : Grow.G w w') => made_l w' v zs (hz.below g) v2 ms (hm.below g) _ _ rfl rfl)
  have MO := Lib.hid (fun w' (g : Grow.G w w') => made_l w' v3 os (ho.below g) v4 ps (hp.below g) _ _ rfl rfl)
  clear ht hz hm ho hp
  have SM := mkS_small zs
  have TM := mkT_small ms
  have SO := mkS_small os
  have TO := mkT_small ps
  have SW : ∀ s, s ∈ mkS zs → 1 ≤ s.w := fun s hs => by obtain ⟨_, _, _, h⟩ := mkS_rev hs; exact h.1
  have SW2 : ∀ s, s ∈ mkS os → 1 ≤ s.w := fun s hs => by obtain ⟨_, _, _, h⟩ := mkS_rev hs; exact h.1
  generalize mkS zs = l at *
  generalize mkT ms = m at *
  generalize mkS os = l2 at *
  generalize mkT ps = m2 at *
  have SB := same_both (m := m) (m2 := m2) SW SW2
  have SS1 : tabSame l m l m = true := tabSame_iff.2 rfl
  clear SW SW2
  have SM := Lib.hid SM
  have TM := Lib.hid TM
  have SO := Lib.hid SO
  have TO := Lib.hid TO
  have lm := TM.out.1
  have ll := SM.out.1
  have lm2 := TO.out.1
  have ll2 := SO.out.1
  have W100 := Lib.hid (fun w => within5w_any d 100 w (by omega) (by omega) hd.1 hd.2)
  have W300 := Lib.hid (fun w => within5w_any d 300 w (by omega) (by omega) hd.1 hd.2)
  have R1 := withinI_range d 100 (by omega)
  have R3 := withinI_range d 300 (by omega)
  go_enter Tryd.func4, Tryd.ntmps4
  go_wp2_with fail
  refine KN.out.mono ?_
  rintro e w1 ⟨rfl, hg1⟩
  go_wp2_with fail
  refine (MK.out _ hg1).mono ?_
  rintro e w2 ⟨ta, tc, ta', tc', rfl, OT, OT', hg2⟩
  have G2 := hg1.trans hg2
  go_wp2_with fail
  refine (MO.out _ G2).mono ?_
  rintro e w3 ⟨ua, uc, ua', uc', rfl, OU, OU', hg3⟩
  go_wp2_with fail
  have B7 := (Blk.new w3 #[.slice ta l.length tc, .slice ta' m.length tc'] 25).alloc (.cells #[.slice ua l2.length uc, .slice ua' m2.length uc'] 25)
  have B8 := Blk.new (w3.alloc (.cells #[.slice ta l.length tc, .slice ta' m.length tc'] 25)) #[.slice ua l2.length uc, .slice ua' m2.length uc'] 25
  have g4 : Grow.G w3 ((w3.alloc (.cells #[.slice ta l.length tc, .slice ta' m.length tc'] 25)).alloc (.cells #[.slice ua l2.length uc, .slice ua' m2.length uc'] 25)) := by (repeat (first | with_reducible exact Grow.G.refl _ | with_reducible exact Below.refl _ _ | with_reducible refine Grow.G.alloc ?_ _ | with_reducible refine Grow.G.trans ?_ hb1 | ((with_reducible refine Below.setCell ?_ ?_ _); rotate_left; (focus (first | omega | (simp; done) | (simp; omega)))) | with_reducible assumption | with_reducible refine Grow.G.trans ?_ (by with_reducible assumption)))
  obtain ⟨W4, hW4⟩ : ∃ W4, W4 = (w3.alloc (.cells #[.slice ta l.length tc, .slice ta' m.length tc'] 25)).alloc (.cells #[.slice ua l2.length uc, .slice ua' m2.length uc'] 25) := ⟨_, rfl⟩
  rw [← hW4] at B7 B8 g4 ⊢
  simp only [World.size_alloc] at B8
  have B7 := Lib.hid B7
  have B8 := Lib.hid B8
  have G4 := Lib.hid ((G2.trans hg3).trans g4)
  have S1 := Lib.hid (SlOf.own (fun x => rfl) (own_later OT (hg3.trans g4)) : ShSl W4 ta l)
  have S2 := Lib.hid (SlOf.own (fun x => rfl) (own_later OT' (hg3.trans g4)) : TgSl W4 ta' m)
  have S3 := Lib.hid (SlOf.own (fun x => rfl) (own_later OU g4) : ShSl W4 ua l2)
  have S4 := Lib.hid (SlOf.own (fun x => rfl) (own_later OU' g4) : TgSl W4 ua' m2)
  have T4 := Lib.hid (HT.out.below G4.out)
  clear hW4 hg1 hg2 hg3 G2 g4 OT OT' OU OU' KN
  generalize w3.heap.size = gb at *
  refine (W100.out _).mono ?_
  rintro e wx ⟨rfl, rfl⟩
  go_wp2_with fail
  refine (W300.out _).mono ?_
  rintro e wx ⟨rfl, rfl⟩
  have hn : IntKind.i64.wrap (0 - withinI d 300) = 0 - withinI d 300 := IntWalk.i64_in _ ⟨by omega, by omega⟩
  have hn2 : IntKind.i64.wrap (-withinI d 300) = -withinI d 300 := IntWalk.i64_in _ ⟨by omega, by omega⟩
  go_wp2_with fail
  have hdl : -9223372036854775808 ≤ d ∧ d ≤ 9223372036854775807 := hd
  have BD := Blk.new W4 #[.int .i64 d, .int .i64 (withinI d 100), .int .i64 (-withinI d 300), .int .i64 (-9223372036854775808), .int .i64 9223372036854775807, .int .i64 0, .int .i64 99, .int .i64 100] 3
  have g5 := Grow.G.alloc (Grow.G.refl W4) (.cells #[.int .i64 d, .int .i64 (withinI d 100), .int .i64 (-withinI d 300), .int .i64 (-9223372036854775808), .int .i64 9223372036854775807, .int .i64 0, .int .i64 99, .int .i64 100] 3)
  obtain ⟨W5, hW5⟩ : ∃ W5, W5 = W4.alloc (.cells #[.int .i64 d, .int .i64 (withinI d 100), .int .i64 (-withinI d 300), .int .i64 (-9223372036854775808), .int .i64 9223372036854775807, .int .i64 0, .int .i64 99, .int .i64 100] 3) := ⟨_, rfl⟩
  rw [← hW5] at BD g5 ⊢
  have DC : ∀ k, k < 8 → ∃ x, wf64 x ∧ ∀ w', Grow.G W5 w' → w'.cell? ⟨W4.heap.size, k, none⟩ = some (.int .i64 x) := by
    intro k hk
    have F : ∀ x, (#[.int .i64 d, .int .i64 (withinI d 100), .int .i64 (-withinI d 300), .int .i64 (-9223372036854775808), .int .i64 9223372036854775807, .int .i64 0, .int .i64 99, .int .i64 100] : Array Value)[k]? = some (.int .i64 x) → ∀ w', Grow.G W5 w' → w'.cell? ⟨W4.heap.size, k, none⟩ = some (.int .i64 x) := fun x h w' g => by rw [(BD.grow g).cell]; exact h
    match k, hk with
    | 0, _ => exact ⟨_, hd, F _ rfl⟩
    | 1, _ => exact ⟨withinI d 100, ⟨by omega, by omega⟩, F _ rfl⟩
    | 2, _ => exact ⟨-withinI d 300, ⟨by omega, by omega⟩, F _ rfl⟩
    | 3, _ => exact ⟨_, ⟨by decide, by decide⟩, F _ rfl⟩
    | 4, _ => exact ⟨_, ⟨by decide, by decide⟩, F _ rfl⟩
    | 5, _ => exact ⟨_, ⟨by decide, by decide⟩, F _ rfl⟩
    | 6, _ => exact ⟨_, ⟨by decide, by decide⟩, F _ rfl⟩
    | 7, _ => exact ⟨_, ⟨by decide, by decide⟩, F _ rfl⟩
  have DC := Lib.hid DC
  have G5 := Lib.hid (G4.out.trans g5)
  have C7 := Lib.hid (B7.out.grow g5)
  have C8 := Lib.hid (B8.out.grow g5)
  have S1 := Lib.hid (SlOf.later S1.out g5 : ShSl W5 ta l)
  have S2 := Lib.hid (SlOf.later S2.out g5 : TgSl W5 ta' m)
  have S3 := Lib.hid (SlOf.later S3.out g5 : ShSl W5 ua l2)
  have S4 := Lib.hid (SlOf.later S4.out g5 : TgSl W5 ua' m2)
  have T5 := Lib.hid (T4.out.below g5)
  clear hW5 BD g5 hn hn2 R1 R3 W100 W300 B7 B8 T4 G4 hdl
  generalize W4.heap.size = gd at *
  generalize withinI d 100 = d1 at *
  generalize withinI d 300 = d3 at *
  go_loopw [14] (fun i wr => ∃ k : Nat, k ≤ 8 ∧ i = .int .i64 k ∧ Hid (Grow.G W5 wr)) (fun i _ => 8 - (intOf i).toNat)
  case atStart => exact ⟨0, by omega, rfl, Lib.hid (Grow.G.refl _)⟩
  case round =>
    obtain ⟨k, hk, rfl, GR⟩ := hrel
    have KB := Lib.hid (fun (w' : World) (h : Chg (fun _ => False) wr w') => (⟨h.cell (Blk.at (cs := [.slice ta l.length tc, .slice ta' m.length tc']) (k := 0) (C7.out.grow GR.out) rfl) id, h.cell (Blk.at (cs := [.slice ta l.length tc, .slice ta' m.length tc']) (k := 1) (C7.out.grow GR.out) rfl) id, h.cell (Blk.at (cs := [.slice ua l2.length uc, .slice ua' m2.length uc']) (k := 0) (C8.out.grow GR.out) rfl) id, h.cell (Blk.at (cs := [.slice ua l2.length uc, .slice ua' m2.length uc']) (k := 1) (C8.out.grow GR.out) rfl) id, trivial⟩ : w'.cell? ⟨gb, 0, none⟩ = some (.slice ta l.length tc) ∧ w'.cell? ⟨gb, 1, none⟩ = some (.slice ta' m.length tc') ∧ w'.cell? ⟨gb + 1, 0, none⟩ = some (.slice ua l2.length uc) ∧ w'.cell? ⟨gb + 1, 1, none⟩ = some (.slice ua' m2.length uc') ∧ True))
    by_cases hlt : k < 8
    · obtain ⟨x, hx, hc⟩ := DC.out k hlt
      have KC := Lib.hid (fun (w' : World) (h : Chg (fun _ => False) wr w') => (⟨(KB.out w' h).1, (KB.out w' h).2.1, hc w' (GR.out.trans (g0 h)), trivial⟩ : w'.cell? ⟨gb, 0, none⟩ = some (.slice ta l.length tc) ∧ w'.cell? ⟨gb, 1, none⟩ = some (.slice ta' m.length tc') ∧ w'.cell? ⟨gd, k, none⟩ = some (.int .i64 x) ∧ True))
      have P1 := Lib.hid (fun (w' : World) (h : Chg (fun _ => False) wr w') => (show Calls Tryd.prog 16 #[.agg #[.slice ta l.length tc, .slice ta' m.length tc'], .int .i64 x] w' fun e w'' => e = .returned (.string (pickL l (x % 100))) ∧ Grow.G w' w'' from pick_any ta l tc ta' _ tc' x w' hx (SlOf.later S1.out (GR.out.trans (g0 h))) SM.out))
      have P2 := Lib.hid (fun (w' : World) (h : Chg (fun _ => False) wr w') => (show Calls Tryd.prog 17 #[.agg #[.slice ta l.length tc, .slice ta' m.length tc'], .int .i64 x] w' fun e w'' => e = .returned (.string (pickL l (x % 100))) ∧ Grow.G w' w'' from rpick_any ta l tc ta' _ tc' x w' hx (SlOf.later S1.out (GR.out.trans (g0 h))) SM.out))
      generalize pickL l (x % 100) = r at *
      have d0 : decide (k < 8) = true := decide_eq_true hlt
      have hk1 : IntKind.i64.wrap ((k : Int) + 1) = (k : Int) + 1 := IntWalk.i64_in _ ⟨by omega, by omega⟩
      have k1 : (0 : Int) ≤ (k : Int) := by omega
      have k2 : (k : Int) < 8 := by omega
      go_wp2_with fail
      refine Evo2.start' (ℓ := none) (S := Chg (fun _ => False)) (E := Grow.G) (by kernel_rfl) ⟨Chg.pre _, by decide +kernel, (by intro c a d v w h; cases d <;> exact h), by decide +kernel⟩ (fun ok => ?_)
      first | (refine Evo2.vl ok 0 KC.out (Chg.refl (fun _ => False) _) _ _ ?_) | (refine Evo2.va ok 0 _ _ ?_)
      refine Evo2.va ok 1 _ _ ?_
      refine Evo2.va ok 2 _ _ ?_
      refine Evo2.va ok 3 _ _ ?_
      first | (refine Evo2.vl ok 4 KC.out (Chg.refl (fun _ => False) _) _ _ ?_) | (refine Evo2.va ok 4 _ _ ?_)
      (refine Evo2.cal ok 5 ?_ 16 ?_ ?_ ?_ ?_; rotate_left 2; (focus (intro w'; go_simp <;> with_reducible rfl)); (focus (intro w' g'; with_reducible exact P1.out w' (Chg.trans (Chg.refl (fun _ => False) _) g'))); simp only [Act.put, L0, L1, L2])
      first | (refine Evo2.vl ok 6 KC.out (Chg.refl (fun _ => False) _) _ _ ?_) | (refine Evo2.va ok 6 _ _ ?_)
      refine Evo2.va ok 7 _ _ ?_
      refine Evo2.va ok 8 _ _ ?_
      refine Evo2.va ok 9 _ _ ?_
      first | (refine Evo2.vl ok 10 KC.out (Chg.refl (fun _ => False) _) _ _ ?_) | (refine Evo2.va ok 10 _ _ ?_)
      (refine Evo2.cal ok 11 ?_ 17 ?_ ?_ ?_ ?_; rotate_left 2; (focus (intro w'; go_simp <;> with_reducible rfl)); (focus (intro w' g'; with_reducible exact P2.out w' (Chg.trans (Chg.refl (fun _ => False) _) g'))); simp only [Act.put, L0, L1, L2])
      refine Evo2.va ok 12 _ _ ?_
      refine Evo2.done (by decide +kernel) (fun wz gz => ?_)
      have AZ := Chg.trans (Chg.refl (fun _ => False) _) (Chg.grow gz)
      go_wp2_with fail
      go_roundw
      case rel => exact ⟨k + 1, by omega, by go_num, Lib.hid (GR.out.trans (g0 AZ))⟩
      case measure => simp [intOf]; omega
    · have d0 : decide (k < 8) = false := decide_eq_false hlt
      go_wp2_with fail
      clear KB DC
      have BT := Blk.new wr #[.string ⟨#[116, 48]⟩, .string ⟨#[116, 49]⟩, .string ⟨#[116, 50]⟩, .string ⟨#[116, 51]⟩, .string ⟨#[]⟩, .string ⟨#[113]⟩] 9
      have g6 := Grow.G.alloc (Grow.G.refl wr) (.cells #[.string ⟨#[116, 48]⟩, .string ⟨#[116, 49]⟩, .string ⟨#[116, 50]⟩, .string ⟨#[116, 51]⟩, .string ⟨#[]⟩, .string ⟨#[113]⟩] 9)
      obtain ⟨W6, hW6⟩ : ∃ W6, W6 = wr.alloc (.cells #[.string ⟨#[116, 48]⟩, .string ⟨#[116, 49]⟩, .string ⟨#[116, 50]⟩, .string ⟨#[116, 51]⟩, .string ⟨#[]⟩, .string ⟨#[113]⟩] 9) := ⟨_, rfl⟩
      rw [← hW6] at BT g6 ⊢
      have TC : ∀ k, k < 6 → ∃ x, ∀ w', Grow.G W6 w' → w'.cell? ⟨wr.heap.size, k, none⟩ = some (.string x) := by
        intro k hk
        have F : ∀ x, (#[.string ⟨#[116, 48]⟩, .string ⟨#[116, 49]⟩, .string ⟨#[116, 50]⟩, .string ⟨#[116, 51]⟩, .string ⟨#[]⟩, .string ⟨#[113]⟩] : Array Value)[k]? = some (.string x) → ∀ w', Grow.G W6 w' → w'.cell? ⟨wr.heap.size, k, none⟩ = some (.string x) := fun x h w' g => by rw [(BT.grow g).cell]; exact h
        match k, hk with
        | 0, _ => exact ⟨_, F _ rfl⟩
        | 1, _ => exact ⟨_, F _ rfl⟩
        | 2, _ => exact ⟨_, F _ rfl⟩
        | 3, _ => exact ⟨_, F _ rfl⟩
        | 4, _ => exact ⟨_, F _ rfl⟩
        | 5, _ => exact ⟨_, F _ rfl⟩
      have TC := Lib.hid TC
      have GR := Lib.hid (GR.out.trans g6)
      clear hW6 BT g6 d0 hlt
      generalize wr.heap.size = gt at *
      go_loopw [16] (fun i wr => ∃ k : Nat, k ≤ 6 ∧ i = .int .i64 k ∧ Hid (Grow.G W6 wr)) (fun i _ => 6 - (intOf i).toNat)
      case atStart => exact ⟨0, by omega, rfl, Lib.hid (Grow.G.refl _)⟩
      case round =>
        obtain ⟨k, hk, rfl, GQ⟩ := hrel
        have GR := Lib.hid (GR.out.trans GQ.out)
        have KB := Lib.hid (fun (w' : World) (h : Chg (fun _ => False) wr w') => (⟨h.cell (Blk.at (cs := [.slice ta l.length tc, .slice ta' m.length tc']) (k := 0) (C7.out.grow GR.out) rfl) id, h.cell (Blk.at (cs := [.slice ta l.length tc, .slice ta' m.length tc']) (k := 1) (C7.out.grow GR.out) rfl) id, h.cell (Blk.at (cs := [.slice ua l2.length uc, .slice ua' m2.length uc']) (k := 0) (C8.out.grow GR.out) rfl) id, h.cell (Blk.at (cs := [.slice ua l2.length uc, .slice ua' m2.length uc']) (k := 1) (C8.out.grow GR.out) rfl) id, trivial⟩ : w'.cell? ⟨gb, 0, none⟩ = some (.slice ta l.length tc) ∧ w'.cell? ⟨gb, 1, none⟩ = some (.slice ta' m.length tc') ∧ w'.cell? ⟨gb + 1, 0, none⟩ = some (.slice ua l2.length uc) ∧ w'.cell? ⟨gb + 1, 1, none⟩ = some (.slice ua' m2.length uc') ∧ True))
        have FS := Lib.hid (fun (w' : World) (h : Chg (fun _ => False) wr w') => (⟨SlOf.later S1.out (GR.out.trans (g0 h)), SlOf.later S2.out (GR.out.trans (g0 h)), SlOf.later S3.out (GR.out.trans (g0 h)), SlOf.later S4.out (GR.out.trans (g0 h)), T5.out.below (GR.out.trans (g0 h)), G5.out.trans (GR.out.trans (g0 h))⟩ : ShSl w' ta l ∧ TgSl w' ta' m ∧ ShSl w' ua l2 ∧ TgSl w' ua' m2 ∧ Tab w' ∧ Grow.G w w'))
        by_cases hlt : k < 6
        · obtain ⟨x, hc⟩ := TC.out k hlt
          have KC := Lib.hid (fun (w' : World) (h : Chg (fun _ => False) wr w') => (⟨(KB.out w' h).1, (KB.out w' h).2.1, hc w' (GQ.out.trans (g0 h)), trivial⟩ : w'.cell? ⟨gb, 0, none⟩ = some (.slice ta l.length tc) ∧ w'.cell? ⟨gb, 1, none⟩ = some (.slice ta' m.length tc') ∧ w'.cell? ⟨gt, k, none⟩ = some (.string x) ∧ True))
          obtain ⟨rs, rb, hr⟩ := tag_tuple (byTag m x)
          have P1 := Lib.hid (fun (w' : World) (h : Chg (fun _ => False) wr w') => (show Calls Tryd.prog 18 #[.agg #[.slice ta l.length tc, .slice ta' m.length tc'], .string x] w' fun e w'' => e = .returned (.tuple #[.string rs, .bool rb]) ∧ Grow.G w' w'' from hr ▸ bytag_any ta _ tc ta' m tc' x w' (by omega) (FS.out w' h).2.1 TM.out.ok))
          have P2 := Lib.hid (fun (w' : World) (h : Chg (fun _ => False) wr w') => (show Calls Tryd.prog 19 #[.agg #[.slice ta l.length tc, .slice ta' m.length tc'], .string x] w' fun e w'' => e = .returned (.tuple #[.string rs, .bool rb]) ∧ Grow.G w' w'' from hr ▸ rbytag_any ta _ tc ta' m tc' x w' (by omega) (FS.out w' h).2.1))
          have d0 : decide (k < 6) = true := decide_eq_true hlt
          have hk1 : IntKind.i64.wrap ((k : Int) + 1) = (k : Int) + 1 := IntWalk.i64_in _ ⟨by omega, by omega⟩
          have k1 : (0 : Int) ≤ (k : Int) := by omega
          have k2 : (k : Int) < 6 := by omega
          clear hr
          go_wp2_with fail
          refine Evo2.start' (ℓ := none) (S := Chg (fun _ => False)) (E := Grow.G) (by kernel_rfl) ⟨Chg.pre _, by decide +kernel, (by intro c a d v w h; cases d <;> exact h), by decide +kernel⟩ (fun ok => ?_)
          first | (refine Evo2.vl ok 0 KC.out (Chg.refl (fun _ => False) _) _ _ ?_) | (refine Evo2.va ok 0 _ _ ?_)
          refine Evo2.va ok 1 _ _ ?_
          refine Evo2.va ok 2 _ _ ?_
          refine Evo2.va ok 3 _ _ ?_
          first | (refine Evo2.vl ok 4 KC.out (Chg.refl (fun _ => False) _) _ _ ?_) | (refine Evo2.va ok 4 _ _ ?_)
          (refine Evo2.cal ok 5 ?_ 18 ?_ ?_ ?_ ?_; rotate_left 2; (focus (intro w'; go_simp <;> with_reducible rfl)); (focus (intro w' g'; with_reducible exact P1.out w' (Chg.trans (Chg.refl (fun _ => False) _) g'))); simp only [Act.put, L0, L1, L2])
          refine Evo2.va ok 6 _ _ ?_
          refine Evo2.va ok 7 _ _ ?_
          refine Evo2.va ok 8 _ _ ?_
          refine Evo2.va ok 9 _ _ ?_
          refine Evo2.va ok 10 _ _ ?_
          refine Evo2.done (by decide +kernel) (fun wz gz => ?_)
          have AZ := Chg.trans (Chg.refl (fun _ => False) _) (Chg.grow gz)
          have KC := Lib.hid (fun (w' : World) (h : Chg (fun _ => False) wz w') => KC.out w' (Chg.trans AZ h))
          have P2 := Lib.hid (fun (w' : World) (h : Chg (fun _ => False) wz w') => P2.out w' (Chg.trans AZ h))
          have GZ := Lib.hid (GQ.out.trans (g0 AZ))
          clear AZ gz ok P1
          go_wp2_with fail
          refine Evo2.start' (ℓ := none) (S := Chg (fun _ => False)) (E := Grow.G) (by kernel_rfl) ⟨Chg.pre _, by decide +kernel, (by intro c a d v w h; cases d <;> exact h), by decide +kernel⟩ (fun ok => ?_)
          first | (refine Evo2.vl ok 0 KC.out (Chg.refl (fun _ => False) _) _ _ ?_) | (refine Evo2.va ok 0 _ _ ?_)
          refine Evo2.va ok 1 _ _ ?_
          refine Evo2.va ok 2 _ _ ?_
          refine Evo2.va ok 3 _ _ ?_
          first | (refine Evo2.vl ok 4 KC.out (Chg.refl (fun _ => False) _) _ _ ?_) | (refine Evo2.va ok 4 _ _ ?_)
          (refine Evo2.cal ok 5 ?_ 19 ?_ ?_ ?_ ?_; rotate_left 2; (focus (intro w'; go_simp <;> with_reducible rfl)); (focus (intro w' g'; with_reducible exact P2.out w' (Chg.trans (Chg.refl (fun _ => False) _) g'))); simp only [Act.put, L0, L1, L2])
          refine Evo2.va ok 6 _ _ ?_
          refine Evo2.va ok 7 _ _ ?_
          refine Evo2.va ok 8 _ _ ?_
          refine Evo2.va ok 9 _ _ ?_
          refine Evo2.va ok 10 _ _ ?_
          refine Evo2.done (by decide +kernel) (fun wz gz => ?_)
          have AZ := Chg.trans (Chg.refl (fun _ => False) _) (Chg.grow gz)
          go_wp2_with fail
          go_roundw
          case rel => exact ⟨k + 1, by omega, by go_num, Lib.hid (GZ.out.trans (g0 AZ))⟩
          case measure => simp [intOf]; omega
        · have d0 : decide (k < 6) = false := decide_eq_false hlt
          have Q1 := Lib.hid (fun (w' : World) (h : Chg (fun _ => False) wr w') => (show Calls Tryd.prog 20 #[.agg #[.slice ta l.length tc, .slice ta' m.length tc'], .agg #[.slice ua l2.length uc, .slice ua' m2.length uc']] w' fun e w'' => e = .returned (.bool (tabSame l m l2 m2)) ∧ Grow.G w' w'' from
            same_any ta l tc ta' m tc' ua l2 uc ua' m2 uc' w' (FS.out w' h).1 (FS.out w' h).2.1 (FS.out w' h).2.2.1 (FS.out w' h).2.2.2.1 SM.out SO.out (by omega) (by omega) (FS.out w' h).2.2.2.2.1))
          have Q2 := Lib.hid (fun (w' : World) (h : Chg (fun _ => False) wr w') => (show Calls Tryd.prog 21 #[.agg #[.slice ta l.length tc, .slice ta' m.length tc'], .agg #[.slice ua l2.length uc, .slice ua' m2.length uc']] w' fun e w'' => e = .returned (.bool (tabSame l m l2 m2)) ∧ Grow.G w' w'' from
            SB ▸ rsame_any ta l tc ta' m tc' ua l2 uc ua' m2 uc' w' (FS.out w' h).1 (FS.out w' h).2.1 (FS.out w' h).2.2.1 (FS.out w' h).2.2.2.1 ll (by omega)))
          have Q3 := Lib.hid (fun (w' : World) (h : Chg (fun _ => False) wr w') => MK.out w' (FS.out w' h).2.2.2.2.2)
          have Q4 := Lib.hid (fun (w' : World) (h : Chg (fun _ => False) wr w') xa xc xa' xc' (h3 : ShSl w' xa l) (h4 : TgSl w' xa' m) => (show Calls Tryd.prog 20 #[.agg #[.slice ta l.length tc, .slice ta' m.length tc'], .agg #[.slice xa l.length xc, .slice xa' m.length xc']] w' fun e w'' => e = .returned (.bool true) ∧ Grow.G w' w'' from
            SS1 ▸ same_any ta l tc ta' m tc' xa l xc xa' m xc' w' (FS.out w' h).1 (FS.out w' h).2.1 h3 h4 SM.out SM.out (by omega) (by omega) (FS.out w' h).2.2.2.2.1))
          have Q5 := Lib.hid (fun (w' : World) (h : Chg (fun _ => False) wr w') => (show Calls Tryd.prog 22 #[.agg #[.slice ta l.length tc, .slice ta' m.length tc']] w' fun e w'' => e = .returned (.string (textB l m)) ∧ Grow.G w' w'' from ttext_any ta l tc ta' m tc' w' (FS.out w' h).1 (FS.out w' h).2.1 SM.out TM.out (FS.out w' h).2.2.2.2.1))
          have Q6 := Lib.hid (fun (w' : World) (h : Chg (fun _ => False) wr w') => (show Calls Tryd.prog 23 #[.agg #[.slice ta l.length tc, .slice ta' m.length tc']] w' fun e w'' => e = .returned (.string (textB l m)) ∧ Grow.G w' w'' from rtext_any ta l tc ta' m tc' w' (FS.out w' h).1 (FS.out w' h).2.1 SM.out TM.out))
          have GF := Lib.hid (fun (w' : World) (h : Chg (fun _ => False) wr w') => (FS.out w' h).2.2.2.2.2)
          clear FS SB SS1 TC S1 S2 S3 S4 T5 G5 C7 C8 GR GQ MK MO
          generalize tabSame l m l2 m2 = sq at *
          generalize textB l m = tx at *
          go_wp2_with fail
          refine Evo2.start' (ℓ := none) (S := Chg (fun _ => False)) (E := Grow.G) (by kernel_rfl) ⟨Chg.pre _, by decide +kernel, (by intro c a d v w h; cases d <;> exact h), by decide +kernel⟩ (fun ok => ?_)
          first | (refine Evo2.vl ok 0 KB.out (Chg.refl (fun _ => False) _) _ _ ?_) | (refine Evo2.va ok 0 _ _ ?_)
          first | (refine Evo2.vl ok 1 KB.out (Chg.refl (fun _ => False) _) _ _ ?_) | (refine Evo2.va ok 1 _ _ ?_)
          (refine Evo2.cal ok 2 ?_ 20 ?_ ?_ ?_ ?_; rotate_left 2; (focus (intro w'; go_simp <;> with_reducible rfl)); (focus (intro w' g'; with_reducible exact Q1.out w' (Chg.trans (Chg.refl (fun _ => False) _) g'))); simp only [Act.put, L0, L1, L2])
          first | (refine Evo2.vl ok 3 KB.out (Chg.refl (fun _ => False) _) _ _ ?_) | (refine Evo2.va ok 3 _ _ ?_)
          first | (refine Evo2.vl ok 4 KB.out (Chg.refl (fun _ => False) _) _ _ ?_) | (refine Evo2.va ok 4 _ _ ?_)
          (refine Evo2.cal ok 5 ?_ 21 ?_ ?_ ?_ ?_; rotate_left 2; (focus (intro w'; go_simp <;> with_reducible rfl)); (focus (intro w' g'; with_reducible exact Q2.out w' (Chg.trans (Chg.refl (fun _ => False) _) g'))); simp only [Act.put, L0, L1, L2])
          refine Evo2.va ok 6 _ _ ?_
          refine Evo2.va ok 7 _ _ ?_
          first | (refine Evo2.vl ok 8 KB.out (Chg.refl (fun _ => False) _) _ _ ?_) | (refine Evo2.va ok 8 _ _ ?_) | (refine Evo2.vi ok 8 _ ?_)
          first | (refine Evo2.va ok 9 _ _ ?_) | (refine Evo2.vi ok 9 _ ?_)
          first | (refine Evo2.va ok 10 _ _ ?_) | (refine Evo2.vi ok 10 _ ?_)
          refine Evo2.all [11] (by decide +kernel) rfl ?_
          intro wp1 gp1 iq hq
          simp only [List.mem_cons, List.mem_nil_iff, or_false] at hq
          have AP1 := Chg.trans (Chg.refl (fun _ => False) _) (Chg.grow gp1)
          (try replace V1 := SlOf.later V1 gp1); (try replace V2 := SlOf.later V2 gp1)
          subst hq
          refine Evo2.enters 11 _ (by rfl) (by rfl) (by go_simp; exact ⟨rfl, rfl⟩) ?_
          refine (Q3.out _ AP1).mono ?_
          rintro e wc1 ⟨xa, xc, xa', xc', rfl, X1, X2, hg⟩; have V1 : ShSl _ xa l := SlOf.own (fun x => rfl) X1; have V2 : TgSl _ xa' m := SlOf.own (fun x => rfl) X2; have CH1 := Chg.grow (G := fun _ => False) hg; clear hg X1 X2
          refine ⟨_, rfl, .inr CH1, ?_⟩
          have AC1 := Chg.trans AP1 CH1
          simp only [Act.put, L0, L1, L2]
          refine Evo2.all [12] (by decide +kernel) rfl ?_
          intro wp2 gp2 iq hq
          simp only [List.mem_cons, List.mem_nil_iff, or_false] at hq
          have AP2 := Chg.trans AC1 (Chg.grow gp2)
          (try replace V1 := SlOf.later V1 gp2); (try replace V2 := SlOf.later V2 gp2)
          subst hq
          refine Evo2.enters 20 _ (by rfl) (by rfl) (by go_simp; exact ⟨rfl, rfl⟩) ?_
          refine (Q4.out _ AP2 _ _ _ _ V1 V2).mono ?_
          rintro e wc2 ⟨rfl, hg⟩; have CH2 := Chg.grow (G := fun _ => False) hg; clear hg V1 V2
          refine ⟨_, rfl, .inr CH2, ?_⟩
          have AC2 := Chg.trans AP2 CH2
          simp only [Act.put, L0, L1, L2]
          refine Evo2.va ok 13 _ _ ?_
          refine Evo2.va ok 14 _ _ ?_
          first | (refine Evo2.vl ok 15 KB.out AC2 _ _ ?_) | (refine Evo2.va ok 15 _ _ ?_) | (refine Evo2.vi ok 15 _ ?_)
          first | (refine Evo2.cal ok 16 ?_ 22 ?_ ?_ ?_ ?_; rotate_left 2; (focus (intro w'; go_simp <;> with_reducible rfl)); (focus (intro w' g'; with_reducible exact Q5.out w' (Chg.trans AC2 g'))); simp only [Act.put, L0, L1, L2]) | (refine Evo2.vi ok 16 _ ?_)
          first | (refine Evo2.vl ok 17 KB.out AC2 _ _ ?_) | (refine Evo2.va ok 17 _ _ ?_) | (refine Evo2.vi ok 17 _ ?_)
          first | (refine Evo2.cal ok 18 ?_ 23 ?_ ?_ ?_ ?_; rotate_left 2; (focus (intro w'; go_simp <;> with_reducible rfl)); (focus (intro w' g'; with_reducible exact Q6.out w' (Chg.trans AC2 g'))); simp only [Act.put, L0, L1, L2]) | (refine Evo2.vi ok 18 _ ?_)
          first | (refine Evo2.va ok 19 _ _ ?_) | (refine Evo2.vi ok 19 _ ?_)
          refine Evo2.va ok 20 _ _ ?_
          refine Evo2.va ok 21 _ _ ?_
          refine Evo2.done (by decide +kernel) (fun wz gz => ?_)
          have AZ := Chg.trans AC2 (Chg.grow gz)
          (try replace V1 := SlOf.later V1 gz); (try replace V2 := SlOf.later V2 gz)
          go_wp2_with fail
          go_ret
          exact ⟨by simp, GF.out _ AZ⟩
end Go.Proofs.YtbagjeefoifpeaaDoor
