/- The walk of SpecEven. -/
import Derived.Test.YtpmhmegjckhbmaaSameP
import Derived.Test.YtpmhmegjckhbmaaEvo
namespace Go.Proofs.Ytpmhmegjckhbmaa
set_option linter.unusedVariables false
set_option linter.unusedSimpArgs false
set_option linter.unnecessarySimpa false
open Go.RowKit

def evT (k : Nat) (tags : Bool) (i : Nat) : Tgt := ⟨⟨#[]⟩, if tags then ⟨#[116]⟩ ++ byte1 (97 + i) else ⟨#[]⟩, if i + 1 = k then 100 - ((k : Int) - 1) * (100 / (k : Int)) else 100 / (k : Int)⟩
def evL (k : Nat) (tags : Bool) (n : Nat) : List Tgt := (List.range n).map (evT k tags)
theorem evE : ∀ k, k < 9 → ∀ tags : Bool, 1 ≤ k → routeE ⟨#[114]⟩ ⟨#[97]⟩ (evL k tags k) 0 = (if 6 < k then 3 else 0) ∧ ∀ i, i < 9 → (evT k tags i).rv.size ≤ 20 ∧ (evT k tags i).tg.size ≤ 20 ∧ -1000 ≤ (evT k tags i).pc ∧ (evT k tags i).pc ≤ 1000 := by decide +kernel
theorem evL_s (k : Nat) (tags : Bool) (i : Nat) : evL k tags (i + 1) = evL k tags i ++ [evT k tags i] := by simp [evL, List.range_succ]
theorem evL_len (k : Nat) (tags : Bool) (n : Nat) : (evL k tags n).length = n := by simp [evL]
theorem evL_getD (k : Nat) (tags : Bool) (n i : Nat) (h : i < n) : (evL k tags n).getD i tg0 = evT k tags i := by
  simp [evL, List.getD, h]

structure RtBox (w0 wr : World) (g : Nat) (nm cf : ByteArray) (rl : Int) (v : Value) (i : Nat) (ts : List Tgt) : Prop where
  c0 : wr.cell? ⟨g, 0, none⟩ = some (.string nm)
  c1 : wr.cell? ⟨g, 1, none⟩ = some (.string cf)
  c2 : wr.cell? ⟨g, 2, none⟩ = some v
  c3 : wr.cell? ⟨g, 3, none⟩ = some (.int .i64 rl)
  f2 : wr.frozen? ⟨g, 2, none⟩ = false
  own : wr.ownsRow (g + 1) 41 3 v i (flatT ts)
  grow : Grow.G w0 wr
  lt : g < wr.heap.size
  base : w0.heap.size ≤ g
/-- A target laid behind the box's: what is known of the box then. -/
theorem RtBox.app {w0 wr W w1 : World} {g i : Nat} {nm cf : ByteArray} {rl : Int} {v v' : Value} {ts : List Tgt} {t : Tgt} (R : RtBox w0 wr g nm cf rl v i ts) (hg : Grow.G wr W)
    (hown : w1.ownsRow (g + 1) 41 3 v' (i + 1) (flatT ts ++ [.string t.rv, .string t.tg, .int .i64 t.pc])) (hgr : W.grownBy w1 v.ownBlock) :
    w1.cell? ⟨g, 2, none⟩ = some v ∧ w1.frozen? ⟨g, 2, none⟩ = false ∧ RtBox w0 (w1.setCell ⟨g, 2, none⟩ v') g nm cf rl v' (i + 1) (ts ++ [t]) := by
  have OW := own_later R.own hg
  have hne : some g ≠ v.ownBlock := fun e => by have := (OW.lt g e.symm).1; omega
  have hgb : g < W.heap.size := Nat.lt_of_lt_of_le R.lt hg.size
  have hbk := (hgr.block g hgb hne).trans (hg.block g R.lt)
  have cl : ∀ o, w1.cell? ⟨g, o, none⟩ = wr.cell? ⟨g, o, none⟩ := fun o => World.cell?_of_block (w := wr) (w' := w1) (a := ⟨g, o, none⟩) hbk
  have fz : w1.frozen? ⟨g, 2, none⟩ = false := (World.frozen?_of_block (w := wr) (w' := w1) (a := ⟨g, 2, none⟩) hbk).trans R.f2
  have c2 := (cl 2).trans R.c2
  have oth : ∀ o, o ≠ 2 → (w1.setCell ⟨g, 2, none⟩ v').cell? ⟨g, o, none⟩ = wr.cell? ⟨g, o, none⟩ := fun o ho => by
    rw [World.cell?_setCell_other (h := fun e => ho (by cases e; rfl))]; exact cl o
  have G1 := own_grow (Grow.G.trans R.grow hg) OW (by have := R.base; omega) hgr
  have sz : g < w1.heap.size := Nat.lt_of_lt_of_le hgb hgr.size
  refine ⟨c2, fz, ⟨(oth 0 (by omega)).trans R.c0, (oth 1 (by omega)).trans R.c1, by rw [World.cell?_setCell_same (h := c2)], (oth 3 (by omega)).trans R.c3, by rw [World.frozen?_setCell]; exact fz, ?_, Below.setCell G1 R.base _, by simpa [World.setCell] using sz, R.base⟩⟩
  refine ownsRow_setCell_below ?_ (by show g < g + 1; omega) _
  unfold flatT at *
  simpa [List.flatMap_append] using hown
set_option maxRecDepth 100000 in
set_option maxHeartbeats 4000000 in
theorem walkSpecEven (w : World) (n : Int) (hn : wf64 n) (tags : Bool) :
    Calls Try.prog 9 #[.int .i64 n, .bool tags] w fun e w' => e = .returned (.bool true) ∧ Below w.heap.size w w' := by
  have WH := Lib.hid (fun w => within2_any n 8 w (by omega) (by omega) hn.1 hn.2)
  have r := withinI_range n 8 (by omega)
  generalize withinI n 8 = q at *
  obtain ⟨m, rfl⟩ := Int.eq_ofNat_of_zero_le r.1
  obtain ⟨k, hkm⟩ : ∃ k : Nat, k = m + 1 := ⟨_, rfl⟩
  have km : (1 : Int) + (m : Int) = (k : Int) := by omega
  have k1 : 1 ≤ k := by omega
  have k9 : k < 9 := by omega
  have EV := Lib.hid (evE k k9 tags k1)
  have PC : Hid (∀ i, (evT k tags i).pc = if i + 1 = k then 100 - ((k : Int) - 1) * (100 / (k : Int)) else 100 / (k : Int)) := Lib.hid (fun i => rfl)
  have TG : Hid (∀ i, (evT k tags i).tg = if tags then ⟨#[116]⟩ ++ byte1 (97 + i) else ⟨#[]⟩) := Lib.hid (fun i => rfl)
  have RV : Hid (∀ i, (evT k tags i).rv = ⟨#[]⟩) := Lib.hid (fun i => rfl)
  have d0 : 0 ≤ 100 / (k : Int) ∧ 100 / (k : Int) ≤ 100 ∧ 0 ≤ ((k : Int) - 1) * (100 / (k : Int)) ∧ ((k : Int) - 1) * (100 / (k : Int)) ≤ 1000 := by
    have : ∀ k : Nat, k < 9 → 1 ≤ k → 0 ≤ 100 / (k : Int) ∧ 100 / (k : Int) ≤ 100 ∧ 0 ≤ ((k : Int) - 1) * (100 / (k : Int)) ∧ ((k : Int) - 1) * (100 / (k : Int)) ≤ 1000 := by decide +kernel
    exact this k k9 k1
  have d1 := d0.1; have d2 := d0.2.1; have d3 := d0.2.2.1; have d4 := d0.2.2.2
  have hm0 := r.1; have hm1 := r.2
  have KM := Lib.hid km
  have ks : IntKind.i64.wrap (1 + (m : Int)) = (k : Int) := by rw [km]; exact wrap_wf ⟨by omega, by omega⟩
  obtain ⟨i0, hi, hz0, hz1, hz2⟩ := info_parts infoT
  have HI := Lib.hid hi; have HZ0 := Lib.hid hz0; have HZ1 := Lib.hid hz1; have HZ2 := Lib.hid hz2
  clear hi hz0 hz1 hz2 d0 r hkm
  go_enter Try.func9, Try.ntmps9
  go_wp2_with fail
  refine (known2_any _).mono ?_
  rintro e wn1 ⟨rfl, hb1⟩
  have KB1 := Lib.hid (Evo.later hb1)
  have hxwn1c := (bcell hb1).1
  have hxwn1f := (bcell hb1).2.1
  have hxwn1z := (bcell hb1).2.2
  (try (have hlewn1_1 : w.heap.size ≤ wn1.heap.size := (by first | omega | (have hh := hxwn1z; (try simp at hh); omega))))
  (try (have hlwn1_1_0 : w.heap.size < wn1.heap.size := (by first | omega | (have hh := hxwn1z; (try simp at hh); omega))))
  (try (have hlwn1_1_1 : w.heap.size + 1 < wn1.heap.size := (by first | omega | (have hh := hxwn1z; (try simp at hh); omega))))
  (try (have hlwn1_1_2 : w.heap.size + 1 + 1 < wn1.heap.size := (by first | omega | (have hh := hxwn1z; (try simp at hh); omega))))
  go_wp2_with fail
  refine (WH.out _).mono ?_
  rintro e wx ⟨rfl, rfl⟩
  go_wp2_with fail
  have G0 := Lib.hid (show Grow.G w wn1 from hb1)
  go_loopw [7] (fun s7 wr => ∃ (i : Nat) (sa : Option Addr) (sc : Nat), i ≤ k ∧ s7 = .int .i64 i ∧ Hid (RtBox wn1 wr wn1.heap.size ⟨#[114]⟩ ⟨#[97]⟩ 0 (.slice sa i sc) i (evL k tags i))) (fun s7 _ => k - (intOf s7).toNat)
  case atStart => exact ⟨0, none, 0, by omega, rfl, Lib.hid ⟨by go_simp, by go_simp, by go_simp, by go_simp, by go_simp, World.ownsRow_nil _ _ _ _, Grow.G.alloc (Grow.G.refl _) _, by simp, Nat.le_refl _⟩⟩
  case round =>
    obtain ⟨i, sa, sc, hik, rfl, R⟩ := hrel
    have c0 := R.out.c0; have c1 := R.out.c1; have c2 := R.out.c2; have c3 := R.out.c3; have f2 := R.out.f2; have lt := R.out.lt
    by_cases hlt : i < k
    · have EI := Lib.hid (evL_s k tags i)
      have P0 := Lib.hid (PC.out i)
      have T0 := Lib.hid (TG.out i)
      have R0 := Lib.hid (RV.out i)
      have hT : Hid (evT k tags i = ⟨⟨#[]⟩, (evT k tags i).tg, (evT k tags i).pc⟩) := Lib.hid (by rw [show evT k tags i = ⟨(evT k tags i).rv, (evT k tags i).tg, (evT k tags i).pc⟩ from rfl, R0.out])
      generalize (evT k tags i).tg = tg at *
      generalize (evT k tags i).pc = pc at *
      have hcv := fun (w' : World) (b : Nat) (h : w'.cell? ⟨b, 0, none⟩ = some (.int .u8 (97 + i))) => run_convert_bytes_arg (P := Try.prog) w' 51 5 Try.underlying51 Try.underlying5 b 0 1 1 [97 + (i : Int)] rfl (fun i hi => by
        obtain rfl : i = 0 := by omega
        exact h) 9 Try.underlying9
      have sz3 : (strOfNums [97 + (i : Int)]).size = 1 := rfl
      have SE : Hid (strOfNums [97 + (i : Int)] = byte1 (97 + i)) := Lib.hid (by unfold strOfNums byte1; simp only [List.map_cons, List.map_nil]; congr)
      generalize strOfNums [97 + (i : Int)] = sx at *
      have hi48 : (97 : Int) + i ≤ 255 := by omega
      clear PC TG RV EV WH KM km ks hm0 hm1
      cases tags
      · by_cases hl : i + 1 = k
        · have ET : Hid (evT k false i = ⟨⟨#[]⟩, ⟨#[]⟩, 100 - ((k : Int) - 1) * (100 / (k : Int))⟩) := Lib.hid (by rw [hT.out, T0.out, P0.out, if_pos hl]; rfl)
          clear hT T0 P0 SE R0
          have hd : ((i : Int) == (k : Int) - 1) = true := by rw [beq_iff_eq]; omega
          clear hl
          go_wp2_with (at_builtin; refine wpList_append_own _ rfl _ _ 33 rfl (wn1.heap.size + 1) 41 i0 (.agg #[.string ⟨#[]⟩, .string ⟨#[]⟩, .int .i64 0]) 3 40 Try.underlying33 HI.out HZ0.out HZ1.out HZ2.out rfl (by decide) _ _ _ rfl (own_later R.out.own ?_) _ 1 1 [_, _, _] rfl rfl (news_new _ [_, _, _] _ _ ?_) ?_ ?_ ?_ ?_ ?_)
          · (repeat (first | with_reducible exact Grow.G.refl _ | with_reducible exact Below.refl _ _ | with_reducible refine Grow.G.alloc ?_ _ | with_reducible refine Grow.G.trans ?_ hb2 | with_reducible refine Grow.G.trans ?_ hb1 | ((with_reducible refine Below.setCell ?_ ?_ _); rotate_left; (focus (first | omega | (simp; done) | (simp; omega)))) | with_reducible assumption | with_reducible refine Grow.G.trans ?_ (by with_reducible assumption)))
          · simp
          · intro u hu; simp at hu; rcases hu with rfl | rfl | rfl <;> rfl
          · unfold maxLen; omega
          · omega
          · simp; omega
          · intro v' w1 hown hgr _
            obtain ⟨sa', sc', rfl⟩ := own_shape hown
            obtain ⟨x2, xf, RB⟩ := R.out.app (t := evT k false i) (by (repeat (first | with_reducible exact Grow.G.refl _ | with_reducible exact Below.refl _ _ | with_reducible refine Grow.G.alloc ?_ _ | with_reducible refine Grow.G.trans ?_ hb2 | with_reducible refine Grow.G.trans ?_ hb1 | ((with_reducible refine Below.setCell ?_ ?_ _); rotate_left; (focus (first | omega | (simp; done) | (simp; omega)))) | with_reducible assumption | with_reducible refine Grow.G.trans ?_ (by with_reducible assumption)))) (by rw [ET.out]; exact hown) hgr
            rw [← EI.out] at RB
            have RB := Lib.hid RB
            have lt1 := RB.out.lt
            clear hown hgr ET EI hd
            go_wp2_with fail
            go_roundw
            case rel => exact ⟨i + 1, sa', sc', by omega, by go_num, RB⟩
            case measure => simp [intOf]; omega
        · have ET : Hid (evT k false i = ⟨⟨#[]⟩, ⟨#[]⟩, 100 / (k : Int)⟩) := Lib.hid (by rw [hT.out, T0.out, P0.out, if_neg hl]; rfl)
          clear hT T0 P0 SE R0
          have hd : ((i : Int) == (k : Int) - 1) = false := by rw [beq_eq_false_iff_ne]; omega
          clear hl
          go_wp2_with (at_builtin; refine wpList_append_own _ rfl _ _ 33 rfl (wn1.heap.size + 1) 41 i0 (.agg #[.string ⟨#[]⟩, .string ⟨#[]⟩, .int .i64 0]) 3 40 Try.underlying33 HI.out HZ0.out HZ1.out HZ2.out rfl (by decide) _ _ _ rfl (own_later R.out.own ?_) _ 1 1 [_, _, _] rfl rfl (news_new _ [_, _, _] _ _ ?_) ?_ ?_ ?_ ?_ ?_)
          · (repeat (first | with_reducible exact Grow.G.refl _ | with_reducible exact Below.refl _ _ | with_reducible refine Grow.G.alloc ?_ _ | with_reducible refine Grow.G.trans ?_ hb2 | with_reducible refine Grow.G.trans ?_ hb1 | ((with_reducible refine Below.setCell ?_ ?_ _); rotate_left; (focus (first | omega | (simp; done) | (simp; omega)))) | with_reducible assumption | with_reducible refine Grow.G.trans ?_ (by with_reducible assumption)))
          · simp
          · intro u hu; simp at hu; rcases hu with rfl | rfl | rfl <;> rfl
          · unfold maxLen; omega
          · omega
          · simp; omega
          · intro v' w1 hown hgr _
            obtain ⟨sa', sc', rfl⟩ := own_shape hown
            obtain ⟨x2, xf, RB⟩ := R.out.app (t := evT k false i) (by (repeat (first | with_reducible exact Grow.G.refl _ | with_reducible exact Below.refl _ _ | with_reducible refine Grow.G.alloc ?_ _ | with_reducible refine Grow.G.trans ?_ hb2 | with_reducible refine Grow.G.trans ?_ hb1 | ((with_reducible refine Below.setCell ?_ ?_ _); rotate_left; (focus (first | omega | (simp; done) | (simp; omega)))) | with_reducible assumption | with_reducible refine Grow.G.trans ?_ (by with_reducible assumption)))) (by rw [ET.out]; exact hown) hgr
            rw [← EI.out] at RB
            have RB := Lib.hid RB
            have lt1 := RB.out.lt
            clear hown hgr ET EI hd
            go_wp2_with fail
            go_roundw
            case rel => exact ⟨i + 1, sa', sc', by omega, by go_num, RB⟩
            case measure => simp [intOf]; omega
      · by_cases hl : i + 1 = k
        · have ET : Hid (evT k true i = ⟨⟨#[]⟩, ⟨#[116]⟩ ++ sx, 100 - ((k : Int) - 1) * (100 / (k : Int))⟩) := Lib.hid (by rw [hT.out, T0.out, P0.out, if_pos hl, SE.out]; rfl)
          clear hT T0 P0 SE R0
          have hd : ((i : Int) == (k : Int) - 1) = true := by rw [beq_iff_eq]; omega
          clear hl
          go_wp2_with (at_builtin; refine wpList_append_own _ rfl _ _ 33 rfl (wn1.heap.size + 1) 41 i0 (.agg #[.string ⟨#[]⟩, .string ⟨#[]⟩, .int .i64 0]) 3 40 Try.underlying33 HI.out HZ0.out HZ1.out HZ2.out rfl (by decide) _ _ _ rfl (own_later R.out.own ?_) _ 1 1 [_, _, _] rfl rfl (news_new _ [_, _, _] _ _ ?_) ?_ ?_ ?_ ?_ ?_)
          · (repeat (first | with_reducible exact Grow.G.refl _ | with_reducible exact Below.refl _ _ | with_reducible refine Grow.G.alloc ?_ _ | with_reducible refine Grow.G.trans ?_ hb2 | with_reducible refine Grow.G.trans ?_ hb1 | ((with_reducible refine Below.setCell ?_ ?_ _); rotate_left; (focus (first | omega | (simp; done) | (simp; omega)))) | with_reducible assumption | with_reducible refine Grow.G.trans ?_ (by with_reducible assumption)))
          · simp
          · intro u hu; simp at hu; rcases hu with rfl | rfl | rfl <;> rfl
          · unfold maxLen; omega
          · omega
          · simp; omega
          · intro v' w1 hown hgr _
            obtain ⟨sa', sc', rfl⟩ := own_shape hown
            obtain ⟨x2, xf, RB⟩ := R.out.app (t := evT k true i) (by (repeat (first | with_reducible exact Grow.G.refl _ | with_reducible exact Below.refl _ _ | with_reducible refine Grow.G.alloc ?_ _ | with_reducible refine Grow.G.trans ?_ hb2 | with_reducible refine Grow.G.trans ?_ hb1 | ((with_reducible refine Below.setCell ?_ ?_ _); rotate_left; (focus (first | omega | (simp; done) | (simp; omega)))) | with_reducible assumption | with_reducible refine Grow.G.trans ?_ (by with_reducible assumption)))) (by rw [ET.out]; exact hown) hgr
            rw [← EI.out] at RB
            have RB := Lib.hid RB
            have lt1 := RB.out.lt
            clear hown hgr ET EI hd
            go_wp2_with fail
            go_roundw
            case rel => exact ⟨i + 1, sa', sc', by omega, by go_num, RB⟩
            case measure => simp [intOf]; omega
        · have ET : Hid (evT k true i = ⟨⟨#[]⟩, ⟨#[116]⟩ ++ sx, 100 / (k : Int)⟩) := Lib.hid (by rw [hT.out, T0.out, P0.out, if_neg hl, SE.out]; rfl)
          clear hT T0 P0 SE R0
          have hd : ((i : Int) == (k : Int) - 1) = false := by rw [beq_eq_false_iff_ne]; omega
          clear hl
          go_wp2_with (at_builtin; refine wpList_append_own _ rfl _ _ 33 rfl (wn1.heap.size + 1) 41 i0 (.agg #[.string ⟨#[]⟩, .string ⟨#[]⟩, .int .i64 0]) 3 40 Try.underlying33 HI.out HZ0.out HZ1.out HZ2.out rfl (by decide) _ _ _ rfl (own_later R.out.own ?_) _ 1 1 [_, _, _] rfl rfl (news_new _ [_, _, _] _ _ ?_) ?_ ?_ ?_ ?_ ?_)
          · (repeat (first | with_reducible exact Grow.G.refl _ | with_reducible exact Below.refl _ _ | with_reducible refine Grow.G.alloc ?_ _ | with_reducible refine Grow.G.trans ?_ hb2 | with_reducible refine Grow.G.trans ?_ hb1 | ((with_reducible refine Below.setCell ?_ ?_ _); rotate_left; (focus (first | omega | (simp; done) | (simp; omega)))) | with_reducible assumption | with_reducible refine Grow.G.trans ?_ (by with_reducible assumption)))
          · simp
          · intro u hu; simp at hu; rcases hu with rfl | rfl | rfl <;> rfl
          · unfold maxLen; omega
          · omega
          · simp; omega
          · intro v' w1 hown hgr _
            obtain ⟨sa', sc', rfl⟩ := own_shape hown
            obtain ⟨x2, xf, RB⟩ := R.out.app (t := evT k true i) (by (repeat (first | with_reducible exact Grow.G.refl _ | with_reducible exact Below.refl _ _ | with_reducible refine Grow.G.alloc ?_ _ | with_reducible refine Grow.G.trans ?_ hb2 | with_reducible refine Grow.G.trans ?_ hb1 | ((with_reducible refine Below.setCell ?_ ?_ _); rotate_left; (focus (first | omega | (simp; done) | (simp; omega)))) | with_reducible assumption | with_reducible refine Grow.G.trans ?_ (by with_reducible assumption)))) (by rw [ET.out]; exact hown) hgr
            rw [← EI.out] at RB
            have RB := Lib.hid RB
            have lt1 := RB.out.lt
            clear hown hgr ET EI hd
            go_wp2_with fail
            go_roundw
            case rel => exact ⟨i + 1, sa', sc', by omega, by go_num, RB⟩
            case measure => simp [intOf]; omega
    · obtain rfl : i = k := by omega
      obtain ⟨EV, SM⟩ := EV.out
      have own := R.out.own
      obtain ⟨b, c, hv, hb⟩ := own_some own k1
      cases hv
      obtain ⟨hl, HT, _⟩ := own_tgts own
      have HT := Lib.hid HT
      have OK : ∀ j, j < (evL i tags i).length → ((evL i tags i).getD j tg0).ok := fun j hj => by
        rw [evL_len] at hj
        rw [evL_getD _ _ _ _ hj]
        have := SM j (by omega)
        exact ⟨by omega, by omega, by omega, by omega⟩
      have R1 := Lib.hid (fun w (x : Int) (hx : (if 6 < i then 3 else 0) = x) (h : TgtSl w (some ⟨b, 0, none⟩) (evL i tags i)) => route_at ⟨#[114]⟩ ⟨#[97]⟩ (some ⟨b, 0, none⟩) (evL i tags i) i sc 0 w x hl.symm (by decide) (by decide) (by omega) h OK (EV.trans hx))
      have R2 := Lib.hid (fun w (h : TgtSl w (some ⟨b, 0, none⟩) (evL i tags i)) => same_at ⟨#[114]⟩ ⟨#[97]⟩ (some ⟨b, 0, none⟩) (evL i tags i) i sc 0 ⟨#[114]⟩ ⟨#[97]⟩ (some ⟨b, 0, none⟩) (evL i tags i) i sc 0 w true hl.symm hl.symm (by omega) h h (sameR_refl _ _ _ _))
      have RG := Lib.hid R.out.grow
      clear own hl OK SM EV PC TG RV R WH KM km ks hm0 hm1 d1 d2 d3 d4 hik hlt hb
      by_cases h6 : 6 < i
      all_goals
        go_wp2_with fail
        first
          | refine (R1.out _ 3 (if_pos h6) (HT.out.later (by (repeat (first | with_reducible exact Grow.G.refl _ | with_reducible exact Below.refl _ _ | with_reducible refine Grow.G.alloc ?_ _ | with_reducible refine Grow.G.trans ?_ hb2 | with_reducible refine Grow.G.trans ?_ hb1 | ((with_reducible refine Below.setCell ?_ ?_ _); rotate_left; (focus (first | omega | (simp; done) | (simp; omega)))) | with_reducible assumption | with_reducible refine Grow.G.trans ?_ (by with_reducible assumption)))))).mono ?_
          | refine (R1.out _ 0 (if_neg h6) (HT.out.later (by (repeat (first | with_reducible exact Grow.G.refl _ | with_reducible exact Below.refl _ _ | with_reducible refine Grow.G.alloc ?_ _ | with_reducible refine Grow.G.trans ?_ hb2 | with_reducible refine Grow.G.trans ?_ hb1 | ((with_reducible refine Below.setCell ?_ ?_ _); rotate_left; (focus (first | omega | (simp; done) | (simp; omega)))) | with_reducible assumption | with_reducible refine Grow.G.trans ?_ (by with_reducible assumption)))))).mono ?_
        rintro e wn2 ⟨rfl, hb2⟩
        have x2 := (bcell hb2).1
        have x3 := (bcell hb2).2.2
        go_wp2_with fail
        refine (R2.out _ (HT.out.later (by (repeat (first | with_reducible exact Grow.G.refl _ | with_reducible exact Below.refl _ _ | with_reducible refine Grow.G.alloc ?_ _ | with_reducible refine Grow.G.trans ?_ hb2 | with_reducible refine Grow.G.trans ?_ hb1 | ((with_reducible refine Below.setCell ?_ ?_ _); rotate_left; (focus (first | omega | (simp; done) | (simp; omega)))) | with_reducible assumption | with_reducible refine Grow.G.trans ?_ (by with_reducible assumption)))))).mono ?_
        rintro e wn3 ⟨rfl, hb3⟩
        go_wp2_with fail
        go_ret
        exact ⟨rfl, Grow.G.trans (Grow.G.trans (Grow.G.trans G0.out RG.out) hb2) hb3⟩
end Go.Proofs.Ytpmhmegjckhbmaa
