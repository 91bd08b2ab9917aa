/- The walk of SpecHundred. -/
import Derived.Test.YtpmhmegjckhbmaaRouteP
import Derived.Test.YtpmhmegjckhbmaaEvo
namespace Go.Proofs.Ytpmhmegjckhbmaa
set_option linter.unusedVariables false
set_option linter.unusedSimpArgs false
set_option linter.unnecessarySimpa false
open Go.RowKit

set_option maxRecDepth 100000 in
set_option maxHeartbeats 4000000 in
theorem walkSpecHundred (w : World) (v : Value) (zs : List Int) (hz : IntSlice w v zs) (at0 : Int) (ha : wf64 at0) (up : Bool) :
    Calls Try.prog 6 #[v, .int .i64 at0, .bool up] w fun e w' => e = .returned (.bool true) ∧ Below w.heap.size w w' := by
  have HZ := Lib.hid hz
  have GR := Lib.hid (fun w (h : IntSlice w v zs) => groute_any 0 v zs 0 w ⟨by decide, by decide⟩ h ⟨by decide, by decide⟩)
  have LN := gTs_len (rtCf 0) zs
  have N6 := nT_range zs
  rw [← LN] at N6
  clear LN
  obtain ⟨a, cap, rfl, _⟩ := hz.open
  clear hz
  have OK := gTs_ok 0 zs
  have E0 := gRoute_ok 0 zs 0 (by decide)
  generalize gTs (rtCf 0) zs = ts at *
  have EE := Lib.hid E0
  have OKH := Lib.hid OK
  clear OK E0
  have q := withinI_range at0 ts.length (by omega)
  have WI := Lib.hid (fun w => within2_any at0 ts.length w (by omega) (by omega) ha.1 ha.2)
  generalize withinI at0 ts.length = k0 at *
  obtain ⟨k, rfl⟩ := Int.eq_ofNat_of_zero_le q.1
  have hk : k < ts.length := by omega
  have hk1 : (k : Int) < (ts.length : Int) := by omega
  have hk0 : (0 : Int) ≤ (k : Int) := by omega
  have OT := OKH.out k hk
  clear ha q
  go_enter Try.func6, Try.ntmps6
  go_wp2_with fail
  refine (known2_any _).mono ?_
  rintro e wn1 ⟨rfl, hb1⟩
  have KB1 := Lib.hid (Evo.later hb1)
  have hxwn1c := (bcell hb1).1
  have hxwn1f := (bcell hb1).2.1
  have hxwn1z := (bcell hb1).2.2
  (try (have hlewn1_1 : w.heap.size ≤ wn1.heap.size := (by first | omega | (have hh := hxwn1z; (try simp at hh); omega))))
  (try (have hlwn1_1_0 : w.heap.size < wn1.heap.size := (by first | omega | (have hh := hxwn1z; (try simp at hh); omega))))
  (try (have hlwn1_1_1 : w.heap.size + 1 < wn1.heap.size := (by first | omega | (have hh := hxwn1z; (try simp at hh); omega))))
  (try (have hlwn1_1_2 : w.heap.size + 1 + 1 < wn1.heap.size := (by first | omega | (have hh := hxwn1z; (try simp at hh); omega))))
  go_wp2_with fail
  refine (GR.out _ (HZ.out.below hb1)).mono ?_
  rintro e wn2 ⟨⟨b, c, rfl, HT, hfz, hb3, hb4⟩, hb2⟩
  have HT := Lib.hid HT
  have KB2 := Lib.hid (Evo.later hb2)
  have hxwn2c := (bcell hb2).1
  have hxwn2f := (bcell hb2).2.1
  have hxwn2z := (bcell hb2).2.2
  (try (have hlewn2_2 : wn1.heap.size ≤ wn2.heap.size := (by first | omega | (have hh := hxwn2z; (try simp at hh); omega))))
  (try (have hlwn2_2_0 : wn1.heap.size < wn2.heap.size := (by first | omega | (have hh := hxwn2z; (try simp at hh); omega))))
  (try (have hlwn2_2_1 : wn1.heap.size + 1 < wn2.heap.size := (by first | omega | (have hh := hxwn2z; (try simp at hh); omega))))
  (try (have hlwn2_2_2 : wn1.heap.size + 1 + 1 < wn2.heap.size := (by first | omega | (have hh := hxwn2z; (try simp at hh); omega))))
  (try (refine Evo.laterK KB1.out wn2 ?_ (fun hxwn2c1 hxwn2f1 hxwn2z1 => ?_); (focus ((repeat (first | with_reducible exact Grow.G.refl _ | with_reducible exact Below.refl _ _ | with_reducible refine Grow.G.alloc ?_ _ | with_reducible refine Grow.G.trans ?_ hb2 | with_reducible refine Grow.G.trans ?_ hb1 | ((with_reducible refine Below.setCell ?_ ?_ _); rotate_left; (focus (first | omega | (simp; done) | (simp; omega)))))); all_goals fail))))
  (try (have hlewn2_1 : w.heap.size ≤ wn2.heap.size := (by first | omega | (have hh := hxwn2z1; (try simp at hh); omega))))
  (try (have hlwn2_1_0 : w.heap.size < wn2.heap.size := (by first | omega | (have hh := hxwn2z1; (try simp at hh); omega))))
  (try (have hlwn2_1_1 : w.heap.size + 1 < wn2.heap.size := (by first | omega | (have hh := hxwn2z1; (try simp at hh); omega))))
  (try (have hlwn2_1_2 : w.heap.size + 1 + 1 < wn2.heap.size := (by first | omega | (have hh := hxwn2z1; (try simp at hh); omega))))
  go_wp2_with fail
  refine (WI.out _).mono ?_
  rintro e wx ⟨rfl, rfl⟩
  go_wp2_with fail
  refine (route_at (rtName 0) (rtCf 0) (some ⟨b, 0, none⟩) ts _ _ _ _ 0 rfl (by decide) (by decide) (by omega) (HT.out.later (by (repeat (first | with_reducible exact Grow.G.refl _ | with_reducible exact Below.refl _ _ | with_reducible refine Grow.G.alloc ?_ _ | with_reducible refine Grow.G.trans ?_ hb3 | with_reducible refine Grow.G.trans ?_ hb2 | with_reducible refine Grow.G.trans ?_ hb1 | ((with_reducible refine Below.setCell ?_ ?_ _); rotate_left; (focus (first | omega | (simp; done) | (simp; omega)))) | with_reducible assumption | with_reducible refine Grow.G.trans ?_ (by with_reducible assumption))))) OKH.out EE.out).mono ?_
  rintro e wn3 ⟨rfl, hb3⟩
  have KB3 := Lib.hid (Evo.later hb3)
  have hxwn3c := (bcell hb3).1
  have hxwn3f := (bcell hb3).2.1
  have hxwn3z := (bcell hb3).2.2
  (try (have hlewn3_3 : wn2.heap.size ≤ wn3.heap.size := (by first | omega | (have hh := hxwn3z; (try simp at hh); omega))))
  (try (have hlwn3_3_0 : wn2.heap.size < wn3.heap.size := (by first | omega | (have hh := hxwn3z; (try simp at hh); omega))))
  (try (have hlwn3_3_1 : wn2.heap.size + 1 < wn3.heap.size := (by first | omega | (have hh := hxwn3z; (try simp at hh); omega))))
  (try (have hlwn3_3_2 : wn2.heap.size + 1 + 1 < wn3.heap.size := (by first | omega | (have hh := hxwn3z; (try simp at hh); omega))))
  (try (refine Evo.laterK KB1.out wn3 ?_ (fun hxwn3c1 hxwn3f1 hxwn3z1 => ?_); (focus ((repeat (first | with_reducible exact Grow.G.refl _ | with_reducible exact Below.refl _ _ | with_reducible refine Grow.G.alloc ?_ _ | with_reducible refine Grow.G.trans ?_ hb3 | with_reducible refine Grow.G.trans ?_ hb2 | with_reducible refine Grow.G.trans ?_ hb1 | ((with_reducible refine Below.setCell ?_ ?_ _); rotate_left; (focus (first | omega | (simp; done) | (simp; omega)))))); all_goals fail))))
  (try (have hlewn3_1 : w.heap.size ≤ wn3.heap.size := (by first | omega | (have hh := hxwn3z1; (try simp at hh); omega))))
  (try (have hlwn3_1_0 : w.heap.size < wn3.heap.size := (by first | omega | (have hh := hxwn3z1; (try simp at hh); omega))))
  (try (have hlwn3_1_1 : w.heap.size + 1 < wn3.heap.size := (by first | omega | (have hh := hxwn3z1; (try simp at hh); omega))))
  (try (have hlwn3_1_2 : w.heap.size + 1 + 1 < wn3.heap.size := (by first | omega | (have hh := hxwn3z1; (try simp at hh); omega))))
  (try (refine Evo.laterK KB2.out wn3 ?_ (fun hxwn3c2 hxwn3f2 hxwn3z2 => ?_); (focus ((repeat (first | with_reducible exact Grow.G.refl _ | with_reducible exact Below.refl _ _ | with_reducible refine Grow.G.alloc ?_ _ | with_reducible refine Grow.G.trans ?_ hb3 | with_reducible refine Grow.G.trans ?_ hb2 | with_reducible refine Grow.G.trans ?_ hb1 | ((with_reducible refine Below.setCell ?_ ?_ _); rotate_left; (focus (first | omega | (simp; done) | (simp; omega)))))); all_goals fail))))
  (try (have hlewn3_2 : wn1.heap.size ≤ wn3.heap.size := (by first | omega | (have hh := hxwn3z2; (try simp at hh); omega))))
  (try (have hlwn3_2_0 : wn1.heap.size < wn3.heap.size := (by first | omega | (have hh := hxwn3z2; (try simp at hh); omega))))
  (try (have hlwn3_2_1 : wn1.heap.size + 1 < wn3.heap.size := (by first | omega | (have hh := hxwn3z2; (try simp at hh); omega))))
  (try (have hlwn3_2_2 : wn1.heap.size + 1 + 1 < wn3.heap.size := (by first | omega | (have hh := hxwn3z2; (try simp at hh); omega))))
  obtain ⟨b', off', hbo, c0, c1, c2⟩ := HT.out.at hk
  obtain ⟨rfl, rfl⟩ : b = b' ∧ 0 = off' := by cases hbo; exact ⟨rfl, rfl⟩
  rw [Nat.zero_add] at c0 c1 c2
  clear hbo
  have pb := each_pc ((routeE_parts EE.out).2.2.2.2.1) k hk
  have PR := Lib.hid (fun p hne => pct_route (nm := rtName 0) (cf := rtCf 0) (rl := 0) (k := k) p hk EE.out hne)
  have HT3 := Lib.hid (HT.out.later (show Grow.G wn2 wn3 by (repeat (first | with_reducible exact Grow.G.refl _ | with_reducible exact Below.refl _ _ | with_reducible refine Grow.G.alloc ?_ _ | with_reducible refine Grow.G.trans ?_ hb4 | with_reducible refine Grow.G.trans ?_ hb3 | with_reducible refine Grow.G.trans ?_ hb2 | with_reducible refine Grow.G.trans ?_ hb1 | ((with_reducible refine Below.setCell ?_ ?_ _); rotate_left; (focus (first | omega | (simp; done) | (simp; omega)))) | with_reducible assumption | with_reducible refine Grow.G.trans ?_ (by with_reducible assumption)))))
  have TS := Lib.hid (fun (p : Int) => tgts_set (j := 2) (v := .int .i64 p) (t := ⟨(ts.getD k tg0).rv, (ts.getD k tg0).tg, p⟩) HT3.out hk (by decide) (.inr (.inr ⟨rfl, rfl, rfl, rfl⟩)))
  have SO := Lib.hid (fun (p : Int) (hp : wf64 p) => set_ok (k := k) (t := ⟨(ts.getD k tg0).rv, (ts.getD k tg0).tg, p⟩) OKH.out ⟨OT.1, OT.2.1, hp⟩)
  have RT := Lib.hid (fun (w' : World) (p x : Int) (hp : wf64 p) (hne : p ≠ (ts.getD k tg0).pc) (hx : (if p < 0 ∨ 100 < p then 2 else 4) = x) (h : TgtSl w' (some ⟨b, 0, none⟩) (ts.set k ⟨(ts.getD k tg0).rv, (ts.getD k tg0).tg, p⟩)) =>
    route_at (rtName 0) (rtCf 0) (some ⟨b, 0, none⟩) (ts.set k ⟨(ts.getD k tg0).rv, (ts.getD k tg0).tg, p⟩) ts.length c 0 w' x (by rw [List.length_set]) (by decide) (by decide) (by rw [List.length_set]; omega) h (SO.out p hp) ((PR.out p hne).trans hx))
  generalize hT : ts.getD k tg0 = t at *
  have p1 := pb.1
  have p2 := pb.2
  have hb4' : b < wn3.heap.size := by have := hxwn3z; simp at this; omega
  clear OT pb
  cases up
  all_goals
    go_wp2_with fail
    all_goals
      first
        | refine (RT.out _ _ 2 ⟨by omega, by omega⟩ (by omega) (if_pos (by omega)) (TS.out _)).mono ?_
        | refine (RT.out _ _ 4 ⟨by omega, by omega⟩ (by omega) (if_neg (by omega)) (TS.out _)).mono ?_
      rintro e wn4 ⟨rfl, hb4⟩
      go_wp2_with fail
      go_ret
      exact ⟨rfl, by (repeat (first | with_reducible exact Grow.G.refl _ | with_reducible exact Below.refl _ _ | with_reducible refine Grow.G.alloc ?_ _ | with_reducible refine Grow.G.trans ?_ hb4 | with_reducible refine Grow.G.trans ?_ hb3 | with_reducible refine Grow.G.trans ?_ hb2 | with_reducible refine Grow.G.trans ?_ hb1 | ((with_reducible refine Below.setCell ?_ ?_ _); rotate_left; (focus (first | omega | (simp; done) | (simp; omega)))) | with_reducible assumption | with_reducible refine Grow.G.trans ?_ (by with_reducible assumption)))⟩
end Go.Proofs.Ytpmhmegjckhbmaa
