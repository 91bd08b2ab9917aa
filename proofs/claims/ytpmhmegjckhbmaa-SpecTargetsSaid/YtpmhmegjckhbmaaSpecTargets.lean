/- The walk of SpecTargets. -/
import Derived.Test.YtpmhmegjckhbmaaRouteP
import Derived.Test.YtpmhmegjckhbmaaEvo
namespace Go.Proofs.Ytpmhmegjckhbmaa
set_option linter.unusedVariables false
set_option linter.unusedSimpArgs false
set_option linter.unnecessarySimpa false
open Go.RowKit

theorem tgts_alloc {w : World} {a : Option Addr} {ts : List Tgt} (o : Obj) (h : TgtSl w a ts) : TgtSl (w.alloc o) a ts := h.later (Grow.G.alloc (Grow.G.refl _) _)
theorem tgts_new (w : World) (ts : List Tgt) (T : TypeId) (b : Nat) (hb : b = w.heap.size) : TgtSl (w.alloc (.cells (flatT ts).toArray T)) (some ⟨b, 0, none⟩) ts := by
  refine .inr ⟨b, 0, rfl, fun i hi => ?_⟩
  have h7 := flatT_at ts i hi
  have hc : ∀ j v, (flatT ts)[j]? = some v → (w.alloc (.cells (flatT ts).toArray T)).cell? ⟨b, j, none⟩ = some v := fun j v hj => cell_new (by simpa using hj) hb
  rw [Nat.zero_add]
  exact ⟨hc _ _ h7.1, hc _ _ h7.2.1, hc _ _ h7.2.2⟩

def tR (rv : ByteArray) (tg : ByteArray) (pc : Int) : Tgt := ⟨rv, tg, pc⟩
def eB : ByteArray := ⟨#[]⟩
def tkT : List (List Tgt) := [[⟨⟨#[]⟩, ⟨#[]⟩, 100⟩], [], [⟨⟨#[]⟩, ⟨#[]⟩, 50⟩, ⟨⟨#[]⟩, ⟨#[]⟩, 50⟩], [⟨⟨#[]⟩, ⟨#[]⟩, 50⟩, ⟨⟨#[]⟩, ⟨#[]⟩, 51⟩], [⟨⟨#[97, 45, 49]⟩, ⟨#[]⟩, 100⟩], [⟨⟨#[97]⟩, ⟨#[]⟩, 100⟩],
  [⟨⟨#[]⟩, ⟨#[116, 111, 111, 108, 111, 110, 103, 116, 97, 103]⟩, 100⟩], [⟨⟨#[]⟩, ⟨#[120]⟩, 60⟩, ⟨⟨#[]⟩, ⟨#[120]⟩, 40⟩], [⟨⟨#[]⟩, ⟨#[]⟩, 100⟩, tg0, tg0, tg0, tg0, tg0], [⟨⟨#[]⟩, ⟨#[]⟩, 100⟩, tg0, tg0, tg0, tg0, tg0, tg0],
  [⟨⟨#[]⟩, ⟨#[]⟩, 101⟩, ⟨⟨#[65]⟩, ⟨#[]⟩, 100⟩], [⟨⟨#[65]⟩, ⟨#[]⟩, 101⟩], [⟨⟨#[]⟩, ⟨#[]⟩, -1⟩, ⟨⟨#[]⟩, ⟨#[]⟩, 101⟩], [⟨⟨#[]⟩, ⟨#[120]⟩, 0⟩, ⟨⟨#[]⟩, ⟨#[120]⟩, 99⟩], [tg0, ⟨⟨#[]⟩, ⟨#[]⟩, 100⟩]]
def tkW : List Int := [0, 3, 0, 4, 0, 1, 1, 5, 0, 3, 2, 1, 2, 5, 0]
def tgSmall (t : Tgt) : Bool := decide (t.rv.size ≤ 20) && decide (t.tg.size ≤ 20) && decide (-200 ≤ t.pc) && decide (t.pc ≤ 200)
theorem tkE : ∀ k, k < 15 → routeE ⟨#[114]⟩ ⟨#[97]⟩ (tkT.getD k []) 0 = tkW.getD k 0 ∧ routeE ⟨#[114]⟩ ⟨#[45]⟩ (tkT.getD k []) 0 = 1 ∧ routeE ⟨#[114]⟩ ⟨#[97]⟩ (tkT.getD k []) 61 = 2 ∧ (tkT.getD k []).all tgSmall = true ∧ (tkT.getD k []).length ≤ 7 := by decide +kernel
theorem small_ok {ts : List Tgt} (h : ts.all tgSmall = true) : ∀ i, i < ts.length → (ts.getD i tg0).ok := fun i hi => by
  have h1 := List.all_eq_true.1 h (ts.getD i tg0) (by simp [List.getD, hi])
  simp only [tgSmall, Bool.and_eq_true, decide_eq_true_eq] at h1
  exact ⟨by omega, by omega, by omega, by omega⟩

def TkAt (w : World) (B k : Nat) : Prop := ∃ a c, w.cell? ⟨B, k, none⟩ = some (.slice a (tkT.getD k []).length c) ∧ TgtSl w a (tkT.getD k [])
theorem tk15 {p : Nat → Prop} (h0 : p 0) (h1 : p 1) (h2 : p 2) (h3 : p 3) (h4 : p 4) (h5 : p 5) (h6 : p 6) (h7 : p 7) (h8 : p 8) (h9 : p 9) (h10 : p 10) (h11 : p 11) (h12 : p 12) (h13 : p 13) (h14 : p 14) (k : Nat) (hk : k < 15) : p k := by
  match k, hk with
  | 0, _ => exact h0
  | 1, _ => exact h1
  | 2, _ => exact h2
  | 3, _ => exact h3
  | 4, _ => exact h4
  | 5, _ => exact h5
  | 6, _ => exact h6
  | 7, _ => exact h7
  | 8, _ => exact h8
  | 9, _ => exact h9
  | 10, _ => exact h10
  | 11, _ => exact h11
  | 12, _ => exact h12
  | 13, _ => exact h13
  | 14, _ => exact h14
theorem tk_at {w : World} {b k : Nat} {a : Option Addr} {c n : Nat} {ts : List Tgt} (he : tkT.getD k [] = ts) (hn : n = ts.length) (hc : w.cell? ⟨b, k, none⟩ = some (.slice a n c)) (h : TgtSl w a ts) : TkAt w b k := ⟨a, c, by rw [he, ← hn]; exact hc, by rw [he]; exact h⟩
set_option maxRecDepth 100000 in
set_option maxHeartbeats 8000000 in
theorem walkSpecTargets (w : World) (which : Int) (hw : wf64 which) :
    Calls Try.prog 8 #[.int .i64 which] w fun e w' => e = .returned (.bool true) ∧ Below w.heap.size w w' := by
  have WH := Lib.hid (fun w => within2_any which 15 w (by omega) (by omega) hw.1 hw.2)
  have r := withinI_range which 15 (by omega)
  generalize withinI which 15 = q at *
  obtain ⟨k, rfl⟩ := Int.eq_ofNat_of_zero_le r.1
  have hk : k < 15 := by omega
  have hk0 : (0 : Int) ≤ k := by omega
  have hk1 : (k : Int) < 15 := by omega
  have KE := Lib.hid (tkE k hk)
  have atW : ([.int .i64 0, .int .i64 3, .int .i64 0, .int .i64 4, .int .i64 0, .int .i64 1, .int .i64 1, .int .i64 5, .int .i64 0, .int .i64 3, .int .i64 2, .int .i64 1, .int .i64 2, .int .i64 5, .int .i64 0] : List Value)[k]'(by simpa using hk) = .int .i64 (tkW.getD k 0) := listMap (Value.int .i64) tkW 0 k (by simpa [tkW] using hk)
  generalize hx : tkW.getD k 0 = x at *
  have HX := Lib.hid hx
  clear r hx
  go_enter Try.func8, Try.ntmps8
  go_wp2_with fail
  refine (known2_any _).mono ?_
  rintro e wn1 ⟨rfl, hb1⟩
  have KB1 := Lib.hid (Evo.later hb1)
  have hxwn1c := (bcell hb1).1
  have hxwn1f := (bcell hb1).2.1
  have hxwn1z := (bcell hb1).2.2
  (try (have hlewn1_1 : w.heap.size ≤ wn1.heap.size := (by first | omega | (have hh := hxwn1z; (try simp at hh); omega))))
  (try (have hlwn1_1_0 : w.heap.size < wn1.heap.size := (by first | omega | (have hh := hxwn1z; (try simp at hh); omega))))
  (try (have hlwn1_1_1 : w.heap.size + 1 < wn1.heap.size := (by first | omega | (have hh := hxwn1z; (try simp at hh); omega))))
  (try (have hlwn1_1_2 : w.heap.size + 1 + 1 < wn1.heap.size := (by first | omega | (have hh := hxwn1z; (try simp at hh); omega))))
  go_upto_region 4 with fail
  go_cut [4] (fun s4 wx => ∃ (B : Nat), s4 = .slice (some ⟨B, 0, none⟩) 15 15 ∧ B < wx.heap.size ∧ Hid (∀ k, k < 15 → TkAt wx B k) ∧ Hid (Grow.G w wx))
  case first =>
    clear atW KE HX
    go_wp2_with fail
    go_meet
    refine ⟨_, rfl, by simp, Lib.hid ?_, Lib.hid (by (repeat (first | with_reducible exact Grow.G.refl _ | with_reducible exact Below.refl _ _ | with_reducible refine Grow.G.alloc ?_ _ | with_reducible refine Grow.G.trans ?_ hb2 | with_reducible refine Grow.G.trans ?_ hb1 | ((with_reducible refine Below.setCell ?_ ?_ _); rotate_left; (focus (first | omega | (simp; done) | (simp; omega)))) | with_reducible assumption | with_reducible refine Grow.G.trans ?_ (by with_reducible assumption))))⟩
    refine tk15 ?_ ?_ ?_ ?_ ?_ ?_ ?_ ?_ ?_ ?_ ?_ ?_ ?_ ?_ ?_
    all_goals
      refine tk_at rfl rfl (by go_simp; exact ⟨rfl, rfl, rfl⟩) ?_
      repeat (first | exact nil_sl _ _ | exact tgts_new _ _ _ _ (by simp) | refine tgts_alloc _ ?_)
  case rest =>
    obtain ⟨B, rfl, hB, HK, HG⟩ := hcut
    obtain ⟨a, c, hc, HT⟩ := HK.out k hk
    have HT := Lib.hid HT
    clear HK
    obtain ⟨e1, e2, e3, sm, l7⟩ := KE.out
    generalize tkT.getD k [] = ts at *
    have R1 := Lib.hid (fun w (h : TgtSl w a ts) => route_at ⟨#[114]⟩ ⟨#[97]⟩ a ts ts.length c 0 w x rfl (by decide) (by decide) (by omega) h (small_ok sm) e1)
    have R2 := Lib.hid (fun w (h : TgtSl w a ts) => route_at ⟨#[114]⟩ ⟨#[45]⟩ a ts ts.length c 0 w 1 rfl (by decide) (by decide) (by omega) h (small_ok sm) e2)
    have R3 := Lib.hid (fun w (h : TgtSl w a ts) => route_at ⟨#[114]⟩ ⟨#[97]⟩ a ts ts.length c 61 w 2 rfl (by decide) (by decide) (by omega) h (small_ok sm) e3)
    have R4 := Lib.hid (fun w (h : TgtSl w a ts) => rroute_at ⟨#[114]⟩ ⟨#[97]⟩ a ts ts.length c 0 w x rfl (by decide) (by decide) (by omega) h (small_ok sm) e1)
    generalize ts.length = n at *
    have hxx : (x == x) = true := by simp
    clear e1 e2 e3 sm l7 KE
    go_wp2_with fail
    refine (WH.out _).mono ?_
    rintro e wx ⟨rfl, rfl⟩
    go_wp2_with fail
    refine Evo.start' (ℓ := none) (T := Grow.G) (by kernel_rfl) ⟨Evo.preG, by decide +kernel, (by intro c a d v w h; cases d <;> exact h), by decide +kernel⟩ (fun ok => ?_)
    first | (refine Evo.value ok 0 ?_ (by rfl) (by decide +kernel) (by rfl) ?_ ?_; rotate_left; (intro w' hg; have hgc := (bcell hg).1; have hgf := (bcell hg).2.1; (try (have hlew_1 : wc.heap.size ≤ w'.heap.size := (by first | omega | (have hh := (bcell hg).2.2; (try simp at hh); omega)))); (try (have hlw_1_0 : wc.heap.size < w'.heap.size := (by first | omega | (have hh := (bcell hg).2.2; (try simp at hh); omega)))); (try (have hlw_1_1 : wc.heap.size + 1 < w'.heap.size := (by first | omega | (have hh := (bcell hg).2.2; (try simp at hh); omega)))); (try (have hlw_1_2 : wc.heap.size + 1 + 1 < w'.heap.size := (by first | omega | (have hh := (bcell hg).2.2; (try simp at hh); omega)))); go_simp <;> with_reducible rfl); simp only [Act.put, List.setIfInBounds_toArray, List.set_cons_zero, List.set_cons_succ]) | (refine Evo.value ok 0 ?_ (by rfl) (by decide +kernel) (by rfl) ?_ ?_; rotate_left; (intro w' hg; go_simp <;> with_reducible rfl); simp only [Act.put, List.setIfInBounds_toArray, List.set_cons_zero, List.set_cons_succ])
    (refine Evo.call ok 1 ?_ 19 ?_ (by rfl) (by decide +kernel) (by rfl) ?_ ?_ ?_; rotate_left 2; (focus (intro w'; go_simp <;> with_reducible rfl)); (focus (intro w' g'; with_reducible exact R1.out w' (HT.out.later (Grow.G.trans (by (repeat (first | with_reducible exact Grow.G.refl _ | with_reducible exact Below.refl _ _ | with_reducible refine Grow.G.alloc ?_ _ | ((with_reducible refine Below.setCell ?_ ?_ _); rotate_left; (focus (first | omega | (simp; done) | (simp; omega)))) | with_reducible assumption | with_reducible refine Grow.G.trans ?_ (by with_reducible assumption)))) g')))); simp only [Act.put, List.setIfInBounds_toArray, List.set_cons_zero, List.set_cons_succ])
    first | (refine Evo.value ok 2 ?_ (by rfl) (by decide +kernel) (by rfl) ?_ ?_; rotate_left; (intro w' hg; go_simp <;> with_reducible rfl); simp only [Act.put, List.setIfInBounds_toArray, List.set_cons_zero, List.set_cons_succ]) | (refine Evo.value ok 2 ?_ (by rfl) (by decide +kernel) (by rfl) ?_ ?_; rotate_left; (intro w' hg; go_simp; rw [if_neg (by omega)]); simp only [Act.put, List.setIfInBounds_toArray, List.set_cons_zero, List.set_cons_succ])
    first | (refine Evo.value ok 3 ?_ (by rfl) (by decide +kernel) (by rfl) ?_ ?_; rotate_left; (intro w' hg; go_simp <;> with_reducible rfl); simp only [Act.put, List.setIfInBounds_toArray, List.set_cons_zero, List.set_cons_succ]) | (refine Evo.value ok 3 ?_ (by rfl) (by decide +kernel) (by rfl) ?_ ?_; rotate_left; (intro w' hg; go_simp; rw [if_neg (by omega)]); simp only [Act.put, List.setIfInBounds_toArray, List.set_cons_zero, List.set_cons_succ])
    first | (refine Evo.value ok 4 ?_ (by rfl) (by decide +kernel) (by rfl) ?_ ?_; rotate_left; (intro w' hg; go_simp <;> with_reducible rfl); simp only [Act.put, List.setIfInBounds_toArray, List.set_cons_zero, List.set_cons_succ]) | (refine Evo.value ok 4 ?_ (by rfl) (by decide +kernel) (by rfl) ?_ ?_; rotate_left; (intro w' hg; go_simp; rw [if_neg (by omega)]); simp only [Act.put, List.setIfInBounds_toArray, List.set_cons_zero, List.set_cons_succ])
    first | (refine Evo.value ok 5 ?_ (by rfl) (by decide +kernel) (by rfl) ?_ ?_; rotate_left; (intro w' hg; have hgc := (bcell hg).1; have hgf := (bcell hg).2.1; (try (have hlew_1 : wc.heap.size ≤ w'.heap.size := (by first | omega | (have hh := (bcell hg).2.2; (try simp at hh); omega)))); (try (have hlw_1_0 : wc.heap.size < w'.heap.size := (by first | omega | (have hh := (bcell hg).2.2; (try simp at hh); omega)))); (try (have hlw_1_1 : wc.heap.size + 1 < w'.heap.size := (by first | omega | (have hh := (bcell hg).2.2; (try simp at hh); omega)))); (try (have hlw_1_2 : wc.heap.size + 1 + 1 < w'.heap.size := (by first | omega | (have hh := (bcell hg).2.2; (try simp at hh); omega)))); go_simp <;> with_reducible rfl); simp only [Act.put, List.setIfInBounds_toArray, List.set_cons_zero, List.set_cons_succ]) | (refine Evo.value ok 5 ?_ (by rfl) (by decide +kernel) (by rfl) ?_ ?_; rotate_left; (intro w' hg; go_simp <;> with_reducible rfl); simp only [Act.put, List.setIfInBounds_toArray, List.set_cons_zero, List.set_cons_succ])
    first | (refine Evo.value ok 6 ?_ (by rfl) (by decide +kernel) (by rfl) ?_ ?_; rotate_left; (intro w' hg; go_simp <;> with_reducible rfl); simp only [Act.put, List.setIfInBounds_toArray, List.set_cons_zero, List.set_cons_succ]) | (refine Evo.value ok 6 ?_ (by rfl) (by decide +kernel) (by rfl) ?_ ?_; rotate_left; (intro w' hg; go_simp; rw [if_neg (by omega)]); simp only [Act.put, List.setIfInBounds_toArray, List.set_cons_zero, List.set_cons_succ])
    first | (refine Evo.value ok 7 ?_ (by rfl) (by decide +kernel) (by rfl) ?_ ?_; rotate_left; (intro w' hg; go_simp <;> with_reducible rfl); simp only [Act.put, List.setIfInBounds_toArray, List.set_cons_zero, List.set_cons_succ]) | (refine Evo.value ok 7 ?_ (by rfl) (by decide +kernel) (by rfl) ?_ ?_; rotate_left; (intro w' hg; go_simp; rw [if_neg (by omega)]); simp only [Act.put, List.setIfInBounds_toArray, List.set_cons_zero, List.set_cons_succ])
    first | (refine Evo.value ok 8 ?_ (by rfl) (by decide +kernel) (by rfl) ?_ ?_; rotate_left; (intro w' hg; have hgc := (bcell hg).1; have hgf := (bcell hg).2.1; (try (have hlew_1 : wc.heap.size ≤ w'.heap.size := (by first | omega | (have hh := (bcell hg).2.2; (try simp at hh); omega)))); (try (have hlw_1_0 : wc.heap.size < w'.heap.size := (by first | omega | (have hh := (bcell hg).2.2; (try simp at hh); omega)))); (try (have hlw_1_1 : wc.heap.size + 1 < w'.heap.size := (by first | omega | (have hh := (bcell hg).2.2; (try simp at hh); omega)))); (try (have hlw_1_2 : wc.heap.size + 1 + 1 < w'.heap.size := (by first | omega | (have hh := (bcell hg).2.2; (try simp at hh); omega)))); go_simp <;> with_reducible rfl); simp only [Act.put, List.setIfInBounds_toArray, List.set_cons_zero, List.set_cons_succ]) | (refine Evo.value ok 8 ?_ (by rfl) (by decide +kernel) (by rfl) ?_ ?_; rotate_left; (intro w' hg; go_simp <;> with_reducible rfl); simp only [Act.put, List.setIfInBounds_toArray, List.set_cons_zero, List.set_cons_succ]) | (refine Evo.idle ok 8 (by rfl) (by decide +kernel) (by rfl) ?_; simp only [Act.put, List.setIfInBounds_toArray, List.set_cons_zero, List.set_cons_succ])
    first | (refine Evo.call ok 9 ?_ 19 ?_ (by rfl) (by decide +kernel) (by rfl) ?_ ?_ ?_; rotate_left 2; (focus (intro w'; go_simp <;> with_reducible rfl)); (focus (intro w' g'; with_reducible exact R2.out w' (HT.out.later (Grow.G.trans (by (repeat (first | with_reducible exact Grow.G.refl _ | with_reducible exact Below.refl _ _ | with_reducible refine Grow.G.alloc ?_ _ | ((with_reducible refine Below.setCell ?_ ?_ _); rotate_left; (focus (first | omega | (simp; done) | (simp; omega)))) | with_reducible assumption | with_reducible refine Grow.G.trans ?_ (by with_reducible assumption)))) g')))); simp only [Act.put, List.setIfInBounds_toArray, List.set_cons_zero, List.set_cons_succ]) | (refine Evo.idle ok 9 (by rfl) (by decide +kernel) (by rfl) ?_; simp only [Act.put, List.setIfInBounds_toArray, List.set_cons_zero, List.set_cons_succ])
    first | (refine Evo.value ok 10 ?_ (by rfl) (by decide +kernel) (by rfl) ?_ ?_; rotate_left; (intro w' hg; go_simp <;> with_reducible rfl); simp only [Act.put, List.setIfInBounds_toArray, List.set_cons_zero, List.set_cons_succ]) | (refine Evo.value ok 10 ?_ (by rfl) (by decide +kernel) (by rfl) ?_ ?_; rotate_left; (intro w' hg; go_simp; rw [if_neg (by omega)]); simp only [Act.put, List.setIfInBounds_toArray, List.set_cons_zero, List.set_cons_succ]) | (refine Evo.idle ok 10 (by rfl) (by decide +kernel) (by rfl) ?_; simp only [Act.put, List.setIfInBounds_toArray, List.set_cons_zero, List.set_cons_succ])
    first | (refine Evo.value ok 11 ?_ (by rfl) (by decide +kernel) (by rfl) ?_ ?_; rotate_left; (intro w' hg; go_simp <;> with_reducible rfl); simp only [Act.put, List.setIfInBounds_toArray, List.set_cons_zero, List.set_cons_succ]) | (refine Evo.value ok 11 ?_ (by rfl) (by decide +kernel) (by rfl) ?_ ?_; rotate_left; (intro w' hg; go_simp; rw [if_neg (by omega)]); simp only [Act.put, List.setIfInBounds_toArray, List.set_cons_zero, List.set_cons_succ])
    first | (refine Evo.value ok 12 ?_ (by rfl) (by decide +kernel) (by rfl) ?_ ?_; rotate_left; (intro w' hg; go_simp <;> with_reducible rfl); simp only [Act.put, List.setIfInBounds_toArray, List.set_cons_zero, List.set_cons_succ]) | (refine Evo.value ok 12 ?_ (by rfl) (by decide +kernel) (by rfl) ?_ ?_; rotate_left; (intro w' hg; go_simp; rw [if_neg (by omega)]); simp only [Act.put, List.setIfInBounds_toArray, List.set_cons_zero, List.set_cons_succ])
    first | (refine Evo.value ok 13 ?_ (by rfl) (by decide +kernel) (by rfl) ?_ ?_; rotate_left; (intro w' hg; have hgc := (bcell hg).1; have hgf := (bcell hg).2.1; (try (have hlew_1 : wc.heap.size ≤ w'.heap.size := (by first | omega | (have hh := (bcell hg).2.2; (try simp at hh); omega)))); (try (have hlw_1_0 : wc.heap.size < w'.heap.size := (by first | omega | (have hh := (bcell hg).2.2; (try simp at hh); omega)))); (try (have hlw_1_1 : wc.heap.size + 1 < w'.heap.size := (by first | omega | (have hh := (bcell hg).2.2; (try simp at hh); omega)))); (try (have hlw_1_2 : wc.heap.size + 1 + 1 < w'.heap.size := (by first | omega | (have hh := (bcell hg).2.2; (try simp at hh); omega)))); go_simp <;> with_reducible rfl); simp only [Act.put, List.setIfInBounds_toArray, List.set_cons_zero, List.set_cons_succ]) | (refine Evo.value ok 13 ?_ (by rfl) (by decide +kernel) (by rfl) ?_ ?_; rotate_left; (intro w' hg; go_simp <;> with_reducible rfl); simp only [Act.put, List.setIfInBounds_toArray, List.set_cons_zero, List.set_cons_succ]) | (refine Evo.idle ok 13 (by rfl) (by decide +kernel) (by rfl) ?_; simp only [Act.put, List.setIfInBounds_toArray, List.set_cons_zero, List.set_cons_succ])
    first | (refine Evo.call ok 14 ?_ 19 ?_ (by rfl) (by decide +kernel) (by rfl) ?_ ?_ ?_; rotate_left 2; (focus (intro w'; go_simp <;> with_reducible rfl)); (focus (intro w' g'; with_reducible exact R3.out w' (HT.out.later (Grow.G.trans (by (repeat (first | with_reducible exact Grow.G.refl _ | with_reducible exact Below.refl _ _ | with_reducible refine Grow.G.alloc ?_ _ | ((with_reducible refine Below.setCell ?_ ?_ _); rotate_left; (focus (first | omega | (simp; done) | (simp; omega)))) | with_reducible assumption | with_reducible refine Grow.G.trans ?_ (by with_reducible assumption)))) g')))); simp only [Act.put, List.setIfInBounds_toArray, List.set_cons_zero, List.set_cons_succ]) | (refine Evo.idle ok 14 (by rfl) (by decide +kernel) (by rfl) ?_; simp only [Act.put, List.setIfInBounds_toArray, List.set_cons_zero, List.set_cons_succ])
    first | (refine Evo.value ok 15 ?_ (by rfl) (by decide +kernel) (by rfl) ?_ ?_; rotate_left; (intro w' hg; go_simp <;> with_reducible rfl); simp only [Act.put, List.setIfInBounds_toArray, List.set_cons_zero, List.set_cons_succ]) | (refine Evo.value ok 15 ?_ (by rfl) (by decide +kernel) (by rfl) ?_ ?_; rotate_left; (intro w' hg; go_simp; rw [if_neg (by omega)]); simp only [Act.put, List.setIfInBounds_toArray, List.set_cons_zero, List.set_cons_succ]) | (refine Evo.idle ok 15 (by rfl) (by decide +kernel) (by rfl) ?_; simp only [Act.put, List.setIfInBounds_toArray, List.set_cons_zero, List.set_cons_succ])
    first | (refine Evo.value ok 16 ?_ (by rfl) (by decide +kernel) (by rfl) ?_ ?_; rotate_left; (intro w' hg; go_simp <;> with_reducible rfl); simp only [Act.put, List.setIfInBounds_toArray, List.set_cons_zero, List.set_cons_succ]) | (refine Evo.value ok 16 ?_ (by rfl) (by decide +kernel) (by rfl) ?_ ?_; rotate_left; (intro w' hg; go_simp; rw [if_neg (by omega)]); simp only [Act.put, List.setIfInBounds_toArray, List.set_cons_zero, List.set_cons_succ])
    first | (refine Evo.value ok 17 ?_ (by rfl) (by decide +kernel) (by rfl) ?_ ?_; rotate_left; (intro w' hg; go_simp <;> with_reducible rfl); simp only [Act.put, List.setIfInBounds_toArray, List.set_cons_zero, List.set_cons_succ]) | (refine Evo.value ok 17 ?_ (by rfl) (by decide +kernel) (by rfl) ?_ ?_; rotate_left; (intro w' hg; go_simp; rw [if_neg (by omega)]); simp only [Act.put, List.setIfInBounds_toArray, List.set_cons_zero, List.set_cons_succ])
    first | (refine Evo.value ok 18 ?_ (by rfl) (by decide +kernel) (by rfl) ?_ ?_; rotate_left; (intro w' hg; have hgc := (bcell hg).1; have hgf := (bcell hg).2.1; (try (have hlew_1 : wc.heap.size ≤ w'.heap.size := (by first | omega | (have hh := (bcell hg).2.2; (try simp at hh); omega)))); (try (have hlw_1_0 : wc.heap.size < w'.heap.size := (by first | omega | (have hh := (bcell hg).2.2; (try simp at hh); omega)))); (try (have hlw_1_1 : wc.heap.size + 1 < w'.heap.size := (by first | omega | (have hh := (bcell hg).2.2; (try simp at hh); omega)))); (try (have hlw_1_2 : wc.heap.size + 1 + 1 < w'.heap.size := (by first | omega | (have hh := (bcell hg).2.2; (try simp at hh); omega)))); go_simp <;> with_reducible rfl); simp only [Act.put, List.setIfInBounds_toArray, List.set_cons_zero, List.set_cons_succ]) | (refine Evo.value ok 18 ?_ (by rfl) (by decide +kernel) (by rfl) ?_ ?_; rotate_left; (intro w' hg; go_simp <;> with_reducible rfl); simp only [Act.put, List.setIfInBounds_toArray, List.set_cons_zero, List.set_cons_succ]) | (refine Evo.idle ok 18 (by rfl) (by decide +kernel) (by rfl) ?_; simp only [Act.put, List.setIfInBounds_toArray, List.set_cons_zero, List.set_cons_succ])
    first | (refine Evo.call ok 19 ?_ 20 ?_ (by rfl) (by decide +kernel) (by rfl) ?_ ?_ ?_; rotate_left 2; (focus (intro w'; go_simp <;> with_reducible rfl)); (focus (intro w' g'; with_reducible exact R4.out w' (HT.out.later (Grow.G.trans (by (repeat (first | with_reducible exact Grow.G.refl _ | with_reducible exact Below.refl _ _ | with_reducible refine Grow.G.alloc ?_ _ | ((with_reducible refine Below.setCell ?_ ?_ _); rotate_left; (focus (first | omega | (simp; done) | (simp; omega)))) | with_reducible assumption | with_reducible refine Grow.G.trans ?_ (by with_reducible assumption)))) g')))); simp only [Act.put, List.setIfInBounds_toArray, List.set_cons_zero, List.set_cons_succ]) | (refine Evo.idle ok 19 (by rfl) (by decide +kernel) (by rfl) ?_; simp only [Act.put, List.setIfInBounds_toArray, List.set_cons_zero, List.set_cons_succ])
    first | (refine Evo.value ok 20 ?_ (by rfl) (by decide +kernel) (by rfl) ?_ ?_; rotate_left; (intro w' hg; go_simp <;> with_reducible rfl); simp only [Act.put, List.setIfInBounds_toArray, List.set_cons_zero, List.set_cons_succ]) | (refine Evo.value ok 20 ?_ (by rfl) (by decide +kernel) (by rfl) ?_ ?_; rotate_left; (intro w' hg; go_simp; rw [if_neg (by omega)]); simp only [Act.put, List.setIfInBounds_toArray, List.set_cons_zero, List.set_cons_succ]) | (refine Evo.idle ok 20 (by rfl) (by decide +kernel) (by rfl) ?_; simp only [Act.put, List.setIfInBounds_toArray, List.set_cons_zero, List.set_cons_succ])
    first | (refine Evo.value ok 21 ?_ (by rfl) (by decide +kernel) (by rfl) ?_ ?_; rotate_left; (intro w' hg; go_simp <;> with_reducible rfl); simp only [Act.put, List.setIfInBounds_toArray, List.set_cons_zero, List.set_cons_succ]) | (refine Evo.value ok 21 ?_ (by rfl) (by decide +kernel) (by rfl) ?_ ?_; rotate_left; (intro w' hg; go_simp; rw [if_neg (by omega)]); simp only [Act.put, List.setIfInBounds_toArray, List.set_cons_zero, List.set_cons_succ]) | (refine Evo.idle ok 21 (by rfl) (by decide +kernel) (by rfl) ?_; simp only [Act.put, List.setIfInBounds_toArray, List.set_cons_zero, List.set_cons_succ])
    first | (refine Evo.value ok 22 ?_ (by rfl) (by decide +kernel) (by rfl) ?_ ?_; rotate_left; (intro w' hg; go_simp <;> with_reducible rfl); simp only [Act.put, List.setIfInBounds_toArray, List.set_cons_zero, List.set_cons_succ]) | (refine Evo.value ok 22 ?_ (by rfl) (by decide +kernel) (by rfl) ?_ ?_; rotate_left; (intro w' hg; go_simp; rw [if_neg (by omega)]); simp only [Act.put, List.setIfInBounds_toArray, List.set_cons_zero, List.set_cons_succ]) | (refine Evo.idle ok 22 (by rfl) (by decide +kernel) (by rfl) ?_; simp only [Act.put, List.setIfInBounds_toArray, List.set_cons_zero, List.set_cons_succ])
    first | (refine Evo.value ok 23 ?_ (by rfl) (by decide +kernel) (by rfl) ?_ ?_; rotate_left; (intro w' hg; have hgc := (bcell hg).1; have hgf := (bcell hg).2.1; (try (have hlew_1 : wc.heap.size ≤ w'.heap.size := (by first | omega | (have hh := (bcell hg).2.2; (try simp at hh); omega)))); (try (have hlw_1_0 : wc.heap.size < w'.heap.size := (by first | omega | (have hh := (bcell hg).2.2; (try simp at hh); omega)))); (try (have hlw_1_1 : wc.heap.size + 1 < w'.heap.size := (by first | omega | (have hh := (bcell hg).2.2; (try simp at hh); omega)))); (try (have hlw_1_2 : wc.heap.size + 1 + 1 < w'.heap.size := (by first | omega | (have hh := (bcell hg).2.2; (try simp at hh); omega)))); go_simp <;> with_reducible rfl); simp only [Act.put, List.setIfInBounds_toArray, List.set_cons_zero, List.set_cons_succ]) | (refine Evo.value ok 23 ?_ (by rfl) (by decide +kernel) (by rfl) ?_ ?_; rotate_left; (intro w' hg; go_simp <;> with_reducible rfl); simp only [Act.put, List.setIfInBounds_toArray, List.set_cons_zero, List.set_cons_succ]) | (refine Evo.idle ok 23 (by rfl) (by decide +kernel) (by rfl) ?_; simp only [Act.put, List.setIfInBounds_toArray, List.set_cons_zero, List.set_cons_succ])
    first | (refine Evo.value ok 24 ?_ (by rfl) (by decide +kernel) (by rfl) ?_ ?_; rotate_left; (intro w' hg; go_simp <;> with_reducible rfl); simp only [Act.put, List.setIfInBounds_toArray, List.set_cons_zero, List.set_cons_succ]) | (refine Evo.value ok 24 ?_ (by rfl) (by decide +kernel) (by rfl) ?_ ?_; rotate_left; (intro w' hg; go_simp; rw [if_neg (by omega)]); simp only [Act.put, List.setIfInBounds_toArray, List.set_cons_zero, List.set_cons_succ]) | (refine Evo.idle ok 24 (by rfl) (by decide +kernel) (by rfl) ?_; simp only [Act.put, List.setIfInBounds_toArray, List.set_cons_zero, List.set_cons_succ])
    first | (refine Evo.value ok 25 ?_ (by rfl) (by decide +kernel) (by rfl) ?_ ?_; rotate_left; (intro w' hg; go_simp <;> with_reducible rfl); simp only [Act.put, List.setIfInBounds_toArray, List.set_cons_zero, List.set_cons_succ]) | (refine Evo.value ok 25 ?_ (by rfl) (by decide +kernel) (by rfl) ?_ ?_; rotate_left; (intro w' hg; go_simp; rw [if_neg (by omega)]); simp only [Act.put, List.setIfInBounds_toArray, List.set_cons_zero, List.set_cons_succ])
    first | (refine Evo.value ok 26 ?_ (by rfl) (by decide +kernel) (by rfl) ?_ ?_; rotate_left; (intro w' hg; go_simp <;> with_reducible rfl); simp only [Act.put, List.setIfInBounds_toArray, List.set_cons_zero, List.set_cons_succ]) | (refine Evo.value ok 26 ?_ (by rfl) (by decide +kernel) (by rfl) ?_ ?_; rotate_left; (intro w' hg; go_simp; rw [if_neg (by omega)]); simp only [Act.put, List.setIfInBounds_toArray, List.set_cons_zero, List.set_cons_succ])
    refine Evo.done (by decide +kernel) (fun wn1 hb1 => ?_)
    have KB1 := Lib.hid (Evo.later hb1)
    have hxwn1c := (bcell hb1).1
    have hxwn1f := (bcell hb1).2.1
    have hxwn1z := (bcell hb1).2.2
    (try (have hlewn1_1 : wc.heap.size ≤ wn1.heap.size := (by first | omega | (have hh := hxwn1z; (try simp at hh); omega))))
    (try (have hlwn1_1_0 : wc.heap.size < wn1.heap.size := (by first | omega | (have hh := hxwn1z; (try simp at hh); omega))))
    (try (have hlwn1_1_1 : wc.heap.size + 1 < wn1.heap.size := (by first | omega | (have hh := hxwn1z; (try simp at hh); omega))))
    (try (have hlwn1_1_2 : wc.heap.size + 1 + 1 < wn1.heap.size := (by first | omega | (have hh := hxwn1z; (try simp at hh); omega))))
    go_wp2_with fail
    go_ret
    exact ⟨rfl, Grow.G.trans HG.out (by (repeat (first | with_reducible exact Grow.G.refl _ | with_reducible exact Below.refl _ _ | with_reducible refine Grow.G.alloc ?_ _ | with_reducible refine Grow.G.trans ?_ hb2 | with_reducible refine Grow.G.trans ?_ hb1 | ((with_reducible refine Below.setCell ?_ ?_ _); rotate_left; (focus (first | omega | (simp; done) | (simp; omega)))) | with_reducible assumption | with_reducible refine Grow.G.trans ?_ (by with_reducible assumption))))⟩
end Go.Proofs.Ytpmhmegjckhbmaa
