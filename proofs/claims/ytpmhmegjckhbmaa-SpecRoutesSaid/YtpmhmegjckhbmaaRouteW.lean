/- The walk of damperlaw2.Route. -/
import Derived.Test.YtpmhmegjckhbmaaRouteM
import Derived.Deep.DeepCutAuto
namespace Go.Proofs.Ytpmhmegjckhbmaa
set_option linter.unusedVariables false
set_option linter.unusedSimpArgs false
set_option linter.unnecessarySimpa false
open Go.RowKit

def IntAt (w : World) (a : Option Addr) (zs : List Int) : Prop := zs = [] ∨ ∃ b off, a = some ⟨b, off, none⟩ ∧ IntCells w b off zs
theorem IntSlice.open {w : World} {v : Value} {zs : List Int} (h : IntSlice w v zs) : ∃ a cap, v = .slice a zs.length cap ∧ IntAt w a zs := by
  rcases h with ⟨b, off, cap, rfl, h⟩ | ⟨rfl, a, cap, rfl⟩
  · exact ⟨_, cap, rfl, .inr ⟨b, off, rfl, h⟩⟩
  · exact ⟨a, cap, rfl, .inl rfl⟩
theorem IntAt.at {w w' : World} {a : Option Addr} {zs : List Int} (h : IntAt w a zs) (g : Grow.G w w') {k : Nat} (hk : k < zs.length) : ∃ b off, a = some ⟨b, off, none⟩ ∧ w'.cell? ⟨b, off + k, none⟩ = some (.int .i64 (zs.getD k 0)) ∧ wf64 (zs.getD k 0) := by
  rcases h with rfl | ⟨b, off, ha, hc⟩
  · simp at hk
  · exact ⟨b, off, ha, cell_later g (hc.cell k hk), hc.wf k⟩
theorem front_at (k : Nat) (hk : k < 3) : ([.string ⟨#[102, 114, 111, 110, 116]⟩, .string ⟨#[98, 97, 99, 107]⟩, .string ⟨#[114, 45, 49]⟩] : List Value)[k]'(by simpa using hk) = .string (frontN.getD k ⟨#[]⟩) := listMap Value.string frontN _ k (by simpa [frontN] using hk)
theorem cf_at (k : Nat) (hk : k < 3) : ([.string ⟨#[119, 101, 98]⟩, .string ⟨#[97, 112, 105]⟩, .string ⟨#[97, 45, 98]⟩] : List Value)[k]'(by simpa using hk) = .string (names3.getD k ⟨#[]⟩) := listMap Value.string names3 _ k (by simpa [names3] using hk)
theorem tdiv_wf {n : Int} (h : wf64 n) (d : Int) (hd : 2 ≤ d) : wf64 (n.tdiv d) := by
  obtain ⟨h1, h2⟩ := h
  have h4 : 2 * (n.tdiv d).natAbs ≤ n.natAbs := by
    rw [Int.natAbs_tdiv]
    have h5 : n.natAbs.div d.natAbs * d.natAbs ≤ n.natAbs := Nat.div_mul_le_self _ _
    have h6 : n.natAbs.div d.natAbs * 2 ≤ n.natAbs.div d.natAbs * d.natAbs := Nat.mul_le_mul_left _ (by omega)
    omega
  exact ⟨by omega, by omega⟩
theorem wrap_wf {n : Int} (h : wf64 n) : IntKind.i64.wrap n = n := IntWalk.i64_in n ⟨h.1, h.2⟩
def flatT (ts : List Tgt) : List Value := ts.flatMap fun t => [.string t.rv, .string t.tg, .int .i64 t.pc]

theorem infoT : (Try.prog.info? 41).map (fun i => (i.zero, i.size, i.bytes)) = some (some (.agg #[.string ⟨#[]⟩, .string ⟨#[]⟩, .int .i64 0]), 3, 40) := by kernel_rfl
structure RtLoop (w wr : World) (g : Nat) (nm cf : ByteArray) (rl : Int) (v : Value) (i : Nat) (ts : List Tgt) : Prop where
  c0 : wr.cell? ⟨g, 0, none⟩ = some (.string nm)
  c1 : wr.cell? ⟨g, 1, none⟩ = some (.string cf)
  c2 : wr.cell? ⟨g, 2, none⟩ = some v
  c3 : wr.cell? ⟨g, 3, none⟩ = some (.int .i64 rl)
  f2 : wr.frozen? ⟨g, 2, none⟩ = false
  own : wr.ownsRow (g + 1) 41 3 v i (flatT ts)
  grow0 : Grow.G (w.alloc (.cells #[.string ⟨#[]⟩, .string ⟨#[]⟩, .slice none 0 0, .int .i64 0] 35)) wr
  lt : g < wr.heap.size
  base : w.heap.size + 1 ≤ g

theorem RtLoop.grow {w wr : World} {g : Nat} {nm cf : ByteArray} {rl : Int} {v : Value} {i : Nat} {ts : List Tgt} (h : RtLoop w wr g nm cf rl v i ts) : Grow.G w wr := Grow.G.trans (Grow.G.alloc (Grow.G.refl w) _) h.grow0

set_option maxRecDepth 100000 in
set_option maxHeartbeats 2000000 in
theorem groute_walk (n : Int) (a : Option Addr) (zs : List Int) (cap : Nat) (roll : Int) (w : World) (hn : wf64 n) (hz : IntAt w a zs) (hl : zs.length ≤ maxLen) (hr : wf64 roll) :
    Calls Try.prog 18 #[.int .i64 n, .slice a zs.length cap, .int .i64 roll] w fun e w' => (∃ b c, e = .returned (rtV (rtName n) (rtCf n) (.slice (some ⟨b, 0, none⟩) (nT zs) c) (withinI roll 61)) ∧ w'.ownsRow w.heap.size 41 3 (.slice (some ⟨b, 0, none⟩) (nT zs) c) (nT zs) (flatT (gTs (rtCf n) zs))) ∧ Below w.heap.size w w' := by
  have HZ := Lib.hid hz
  clear hz
  unfold maxLen at hl
  generalize hlz : zs.length = lz at *
  have LZ := Lib.hid hlz
  clear hlz
  have W0 := Lib.hid (fun w => within2_any n 3 w (by omega) (by omega) hn.1 hn.2)
  have hn3 := tdiv_wf hn 3 (by omega)
  have wr3 := wrap_wf hn3
  have W1 := Lib.hid (fun w => within2_any (n.tdiv 3) 3 w (by omega) (by omega) hn3.1 hn3.2)
  have W2 := Lib.hid (fun w => within2_any roll 61 w (by omega) (by omega) hr.1 hr.2)
  have r0 := withinI_range n 3 (by omega)
  have r1 := withinI_range (n.tdiv 3) 3 (by omega)
  have W0 := Lib.hid (fun w => Evo.same (W0.out w))
  have W1 := Lib.hid (fun w => Evo.same (W1.out w))
  have W2 := Lib.hid (fun w => Evo.same (W2.out w))
  have NM : Hid (rtName n = frontN.getD (withinI n 3).toNat ⟨#[]⟩) := Lib.hid rfl
  have CF : Hid (rtCf n = names3.getD (withinI (n.tdiv 3) 3).toNat ⟨#[]⟩) := Lib.hid rfl
  have z0 := rtName_size n
  have z1 := (name3_ok (n.tdiv 3)).2
  change (rtCf n).size ≤ 3 at z1
  generalize rtName n = nm at *
  generalize rtCf n = cf at *
  generalize withinI n 3 = q0 at *
  generalize withinI (n.tdiv 3) 3 = q1 at *
  generalize withinI roll 61 = rl at *
  obtain ⟨k0, rfl⟩ := Int.eq_ofNat_of_zero_le r0.1
  obtain ⟨k1, rfl⟩ := Int.eq_ofNat_of_zero_le r1.1
  have hk0 : k0 < 3 := by omega
  have hk1 : k1 < 3 := by omega
  have at0 := front_at k0 hk0
  have at1 := cf_at k1 hk1
  rw [← show nm = frontN.getD k0 ⟨#[]⟩ from NM.out] at at0
  rw [← show cf = names3.getD k1 ⟨#[]⟩ from CF.out] at at1
  have a0 := r0.1; have a1 := r0.2; have a2 := r1.1; have a3 := r1.2
  clear NM CF r0 r1
  go_enter Try.func18, Try.ntmps18
  go_upto_region 1 with fail
  go_cut [7] (fun s7 wx => ∃ g : Nat, s7 = .pointer (some ⟨g, 0, none⟩) ∧ w.heap.size + 1 ≤ g ∧ g < wx.heap.size ∧ wx.cell? ⟨g, 0, none⟩ = some (.string nm) ∧ wx.cell? ⟨g, 1, none⟩ = some (.string cf) ∧ wx.cell? ⟨g, 2, none⟩ = some (.slice none 0 0) ∧ wx.cell? ⟨g, 3, none⟩ = some (.int .i64 rl) ∧ wx.frozen? ⟨g, 2, none⟩ = false ∧ Grow.G (w.alloc (.cells #[.string ⟨#[]⟩, .string ⟨#[]⟩, .slice none 0 0, .int .i64 0] 35)) wx)
  case first =>
    refine Evo.start' (ℓ := some 15) (T := Grow.G) (by kernel_rfl) ⟨Evo.preG, by decide +kernel, (by intro c a d v w h; cases d <;> exact h), by decide +kernel⟩ (fun ok => ?_)
    first | (refine Evo.value ok 1 ?_ (by rfl) (by decide +kernel) (by rfl) ?_ ?_; rotate_left; (intro w' hg; go_simp <;> with_reducible rfl); simp only [Act.put, List.setIfInBounds_toArray, List.set_cons_zero, List.set_cons_succ]) | (refine Evo.value ok 1 ?_ (by rfl) (by decide +kernel) (by rfl) ?_ ?_; rotate_left; (intro w' hg; go_simp; rw [if_neg (by omega)]); simp only [Act.put, List.setIfInBounds_toArray, List.set_cons_zero, List.set_cons_succ])
    (refine Evo.call ok 2 ?_ 15 ?_ (by rfl) (by decide +kernel) (by rfl) ?_ ?_ ?_; rotate_left 2; (focus (intro w'; go_simp <;> with_reducible rfl)); (focus (intro w' g'; with_reducible exact W0.out w')); simp only [Act.put, List.setIfInBounds_toArray, List.set_cons_zero, List.set_cons_succ])
    first | (refine Evo.value ok 6 ?_ (by rfl) (by decide +kernel) (by rfl) ?_ ?_; rotate_left; (intro w' hg; go_simp <;> with_reducible rfl); simp only [Act.put, List.setIfInBounds_toArray, List.set_cons_zero, List.set_cons_succ]) | (refine Evo.value ok 6 ?_ (by rfl) (by decide +kernel) (by rfl) ?_ ?_; rotate_left; (intro w' hg; go_simp; rw [if_neg (by omega)]); simp only [Act.put, List.setIfInBounds_toArray, List.set_cons_zero, List.set_cons_succ])
    first | (refine Evo.value ok 7 ?_ (by rfl) (by decide +kernel) (by rfl) ?_ ?_; rotate_left; (intro w' hg; go_simp <;> with_reducible rfl); simp only [Act.put, List.setIfInBounds_toArray, List.set_cons_zero, List.set_cons_succ]) | (refine Evo.value ok 7 ?_ (by rfl) (by decide +kernel) (by rfl) ?_ ?_; rotate_left; (intro w' hg; go_simp; rw [if_neg (by omega)]); simp only [Act.put, List.setIfInBounds_toArray, List.set_cons_zero, List.set_cons_succ])
    (refine Evo.call ok 8 ?_ 15 ?_ (by rfl) (by decide +kernel) (by rfl) ?_ ?_ ?_; rotate_left 2; (focus (intro w'; go_simp <;> with_reducible rfl)); (focus (intro w' g'; with_reducible exact W1.out w')); simp only [Act.put, List.setIfInBounds_toArray, List.set_cons_zero, List.set_cons_succ])
    first | (refine Evo.value ok 11 ?_ (by rfl) (by decide +kernel) (by rfl) ?_ ?_; rotate_left; (intro w' hg; go_simp <;> with_reducible rfl); simp only [Act.put, List.setIfInBounds_toArray, List.set_cons_zero, List.set_cons_succ]) | (refine Evo.value ok 11 ?_ (by rfl) (by decide +kernel) (by rfl) ?_ ?_; rotate_left; (intro w' hg; go_simp; rw [if_neg (by omega)]); simp only [Act.put, List.setIfInBounds_toArray, List.set_cons_zero, List.set_cons_succ])
    (refine Evo.call ok 12 ?_ 15 ?_ (by rfl) (by decide +kernel) (by rfl) ?_ ?_ ?_; rotate_left 2; (focus (intro w'; go_simp <;> with_reducible rfl)); (focus (intro w' g'; with_reducible exact W2.out w')); simp only [Act.put, List.setIfInBounds_toArray, List.set_cons_zero, List.set_cons_succ])
    refine Evo.all [0, 5, 14] (by decide +kernel) rfl ?_
    intro wn1 hb1 iq1 hq1
    have KB1 := Lib.hid (Evo.later hb1)
    have hxwn1c := (bcell hb1).1
    have hxwn1f := (bcell hb1).2.1
    have hxwn1z := (bcell hb1).2.2
    (try (have hlewn1_1 : w.heap.size ≤ wn1.heap.size := (by first | omega | (have hh := hxwn1z; (try simp at hh); omega))))
    (try (have hlwn1_1_0 : w.heap.size < wn1.heap.size := (by first | omega | (have hh := hxwn1z; (try simp at hh); omega))))
    (try (have hlwn1_1_1 : w.heap.size + 1 < wn1.heap.size := (by first | omega | (have hh := hxwn1z; (try simp at hh); omega))))
    (try (have hlwn1_1_2 : w.heap.size + 1 + 1 < wn1.heap.size := (by first | omega | (have hh := hxwn1z; (try simp at hh); omega))))
    simp only [List.mem_cons, List.mem_nil_iff, or_false] at hq1
    rcases hq1 with rfl | rfl | rfl
    ·
      refine Evo.runs (by rfl) (by rfl) (fun K' hK' => ?_)
      go_simp
      (try (simp only [Evo.after_value, Evo.after_skip]))
      refine hK'.out _ _ ?_
      clear hK'
      simp only [Act.put, List.setIfInBounds_toArray, List.set_cons_zero, List.set_cons_succ]
      refine ⟨.inr (by (repeat (first | with_reducible exact Grow.G.refl _ | with_reducible exact Below.refl _ _ | with_reducible refine Grow.G.alloc ?_ _ | with_reducible refine Grow.G.trans ?_ hb2 | with_reducible refine Grow.G.trans ?_ hb1 | ((with_reducible refine Below.setCell ?_ ?_ _); rotate_left; (focus (first | omega | (simp; done) | (simp; omega))))))), ?_⟩
      first | (refine Evo.value ok 3 ?_ (by rfl) (by decide +kernel) (by rfl) ?_ ?_; rotate_left; (intro w' hg; go_simp <;> with_reducible rfl); simp only [Act.put, List.setIfInBounds_toArray, List.set_cons_zero, List.set_cons_succ]) | (refine Evo.value ok 3 ?_ (by rfl) (by decide +kernel) (by rfl) ?_ ?_; rotate_left; (intro w' hg; go_simp; rw [if_neg (by omega)]); simp only [Act.put, List.setIfInBounds_toArray, List.set_cons_zero, List.set_cons_succ])
      first | (refine Evo.value ok 4 ?_ (by rfl) (by decide +kernel) (by rfl) ?_ ?_; rotate_left; (intro w' hg; have hgc := (bcell hg).1; have hgf := (bcell hg).2.1; (try (have hlew_2 : wn1.heap.size ≤ w'.heap.size := (by first | omega | (have hh := (bcell hg).2.2; (try simp at hh); omega)))); (try (have hlw_2_0 : wn1.heap.size < w'.heap.size := (by first | omega | (have hh := (bcell hg).2.2; (try simp at hh); omega)))); (try (have hlw_2_1 : wn1.heap.size + 1 < w'.heap.size := (by first | omega | (have hh := (bcell hg).2.2; (try simp at hh); omega)))); (try (have hlw_2_2 : wn1.heap.size + 1 + 1 < w'.heap.size := (by first | omega | (have hh := (bcell hg).2.2; (try simp at hh); omega)))); (try (refine Evo.laterK KB1.out w' ?_ (fun hxwc1 hxwf1 hxwz1 => ?_); (focus ((repeat (first | with_reducible exact Grow.G.refl _ | with_reducible exact Below.refl _ _ | with_reducible refine Grow.G.alloc ?_ _ | with_reducible refine Grow.G.trans ?_ hb2 | with_reducible refine Grow.G.trans ?_ hb1 | ((with_reducible refine Below.setCell ?_ ?_ _); rotate_left; (focus (first | omega | (simp; done) | (simp; omega)))))); all_goals fail)))); (try (have hlew_1 : w.heap.size ≤ w'.heap.size := (by first | omega | (have hh := hxwz1; (try simp at hh); omega)))); (try (have hlw_1_0 : w.heap.size < w'.heap.size := (by first | omega | (have hh := hxwz1; (try simp at hh); omega)))); (try (have hlw_1_1 : w.heap.size + 1 < w'.heap.size := (by first | omega | (have hh := hxwz1; (try simp at hh); omega)))); (try (have hlw_1_2 : w.heap.size + 1 + 1 < w'.heap.size := (by first | omega | (have hh := hxwz1; (try simp at hh); omega)))); go_simp <;> with_reducible rfl); simp only [Act.put, List.setIfInBounds_toArray, List.set_cons_zero, List.set_cons_succ]) | (refine Evo.value ok 4 ?_ (by rfl) (by decide +kernel) (by rfl) ?_ ?_; rotate_left; (intro w' hg; go_simp <;> with_reducible rfl); simp only [Act.put, List.setIfInBounds_toArray, List.set_cons_zero, List.set_cons_succ])
      refine Evo.all [5, 14] (by decide +kernel) rfl ?_
      intro wn2 hb2 iq2 hq2
      have KB2 := Lib.hid (Evo.later hb2)
      have hxwn2c := (bcell hb2).1
      have hxwn2f := (bcell hb2).2.1
      have hxwn2z := (bcell hb2).2.2
      (try (have hlewn2_2 : wn1.heap.size ≤ wn2.heap.size := (by first | omega | (have hh := hxwn2z; (try simp at hh); omega))))
      (try (have hlwn2_2_0 : wn1.heap.size < wn2.heap.size := (by first | omega | (have hh := hxwn2z; (try simp at hh); omega))))
      (try (have hlwn2_2_1 : wn1.heap.size + 1 < wn2.heap.size := (by first | omega | (have hh := hxwn2z; (try simp at hh); omega))))
      (try (have hlwn2_2_2 : wn1.heap.size + 1 + 1 < wn2.heap.size := (by first | omega | (have hh := hxwn2z; (try simp at hh); omega))))
      (try (refine Evo.laterK KB1.out wn2 ?_ (fun hxwn2c1 hxwn2f1 hxwn2z1 => ?_); (focus ((repeat (first | with_reducible exact Grow.G.refl _ | with_reducible exact Below.refl _ _ | with_reducible refine Grow.G.alloc ?_ _ | with_reducible refine Grow.G.trans ?_ hb2 | with_reducible refine Grow.G.trans ?_ hb1 | ((with_reducible refine Below.setCell ?_ ?_ _); rotate_left; (focus (first | omega | (simp; done) | (simp; omega)))))); all_goals fail))))
      (try (have hlewn2_1 : w.heap.size ≤ wn2.heap.size := (by first | omega | (have hh := hxwn2z1; (try simp at hh); omega))))
      (try (have hlwn2_1_0 : w.heap.size < wn2.heap.size := (by first | omega | (have hh := hxwn2z1; (try simp at hh); omega))))
      (try (have hlwn2_1_1 : w.heap.size + 1 < wn2.heap.size := (by first | omega | (have hh := hxwn2z1; (try simp at hh); omega))))
      (try (have hlwn2_1_2 : w.heap.size + 1 + 1 < wn2.heap.size := (by first | omega | (have hh := hxwn2z1; (try simp at hh); omega))))
      simp only [List.mem_cons, List.mem_nil_iff, or_false] at hq2
      rcases hq2 with rfl | rfl
      ·
        refine Evo.runs (by rfl) (by rfl) (fun K' hK' => ?_)
        go_simp
        (try (simp only [Evo.after_value, Evo.after_skip]))
        refine hK'.out _ _ ?_
        clear hK'
        simp only [Act.put, List.setIfInBounds_toArray, List.set_cons_zero, List.set_cons_succ]
        refine ⟨.inr (by (repeat (first | with_reducible exact Grow.G.refl _ | with_reducible exact Below.refl _ _ | with_reducible refine Grow.G.alloc ?_ _ | with_reducible refine Grow.G.trans ?_ hb3 | with_reducible refine Grow.G.trans ?_ hb2 | with_reducible refine Grow.G.trans ?_ hb1 | ((with_reducible refine Below.setCell ?_ ?_ _); rotate_left; (focus (first | omega | (simp; done) | (simp; omega))))))), ?_⟩
        first | (refine Evo.value ok 9 ?_ (by rfl) (by decide +kernel) (by rfl) ?_ ?_; rotate_left; (intro w' hg; go_simp <;> with_reducible rfl); simp only [Act.put, List.setIfInBounds_toArray, List.set_cons_zero, List.set_cons_succ]) | (refine Evo.value ok 9 ?_ (by rfl) (by decide +kernel) (by rfl) ?_ ?_; rotate_left; (intro w' hg; go_simp; rw [if_neg (by omega)]); simp only [Act.put, List.setIfInBounds_toArray, List.set_cons_zero, List.set_cons_succ])
        first | (refine Evo.value ok 10 ?_ (by rfl) (by decide +kernel) (by rfl) ?_ ?_; rotate_left; (intro w' hg; have hgc := (bcell hg).1; have hgf := (bcell hg).2.1; (try (have hlew_3 : wn2.heap.size ≤ w'.heap.size := (by first | omega | (have hh := (bcell hg).2.2; (try simp at hh); omega)))); (try (have hlw_3_0 : wn2.heap.size < w'.heap.size := (by first | omega | (have hh := (bcell hg).2.2; (try simp at hh); omega)))); (try (have hlw_3_1 : wn2.heap.size + 1 < w'.heap.size := (by first | omega | (have hh := (bcell hg).2.2; (try simp at hh); omega)))); (try (have hlw_3_2 : wn2.heap.size + 1 + 1 < w'.heap.size := (by first | omega | (have hh := (bcell hg).2.2; (try simp at hh); omega)))); (try (refine Evo.laterK KB1.out w' ?_ (fun hxwc1 hxwf1 hxwz1 => ?_); (focus ((repeat (first | with_reducible exact Grow.G.refl _ | with_reducible exact Below.refl _ _ | with_reducible refine Grow.G.alloc ?_ _ | with_reducible refine Grow.G.trans ?_ hb3 | with_reducible refine Grow.G.trans ?_ hb2 | with_reducible refine Grow.G.trans ?_ hb1 | ((with_reducible refine Below.setCell ?_ ?_ _); rotate_left; (focus (first | omega | (simp; done) | (simp; omega)))))); all_goals fail)))); (try (have hlew_1 : w.heap.size ≤ w'.heap.size := (by first | omega | (have hh := hxwz1; (try simp at hh); omega)))); (try (have hlw_1_0 : w.heap.size < w'.heap.size := (by first | omega | (have hh := hxwz1; (try simp at hh); omega)))); (try (have hlw_1_1 : w.heap.size + 1 < w'.heap.size := (by first | omega | (have hh := hxwz1; (try simp at hh); omega)))); (try (have hlw_1_2 : w.heap.size + 1 + 1 < w'.heap.size := (by first | omega | (have hh := hxwz1; (try simp at hh); omega)))); (try (refine Evo.laterK KB2.out w' ?_ (fun hxwc2 hxwf2 hxwz2 => ?_); (focus ((repeat (first | with_reducible exact Grow.G.refl _ | with_reducible exact Below.refl _ _ | with_reducible refine Grow.G.alloc ?_ _ | with_reducible refine Grow.G.trans ?_ hb3 | with_reducible refine Grow.G.trans ?_ hb2 | with_reducible refine Grow.G.trans ?_ hb1 | ((with_reducible refine Below.setCell ?_ ?_ _); rotate_left; (focus (first | omega | (simp; done) | (simp; omega)))))); all_goals fail)))); (try (have hlew_2 : wn1.heap.size ≤ w'.heap.size := (by first | omega | (have hh := hxwz2; (try simp at hh); omega)))); (try (have hlw_2_0 : wn1.heap.size < w'.heap.size := (by first | omega | (have hh := hxwz2; (try simp at hh); omega)))); (try (have hlw_2_1 : wn1.heap.size + 1 < w'.heap.size := (by first | omega | (have hh := hxwz2; (try simp at hh); omega)))); (try (have hlw_2_2 : wn1.heap.size + 1 + 1 < w'.heap.size := (by first | omega | (have hh := hxwz2; (try simp at hh); omega)))); go_simp <;> with_reducible rfl); simp only [Act.put, List.setIfInBounds_toArray, List.set_cons_zero, List.set_cons_succ]) | (refine Evo.value ok 10 ?_ (by rfl) (by decide +kernel) (by rfl) ?_ ?_; rotate_left; (intro w' hg; go_simp <;> with_reducible rfl); simp only [Act.put, List.setIfInBounds_toArray, List.set_cons_zero, List.set_cons_succ])
        first | (refine Evo.value ok 13 ?_ (by rfl) (by decide +kernel) (by rfl) ?_ ?_; rotate_left; (intro w' hg; go_simp <;> with_reducible rfl); simp only [Act.put, List.setIfInBounds_toArray, List.set_cons_zero, List.set_cons_succ]) | (refine Evo.value ok 13 ?_ (by rfl) (by decide +kernel) (by rfl) ?_ ?_; rotate_left; (intro w' hg; go_simp; rw [if_neg (by omega)]); simp only [Act.put, List.setIfInBounds_toArray, List.set_cons_zero, List.set_cons_succ])
        refine Evo.all [14] (by decide +kernel) rfl ?_
        intro wn3 hb3 iq3 hq3
        have KB3 := Lib.hid (Evo.later hb3)
        have hxwn3c := (bcell hb3).1
        have hxwn3f := (bcell hb3).2.1
        have hxwn3z := (bcell hb3).2.2
        (try (have hlewn3_3 : wn2.heap.size ≤ wn3.heap.size := (by first | omega | (have hh := hxwn3z; (try simp at hh); omega))))
        (try (have hlwn3_3_0 : wn2.heap.size < wn3.heap.size := (by first | omega | (have hh := hxwn3z; (try simp at hh); omega))))
        (try (have hlwn3_3_1 : wn2.heap.size + 1 < wn3.heap.size := (by first | omega | (have hh := hxwn3z; (try simp at hh); omega))))
        (try (have hlwn3_3_2 : wn2.heap.size + 1 + 1 < wn3.heap.size := (by first | omega | (have hh := hxwn3z; (try simp at hh); omega))))
        (try (refine Evo.laterK KB1.out wn3 ?_ (fun hxwn3c1 hxwn3f1 hxwn3z1 => ?_); (focus ((repeat (first | with_reducible exact Grow.G.refl _ | with_reducible exact Below.refl _ _ | with_reducible refine Grow.G.alloc ?_ _ | with_reducible refine Grow.G.trans ?_ hb3 | with_reducible refine Grow.G.trans ?_ hb2 | with_reducible refine Grow.G.trans ?_ hb1 | ((with_reducible refine Below.setCell ?_ ?_ _); rotate_left; (focus (first | omega | (simp; done) | (simp; omega)))))); all_goals fail))))
        (try (have hlewn3_1 : w.heap.size ≤ wn3.heap.size := (by first | omega | (have hh := hxwn3z1; (try simp at hh); omega))))
        (try (have hlwn3_1_0 : w.heap.size < wn3.heap.size := (by first | omega | (have hh := hxwn3z1; (try simp at hh); omega))))
        (try (have hlwn3_1_1 : w.heap.size + 1 < wn3.heap.size := (by first | omega | (have hh := hxwn3z1; (try simp at hh); omega))))
        (try (have hlwn3_1_2 : w.heap.size + 1 + 1 < wn3.heap.size := (by first | omega | (have hh := hxwn3z1; (try simp at hh); omega))))
        (try (refine Evo.laterK KB2.out wn3 ?_ (fun hxwn3c2 hxwn3f2 hxwn3z2 => ?_); (focus ((repeat (first | with_reducible exact Grow.G.refl _ | with_reducible exact Below.refl _ _ | with_reducible refine Grow.G.alloc ?_ _ | with_reducible refine Grow.G.trans ?_ hb3 | with_reducible refine Grow.G.trans ?_ hb2 | with_reducible refine Grow.G.trans ?_ hb1 | ((with_reducible refine Below.setCell ?_ ?_ _); rotate_left; (focus (first | omega | (simp; done) | (simp; omega)))))); all_goals fail))))
        (try (have hlewn3_2 : wn1.heap.size ≤ wn3.heap.size := (by first | omega | (have hh := hxwn3z2; (try simp at hh); omega))))
        (try (have hlwn3_2_0 : wn1.heap.size < wn3.heap.size := (by first | omega | (have hh := hxwn3z2; (try simp at hh); omega))))
        (try (have hlwn3_2_1 : wn1.heap.size + 1 < wn3.heap.size := (by first | omega | (have hh := hxwn3z2; (try simp at hh); omega))))
        (try (have hlwn3_2_2 : wn1.heap.size + 1 + 1 < wn3.heap.size := (by first | omega | (have hh := hxwn3z2; (try simp at hh); omega))))
        simp only [List.mem_cons, List.mem_nil_iff, or_false] at hq3
        subst hq3
        refine Evo.runs (by rfl) (by rfl) (fun K' hK' => ?_)
        go_simp
        (try (simp only [Evo.after_value, Evo.after_skip]))
        refine hK'.out _ _ ?_
        clear hK'
        simp only [Act.put, List.setIfInBounds_toArray, List.set_cons_zero, List.set_cons_succ]
        refine ⟨.inr (by (repeat (first | with_reducible exact Grow.G.refl _ | with_reducible exact Below.refl _ _ | with_reducible refine Grow.G.alloc ?_ _ | with_reducible refine Grow.G.trans ?_ hb4 | with_reducible refine Grow.G.trans ?_ hb3 | with_reducible refine Grow.G.trans ?_ hb2 | with_reducible refine Grow.G.trans ?_ hb1 | ((with_reducible refine Below.setCell ?_ ?_ _); rotate_left; (focus (first | omega | (simp; done) | (simp; omega))))))), ?_⟩
        refine Evo.all [15] (by decide +kernel) rfl ?_
        intro wn4 hb4 iq4 hq4
        have KB4 := Lib.hid (Evo.later hb4)
        have hxwn4c := (bcell hb4).1
        have hxwn4f := (bcell hb4).2.1
        have hxwn4z := (bcell hb4).2.2
        (try (have hlewn4_4 : wn3.heap.size ≤ wn4.heap.size := (by first | omega | (have hh := hxwn4z; (try simp at hh); omega))))
        (try (have hlwn4_4_0 : wn3.heap.size < wn4.heap.size := (by first | omega | (have hh := hxwn4z; (try simp at hh); omega))))
        (try (have hlwn4_4_1 : wn3.heap.size + 1 < wn4.heap.size := (by first | omega | (have hh := hxwn4z; (try simp at hh); omega))))
        (try (have hlwn4_4_2 : wn3.heap.size + 1 + 1 < wn4.heap.size := (by first | omega | (have hh := hxwn4z; (try simp at hh); omega))))
        (try (refine Evo.laterK KB1.out wn4 ?_ (fun hxwn4c1 hxwn4f1 hxwn4z1 => ?_); (focus ((repeat (first | with_reducible exact Grow.G.refl _ | with_reducible exact Below.refl _ _ | with_reducible refine Grow.G.alloc ?_ _ | with_reducible refine Grow.G.trans ?_ hb4 | with_reducible refine Grow.G.trans ?_ hb3 | with_reducible refine Grow.G.trans ?_ hb2 | with_reducible refine Grow.G.trans ?_ hb1 | ((with_reducible refine Below.setCell ?_ ?_ _); rotate_left; (focus (first | omega | (simp; done) | (simp; omega)))))); all_goals fail))))
        (try (have hlewn4_1 : w.heap.size ≤ wn4.heap.size := (by first | omega | (have hh := hxwn4z1; (try simp at hh); omega))))
        (try (have hlwn4_1_0 : w.heap.size < wn4.heap.size := (by first | omega | (have hh := hxwn4z1; (try simp at hh); omega))))
        (try (have hlwn4_1_1 : w.heap.size + 1 < wn4.heap.size := (by first | omega | (have hh := hxwn4z1; (try simp at hh); omega))))
        (try (have hlwn4_1_2 : w.heap.size + 1 + 1 < wn4.heap.size := (by first | omega | (have hh := hxwn4z1; (try simp at hh); omega))))
        (try (refine Evo.laterK KB2.out wn4 ?_ (fun hxwn4c2 hxwn4f2 hxwn4z2 => ?_); (focus ((repeat (first | with_reducible exact Grow.G.refl _ | with_reducible exact Below.refl _ _ | with_reducible refine Grow.G.alloc ?_ _ | with_reducible refine Grow.G.trans ?_ hb4 | with_reducible refine Grow.G.trans ?_ hb3 | with_reducible refine Grow.G.trans ?_ hb2 | with_reducible refine Grow.G.trans ?_ hb1 | ((with_reducible refine Below.setCell ?_ ?_ _); rotate_left; (focus (first | omega | (simp; done) | (simp; omega)))))); all_goals fail))))
        (try (have hlewn4_2 : wn1.heap.size ≤ wn4.heap.size := (by first | omega | (have hh := hxwn4z2; (try simp at hh); omega))))
        (try (have hlwn4_2_0 : wn1.heap.size < wn4.heap.size := (by first | omega | (have hh := hxwn4z2; (try simp at hh); omega))))
        (try (have hlwn4_2_1 : wn1.heap.size + 1 < wn4.heap.size := (by first | omega | (have hh := hxwn4z2; (try simp at hh); omega))))
        (try (have hlwn4_2_2 : wn1.heap.size + 1 + 1 < wn4.heap.size := (by first | omega | (have hh := hxwn4z2; (try simp at hh); omega))))
        (try (refine Evo.laterK KB3.out wn4 ?_ (fun hxwn4c3 hxwn4f3 hxwn4z3 => ?_); (focus ((repeat (first | with_reducible exact Grow.G.refl _ | with_reducible exact Below.refl _ _ | with_reducible refine Grow.G.alloc ?_ _ | with_reducible refine Grow.G.trans ?_ hb4 | with_reducible refine Grow.G.trans ?_ hb3 | with_reducible refine Grow.G.trans ?_ hb2 | with_reducible refine Grow.G.trans ?_ hb1 | ((with_reducible refine Below.setCell ?_ ?_ _); rotate_left; (focus (first | omega | (simp; done) | (simp; omega)))))); all_goals fail))))
        (try (have hlewn4_3 : wn2.heap.size ≤ wn4.heap.size := (by first | omega | (have hh := hxwn4z3; (try simp at hh); omega))))
        (try (have hlwn4_3_0 : wn2.heap.size < wn4.heap.size := (by first | omega | (have hh := hxwn4z3; (try simp at hh); omega))))
        (try (have hlwn4_3_1 : wn2.heap.size + 1 < wn4.heap.size := (by first | omega | (have hh := hxwn4z3; (try simp at hh); omega))))
        (try (have hlwn4_3_2 : wn2.heap.size + 1 + 1 < wn4.heap.size := (by first | omega | (have hh := hxwn4z3; (try simp at hh); omega))))
        simp only [List.mem_cons, List.mem_nil_iff, or_false] at hq4
        subst hq4
        refine Evo.runs (by rfl) (by rfl) (fun K' hK' => ?_)
        go_simp
        (try (simp only [Evo.after_value, Evo.after_skip]))
        refine hK'.out _ _ ?_
        clear hK'
        simp only [Act.put, List.setIfInBounds_toArray, List.set_cons_zero, List.set_cons_succ]
        refine ⟨.inl (by first | rfl | trivial), ?_⟩
        refine Evo.done (by decide +kernel) (fun wn5 hb5 => ?_)
        (have q1 := (bcell hb5).1; have q2 := (bcell hb5).2.1; have q3 := hb5.size; go_wp2_with fail; go_meet; refine ⟨_, rfl, ?_, ?_, ?_, ?_, ?_, ?_, ?_, ?_⟩; (focus omega); (focus (simp at q3; omega)); (focus go_simp); (focus go_simp); (focus go_simp); (focus go_simp); (focus go_simp); (repeat (first | with_reducible exact Grow.G.refl _ | with_reducible exact Below.refl _ _ | with_reducible refine Grow.G.alloc ?_ _ | with_reducible refine Grow.G.trans ?_ hb5 | with_reducible refine Grow.G.trans ?_ hb4 | with_reducible refine Grow.G.trans ?_ hb3 | with_reducible refine Grow.G.trans ?_ hb2 | with_reducible refine Grow.G.trans ?_ hb1 | ((with_reducible refine Below.setCell ?_ ?_ _); rotate_left; (focus (first | omega | (simp; done) | (simp; omega)))) | with_reducible assumption | with_reducible refine Grow.G.trans ?_ (by with_reducible assumption))))
      ·
        refine Evo.runs (by rfl) (by rfl) (fun K' hK' => ?_)
        go_simp
        (try (simp only [Evo.after_value, Evo.after_skip]))
        refine hK'.out _ _ ?_
        clear hK'
        simp only [Act.put, List.setIfInBounds_toArray, List.set_cons_zero, List.set_cons_succ]
        refine ⟨.inr (by (repeat (first | with_reducible exact Grow.G.refl _ | with_reducible exact Below.refl _ _ | with_reducible refine Grow.G.alloc ?_ _ | with_reducible refine Grow.G.trans ?_ hb3 | with_reducible refine Grow.G.trans ?_ hb2 | with_reducible refine Grow.G.trans ?_ hb1 | ((with_reducible refine Below.setCell ?_ ?_ _); rotate_left; (focus (first | omega | (simp; done) | (simp; omega))))))), ?_⟩
        refine Evo.all [5] (by decide +kernel) rfl ?_
        intro wn3 hb3 iq3 hq3
        have KB3 := Lib.hid (Evo.later hb3)
        have hxwn3c := (bcell hb3).1
        have hxwn3f := (bcell hb3).2.1
        have hxwn3z := (bcell hb3).2.2
        (try (have hlewn3_3 : wn2.heap.size ≤ wn3.heap.size := (by first | omega | (have hh := hxwn3z; (try simp at hh); omega))))
        (try (have hlwn3_3_0 : wn2.heap.size < wn3.heap.size := (by first | omega | (have hh := hxwn3z; (try simp at hh); omega))))
        (try (have hlwn3_3_1 : wn2.heap.size + 1 < wn3.heap.size := (by first | omega | (have hh := hxwn3z; (try simp at hh); omega))))
        (try (have hlwn3_3_2 : wn2.heap.size + 1 + 1 < wn3.heap.size := (by first | omega | (have hh := hxwn3z; (try simp at hh); omega))))
        (try (refine Evo.laterK KB1.out wn3 ?_ (fun hxwn3c1 hxwn3f1 hxwn3z1 => ?_); (focus ((repeat (first | with_reducible exact Grow.G.refl _ | with_reducible exact Below.refl _ _ | with_reducible refine Grow.G.alloc ?_ _ | with_reducible refine Grow.G.trans ?_ hb3 | with_reducible refine Grow.G.trans ?_ hb2 | with_reducible refine Grow.G.trans ?_ hb1 | ((with_reducible refine Below.setCell ?_ ?_ _); rotate_left; (focus (first | omega | (simp; done) | (simp; omega)))))); all_goals fail))))
        (try (have hlewn3_1 : w.heap.size ≤ wn3.heap.size := (by first | omega | (have hh := hxwn3z1; (try simp at hh); omega))))
        (try (have hlwn3_1_0 : w.heap.size < wn3.heap.size := (by first | omega | (have hh := hxwn3z1; (try simp at hh); omega))))
        (try (have hlwn3_1_1 : w.heap.size + 1 < wn3.heap.size := (by first | omega | (have hh := hxwn3z1; (try simp at hh); omega))))
        (try (have hlwn3_1_2 : w.heap.size + 1 + 1 < wn3.heap.size := (by first | omega | (have hh := hxwn3z1; (try simp at hh); omega))))
        (try (refine Evo.laterK KB2.out wn3 ?_ (fun hxwn3c2 hxwn3f2 hxwn3z2 => ?_); (focus ((repeat (first | with_reducible exact Grow.G.refl _ | with_reducible exact Below.refl _ _ | with_reducible refine Grow.G.alloc ?_ _ | with_reducible refine Grow.G.trans ?_ hb3 | with_reducible refine Grow.G.trans ?_ hb2 | with_reducible refine Grow.G.trans ?_ hb1 | ((with_reducible refine Below.setCell ?_ ?_ _); rotate_left; (focus (first | omega | (simp; done) | (simp; omega)))))); all_goals fail))))
        (try (have hlewn3_2 : wn1.heap.size ≤ wn3.heap.size := (by first | omega | (have hh := hxwn3z2; (try simp at hh); omega))))
        (try (have hlwn3_2_0 : wn1.heap.size < wn3.heap.size := (by first | omega | (have hh := hxwn3z2; (try simp at hh); omega))))
        (try (have hlwn3_2_1 : wn1.heap.size + 1 < wn3.heap.size := (by first | omega | (have hh := hxwn3z2; (try simp at hh); omega))))
        (try (have hlwn3_2_2 : wn1.heap.size + 1 + 1 < wn3.heap.size := (by first | omega | (have hh := hxwn3z2; (try simp at hh); omega))))
        simp only [List.mem_cons, List.mem_nil_iff, or_false] at hq3
        subst hq3
        refine Evo.runs (by rfl) (by rfl) (fun K' hK' => ?_)
        go_simp
        (try (simp only [Evo.after_value, Evo.after_skip]))
        refine hK'.out _ _ ?_
        clear hK'
        simp only [Act.put, List.setIfInBounds_toArray, List.set_cons_zero, List.set_cons_succ]
        refine ⟨.inr (by (repeat (first | with_reducible exact Grow.G.refl _ | with_reducible exact Below.refl _ _ | with_reducible refine Grow.G.alloc ?_ _ | with_reducible refine Grow.G.trans ?_ hb4 | with_reducible refine Grow.G.trans ?_ hb3 | with_reducible refine Grow.G.trans ?_ hb2 | with_reducible refine Grow.G.trans ?_ hb1 | ((with_reducible refine Below.setCell ?_ ?_ _); rotate_left; (focus (first | omega | (simp; done) | (simp; omega))))))), ?_⟩
        first | (refine Evo.value ok 9 ?_ (by rfl) (by decide +kernel) (by rfl) ?_ ?_; rotate_left; (intro w' hg; go_simp <;> with_reducible rfl); simp only [Act.put, List.setIfInBounds_toArray, List.set_cons_zero, List.set_cons_succ]) | (refine Evo.value ok 9 ?_ (by rfl) (by decide +kernel) (by rfl) ?_ ?_; rotate_left; (intro w' hg; go_simp; rw [if_neg (by omega)]); simp only [Act.put, List.setIfInBounds_toArray, List.set_cons_zero, List.set_cons_succ])
        first | (refine Evo.value ok 10 ?_ (by rfl) (by decide +kernel) (by rfl) ?_ ?_; rotate_left; (intro w' hg; have hgc := (bcell hg).1; have hgf := (bcell hg).2.1; (try (have hlew_4 : wn3.heap.size ≤ w'.heap.size := (by first | omega | (have hh := (bcell hg).2.2; (try simp at hh); omega)))); (try (have hlw_4_0 : wn3.heap.size < w'.heap.size := (by first | omega | (have hh := (bcell hg).2.2; (try simp at hh); omega)))); (try (have hlw_4_1 : wn3.heap.size + 1 < w'.heap.size := (by first | omega | (have hh := (bcell hg).2.2; (try simp at hh); omega)))); (try (have hlw_4_2 : wn3.heap.size + 1 + 1 < w'.heap.size := (by first | omega | (have hh := (bcell hg).2.2; (try simp at hh); omega)))); (try (refine Evo.laterK KB1.out w' ?_ (fun hxwc1 hxwf1 hxwz1 => ?_); (focus ((repeat (first | with_reducible exact Grow.G.refl _ | with_reducible exact Below.refl _ _ | with_reducible refine Grow.G.alloc ?_ _ | with_reducible refine Grow.G.trans ?_ hb4 | with_reducible refine Grow.G.trans ?_ hb3 | with_reducible refine Grow.G.trans ?_ hb2 | with_reducible refine Grow.G.trans ?_ hb1 | ((with_reducible refine Below.setCell ?_ ?_ _); rotate_left; (focus (first | omega | (simp; done) | (simp; omega)))))); all_goals fail)))); (try (have hlew_1 : w.heap.size ≤ w'.heap.size := (by first | omega | (have hh := hxwz1; (try simp at hh); omega)))); (try (have hlw_1_0 : w.heap.size < w'.heap.size := (by first | omega | (have hh := hxwz1; (try simp at hh); omega)))); (try (have hlw_1_1 : w.heap.size + 1 < w'.heap.size := (by first | omega | (have hh := hxwz1; (try simp at hh); omega)))); (try (have hlw_1_2 : w.heap.size + 1 + 1 < w'.heap.size := (by first | omega | (have hh := hxwz1; (try simp at hh); omega)))); (try (refine Evo.laterK KB2.out w' ?_ (fun hxwc2 hxwf2 hxwz2 => ?_); (focus ((repeat (first | with_reducible exact Grow.G.refl _ | with_reducible exact Below.refl _ _ | with_reducible refine Grow.G.alloc ?_ _ | with_reducible refine Grow.G.trans ?_ hb4 | with_reducible refine Grow.G.trans ?_ hb3 | with_reducible refine Grow.G.trans ?_ hb2 | with_reducible refine Grow.G.trans ?_ hb1 | ((with_reducible refine Below.setCell ?_ ?_ _); rotate_left; (focus (first | omega | (simp; done) | (simp; omega)))))); all_goals fail)))); (try (have hlew_2 : wn1.heap.size ≤ w'.heap.size := (by first | omega | (have hh := hxwz2; (try simp at hh); omega)))); (try (have hlw_2_0 : wn1.heap.size < w'.heap.size := (by first | omega | (have hh := hxwz2; (try simp at hh); omega)))); (try (have hlw_2_1 : wn1.heap.size + 1 < w'.heap.size := (by first | omega | (have hh := hxwz2; (try simp at hh); omega)))); (try (have hlw_2_2 : wn1.heap.size + 1 + 1 < w'.heap.size := (by first | omega | (have hh := hxwz2; (try simp at hh); omega)))); (try (refine Evo.laterK KB3.out w' ?_ (fun hxwc3 hxwf3 hxwz3 => ?_); (focus ((repeat (first | with_reducible exact Grow.G.refl _ | with_reducible exact Below.refl _ _ | with_reducible refine Grow.G.alloc ?_ _ | with_reducible refine Grow.G.trans ?_ hb4 | with_reducible refine Grow.G.trans ?_ hb3 | with_reducible refine Grow.G.trans ?_ hb2 | with_reducible refine Grow.G.trans ?_ hb1 | ((with_reducible refine Below.setCell ?_ ?_ _); rotate_left; (focus (first | omega | (simp; done) | (simp; omega)))))); all_goals fail)))); (try (have hlew_3 : wn2.heap.size ≤ w'.heap.size := (by first | omega | (have hh := hxwz3; (try simp at hh); omega)))); (try (have hlw_3_0 : wn2.heap.size < w'.heap.size := (by first | omega | (have hh := hxwz3; (try simp at hh); omega)))); (try (have hlw_3_1 : wn2.heap.size + 1 < w'.heap.size := (by first | omega | (have hh := hxwz3; (try simp at hh); omega)))); (try (have hlw_3_2 : wn2.heap.size + 1 + 1 < w'.heap.size := (by first | omega | (have hh := hxwz3; (try simp at hh); omega)))); go_simp <;> with_reducible rfl); simp only [Act.put, List.setIfInBounds_toArray, List.set_cons_zero, List.set_cons_succ]) | (refine Evo.value ok 10 ?_ (by rfl) (by decide +kernel) (by rfl) ?_ ?_; rotate_left; (intro w' hg; go_simp <;> with_reducible rfl); simp only [Act.put, List.setIfInBounds_toArray, List.set_cons_zero, List.set_cons_succ])
        first | (refine Evo.value ok 13 ?_ (by rfl) (by decide +kernel) (by rfl) ?_ ?_; rotate_left; (intro w' hg; go_simp <;> with_reducible rfl); simp only [Act.put, List.setIfInBounds_toArray, List.set_cons_zero, List.set_cons_succ]) | (refine Evo.value ok 13 ?_ (by rfl) (by decide +kernel) (by rfl) ?_ ?_; rotate_left; (intro w' hg; go_simp; rw [if_neg (by omega)]); simp only [Act.put, List.setIfInBounds_toArray, List.set_cons_zero, List.set_cons_succ])
        refine Evo.all [15] (by decide +kernel) rfl ?_
        intro wn4 hb4 iq4 hq4
        have KB4 := Lib.hid (Evo.later hb4)
        have hxwn4c := (bcell hb4).1
        have hxwn4f := (bcell hb4).2.1
        have hxwn4z := (bcell hb4).2.2
        (try (have hlewn4_4 : wn3.heap.size ≤ wn4.heap.size := (by first | omega | (have hh := hxwn4z; (try simp at hh); omega))))
        (try (have hlwn4_4_0 : wn3.heap.size < wn4.heap.size := (by first | omega | (have hh := hxwn4z; (try simp at hh); omega))))
        (try (have hlwn4_4_1 : wn3.heap.size + 1 < wn4.heap.size := (by first | omega | (have hh := hxwn4z; (try simp at hh); omega))))
        (try (have hlwn4_4_2 : wn3.heap.size + 1 + 1 < wn4.heap.size := (by first | omega | (have hh := hxwn4z; (try simp at hh); omega))))
        (try (refine Evo.laterK KB1.out wn4 ?_ (fun hxwn4c1 hxwn4f1 hxwn4z1 => ?_); (focus ((repeat (first | with_reducible exact Grow.G.refl _ | with_reducible exact Below.refl _ _ | with_reducible refine Grow.G.alloc ?_ _ | with_reducible refine Grow.G.trans ?_ hb4 | with_reducible refine Grow.G.trans ?_ hb3 | with_reducible refine Grow.G.trans ?_ hb2 | with_reducible refine Grow.G.trans ?_ hb1 | ((with_reducible refine Below.setCell ?_ ?_ _); rotate_left; (focus (first | omega | (simp; done) | (simp; omega)))))); all_goals fail))))
        (try (have hlewn4_1 : w.heap.size ≤ wn4.heap.size := (by first | omega | (have hh := hxwn4z1; (try simp at hh); omega))))
        (try (have hlwn4_1_0 : w.heap.size < wn4.heap.size := (by first | omega | (have hh := hxwn4z1; (try simp at hh); omega))))
        (try (have hlwn4_1_1 : w.heap.size + 1 < wn4.heap.size := (by first | omega | (have hh := hxwn4z1; (try simp at hh); omega))))
        (try (have hlwn4_1_2 : w.heap.size + 1 + 1 < wn4.heap.size := (by first | omega | (have hh := hxwn4z1; (try simp at hh); omega))))
        (try (refine Evo.laterK KB2.out wn4 ?_ (fun hxwn4c2 hxwn4f2 hxwn4z2 => ?_); (focus ((repeat (first | with_reducible exact Grow.G.refl _ | with_reducible exact Below.refl _ _ | with_reducible refine Grow.G.alloc ?_ _ | with_reducible refine Grow.G.trans ?_ hb4 | with_reducible refine Grow.G.trans ?_ hb3 | with_reducible refine Grow.G.trans ?_ hb2 | with_reducible refine Grow.G.trans ?_ hb1 | ((with_reducible refine Below.setCell ?_ ?_ _); rotate_left; (focus (first | omega | (simp; done) | (simp; omega)))))); all_goals fail))))
        (try (have hlewn4_2 : wn1.heap.size ≤ wn4.heap.size := (by first | omega | (have hh := hxwn4z2; (try simp at hh); omega))))
        (try (have hlwn4_2_0 : wn1.heap.size < wn4.heap.size := (by first | omega | (have hh := hxwn4z2; (try simp at hh); omega))))
        (try (have hlwn4_2_1 : wn1.heap.size + 1 < wn4.heap.size := (by first | omega | (have hh := hxwn4z2; (try simp at hh); omega))))
        (try (have hlwn4_2_2 : wn1.heap.size + 1 + 1 < wn4.heap.size := (by first | omega | (have hh := hxwn4z2; (try simp at hh); omega))))
        (try (refine Evo.laterK KB3.out wn4 ?_ (fun hxwn4c3 hxwn4f3 hxwn4z3 => ?_); (focus ((repeat (first | with_reducible exact Grow.G.refl _ | with_reducible exact Below.refl _ _ | with_reducible refine Grow.G.alloc ?_ _ | with_reducible refine Grow.G.trans ?_ hb4 | with_reducible refine Grow.G.trans ?_ hb3 | with_reducible refine Grow.G.trans ?_ hb2 | with_reducible refine Grow.G.trans ?_ hb1 | ((with_reducible refine Below.setCell ?_ ?_ _); rotate_left; (focus (first | omega | (simp; done) | (simp; omega)))))); all_goals fail))))
        (try (have hlewn4_3 : wn2.heap.size ≤ wn4.heap.size := (by first | omega | (have hh := hxwn4z3; (try simp at hh); omega))))
        (try (have hlwn4_3_0 : wn2.heap.size < wn4.heap.size := (by first | omega | (have hh := hxwn4z3; (try simp at hh); omega))))
        (try (have hlwn4_3_1 : wn2.heap.size + 1 < wn4.heap.size := (by first | omega | (have hh := hxwn4z3; (try simp at hh); omega))))
        (try (have hlwn4_3_2 : wn2.heap.size + 1 + 1 < wn4.heap.size := (by first | omega | (have hh := hxwn4z3; (try simp at hh); omega))))
        simp only [List.mem_cons, List.mem_nil_iff, or_false] at hq4
        subst hq4
        refine Evo.runs (by rfl) (by rfl) (fun K' hK' => ?_)
        go_simp
        (try (simp only [Evo.after_value, Evo.after_skip]))
        refine hK'.out _ _ ?_
        clear hK'
        simp only [Act.put, List.setIfInBounds_toArray, List.set_cons_zero, List.set_cons_succ]
        refine ⟨.inl (by first | rfl | trivial), ?_⟩
        refine Evo.done (by decide +kernel) (fun wn5 hb5 => ?_)
        (have q1 := (bcell hb5).1; have q2 := (bcell hb5).2.1; have q3 := hb5.size; go_wp2_with fail; go_meet; refine ⟨_, rfl, ?_, ?_, ?_, ?_, ?_, ?_, ?_, ?_⟩; (focus omega); (focus (simp at q3; omega)); (focus go_simp); (focus go_simp); (focus go_simp); (focus go_simp); (focus go_simp); (repeat (first | with_reducible exact Grow.G.refl _ | with_reducible exact Below.refl _ _ | with_reducible refine Grow.G.alloc ?_ _ | with_reducible refine Grow.G.trans ?_ hb5 | with_reducible refine Grow.G.trans ?_ hb4 | with_reducible refine Grow.G.trans ?_ hb3 | with_reducible refine Grow.G.trans ?_ hb2 | with_reducible refine Grow.G.trans ?_ hb1 | ((with_reducible refine Below.setCell ?_ ?_ _); rotate_left; (focus (first | omega | (simp; done) | (simp; omega)))) | with_reducible assumption | with_reducible refine Grow.G.trans ?_ (by with_reducible assumption))))
    ·
      refine Evo.runs (by rfl) (by rfl) (fun K' hK' => ?_)
      go_simp
      (try (simp only [Evo.after_value, Evo.after_skip]))
      refine hK'.out _ _ ?_
      clear hK'
      simp only [Act.put, List.setIfInBounds_toArray, List.set_cons_zero, List.set_cons_succ]
      refine ⟨.inr (by (repeat (first | with_reducible exact Grow.G.refl _ | with_reducible exact Below.refl _ _ | with_reducible refine Grow.G.alloc ?_ _ | with_reducible refine Grow.G.trans ?_ hb2 | with_reducible refine Grow.G.trans ?_ hb1 | ((with_reducible refine Below.setCell ?_ ?_ _); rotate_left; (focus (first | omega | (simp; done) | (simp; omega))))))), ?_⟩
      first | (refine Evo.value ok 9 ?_ (by rfl) (by decide +kernel) (by rfl) ?_ ?_; rotate_left; (intro w' hg; go_simp <;> with_reducible rfl); simp only [Act.put, List.setIfInBounds_toArray, List.set_cons_zero, List.set_cons_succ]) | (refine Evo.value ok 9 ?_ (by rfl) (by decide +kernel) (by rfl) ?_ ?_; rotate_left; (intro w' hg; go_simp; rw [if_neg (by omega)]); simp only [Act.put, List.setIfInBounds_toArray, List.set_cons_zero, List.set_cons_succ])
      first | (refine Evo.value ok 10 ?_ (by rfl) (by decide +kernel) (by rfl) ?_ ?_; rotate_left; (intro w' hg; have hgc := (bcell hg).1; have hgf := (bcell hg).2.1; (try (have hlew_2 : wn1.heap.size ≤ w'.heap.size := (by first | omega | (have hh := (bcell hg).2.2; (try simp at hh); omega)))); (try (have hlw_2_0 : wn1.heap.size < w'.heap.size := (by first | omega | (have hh := (bcell hg).2.2; (try simp at hh); omega)))); (try (have hlw_2_1 : wn1.heap.size + 1 < w'.heap.size := (by first | omega | (have hh := (bcell hg).2.2; (try simp at hh); omega)))); (try (have hlw_2_2 : wn1.heap.size + 1 + 1 < w'.heap.size := (by first | omega | (have hh := (bcell hg).2.2; (try simp at hh); omega)))); (try (refine Evo.laterK KB1.out w' ?_ (fun hxwc1 hxwf1 hxwz1 => ?_); (focus ((repeat (first | with_reducible exact Grow.G.refl _ | with_reducible exact Below.refl _ _ | with_reducible refine Grow.G.alloc ?_ _ | with_reducible refine Grow.G.trans ?_ hb2 | with_reducible refine Grow.G.trans ?_ hb1 | ((with_reducible refine Below.setCell ?_ ?_ _); rotate_left; (focus (first | omega | (simp; done) | (simp; omega)))))); all_goals fail)))); (try (have hlew_1 : w.heap.size ≤ w'.heap.size := (by first | omega | (have hh := hxwz1; (try simp at hh); omega)))); (try (have hlw_1_0 : w.heap.size < w'.heap.size := (by first | omega | (have hh := hxwz1; (try simp at hh); omega)))); (try (have hlw_1_1 : w.heap.size + 1 < w'.heap.size := (by first | omega | (have hh := hxwz1; (try simp at hh); omega)))); (try (have hlw_1_2 : w.heap.size + 1 + 1 < w'.heap.size := (by first | omega | (have hh := hxwz1; (try simp at hh); omega)))); go_simp <;> with_reducible rfl); simp only [Act.put, List.setIfInBounds_toArray, List.set_cons_zero, List.set_cons_succ]) | (refine Evo.value ok 10 ?_ (by rfl) (by decide +kernel) (by rfl) ?_ ?_; rotate_left; (intro w' hg; go_simp <;> with_reducible rfl); simp only [Act.put, List.setIfInBounds_toArray, List.set_cons_zero, List.set_cons_succ])
      refine Evo.all [0, 14] (by decide +kernel) rfl ?_
      intro wn2 hb2 iq2 hq2
      have KB2 := Lib.hid (Evo.later hb2)
      have hxwn2c := (bcell hb2).1
      have hxwn2f := (bcell hb2).2.1
      have hxwn2z := (bcell hb2).2.2
      (try (have hlewn2_2 : wn1.heap.size ≤ wn2.heap.size := (by first | omega | (have hh := hxwn2z; (try simp at hh); omega))))
      (try (have hlwn2_2_0 : wn1.heap.size < wn2.heap.size := (by first | omega | (have hh := hxwn2z; (try simp at hh); omega))))
      (try (have hlwn2_2_1 : wn1.heap.size + 1 < wn2.heap.size := (by first | omega | (have hh := hxwn2z; (try simp at hh); omega))))
      (try (have hlwn2_2_2 : wn1.heap.size + 1 + 1 < wn2.heap.size := (by first | omega | (have hh := hxwn2z; (try simp at hh); omega))))
      (try (refine Evo.laterK KB1.out wn2 ?_ (fun hxwn2c1 hxwn2f1 hxwn2z1 => ?_); (focus ((repeat (first | with_reducible exact Grow.G.refl _ | with_reducible exact Below.refl _ _ | with_reducible refine Grow.G.alloc ?_ _ | with_reducible refine Grow.G.trans ?_ hb2 | with_reducible refine Grow.G.trans ?_ hb1 | ((with_reducible refine Below.setCell ?_ ?_ _); rotate_left; (focus (first | omega | (simp; done) | (simp; omega)))))); all_goals fail))))
      (try (have hlewn2_1 : w.heap.size ≤ wn2.heap.size := (by first | omega | (have hh := hxwn2z1; (try simp at hh); omega))))
      (try (have hlwn2_1_0 : w.heap.size < wn2.heap.size := (by first | omega | (have hh := hxwn2z1; (try simp at hh); omega))))
      (try (have hlwn2_1_1 : w.heap.size + 1 < wn2.heap.size := (by first | omega | (have hh := hxwn2z1; (try simp at hh); omega))))
      (try (have hlwn2_1_2 : w.heap.size + 1 + 1 < wn2.heap.size := (by first | omega | (have hh := hxwn2z1; (try simp at hh); omega))))
      simp only [List.mem_cons, List.mem_nil_iff, or_false] at hq2
      rcases hq2 with rfl | rfl
      ·
        refine Evo.runs (by rfl) (by rfl) (fun K' hK' => ?_)
        go_simp
        (try (simp only [Evo.after_value, Evo.after_skip]))
        refine hK'.out _ _ ?_
        clear hK'
        simp only [Act.put, List.setIfInBounds_toArray, List.set_cons_zero, List.set_cons_succ]
        refine ⟨.inr (by (repeat (first | with_reducible exact Grow.G.refl _ | with_reducible exact Below.refl _ _ | with_reducible refine Grow.G.alloc ?_ _ | with_reducible refine Grow.G.trans ?_ hb3 | with_reducible refine Grow.G.trans ?_ hb2 | with_reducible refine Grow.G.trans ?_ hb1 | ((with_reducible refine Below.setCell ?_ ?_ _); rotate_left; (focus (first | omega | (simp; done) | (simp; omega))))))), ?_⟩
        first | (refine Evo.value ok 3 ?_ (by rfl) (by decide +kernel) (by rfl) ?_ ?_; rotate_left; (intro w' hg; go_simp <;> with_reducible rfl); simp only [Act.put, List.setIfInBounds_toArray, List.set_cons_zero, List.set_cons_succ]) | (refine Evo.value ok 3 ?_ (by rfl) (by decide +kernel) (by rfl) ?_ ?_; rotate_left; (intro w' hg; go_simp; rw [if_neg (by omega)]); simp only [Act.put, List.setIfInBounds_toArray, List.set_cons_zero, List.set_cons_succ])
        first | (refine Evo.value ok 4 ?_ (by rfl) (by decide +kernel) (by rfl) ?_ ?_; rotate_left; (intro w' hg; have hgc := (bcell hg).1; have hgf := (bcell hg).2.1; (try (have hlew_3 : wn2.heap.size ≤ w'.heap.size := (by first | omega | (have hh := (bcell hg).2.2; (try simp at hh); omega)))); (try (have hlw_3_0 : wn2.heap.size < w'.heap.size := (by first | omega | (have hh := (bcell hg).2.2; (try simp at hh); omega)))); (try (have hlw_3_1 : wn2.heap.size + 1 < w'.heap.size := (by first | omega | (have hh := (bcell hg).2.2; (try simp at hh); omega)))); (try (have hlw_3_2 : wn2.heap.size + 1 + 1 < w'.heap.size := (by first | omega | (have hh := (bcell hg).2.2; (try simp at hh); omega)))); (try (refine Evo.laterK KB1.out w' ?_ (fun hxwc1 hxwf1 hxwz1 => ?_); (focus ((repeat (first | with_reducible exact Grow.G.refl _ | with_reducible exact Below.refl _ _ | with_reducible refine Grow.G.alloc ?_ _ | with_reducible refine Grow.G.trans ?_ hb3 | with_reducible refine Grow.G.trans ?_ hb2 | with_reducible refine Grow.G.trans ?_ hb1 | ((with_reducible refine Below.setCell ?_ ?_ _); rotate_left; (focus (first | omega | (simp; done) | (simp; omega)))))); all_goals fail)))); (try (have hlew_1 : w.heap.size ≤ w'.heap.size := (by first | omega | (have hh := hxwz1; (try simp at hh); omega)))); (try (have hlw_1_0 : w.heap.size < w'.heap.size := (by first | omega | (have hh := hxwz1; (try simp at hh); omega)))); (try (have hlw_1_1 : w.heap.size + 1 < w'.heap.size := (by first | omega | (have hh := hxwz1; (try simp at hh); omega)))); (try (have hlw_1_2 : w.heap.size + 1 + 1 < w'.heap.size := (by first | omega | (have hh := hxwz1; (try simp at hh); omega)))); (try (refine Evo.laterK KB2.out w' ?_ (fun hxwc2 hxwf2 hxwz2 => ?_); (focus ((repeat (first | with_reducible exact Grow.G.refl _ | with_reducible exact Below.refl _ _ | with_reducible refine Grow.G.alloc ?_ _ | with_reducible refine Grow.G.trans ?_ hb3 | with_reducible refine Grow.G.trans ?_ hb2 | with_reducible refine Grow.G.trans ?_ hb1 | ((with_reducible refine Below.setCell ?_ ?_ _); rotate_left; (focus (first | omega | (simp; done) | (simp; omega)))))); all_goals fail)))); (try (have hlew_2 : wn1.heap.size ≤ w'.heap.size := (by first | omega | (have hh := hxwz2; (try simp at hh); omega)))); (try (have hlw_2_0 : wn1.heap.size < w'.heap.size := (by first | omega | (have hh := hxwz2; (try simp at hh); omega)))); (try (have hlw_2_1 : wn1.heap.size + 1 < w'.heap.size := (by first | omega | (have hh := hxwz2; (try simp at hh); omega)))); (try (have hlw_2_2 : wn1.heap.size + 1 + 1 < w'.heap.size := (by first | omega | (have hh := hxwz2; (try simp at hh); omega)))); go_simp <;> with_reducible rfl); simp only [Act.put, List.setIfInBounds_toArray, List.set_cons_zero, List.set_cons_succ]) | (refine Evo.value ok 4 ?_ (by rfl) (by decide +kernel) (by rfl) ?_ ?_; rotate_left; (intro w' hg; go_simp <;> with_reducible rfl); simp only [Act.put, List.setIfInBounds_toArray, List.set_cons_zero, List.set_cons_succ])
        first | (refine Evo.value ok 13 ?_ (by rfl) (by decide +kernel) (by rfl) ?_ ?_; rotate_left; (intro w' hg; go_simp <;> with_reducible rfl); simp only [Act.put, List.setIfInBounds_toArray, List.set_cons_zero, List.set_cons_succ]) | (refine Evo.value ok 13 ?_ (by rfl) (by decide +kernel) (by rfl) ?_ ?_; rotate_left; (intro w' hg; go_simp; rw [if_neg (by omega)]); simp only [Act.put, List.setIfInBounds_toArray, List.set_cons_zero, List.set_cons_succ])
        refine Evo.all [14] (by decide +kernel) rfl ?_
        intro wn3 hb3 iq3 hq3
        have KB3 := Lib.hid (Evo.later hb3)
        have hxwn3c := (bcell hb3).1
        have hxwn3f := (bcell hb3).2.1
        have hxwn3z := (bcell hb3).2.2
        (try (have hlewn3_3 : wn2.heap.size ≤ wn3.heap.size := (by first | omega | (have hh := hxwn3z; (try simp at hh); omega))))
        (try (have hlwn3_3_0 : wn2.heap.size < wn3.heap.size := (by first | omega | (have hh := hxwn3z; (try simp at hh); omega))))
        (try (have hlwn3_3_1 : wn2.heap.size + 1 < wn3.heap.size := (by first | omega | (have hh := hxwn3z; (try simp at hh); omega))))
        (try (have hlwn3_3_2 : wn2.heap.size + 1 + 1 < wn3.heap.size := (by first | omega | (have hh := hxwn3z; (try simp at hh); omega))))
        (try (refine Evo.laterK KB1.out wn3 ?_ (fun hxwn3c1 hxwn3f1 hxwn3z1 => ?_); (focus ((repeat (first | with_reducible exact Grow.G.refl _ | with_reducible exact Below.refl _ _ | with_reducible refine Grow.G.alloc ?_ _ | with_reducible refine Grow.G.trans ?_ hb3 | with_reducible refine Grow.G.trans ?_ hb2 | with_reducible refine Grow.G.trans ?_ hb1 | ((with_reducible refine Below.setCell ?_ ?_ _); rotate_left; (focus (first | omega | (simp; done) | (simp; omega)))))); all_goals fail))))
        (try (have hlewn3_1 : w.heap.size ≤ wn3.heap.size := (by first | omega | (have hh := hxwn3z1; (try simp at hh); omega))))
        (try (have hlwn3_1_0 : w.heap.size < wn3.heap.size := (by first | omega | (have hh := hxwn3z1; (try simp at hh); omega))))
        (try (have hlwn3_1_1 : w.heap.size + 1 < wn3.heap.size := (by first | omega | (have hh := hxwn3z1; (try simp at hh); omega))))
        (try (have hlwn3_1_2 : w.heap.size + 1 + 1 < wn3.heap.size := (by first | omega | (have hh := hxwn3z1; (try simp at hh); omega))))
        (try (refine Evo.laterK KB2.out wn3 ?_ (fun hxwn3c2 hxwn3f2 hxwn3z2 => ?_); (focus ((repeat (first | with_reducible exact Grow.G.refl _ | with_reducible exact Below.refl _ _ | with_reducible refine Grow.G.alloc ?_ _ | with_reducible refine Grow.G.trans ?_ hb3 | with_reducible refine Grow.G.trans ?_ hb2 | with_reducible refine Grow.G.trans ?_ hb1 | ((with_reducible refine Below.setCell ?_ ?_ _); rotate_left; (focus (first | omega | (simp; done) | (simp; omega)))))); all_goals fail))))
        (try (have hlewn3_2 : wn1.heap.size ≤ wn3.heap.size := (by first | omega | (have hh := hxwn3z2; (try simp at hh); omega))))
        (try (have hlwn3_2_0 : wn1.heap.size < wn3.heap.size := (by first | omega | (have hh := hxwn3z2; (try simp at hh); omega))))
        (try (have hlwn3_2_1 : wn1.heap.size + 1 < wn3.heap.size := (by first | omega | (have hh := hxwn3z2; (try simp at hh); omega))))
        (try (have hlwn3_2_2 : wn1.heap.size + 1 + 1 < wn3.heap.size := (by first | omega | (have hh := hxwn3z2; (try simp at hh); omega))))
        simp only [List.mem_cons, List.mem_nil_iff, or_false] at hq3
        subst hq3
        refine Evo.runs (by rfl) (by rfl) (fun K' hK' => ?_)
        go_simp
        (try (simp only [Evo.after_value, Evo.after_skip]))
        refine hK'.out _ _ ?_
        clear hK'
        simp only [Act.put, List.setIfInBounds_toArray, List.set_cons_zero, List.set_cons_succ]
        refine ⟨.inr (by (repeat (first | with_reducible exact Grow.G.refl _ | with_reducible exact Below.refl _ _ | with_reducible refine Grow.G.alloc ?_ _ | with_reducible refine Grow.G.trans ?_ hb4 | with_reducible refine Grow.G.trans ?_ hb3 | with_reducible refine Grow.G.trans ?_ hb2 | with_reducible refine Grow.G.trans ?_ hb1 | ((with_reducible refine Below.setCell ?_ ?_ _); rotate_left; (focus (first | omega | (simp; done) | (simp; omega))))))), ?_⟩
        refine Evo.all [15] (by decide +kernel) rfl ?_
        intro wn4 hb4 iq4 hq4
        have KB4 := Lib.hid (Evo.later hb4)
        have hxwn4c := (bcell hb4).1
        have hxwn4f := (bcell hb4).2.1
        have hxwn4z := (bcell hb4).2.2
        (try (have hlewn4_4 : wn3.heap.size ≤ wn4.heap.size := (by first | omega | (have hh := hxwn4z; (try simp at hh); omega))))
        (try (have hlwn4_4_0 : wn3.heap.size < wn4.heap.size := (by first | omega | (have hh := hxwn4z; (try simp at hh); omega))))
        (try (have hlwn4_4_1 : wn3.heap.size + 1 < wn4.heap.size := (by first | omega | (have hh := hxwn4z; (try simp at hh); omega))))
        (try (have hlwn4_4_2 : wn3.heap.size + 1 + 1 < wn4.heap.size := (by first | omega | (have hh := hxwn4z; (try simp at hh); omega))))
        (try (refine Evo.laterK KB1.out wn4 ?_ (fun hxwn4c1 hxwn4f1 hxwn4z1 => ?_); (focus ((repeat (first | with_reducible exact Grow.G.refl _ | with_reducible exact Below.refl _ _ | with_reducible refine Grow.G.alloc ?_ _ | with_reducible refine Grow.G.trans ?_ hb4 | with_reducible refine Grow.G.trans ?_ hb3 | with_reducible refine Grow.G.trans ?_ hb2 | with_reducible refine Grow.G.trans ?_ hb1 | ((with_reducible refine Below.setCell ?_ ?_ _); rotate_left; (focus (first | omega | (simp; done) | (simp; omega)))))); all_goals fail))))
        (try (have hlewn4_1 : w.heap.size ≤ wn4.heap.size := (by first | omega | (have hh := hxwn4z1; (try simp at hh); omega))))
        (try (have hlwn4_1_0 : w.heap.size < wn4.heap.size := (by first | omega | (have hh := hxwn4z1; (try simp at hh); omega))))
        (try (have hlwn4_1_1 : w.heap.size + 1 < wn4.heap.size := (by first | omega | (have hh := hxwn4z1; (try simp at hh); omega))))
        (try (have hlwn4_1_2 : w.heap.size + 1 + 1 < wn4.heap.size := (by first | omega | (have hh := hxwn4z1; (try simp at hh); omega))))
        (try (refine Evo.laterK KB2.out wn4 ?_ (fun hxwn4c2 hxwn4f2 hxwn4z2 => ?_); (focus ((repeat (first | with_reducible exact Grow.G.refl _ | with_reducible exact Below.refl _ _ | with_reducible refine Grow.G.alloc ?_ _ | with_reducible refine Grow.G.trans ?_ hb4 | with_reducible refine Grow.G.trans ?_ hb3 | with_reducible refine Grow.G.trans ?_ hb2 | with_reducible refine Grow.G.trans ?_ hb1 | ((with_reducible refine Below.setCell ?_ ?_ _); rotate_left; (focus (first | omega | (simp; done) | (simp; omega)))))); all_goals fail))))
        (try (have hlewn4_2 : wn1.heap.size ≤ wn4.heap.size := (by first | omega | (have hh := hxwn4z2; (try simp at hh); omega))))
        (try (have hlwn4_2_0 : wn1.heap.size < wn4.heap.size := (by first | omega | (have hh := hxwn4z2; (try simp at hh); omega))))
        (try (have hlwn4_2_1 : wn1.heap.size + 1 < wn4.heap.size := (by first | omega | (have hh := hxwn4z2; (try simp at hh); omega))))
        (try (have hlwn4_2_2 : wn1.heap.size + 1 + 1 < wn4.heap.size := (by first | omega | (have hh := hxwn4z2; (try simp at hh); omega))))
        (try (refine Evo.laterK KB3.out wn4 ?_ (fun hxwn4c3 hxwn4f3 hxwn4z3 => ?_); (focus ((repeat (first | with_reducible exact Grow.G.refl _ | with_reducible exact Below.refl _ _ | with_reducible refine Grow.G.alloc ?_ _ | with_reducible refine Grow.G.trans ?_ hb4 | with_reducible refine Grow.G.trans ?_ hb3 | with_reducible refine Grow.G.trans ?_ hb2 | with_reducible refine Grow.G.trans ?_ hb1 | ((with_reducible refine Below.setCell ?_ ?_ _); rotate_left; (focus (first | omega | (simp; done) | (simp; omega)))))); all_goals fail))))
        (try (have hlewn4_3 : wn2.heap.size ≤ wn4.heap.size := (by first | omega | (have hh := hxwn4z3; (try simp at hh); omega))))
        (try (have hlwn4_3_0 : wn2.heap.size < wn4.heap.size := (by first | omega | (have hh := hxwn4z3; (try simp at hh); omega))))
        (try (have hlwn4_3_1 : wn2.heap.size + 1 < wn4.heap.size := (by first | omega | (have hh := hxwn4z3; (try simp at hh); omega))))
        (try (have hlwn4_3_2 : wn2.heap.size + 1 + 1 < wn4.heap.size := (by first | omega | (have hh := hxwn4z3; (try simp at hh); omega))))
        simp only [List.mem_cons, List.mem_nil_iff, or_false] at hq4
        subst hq4
        refine Evo.runs (by rfl) (by rfl) (fun K' hK' => ?_)
        go_simp
        (try (simp only [Evo.after_value, Evo.after_skip]))
        refine hK'.out _ _ ?_
        clear hK'
        simp only [Act.put, List.setIfInBounds_toArray, List.set_cons_zero, List.set_cons_succ]
        refine ⟨.inl (by first | rfl | trivial), ?_⟩
        refine Evo.done (by decide +kernel) (fun wn5 hb5 => ?_)
        (have q1 := (bcell hb5).1; have q2 := (bcell hb5).2.1; have q3 := hb5.size; go_wp2_with fail; go_meet; refine ⟨_, rfl, ?_, ?_, ?_, ?_, ?_, ?_, ?_, ?_⟩; (focus omega); (focus (simp at q3; omega)); (focus go_simp); (focus go_simp); (focus go_simp); (focus go_simp); (focus go_simp); (repeat (first | with_reducible exact Grow.G.refl _ | with_reducible exact Below.refl _ _ | with_reducible refine Grow.G.alloc ?_ _ | with_reducible refine Grow.G.trans ?_ hb5 | with_reducible refine Grow.G.trans ?_ hb4 | with_reducible refine Grow.G.trans ?_ hb3 | with_reducible refine Grow.G.trans ?_ hb2 | with_reducible refine Grow.G.trans ?_ hb1 | ((with_reducible refine Below.setCell ?_ ?_ _); rotate_left; (focus (first | omega | (simp; done) | (simp; omega)))) | with_reducible assumption | with_reducible refine Grow.G.trans ?_ (by with_reducible assumption))))
      ·
        refine Evo.runs (by rfl) (by rfl) (fun K' hK' => ?_)
        go_simp
        (try (simp only [Evo.after_value, Evo.after_skip]))
        refine hK'.out _ _ ?_
        clear hK'
        simp only [Act.put, List.setIfInBounds_toArray, List.set_cons_zero, List.set_cons_succ]
        refine ⟨.inr (by (repeat (first | with_reducible exact Grow.G.refl _ | with_reducible exact Below.refl _ _ | with_reducible refine Grow.G.alloc ?_ _ | with_reducible refine Grow.G.trans ?_ hb3 | with_reducible refine Grow.G.trans ?_ hb2 | with_reducible refine Grow.G.trans ?_ hb1 | ((with_reducible refine Below.setCell ?_ ?_ _); rotate_left; (focus (first | omega | (simp; done) | (simp; omega))))))), ?_⟩
        refine Evo.all [0] (by decide +kernel) rfl ?_
        intro wn3 hb3 iq3 hq3
        have KB3 := Lib.hid (Evo.later hb3)
        have hxwn3c := (bcell hb3).1
        have hxwn3f := (bcell hb3).2.1
        have hxwn3z := (bcell hb3).2.2
        (try (have hlewn3_3 : wn2.heap.size ≤ wn3.heap.size := (by first | omega | (have hh := hxwn3z; (try simp at hh); omega))))
        (try (have hlwn3_3_0 : wn2.heap.size < wn3.heap.size := (by first | omega | (have hh := hxwn3z; (try simp at hh); omega))))
        (try (have hlwn3_3_1 : wn2.heap.size + 1 < wn3.heap.size := (by first | omega | (have hh := hxwn3z; (try simp at hh); omega))))
        (try (have hlwn3_3_2 : wn2.heap.size + 1 + 1 < wn3.heap.size := (by first | omega | (have hh := hxwn3z; (try simp at hh); omega))))
        (try (refine Evo.laterK KB1.out wn3 ?_ (fun hxwn3c1 hxwn3f1 hxwn3z1 => ?_); (focus ((repeat (first | with_reducible exact Grow.G.refl _ | with_reducible exact Below.refl _ _ | with_reducible refine Grow.G.alloc ?_ _ | with_reducible refine Grow.G.trans ?_ hb3 | with_reducible refine Grow.G.trans ?_ hb2 | with_reducible refine Grow.G.trans ?_ hb1 | ((with_reducible refine Below.setCell ?_ ?_ _); rotate_left; (focus (first | omega | (simp; done) | (simp; omega)))))); all_goals fail))))
        (try (have hlewn3_1 : w.heap.size ≤ wn3.heap.size := (by first | omega | (have hh := hxwn3z1; (try simp at hh); omega))))
        (try (have hlwn3_1_0 : w.heap.size < wn3.heap.size := (by first | omega | (have hh := hxwn3z1; (try simp at hh); omega))))
        (try (have hlwn3_1_1 : w.heap.size + 1 < wn3.heap.size := (by first | omega | (have hh := hxwn3z1; (try simp at hh); omega))))
        (try (have hlwn3_1_2 : w.heap.size + 1 + 1 < wn3.heap.size := (by first | omega | (have hh := hxwn3z1; (try simp at hh); omega))))
        (try (refine Evo.laterK KB2.out wn3 ?_ (fun hxwn3c2 hxwn3f2 hxwn3z2 => ?_); (focus ((repeat (first | with_reducible exact Grow.G.refl _ | with_reducible exact Below.refl _ _ | with_reducible refine Grow.G.alloc ?_ _ | with_reducible refine Grow.G.trans ?_ hb3 | with_reducible refine Grow.G.trans ?_ hb2 | with_reducible refine Grow.G.trans ?_ hb1 | ((with_reducible refine Below.setCell ?_ ?_ _); rotate_left; (focus (first | omega | (simp; done) | (simp; omega)))))); all_goals fail))))
        (try (have hlewn3_2 : wn1.heap.size ≤ wn3.heap.size := (by first | omega | (have hh := hxwn3z2; (try simp at hh); omega))))
        (try (have hlwn3_2_0 : wn1.heap.size < wn3.heap.size := (by first | omega | (have hh := hxwn3z2; (try simp at hh); omega))))
        (try (have hlwn3_2_1 : wn1.heap.size + 1 < wn3.heap.size := (by first | omega | (have hh := hxwn3z2; (try simp at hh); omega))))
        (try (have hlwn3_2_2 : wn1.heap.size + 1 + 1 < wn3.heap.size := (by first | omega | (have hh := hxwn3z2; (try simp at hh); omega))))
        simp only [List.mem_cons, List.mem_nil_iff, or_false] at hq3
        subst hq3
        refine Evo.runs (by rfl) (by rfl) (fun K' hK' => ?_)
        go_simp
        (try (simp only [Evo.after_value, Evo.after_skip]))
        refine hK'.out _ _ ?_
        clear hK'
        simp only [Act.put, List.setIfInBounds_toArray, List.set_cons_zero, List.set_cons_succ]
        refine ⟨.inr (by (repeat (first | with_reducible exact Grow.G.refl _ | with_reducible exact Below.refl _ _ | with_reducible refine Grow.G.alloc ?_ _ | with_reducible refine Grow.G.trans ?_ hb4 | with_reducible refine Grow.G.trans ?_ hb3 | with_reducible refine Grow.G.trans ?_ hb2 | with_reducible refine Grow.G.trans ?_ hb1 | ((with_reducible refine Below.setCell ?_ ?_ _); rotate_left; (focus (first | omega | (simp; done) | (simp; omega))))))), ?_⟩
        first | (refine Evo.value ok 3 ?_ (by rfl) (by decide +kernel) (by rfl) ?_ ?_; rotate_left; (intro w' hg; go_simp <;> with_reducible rfl); simp only [Act.put, List.setIfInBounds_toArray, List.set_cons_zero, List.set_cons_succ]) | (refine Evo.value ok 3 ?_ (by rfl) (by decide +kernel) (by rfl) ?_ ?_; rotate_left; (intro w' hg; go_simp; rw [if_neg (by omega)]); simp only [Act.put, List.setIfInBounds_toArray, List.set_cons_zero, List.set_cons_succ])
        first | (refine Evo.value ok 4 ?_ (by rfl) (by decide +kernel) (by rfl) ?_ ?_; rotate_left; (intro w' hg; have hgc := (bcell hg).1; have hgf := (bcell hg).2.1; (try (have hlew_4 : wn3.heap.size ≤ w'.heap.size := (by first | omega | (have hh := (bcell hg).2.2; (try simp at hh); omega)))); (try (have hlw_4_0 : wn3.heap.size < w'.heap.size := (by first | omega | (have hh := (bcell hg).2.2; (try simp at hh); omega)))); (try (have hlw_4_1 : wn3.heap.size + 1 < w'.heap.size := (by first | omega | (have hh := (bcell hg).2.2; (try simp at hh); omega)))); (try (have hlw_4_2 : wn3.heap.size + 1 + 1 < w'.heap.size := (by first | omega | (have hh := (bcell hg).2.2; (try simp at hh); omega)))); (try (refine Evo.laterK KB1.out w' ?_ (fun hxwc1 hxwf1 hxwz1 => ?_); (focus ((repeat (first | with_reducible exact Grow.G.refl _ | with_reducible exact Below.refl _ _ | with_reducible refine Grow.G.alloc ?_ _ | with_reducible refine Grow.G.trans ?_ hb4 | with_reducible refine Grow.G.trans ?_ hb3 | with_reducible refine Grow.G.trans ?_ hb2 | with_reducible refine Grow.G.trans ?_ hb1 | ((with_reducible refine Below.setCell ?_ ?_ _); rotate_left; (focus (first | omega | (simp; done) | (simp; omega)))))); all_goals fail)))); (try (have hlew_1 : w.heap.size ≤ w'.heap.size := (by first | omega | (have hh := hxwz1; (try simp at hh); omega)))); (try (have hlw_1_0 : w.heap.size < w'.heap.size := (by first | omega | (have hh := hxwz1; (try simp at hh); omega)))); (try (have hlw_1_1 : w.heap.size + 1 < w'.heap.size := (by first | omega | (have hh := hxwz1; (try simp at hh); omega)))); (try (have hlw_1_2 : w.heap.size + 1 + 1 < w'.heap.size := (by first | omega | (have hh := hxwz1; (try simp at hh); omega)))); (try (refine Evo.laterK KB2.out w' ?_ (fun hxwc2 hxwf2 hxwz2 => ?_); (focus ((repeat (first | with_reducible exact Grow.G.refl _ | with_reducible exact Below.refl _ _ | with_reducible refine Grow.G.alloc ?_ _ | with_reducible refine Grow.G.trans ?_ hb4 | with_reducible refine Grow.G.trans ?_ hb3 | with_reducible refine Grow.G.trans ?_ hb2 | with_reducible refine Grow.G.trans ?_ hb1 | ((with_reducible refine Below.setCell ?_ ?_ _); rotate_left; (focus (first | omega | (simp; done) | (simp; omega)))))); all_goals fail)))); (try (have hlew_2 : wn1.heap.size ≤ w'.heap.size := (by first | omega | (have hh := hxwz2; (try simp at hh); omega)))); (try (have hlw_2_0 : wn1.heap.size < w'.heap.size := (by first | omega | (have hh := hxwz2; (try simp at hh); omega)))); (try (have hlw_2_1 : wn1.heap.size + 1 < w'.heap.size := (by first | omega | (have hh := hxwz2; (try simp at hh); omega)))); (try (have hlw_2_2 : wn1.heap.size + 1 + 1 < w'.heap.size := (by first | omega | (have hh := hxwz2; (try simp at hh); omega)))); (try (refine Evo.laterK KB3.out w' ?_ (fun hxwc3 hxwf3 hxwz3 => ?_); (focus ((repeat (first | with_reducible exact Grow.G.refl _ | with_reducible exact Below.refl _ _ | with_reducible refine Grow.G.alloc ?_ _ | with_reducible refine Grow.G.trans ?_ hb4 | with_reducible refine Grow.G.trans ?_ hb3 | with_reducible refine Grow.G.trans ?_ hb2 | with_reducible refine Grow.G.trans ?_ hb1 | ((with_reducible refine Below.setCell ?_ ?_ _); rotate_left; (focus (first | omega | (simp; done) | (simp; omega)))))); all_goals fail)))); (try (have hlew_3 : wn2.heap.size ≤ w'.heap.size := (by first | omega | (have hh := hxwz3; (try simp at hh); omega)))); (try (have hlw_3_0 : wn2.heap.size < w'.heap.size := (by first | omega | (have hh := hxwz3; (try simp at hh); omega)))); (try (have hlw_3_1 : wn2.heap.size + 1 < w'.heap.size := (by first | omega | (have hh := hxwz3; (try simp at hh); omega)))); (try (have hlw_3_2 : wn2.heap.size + 1 + 1 < w'.heap.size := (by first | omega | (have hh := hxwz3; (try simp at hh); omega)))); go_simp <;> with_reducible rfl); simp only [Act.put, List.setIfInBounds_toArray, List.set_cons_zero, List.set_cons_succ]) | (refine Evo.value ok 4 ?_ (by rfl) (by decide +kernel) (by rfl) ?_ ?_; rotate_left; (intro w' hg; go_simp <;> with_reducible rfl); simp only [Act.put, List.setIfInBounds_toArray, List.set_cons_zero, List.set_cons_succ])
        first | (refine Evo.value ok 13 ?_ (by rfl) (by decide +kernel) (by rfl) ?_ ?_; rotate_left; (intro w' hg; go_simp <;> with_reducible rfl); simp only [Act.put, List.setIfInBounds_toArray, List.set_cons_zero, List.set_cons_succ]) | (refine Evo.value ok 13 ?_ (by rfl) (by decide +kernel) (by rfl) ?_ ?_; rotate_left; (intro w' hg; go_simp; rw [if_neg (by omega)]); simp only [Act.put, List.setIfInBounds_toArray, List.set_cons_zero, List.set_cons_succ])
        refine Evo.all [15] (by decide +kernel) rfl ?_
        intro wn4 hb4 iq4 hq4
        have KB4 := Lib.hid (Evo.later hb4)
        have hxwn4c := (bcell hb4).1
        have hxwn4f := (bcell hb4).2.1
        have hxwn4z := (bcell hb4).2.2
        (try (have hlewn4_4 : wn3.heap.size ≤ wn4.heap.size := (by first | omega | (have hh := hxwn4z; (try simp at hh); omega))))
        (try (have hlwn4_4_0 : wn3.heap.size < wn4.heap.size := (by first | omega | (have hh := hxwn4z; (try simp at hh); omega))))
        (try (have hlwn4_4_1 : wn3.heap.size + 1 < wn4.heap.size := (by first | omega | (have hh := hxwn4z; (try simp at hh); omega))))
        (try (have hlwn4_4_2 : wn3.heap.size + 1 + 1 < wn4.heap.size := (by first | omega | (have hh := hxwn4z; (try simp at hh); omega))))
        (try (refine Evo.laterK KB1.out wn4 ?_ (fun hxwn4c1 hxwn4f1 hxwn4z1 => ?_); (focus ((repeat (first | with_reducible exact Grow.G.refl _ | with_reducible exact Below.refl _ _ | with_reducible refine Grow.G.alloc ?_ _ | with_reducible refine Grow.G.trans ?_ hb4 | with_reducible refine Grow.G.trans ?_ hb3 | with_reducible refine Grow.G.trans ?_ hb2 | with_reducible refine Grow.G.trans ?_ hb1 | ((with_reducible refine Below.setCell ?_ ?_ _); rotate_left; (focus (first | omega | (simp; done) | (simp; omega)))))); all_goals fail))))
        (try (have hlewn4_1 : w.heap.size ≤ wn4.heap.size := (by first | omega | (have hh := hxwn4z1; (try simp at hh); omega))))
        (try (have hlwn4_1_0 : w.heap.size < wn4.heap.size := (by first | omega | (have hh := hxwn4z1; (try simp at hh); omega))))
        (try (have hlwn4_1_1 : w.heap.size + 1 < wn4.heap.size := (by first | omega | (have hh := hxwn4z1; (try simp at hh); omega))))
        (try (have hlwn4_1_2 : w.heap.size + 1 + 1 < wn4.heap.size := (by first | omega | (have hh := hxwn4z1; (try simp at hh); omega))))
        (try (refine Evo.laterK KB2.out wn4 ?_ (fun hxwn4c2 hxwn4f2 hxwn4z2 => ?_); (focus ((repeat (first | with_reducible exact Grow.G.refl _ | with_reducible exact Below.refl _ _ | with_reducible refine Grow.G.alloc ?_ _ | with_reducible refine Grow.G.trans ?_ hb4 | with_reducible refine Grow.G.trans ?_ hb3 | with_reducible refine Grow.G.trans ?_ hb2 | with_reducible refine Grow.G.trans ?_ hb1 | ((with_reducible refine Below.setCell ?_ ?_ _); rotate_left; (focus (first | omega | (simp; done) | (simp; omega)))))); all_goals fail))))
        (try (have hlewn4_2 : wn1.heap.size ≤ wn4.heap.size := (by first | omega | (have hh := hxwn4z2; (try simp at hh); omega))))
        (try (have hlwn4_2_0 : wn1.heap.size < wn4.heap.size := (by first | omega | (have hh := hxwn4z2; (try simp at hh); omega))))
        (try (have hlwn4_2_1 : wn1.heap.size + 1 < wn4.heap.size := (by first | omega | (have hh := hxwn4z2; (try simp at hh); omega))))
        (try (have hlwn4_2_2 : wn1.heap.size + 1 + 1 < wn4.heap.size := (by first | omega | (have hh := hxwn4z2; (try simp at hh); omega))))
        (try (refine Evo.laterK KB3.out wn4 ?_ (fun hxwn4c3 hxwn4f3 hxwn4z3 => ?_); (focus ((repeat (first | with_reducible exact Grow.G.refl _ | with_reducible exact Below.refl _ _ | with_reducible refine Grow.G.alloc ?_ _ | with_reducible refine Grow.G.trans ?_ hb4 | with_reducible refine Grow.G.trans ?_ hb3 | with_reducible refine Grow.G.trans ?_ hb2 | with_reducible refine Grow.G.trans ?_ hb1 | ((with_reducible refine Below.setCell ?_ ?_ _); rotate_left; (focus (first | omega | (simp; done) | (simp; omega)))))); all_goals fail))))
        (try (have hlewn4_3 : wn2.heap.size ≤ wn4.heap.size := (by first | omega | (have hh := hxwn4z3; (try simp at hh); omega))))
        (try (have hlwn4_3_0 : wn2.heap.size < wn4.heap.size := (by first | omega | (have hh := hxwn4z3; (try simp at hh); omega))))
        (try (have hlwn4_3_1 : wn2.heap.size + 1 < wn4.heap.size := (by first | omega | (have hh := hxwn4z3; (try simp at hh); omega))))
        (try (have hlwn4_3_2 : wn2.heap.size + 1 + 1 < wn4.heap.size := (by first | omega | (have hh := hxwn4z3; (try simp at hh); omega))))
        simp only [List.mem_cons, List.mem_nil_iff, or_false] at hq4
        subst hq4
        refine Evo.runs (by rfl) (by rfl) (fun K' hK' => ?_)
        go_simp
        (try (simp only [Evo.after_value, Evo.after_skip]))
        refine hK'.out _ _ ?_
        clear hK'
        simp only [Act.put, List.setIfInBounds_toArray, List.set_cons_zero, List.set_cons_succ]
        refine ⟨.inl (by first | rfl | trivial), ?_⟩
        refine Evo.done (by decide +kernel) (fun wn5 hb5 => ?_)
        (have q1 := (bcell hb5).1; have q2 := (bcell hb5).2.1; have q3 := hb5.size; go_wp2_with fail; go_meet; refine ⟨_, rfl, ?_, ?_, ?_, ?_, ?_, ?_, ?_, ?_⟩; (focus omega); (focus (simp at q3; omega)); (focus go_simp); (focus go_simp); (focus go_simp); (focus go_simp); (focus go_simp); (repeat (first | with_reducible exact Grow.G.refl _ | with_reducible exact Below.refl _ _ | with_reducible refine Grow.G.alloc ?_ _ | with_reducible refine Grow.G.trans ?_ hb5 | with_reducible refine Grow.G.trans ?_ hb4 | with_reducible refine Grow.G.trans ?_ hb3 | with_reducible refine Grow.G.trans ?_ hb2 | with_reducible refine Grow.G.trans ?_ hb1 | ((with_reducible refine Below.setCell ?_ ?_ _); rotate_left; (focus (first | omega | (simp; done) | (simp; omega)))) | with_reducible assumption | with_reducible refine Grow.G.trans ?_ (by with_reducible assumption))))
    ·
      refine Evo.runs (by rfl) (by rfl) (fun K' hK' => ?_)
      go_simp
      (try (simp only [Evo.after_value, Evo.after_skip]))
      refine hK'.out _ _ ?_
      clear hK'
      simp only [Act.put, List.setIfInBounds_toArray, List.set_cons_zero, List.set_cons_succ]
      refine ⟨.inr (by (repeat (first | with_reducible exact Grow.G.refl _ | with_reducible exact Below.refl _ _ | with_reducible refine Grow.G.alloc ?_ _ | with_reducible refine Grow.G.trans ?_ hb2 | with_reducible refine Grow.G.trans ?_ hb1 | ((with_reducible refine Below.setCell ?_ ?_ _); rotate_left; (focus (first | omega | (simp; done) | (simp; omega))))))), ?_⟩
      refine Evo.all [0, 5] (by decide +kernel) rfl ?_
      intro wn2 hb2 iq2 hq2
      have KB2 := Lib.hid (Evo.later hb2)
      have hxwn2c := (bcell hb2).1
      have hxwn2f := (bcell hb2).2.1
      have hxwn2z := (bcell hb2).2.2
      (try (have hlewn2_2 : wn1.heap.size ≤ wn2.heap.size := (by first | omega | (have hh := hxwn2z; (try simp at hh); omega))))
      (try (have hlwn2_2_0 : wn1.heap.size < wn2.heap.size := (by first | omega | (have hh := hxwn2z; (try simp at hh); omega))))
      (try (have hlwn2_2_1 : wn1.heap.size + 1 < wn2.heap.size := (by first | omega | (have hh := hxwn2z; (try simp at hh); omega))))
      (try (have hlwn2_2_2 : wn1.heap.size + 1 + 1 < wn2.heap.size := (by first | omega | (have hh := hxwn2z; (try simp at hh); omega))))
      (try (refine Evo.laterK KB1.out wn2 ?_ (fun hxwn2c1 hxwn2f1 hxwn2z1 => ?_); (focus ((repeat (first | with_reducible exact Grow.G.refl _ | with_reducible exact Below.refl _ _ | with_reducible refine Grow.G.alloc ?_ _ | with_reducible refine Grow.G.trans ?_ hb2 | with_reducible refine Grow.G.trans ?_ hb1 | ((with_reducible refine Below.setCell ?_ ?_ _); rotate_left; (focus (first | omega | (simp; done) | (simp; omega)))))); all_goals fail))))
      (try (have hlewn2_1 : w.heap.size ≤ wn2.heap.size := (by first | omega | (have hh := hxwn2z1; (try simp at hh); omega))))
      (try (have hlwn2_1_0 : w.heap.size < wn2.heap.size := (by first | omega | (have hh := hxwn2z1; (try simp at hh); omega))))
      (try (have hlwn2_1_1 : w.heap.size + 1 < wn2.heap.size := (by first | omega | (have hh := hxwn2z1; (try simp at hh); omega))))
      (try (have hlwn2_1_2 : w.heap.size + 1 + 1 < wn2.heap.size := (by first | omega | (have hh := hxwn2z1; (try simp at hh); omega))))
      simp only [List.mem_cons, List.mem_nil_iff, or_false] at hq2
      rcases hq2 with rfl | rfl
      ·
        refine Evo.runs (by rfl) (by rfl) (fun K' hK' => ?_)
        go_simp
        (try (simp only [Evo.after_value, Evo.after_skip]))
        refine hK'.out _ _ ?_
        clear hK'
        simp only [Act.put, List.setIfInBounds_toArray, List.set_cons_zero, List.set_cons_succ]
        refine ⟨.inr (by (repeat (first | with_reducible exact Grow.G.refl _ | with_reducible exact Below.refl _ _ | with_reducible refine Grow.G.alloc ?_ _ | with_reducible refine Grow.G.trans ?_ hb3 | with_reducible refine Grow.G.trans ?_ hb2 | with_reducible refine Grow.G.trans ?_ hb1 | ((with_reducible refine Below.setCell ?_ ?_ _); rotate_left; (focus (first | omega | (simp; done) | (simp; omega))))))), ?_⟩
        first | (refine Evo.value ok 3 ?_ (by rfl) (by decide +kernel) (by rfl) ?_ ?_; rotate_left; (intro w' hg; go_simp <;> with_reducible rfl); simp only [Act.put, List.setIfInBounds_toArray, List.set_cons_zero, List.set_cons_succ]) | (refine Evo.value ok 3 ?_ (by rfl) (by decide +kernel) (by rfl) ?_ ?_; rotate_left; (intro w' hg; go_simp; rw [if_neg (by omega)]); simp only [Act.put, List.setIfInBounds_toArray, List.set_cons_zero, List.set_cons_succ])
        first | (refine Evo.value ok 4 ?_ (by rfl) (by decide +kernel) (by rfl) ?_ ?_; rotate_left; (intro w' hg; have hgc := (bcell hg).1; have hgf := (bcell hg).2.1; (try (have hlew_3 : wn2.heap.size ≤ w'.heap.size := (by first | omega | (have hh := (bcell hg).2.2; (try simp at hh); omega)))); (try (have hlw_3_0 : wn2.heap.size < w'.heap.size := (by first | omega | (have hh := (bcell hg).2.2; (try simp at hh); omega)))); (try (have hlw_3_1 : wn2.heap.size + 1 < w'.heap.size := (by first | omega | (have hh := (bcell hg).2.2; (try simp at hh); omega)))); (try (have hlw_3_2 : wn2.heap.size + 1 + 1 < w'.heap.size := (by first | omega | (have hh := (bcell hg).2.2; (try simp at hh); omega)))); (try (refine Evo.laterK KB1.out w' ?_ (fun hxwc1 hxwf1 hxwz1 => ?_); (focus ((repeat (first | with_reducible exact Grow.G.refl _ | with_reducible exact Below.refl _ _ | with_reducible refine Grow.G.alloc ?_ _ | with_reducible refine Grow.G.trans ?_ hb3 | with_reducible refine Grow.G.trans ?_ hb2 | with_reducible refine Grow.G.trans ?_ hb1 | ((with_reducible refine Below.setCell ?_ ?_ _); rotate_left; (focus (first | omega | (simp; done) | (simp; omega)))))); all_goals fail)))); (try (have hlew_1 : w.heap.size ≤ w'.heap.size := (by first | omega | (have hh := hxwz1; (try simp at hh); omega)))); (try (have hlw_1_0 : w.heap.size < w'.heap.size := (by first | omega | (have hh := hxwz1; (try simp at hh); omega)))); (try (have hlw_1_1 : w.heap.size + 1 < w'.heap.size := (by first | omega | (have hh := hxwz1; (try simp at hh); omega)))); (try (have hlw_1_2 : w.heap.size + 1 + 1 < w'.heap.size := (by first | omega | (have hh := hxwz1; (try simp at hh); omega)))); (try (refine Evo.laterK KB2.out w' ?_ (fun hxwc2 hxwf2 hxwz2 => ?_); (focus ((repeat (first | with_reducible exact Grow.G.refl _ | with_reducible exact Below.refl _ _ | with_reducible refine Grow.G.alloc ?_ _ | with_reducible refine Grow.G.trans ?_ hb3 | with_reducible refine Grow.G.trans ?_ hb2 | with_reducible refine Grow.G.trans ?_ hb1 | ((with_reducible refine Below.setCell ?_ ?_ _); rotate_left; (focus (first | omega | (simp; done) | (simp; omega)))))); all_goals fail)))); (try (have hlew_2 : wn1.heap.size ≤ w'.heap.size := (by first | omega | (have hh := hxwz2; (try simp at hh); omega)))); (try (have hlw_2_0 : wn1.heap.size < w'.heap.size := (by first | omega | (have hh := hxwz2; (try simp at hh); omega)))); (try (have hlw_2_1 : wn1.heap.size + 1 < w'.heap.size := (by first | omega | (have hh := hxwz2; (try simp at hh); omega)))); (try (have hlw_2_2 : wn1.heap.size + 1 + 1 < w'.heap.size := (by first | omega | (have hh := hxwz2; (try simp at hh); omega)))); go_simp <;> with_reducible rfl); simp only [Act.put, List.setIfInBounds_toArray, List.set_cons_zero, List.set_cons_succ]) | (refine Evo.value ok 4 ?_ (by rfl) (by decide +kernel) (by rfl) ?_ ?_; rotate_left; (intro w' hg; go_simp <;> with_reducible rfl); simp only [Act.put, List.setIfInBounds_toArray, List.set_cons_zero, List.set_cons_succ])
        refine Evo.all [5] (by decide +kernel) rfl ?_
        intro wn3 hb3 iq3 hq3
        have KB3 := Lib.hid (Evo.later hb3)
        have hxwn3c := (bcell hb3).1
        have hxwn3f := (bcell hb3).2.1
        have hxwn3z := (bcell hb3).2.2
        (try (have hlewn3_3 : wn2.heap.size ≤ wn3.heap.size := (by first | omega | (have hh := hxwn3z; (try simp at hh); omega))))
        (try (have hlwn3_3_0 : wn2.heap.size < wn3.heap.size := (by first | omega | (have hh := hxwn3z; (try simp at hh); omega))))
        (try (have hlwn3_3_1 : wn2.heap.size + 1 < wn3.heap.size := (by first | omega | (have hh := hxwn3z; (try simp at hh); omega))))
        (try (have hlwn3_3_2 : wn2.heap.size + 1 + 1 < wn3.heap.size := (by first | omega | (have hh := hxwn3z; (try simp at hh); omega))))
        (try (refine Evo.laterK KB1.out wn3 ?_ (fun hxwn3c1 hxwn3f1 hxwn3z1 => ?_); (focus ((repeat (first | with_reducible exact Grow.G.refl _ | with_reducible exact Below.refl _ _ | with_reducible refine Grow.G.alloc ?_ _ | with_reducible refine Grow.G.trans ?_ hb3 | with_reducible refine Grow.G.trans ?_ hb2 | with_reducible refine Grow.G.trans ?_ hb1 | ((with_reducible refine Below.setCell ?_ ?_ _); rotate_left; (focus (first | omega | (simp; done) | (simp; omega)))))); all_goals fail))))
        (try (have hlewn3_1 : w.heap.size ≤ wn3.heap.size := (by first | omega | (have hh := hxwn3z1; (try simp at hh); omega))))
        (try (have hlwn3_1_0 : w.heap.size < wn3.heap.size := (by first | omega | (have hh := hxwn3z1; (try simp at hh); omega))))
        (try (have hlwn3_1_1 : w.heap.size + 1 < wn3.heap.size := (by first | omega | (have hh := hxwn3z1; (try simp at hh); omega))))
        (try (have hlwn3_1_2 : w.heap.size + 1 + 1 < wn3.heap.size := (by first | omega | (have hh := hxwn3z1; (try simp at hh); omega))))
        (try (refine Evo.laterK KB2.out wn3 ?_ (fun hxwn3c2 hxwn3f2 hxwn3z2 => ?_); (focus ((repeat (first | with_reducible exact Grow.G.refl _ | with_reducible exact Below.refl _ _ | with_reducible refine Grow.G.alloc ?_ _ | with_reducible refine Grow.G.trans ?_ hb3 | with_reducible refine Grow.G.trans ?_ hb2 | with_reducible refine Grow.G.trans ?_ hb1 | ((with_reducible refine Below.setCell ?_ ?_ _); rotate_left; (focus (first | omega | (simp; done) | (simp; omega)))))); all_goals fail))))
        (try (have hlewn3_2 : wn1.heap.size ≤ wn3.heap.size := (by first | omega | (have hh := hxwn3z2; (try simp at hh); omega))))
        (try (have hlwn3_2_0 : wn1.heap.size < wn3.heap.size := (by first | omega | (have hh := hxwn3z2; (try simp at hh); omega))))
        (try (have hlwn3_2_1 : wn1.heap.size + 1 < wn3.heap.size := (by first | omega | (have hh := hxwn3z2; (try simp at hh); omega))))
        (try (have hlwn3_2_2 : wn1.heap.size + 1 + 1 < wn3.heap.size := (by first | omega | (have hh := hxwn3z2; (try simp at hh); omega))))
        simp only [List.mem_cons, List.mem_nil_iff, or_false] at hq3
        subst hq3
        refine Evo.runs (by rfl) (by rfl) (fun K' hK' => ?_)
        go_simp
        (try (simp only [Evo.after_value, Evo.after_skip]))
        refine hK'.out _ _ ?_
        clear hK'
        simp only [Act.put, List.setIfInBounds_toArray, List.set_cons_zero, List.set_cons_succ]
        refine ⟨.inr (by (repeat (first | with_reducible exact Grow.G.refl _ | with_reducible exact Below.refl _ _ | with_reducible refine Grow.G.alloc ?_ _ | with_reducible refine Grow.G.trans ?_ hb4 | with_reducible refine Grow.G.trans ?_ hb3 | with_reducible refine Grow.G.trans ?_ hb2 | with_reducible refine Grow.G.trans ?_ hb1 | ((with_reducible refine Below.setCell ?_ ?_ _); rotate_left; (focus (first | omega | (simp; done) | (simp; omega))))))), ?_⟩
        first | (refine Evo.value ok 9 ?_ (by rfl) (by decide +kernel) (by rfl) ?_ ?_; rotate_left; (intro w' hg; go_simp <;> with_reducible rfl); simp only [Act.put, List.setIfInBounds_toArray, List.set_cons_zero, List.set_cons_succ]) | (refine Evo.value ok 9 ?_ (by rfl) (by decide +kernel) (by rfl) ?_ ?_; rotate_left; (intro w' hg; go_simp; rw [if_neg (by omega)]); simp only [Act.put, List.setIfInBounds_toArray, List.set_cons_zero, List.set_cons_succ])
        first | (refine Evo.value ok 10 ?_ (by rfl) (by decide +kernel) (by rfl) ?_ ?_; rotate_left; (intro w' hg; have hgc := (bcell hg).1; have hgf := (bcell hg).2.1; (try (have hlew_4 : wn3.heap.size ≤ w'.heap.size := (by first | omega | (have hh := (bcell hg).2.2; (try simp at hh); omega)))); (try (have hlw_4_0 : wn3.heap.size < w'.heap.size := (by first | omega | (have hh := (bcell hg).2.2; (try simp at hh); omega)))); (try (have hlw_4_1 : wn3.heap.size + 1 < w'.heap.size := (by first | omega | (have hh := (bcell hg).2.2; (try simp at hh); omega)))); (try (have hlw_4_2 : wn3.heap.size + 1 + 1 < w'.heap.size := (by first | omega | (have hh := (bcell hg).2.2; (try simp at hh); omega)))); (try (refine Evo.laterK KB1.out w' ?_ (fun hxwc1 hxwf1 hxwz1 => ?_); (focus ((repeat (first | with_reducible exact Grow.G.refl _ | with_reducible exact Below.refl _ _ | with_reducible refine Grow.G.alloc ?_ _ | with_reducible refine Grow.G.trans ?_ hb4 | with_reducible refine Grow.G.trans ?_ hb3 | with_reducible refine Grow.G.trans ?_ hb2 | with_reducible refine Grow.G.trans ?_ hb1 | ((with_reducible refine Below.setCell ?_ ?_ _); rotate_left; (focus (first | omega | (simp; done) | (simp; omega)))))); all_goals fail)))); (try (have hlew_1 : w.heap.size ≤ w'.heap.size := (by first | omega | (have hh := hxwz1; (try simp at hh); omega)))); (try (have hlw_1_0 : w.heap.size < w'.heap.size := (by first | omega | (have hh := hxwz1; (try simp at hh); omega)))); (try (have hlw_1_1 : w.heap.size + 1 < w'.heap.size := (by first | omega | (have hh := hxwz1; (try simp at hh); omega)))); (try (have hlw_1_2 : w.heap.size + 1 + 1 < w'.heap.size := (by first | omega | (have hh := hxwz1; (try simp at hh); omega)))); (try (refine Evo.laterK KB2.out w' ?_ (fun hxwc2 hxwf2 hxwz2 => ?_); (focus ((repeat (first | with_reducible exact Grow.G.refl _ | with_reducible exact Below.refl _ _ | with_reducible refine Grow.G.alloc ?_ _ | with_reducible refine Grow.G.trans ?_ hb4 | with_reducible refine Grow.G.trans ?_ hb3 | with_reducible refine Grow.G.trans ?_ hb2 | with_reducible refine Grow.G.trans ?_ hb1 | ((with_reducible refine Below.setCell ?_ ?_ _); rotate_left; (focus (first | omega | (simp; done) | (simp; omega)))))); all_goals fail)))); (try (have hlew_2 : wn1.heap.size ≤ w'.heap.size := (by first | omega | (have hh := hxwz2; (try simp at hh); omega)))); (try (have hlw_2_0 : wn1.heap.size < w'.heap.size := (by first | omega | (have hh := hxwz2; (try simp at hh); omega)))); (try (have hlw_2_1 : wn1.heap.size + 1 < w'.heap.size := (by first | omega | (have hh := hxwz2; (try simp at hh); omega)))); (try (have hlw_2_2 : wn1.heap.size + 1 + 1 < w'.heap.size := (by first | omega | (have hh := hxwz2; (try simp at hh); omega)))); (try (refine Evo.laterK KB3.out w' ?_ (fun hxwc3 hxwf3 hxwz3 => ?_); (focus ((repeat (first | with_reducible exact Grow.G.refl _ | with_reducible exact Below.refl _ _ | with_reducible refine Grow.G.alloc ?_ _ | with_reducible refine Grow.G.trans ?_ hb4 | with_reducible refine Grow.G.trans ?_ hb3 | with_reducible refine Grow.G.trans ?_ hb2 | with_reducible refine Grow.G.trans ?_ hb1 | ((with_reducible refine Below.setCell ?_ ?_ _); rotate_left; (focus (first | omega | (simp; done) | (simp; omega)))))); all_goals fail)))); (try (have hlew_3 : wn2.heap.size ≤ w'.heap.size := (by first | omega | (have hh := hxwz3; (try simp at hh); omega)))); (try (have hlw_3_0 : wn2.heap.size < w'.heap.size := (by first | omega | (have hh := hxwz3; (try simp at hh); omega)))); (try (have hlw_3_1 : wn2.heap.size + 1 < w'.heap.size := (by first | omega | (have hh := hxwz3; (try simp at hh); omega)))); (try (have hlw_3_2 : wn2.heap.size + 1 + 1 < w'.heap.size := (by first | omega | (have hh := hxwz3; (try simp at hh); omega)))); go_simp <;> with_reducible rfl); simp only [Act.put, List.setIfInBounds_toArray, List.set_cons_zero, List.set_cons_succ]) | (refine Evo.value ok 10 ?_ (by rfl) (by decide +kernel) (by rfl) ?_ ?_; rotate_left; (intro w' hg; go_simp <;> with_reducible rfl); simp only [Act.put, List.setIfInBounds_toArray, List.set_cons_zero, List.set_cons_succ])
        first | (refine Evo.value ok 13 ?_ (by rfl) (by decide +kernel) (by rfl) ?_ ?_; rotate_left; (intro w' hg; go_simp <;> with_reducible rfl); simp only [Act.put, List.setIfInBounds_toArray, List.set_cons_zero, List.set_cons_succ]) | (refine Evo.value ok 13 ?_ (by rfl) (by decide +kernel) (by rfl) ?_ ?_; rotate_left; (intro w' hg; go_simp; rw [if_neg (by omega)]); simp only [Act.put, List.setIfInBounds_toArray, List.set_cons_zero, List.set_cons_succ])
        refine Evo.all [15] (by decide +kernel) rfl ?_
        intro wn4 hb4 iq4 hq4
        have KB4 := Lib.hid (Evo.later hb4)
        have hxwn4c := (bcell hb4).1
        have hxwn4f := (bcell hb4).2.1
        have hxwn4z := (bcell hb4).2.2
        (try (have hlewn4_4 : wn3.heap.size ≤ wn4.heap.size := (by first | omega | (have hh := hxwn4z; (try simp at hh); omega))))
        (try (have hlwn4_4_0 : wn3.heap.size < wn4.heap.size := (by first | omega | (have hh := hxwn4z; (try simp at hh); omega))))
        (try (have hlwn4_4_1 : wn3.heap.size + 1 < wn4.heap.size := (by first | omega | (have hh := hxwn4z; (try simp at hh); omega))))
        (try (have hlwn4_4_2 : wn3.heap.size + 1 + 1 < wn4.heap.size := (by first | omega | (have hh := hxwn4z; (try simp at hh); omega))))
        (try (refine Evo.laterK KB1.out wn4 ?_ (fun hxwn4c1 hxwn4f1 hxwn4z1 => ?_); (focus ((repeat (first | with_reducible exact Grow.G.refl _ | with_reducible exact Below.refl _ _ | with_reducible refine Grow.G.alloc ?_ _ | with_reducible refine Grow.G.trans ?_ hb4 | with_reducible refine Grow.G.trans ?_ hb3 | with_reducible refine Grow.G.trans ?_ hb2 | with_reducible refine Grow.G.trans ?_ hb1 | ((with_reducible refine Below.setCell ?_ ?_ _); rotate_left; (focus (first | omega | (simp; done) | (simp; omega)))))); all_goals fail))))
        (try (have hlewn4_1 : w.heap.size ≤ wn4.heap.size := (by first | omega | (have hh := hxwn4z1; (try simp at hh); omega))))
        (try (have hlwn4_1_0 : w.heap.size < wn4.heap.size := (by first | omega | (have hh := hxwn4z1; (try simp at hh); omega))))
        (try (have hlwn4_1_1 : w.heap.size + 1 < wn4.heap.size := (by first | omega | (have hh := hxwn4z1; (try simp at hh); omega))))
        (try (have hlwn4_1_2 : w.heap.size + 1 + 1 < wn4.heap.size := (by first | omega | (have hh := hxwn4z1; (try simp at hh); omega))))
        (try (refine Evo.laterK KB2.out wn4 ?_ (fun hxwn4c2 hxwn4f2 hxwn4z2 => ?_); (focus ((repeat (first | with_reducible exact Grow.G.refl _ | with_reducible exact Below.refl _ _ | with_reducible refine Grow.G.alloc ?_ _ | with_reducible refine Grow.G.trans ?_ hb4 | with_reducible refine Grow.G.trans ?_ hb3 | with_reducible refine Grow.G.trans ?_ hb2 | with_reducible refine Grow.G.trans ?_ hb1 | ((with_reducible refine Below.setCell ?_ ?_ _); rotate_left; (focus (first | omega | (simp; done) | (simp; omega)))))); all_goals fail))))
        (try (have hlewn4_2 : wn1.heap.size ≤ wn4.heap.size := (by first | omega | (have hh := hxwn4z2; (try simp at hh); omega))))
        (try (have hlwn4_2_0 : wn1.heap.size < wn4.heap.size := (by first | omega | (have hh := hxwn4z2; (try simp at hh); omega))))
        (try (have hlwn4_2_1 : wn1.heap.size + 1 < wn4.heap.size := (by first | omega | (have hh := hxwn4z2; (try simp at hh); omega))))
        (try (have hlwn4_2_2 : wn1.heap.size + 1 + 1 < wn4.heap.size := (by first | omega | (have hh := hxwn4z2; (try simp at hh); omega))))
        (try (refine Evo.laterK KB3.out wn4 ?_ (fun hxwn4c3 hxwn4f3 hxwn4z3 => ?_); (focus ((repeat (first | with_reducible exact Grow.G.refl _ | with_reducible exact Below.refl _ _ | with_reducible refine Grow.G.alloc ?_ _ | with_reducible refine Grow.G.trans ?_ hb4 | with_reducible refine Grow.G.trans ?_ hb3 | with_reducible refine Grow.G.trans ?_ hb2 | with_reducible refine Grow.G.trans ?_ hb1 | ((with_reducible refine Below.setCell ?_ ?_ _); rotate_left; (focus (first | omega | (simp; done) | (simp; omega)))))); all_goals fail))))
        (try (have hlewn4_3 : wn2.heap.size ≤ wn4.heap.size := (by first | omega | (have hh := hxwn4z3; (try simp at hh); omega))))
        (try (have hlwn4_3_0 : wn2.heap.size < wn4.heap.size := (by first | omega | (have hh := hxwn4z3; (try simp at hh); omega))))
        (try (have hlwn4_3_1 : wn2.heap.size + 1 < wn4.heap.size := (by first | omega | (have hh := hxwn4z3; (try simp at hh); omega))))
        (try (have hlwn4_3_2 : wn2.heap.size + 1 + 1 < wn4.heap.size := (by first | omega | (have hh := hxwn4z3; (try simp at hh); omega))))
        simp only [List.mem_cons, List.mem_nil_iff, or_false] at hq4
        subst hq4
        refine Evo.runs (by rfl) (by rfl) (fun K' hK' => ?_)
        go_simp
        (try (simp only [Evo.after_value, Evo.after_skip]))
        refine hK'.out _ _ ?_
        clear hK'
        simp only [Act.put, List.setIfInBounds_toArray, List.set_cons_zero, List.set_cons_succ]
        refine ⟨.inl (by first | rfl | trivial), ?_⟩
        refine Evo.done (by decide +kernel) (fun wn5 hb5 => ?_)
        (have q1 := (bcell hb5).1; have q2 := (bcell hb5).2.1; have q3 := hb5.size; go_wp2_with fail; go_meet; refine ⟨_, rfl, ?_, ?_, ?_, ?_, ?_, ?_, ?_, ?_⟩; (focus omega); (focus (simp at q3; omega)); (focus go_simp); (focus go_simp); (focus go_simp); (focus go_simp); (focus go_simp); (repeat (first | with_reducible exact Grow.G.refl _ | with_reducible exact Below.refl _ _ | with_reducible refine Grow.G.alloc ?_ _ | with_reducible refine Grow.G.trans ?_ hb5 | with_reducible refine Grow.G.trans ?_ hb4 | with_reducible refine Grow.G.trans ?_ hb3 | with_reducible refine Grow.G.trans ?_ hb2 | with_reducible refine Grow.G.trans ?_ hb1 | ((with_reducible refine Below.setCell ?_ ?_ _); rotate_left; (focus (first | omega | (simp; done) | (simp; omega)))) | with_reducible assumption | with_reducible refine Grow.G.trans ?_ (by with_reducible assumption))))
      ·
        refine Evo.runs (by rfl) (by rfl) (fun K' hK' => ?_)
        go_simp
        (try (simp only [Evo.after_value, Evo.after_skip]))
        refine hK'.out _ _ ?_
        clear hK'
        simp only [Act.put, List.setIfInBounds_toArray, List.set_cons_zero, List.set_cons_succ]
        refine ⟨.inr (by (repeat (first | with_reducible exact Grow.G.refl _ | with_reducible exact Below.refl _ _ | with_reducible refine Grow.G.alloc ?_ _ | with_reducible refine Grow.G.trans ?_ hb3 | with_reducible refine Grow.G.trans ?_ hb2 | with_reducible refine Grow.G.trans ?_ hb1 | ((with_reducible refine Below.setCell ?_ ?_ _); rotate_left; (focus (first | omega | (simp; done) | (simp; omega))))))), ?_⟩
        first | (refine Evo.value ok 9 ?_ (by rfl) (by decide +kernel) (by rfl) ?_ ?_; rotate_left; (intro w' hg; go_simp <;> with_reducible rfl); simp only [Act.put, List.setIfInBounds_toArray, List.set_cons_zero, List.set_cons_succ]) | (refine Evo.value ok 9 ?_ (by rfl) (by decide +kernel) (by rfl) ?_ ?_; rotate_left; (intro w' hg; go_simp; rw [if_neg (by omega)]); simp only [Act.put, List.setIfInBounds_toArray, List.set_cons_zero, List.set_cons_succ])
        first | (refine Evo.value ok 10 ?_ (by rfl) (by decide +kernel) (by rfl) ?_ ?_; rotate_left; (intro w' hg; have hgc := (bcell hg).1; have hgf := (bcell hg).2.1; (try (have hlew_3 : wn2.heap.size ≤ w'.heap.size := (by first | omega | (have hh := (bcell hg).2.2; (try simp at hh); omega)))); (try (have hlw_3_0 : wn2.heap.size < w'.heap.size := (by first | omega | (have hh := (bcell hg).2.2; (try simp at hh); omega)))); (try (have hlw_3_1 : wn2.heap.size + 1 < w'.heap.size := (by first | omega | (have hh := (bcell hg).2.2; (try simp at hh); omega)))); (try (have hlw_3_2 : wn2.heap.size + 1 + 1 < w'.heap.size := (by first | omega | (have hh := (bcell hg).2.2; (try simp at hh); omega)))); (try (refine Evo.laterK KB1.out w' ?_ (fun hxwc1 hxwf1 hxwz1 => ?_); (focus ((repeat (first | with_reducible exact Grow.G.refl _ | with_reducible exact Below.refl _ _ | with_reducible refine Grow.G.alloc ?_ _ | with_reducible refine Grow.G.trans ?_ hb3 | with_reducible refine Grow.G.trans ?_ hb2 | with_reducible refine Grow.G.trans ?_ hb1 | ((with_reducible refine Below.setCell ?_ ?_ _); rotate_left; (focus (first | omega | (simp; done) | (simp; omega)))))); all_goals fail)))); (try (have hlew_1 : w.heap.size ≤ w'.heap.size := (by first | omega | (have hh := hxwz1; (try simp at hh); omega)))); (try (have hlw_1_0 : w.heap.size < w'.heap.size := (by first | omega | (have hh := hxwz1; (try simp at hh); omega)))); (try (have hlw_1_1 : w.heap.size + 1 < w'.heap.size := (by first | omega | (have hh := hxwz1; (try simp at hh); omega)))); (try (have hlw_1_2 : w.heap.size + 1 + 1 < w'.heap.size := (by first | omega | (have hh := hxwz1; (try simp at hh); omega)))); (try (refine Evo.laterK KB2.out w' ?_ (fun hxwc2 hxwf2 hxwz2 => ?_); (focus ((repeat (first | with_reducible exact Grow.G.refl _ | with_reducible exact Below.refl _ _ | with_reducible refine Grow.G.alloc ?_ _ | with_reducible refine Grow.G.trans ?_ hb3 | with_reducible refine Grow.G.trans ?_ hb2 | with_reducible refine Grow.G.trans ?_ hb1 | ((with_reducible refine Below.setCell ?_ ?_ _); rotate_left; (focus (first | omega | (simp; done) | (simp; omega)))))); all_goals fail)))); (try (have hlew_2 : wn1.heap.size ≤ w'.heap.size := (by first | omega | (have hh := hxwz2; (try simp at hh); omega)))); (try (have hlw_2_0 : wn1.heap.size < w'.heap.size := (by first | omega | (have hh := hxwz2; (try simp at hh); omega)))); (try (have hlw_2_1 : wn1.heap.size + 1 < w'.heap.size := (by first | omega | (have hh := hxwz2; (try simp at hh); omega)))); (try (have hlw_2_2 : wn1.heap.size + 1 + 1 < w'.heap.size := (by first | omega | (have hh := hxwz2; (try simp at hh); omega)))); go_simp <;> with_reducible rfl); simp only [Act.put, List.setIfInBounds_toArray, List.set_cons_zero, List.set_cons_succ]) | (refine Evo.value ok 10 ?_ (by rfl) (by decide +kernel) (by rfl) ?_ ?_; rotate_left; (intro w' hg; go_simp <;> with_reducible rfl); simp only [Act.put, List.setIfInBounds_toArray, List.set_cons_zero, List.set_cons_succ])
        refine Evo.all [0] (by decide +kernel) rfl ?_
        intro wn3 hb3 iq3 hq3
        have KB3 := Lib.hid (Evo.later hb3)
        have hxwn3c := (bcell hb3).1
        have hxwn3f := (bcell hb3).2.1
        have hxwn3z := (bcell hb3).2.2
        (try (have hlewn3_3 : wn2.heap.size ≤ wn3.heap.size := (by first | omega | (have hh := hxwn3z; (try simp at hh); omega))))
        (try (have hlwn3_3_0 : wn2.heap.size < wn3.heap.size := (by first | omega | (have hh := hxwn3z; (try simp at hh); omega))))
        (try (have hlwn3_3_1 : wn2.heap.size + 1 < wn3.heap.size := (by first | omega | (have hh := hxwn3z; (try simp at hh); omega))))
        (try (have hlwn3_3_2 : wn2.heap.size + 1 + 1 < wn3.heap.size := (by first | omega | (have hh := hxwn3z; (try simp at hh); omega))))
        (try (refine Evo.laterK KB1.out wn3 ?_ (fun hxwn3c1 hxwn3f1 hxwn3z1 => ?_); (focus ((repeat (first | with_reducible exact Grow.G.refl _ | with_reducible exact Below.refl _ _ | with_reducible refine Grow.G.alloc ?_ _ | with_reducible refine Grow.G.trans ?_ hb3 | with_reducible refine Grow.G.trans ?_ hb2 | with_reducible refine Grow.G.trans ?_ hb1 | ((with_reducible refine Below.setCell ?_ ?_ _); rotate_left; (focus (first | omega | (simp; done) | (simp; omega)))))); all_goals fail))))
        (try (have hlewn3_1 : w.heap.size ≤ wn3.heap.size := (by first | omega | (have hh := hxwn3z1; (try simp at hh); omega))))
        (try (have hlwn3_1_0 : w.heap.size < wn3.heap.size := (by first | omega | (have hh := hxwn3z1; (try simp at hh); omega))))
        (try (have hlwn3_1_1 : w.heap.size + 1 < wn3.heap.size := (by first | omega | (have hh := hxwn3z1; (try simp at hh); omega))))
        (try (have hlwn3_1_2 : w.heap.size + 1 + 1 < wn3.heap.size := (by first | omega | (have hh := hxwn3z1; (try simp at hh); omega))))
        (try (refine Evo.laterK KB2.out wn3 ?_ (fun hxwn3c2 hxwn3f2 hxwn3z2 => ?_); (focus ((repeat (first | with_reducible exact Grow.G.refl _ | with_reducible exact Below.refl _ _ | with_reducible refine Grow.G.alloc ?_ _ | with_reducible refine Grow.G.trans ?_ hb3 | with_reducible refine Grow.G.trans ?_ hb2 | with_reducible refine Grow.G.trans ?_ hb1 | ((with_reducible refine Below.setCell ?_ ?_ _); rotate_left; (focus (first | omega | (simp; done) | (simp; omega)))))); all_goals fail))))
        (try (have hlewn3_2 : wn1.heap.size ≤ wn3.heap.size := (by first | omega | (have hh := hxwn3z2; (try simp at hh); omega))))
        (try (have hlwn3_2_0 : wn1.heap.size < wn3.heap.size := (by first | omega | (have hh := hxwn3z2; (try simp at hh); omega))))
        (try (have hlwn3_2_1 : wn1.heap.size + 1 < wn3.heap.size := (by first | omega | (have hh := hxwn3z2; (try simp at hh); omega))))
        (try (have hlwn3_2_2 : wn1.heap.size + 1 + 1 < wn3.heap.size := (by first | omega | (have hh := hxwn3z2; (try simp at hh); omega))))
        simp only [List.mem_cons, List.mem_nil_iff, or_false] at hq3
        subst hq3
        refine Evo.runs (by rfl) (by rfl) (fun K' hK' => ?_)
        go_simp
        (try (simp only [Evo.after_value, Evo.after_skip]))
        refine hK'.out _ _ ?_
        clear hK'
        simp only [Act.put, List.setIfInBounds_toArray, List.set_cons_zero, List.set_cons_succ]
        refine ⟨.inr (by (repeat (first | with_reducible exact Grow.G.refl _ | with_reducible exact Below.refl _ _ | with_reducible refine Grow.G.alloc ?_ _ | with_reducible refine Grow.G.trans ?_ hb4 | with_reducible refine Grow.G.trans ?_ hb3 | with_reducible refine Grow.G.trans ?_ hb2 | with_reducible refine Grow.G.trans ?_ hb1 | ((with_reducible refine Below.setCell ?_ ?_ _); rotate_left; (focus (first | omega | (simp; done) | (simp; omega))))))), ?_⟩
        first | (refine Evo.value ok 3 ?_ (by rfl) (by decide +kernel) (by rfl) ?_ ?_; rotate_left; (intro w' hg; go_simp <;> with_reducible rfl); simp only [Act.put, List.setIfInBounds_toArray, List.set_cons_zero, List.set_cons_succ]) | (refine Evo.value ok 3 ?_ (by rfl) (by decide +kernel) (by rfl) ?_ ?_; rotate_left; (intro w' hg; go_simp; rw [if_neg (by omega)]); simp only [Act.put, List.setIfInBounds_toArray, List.set_cons_zero, List.set_cons_succ])
        first | (refine Evo.value ok 4 ?_ (by rfl) (by decide +kernel) (by rfl) ?_ ?_; rotate_left; (intro w' hg; have hgc := (bcell hg).1; have hgf := (bcell hg).2.1; (try (have hlew_4 : wn3.heap.size ≤ w'.heap.size := (by first | omega | (have hh := (bcell hg).2.2; (try simp at hh); omega)))); (try (have hlw_4_0 : wn3.heap.size < w'.heap.size := (by first | omega | (have hh := (bcell hg).2.2; (try simp at hh); omega)))); (try (have hlw_4_1 : wn3.heap.size + 1 < w'.heap.size := (by first | omega | (have hh := (bcell hg).2.2; (try simp at hh); omega)))); (try (have hlw_4_2 : wn3.heap.size + 1 + 1 < w'.heap.size := (by first | omega | (have hh := (bcell hg).2.2; (try simp at hh); omega)))); (try (refine Evo.laterK KB1.out w' ?_ (fun hxwc1 hxwf1 hxwz1 => ?_); (focus ((repeat (first | with_reducible exact Grow.G.refl _ | with_reducible exact Below.refl _ _ | with_reducible refine Grow.G.alloc ?_ _ | with_reducible refine Grow.G.trans ?_ hb4 | with_reducible refine Grow.G.trans ?_ hb3 | with_reducible refine Grow.G.trans ?_ hb2 | with_reducible refine Grow.G.trans ?_ hb1 | ((with_reducible refine Below.setCell ?_ ?_ _); rotate_left; (focus (first | omega | (simp; done) | (simp; omega)))))); all_goals fail)))); (try (have hlew_1 : w.heap.size ≤ w'.heap.size := (by first | omega | (have hh := hxwz1; (try simp at hh); omega)))); (try (have hlw_1_0 : w.heap.size < w'.heap.size := (by first | omega | (have hh := hxwz1; (try simp at hh); omega)))); (try (have hlw_1_1 : w.heap.size + 1 < w'.heap.size := (by first | omega | (have hh := hxwz1; (try simp at hh); omega)))); (try (have hlw_1_2 : w.heap.size + 1 + 1 < w'.heap.size := (by first | omega | (have hh := hxwz1; (try simp at hh); omega)))); (try (refine Evo.laterK KB2.out w' ?_ (fun hxwc2 hxwf2 hxwz2 => ?_); (focus ((repeat (first | with_reducible exact Grow.G.refl _ | with_reducible exact Below.refl _ _ | with_reducible refine Grow.G.alloc ?_ _ | with_reducible refine Grow.G.trans ?_ hb4 | with_reducible refine Grow.G.trans ?_ hb3 | with_reducible refine Grow.G.trans ?_ hb2 | with_reducible refine Grow.G.trans ?_ hb1 | ((with_reducible refine Below.setCell ?_ ?_ _); rotate_left; (focus (first | omega | (simp; done) | (simp; omega)))))); all_goals fail)))); (try (have hlew_2 : wn1.heap.size ≤ w'.heap.size := (by first | omega | (have hh := hxwz2; (try simp at hh); omega)))); (try (have hlw_2_0 : wn1.heap.size < w'.heap.size := (by first | omega | (have hh := hxwz2; (try simp at hh); omega)))); (try (have hlw_2_1 : wn1.heap.size + 1 < w'.heap.size := (by first | omega | (have hh := hxwz2; (try simp at hh); omega)))); (try (have hlw_2_2 : wn1.heap.size + 1 + 1 < w'.heap.size := (by first | omega | (have hh := hxwz2; (try simp at hh); omega)))); (try (refine Evo.laterK KB3.out w' ?_ (fun hxwc3 hxwf3 hxwz3 => ?_); (focus ((repeat (first | with_reducible exact Grow.G.refl _ | with_reducible exact Below.refl _ _ | with_reducible refine Grow.G.alloc ?_ _ | with_reducible refine Grow.G.trans ?_ hb4 | with_reducible refine Grow.G.trans ?_ hb3 | with_reducible refine Grow.G.trans ?_ hb2 | with_reducible refine Grow.G.trans ?_ hb1 | ((with_reducible refine Below.setCell ?_ ?_ _); rotate_left; (focus (first | omega | (simp; done) | (simp; omega)))))); all_goals fail)))); (try (have hlew_3 : wn2.heap.size ≤ w'.heap.size := (by first | omega | (have hh := hxwz3; (try simp at hh); omega)))); (try (have hlw_3_0 : wn2.heap.size < w'.heap.size := (by first | omega | (have hh := hxwz3; (try simp at hh); omega)))); (try (have hlw_3_1 : wn2.heap.size + 1 < w'.heap.size := (by first | omega | (have hh := hxwz3; (try simp at hh); omega)))); (try (have hlw_3_2 : wn2.heap.size + 1 + 1 < w'.heap.size := (by first | omega | (have hh := hxwz3; (try simp at hh); omega)))); go_simp <;> with_reducible rfl); simp only [Act.put, List.setIfInBounds_toArray, List.set_cons_zero, List.set_cons_succ]) | (refine Evo.value ok 4 ?_ (by rfl) (by decide +kernel) (by rfl) ?_ ?_; rotate_left; (intro w' hg; go_simp <;> with_reducible rfl); simp only [Act.put, List.setIfInBounds_toArray, List.set_cons_zero, List.set_cons_succ])
        first | (refine Evo.value ok 13 ?_ (by rfl) (by decide +kernel) (by rfl) ?_ ?_; rotate_left; (intro w' hg; go_simp <;> with_reducible rfl); simp only [Act.put, List.setIfInBounds_toArray, List.set_cons_zero, List.set_cons_succ]) | (refine Evo.value ok 13 ?_ (by rfl) (by decide +kernel) (by rfl) ?_ ?_; rotate_left; (intro w' hg; go_simp; rw [if_neg (by omega)]); simp only [Act.put, List.setIfInBounds_toArray, List.set_cons_zero, List.set_cons_succ])
        refine Evo.all [15] (by decide +kernel) rfl ?_
        intro wn4 hb4 iq4 hq4
        have KB4 := Lib.hid (Evo.later hb4)
        have hxwn4c := (bcell hb4).1
        have hxwn4f := (bcell hb4).2.1
        have hxwn4z := (bcell hb4).2.2
        (try (have hlewn4_4 : wn3.heap.size ≤ wn4.heap.size := (by first | omega | (have hh := hxwn4z; (try simp at hh); omega))))
        (try (have hlwn4_4_0 : wn3.heap.size < wn4.heap.size := (by first | omega | (have hh := hxwn4z; (try simp at hh); omega))))
        (try (have hlwn4_4_1 : wn3.heap.size + 1 < wn4.heap.size := (by first | omega | (have hh := hxwn4z; (try simp at hh); omega))))
        (try (have hlwn4_4_2 : wn3.heap.size + 1 + 1 < wn4.heap.size := (by first | omega | (have hh := hxwn4z; (try simp at hh); omega))))
        (try (refine Evo.laterK KB1.out wn4 ?_ (fun hxwn4c1 hxwn4f1 hxwn4z1 => ?_); (focus ((repeat (first | with_reducible exact Grow.G.refl _ | with_reducible exact Below.refl _ _ | with_reducible refine Grow.G.alloc ?_ _ | with_reducible refine Grow.G.trans ?_ hb4 | with_reducible refine Grow.G.trans ?_ hb3 | with_reducible refine Grow.G.trans ?_ hb2 | with_reducible refine Grow.G.trans ?_ hb1 | ((with_reducible refine Below.setCell ?_ ?_ _); rotate_left; (focus (first | omega | (simp; done) | (simp; omega)))))); all_goals fail))))
        (try (have hlewn4_1 : w.heap.size ≤ wn4.heap.size := (by first | omega | (have hh := hxwn4z1; (try simp at hh); omega))))
        (try (have hlwn4_1_0 : w.heap.size < wn4.heap.size := (by first | omega | (have hh := hxwn4z1; (try simp at hh); omega))))
        (try (have hlwn4_1_1 : w.heap.size + 1 < wn4.heap.size := (by first | omega | (have hh := hxwn4z1; (try simp at hh); omega))))
        (try (have hlwn4_1_2 : w.heap.size + 1 + 1 < wn4.heap.size := (by first | omega | (have hh := hxwn4z1; (try simp at hh); omega))))
        (try (refine Evo.laterK KB2.out wn4 ?_ (fun hxwn4c2 hxwn4f2 hxwn4z2 => ?_); (focus ((repeat (first | with_reducible exact Grow.G.refl _ | with_reducible exact Below.refl _ _ | with_reducible refine Grow.G.alloc ?_ _ | with_reducible refine Grow.G.trans ?_ hb4 | with_reducible refine Grow.G.trans ?_ hb3 | with_reducible refine Grow.G.trans ?_ hb2 | with_reducible refine Grow.G.trans ?_ hb1 | ((with_reducible refine Below.setCell ?_ ?_ _); rotate_left; (focus (first | omega | (simp; done) | (simp; omega)))))); all_goals fail))))
        (try (have hlewn4_2 : wn1.heap.size ≤ wn4.heap.size := (by first | omega | (have hh := hxwn4z2; (try simp at hh); omega))))
        (try (have hlwn4_2_0 : wn1.heap.size < wn4.heap.size := (by first | omega | (have hh := hxwn4z2; (try simp at hh); omega))))
        (try (have hlwn4_2_1 : wn1.heap.size + 1 < wn4.heap.size := (by first | omega | (have hh := hxwn4z2; (try simp at hh); omega))))
        (try (have hlwn4_2_2 : wn1.heap.size + 1 + 1 < wn4.heap.size := (by first | omega | (have hh := hxwn4z2; (try simp at hh); omega))))
        (try (refine Evo.laterK KB3.out wn4 ?_ (fun hxwn4c3 hxwn4f3 hxwn4z3 => ?_); (focus ((repeat (first | with_reducible exact Grow.G.refl _ | with_reducible exact Below.refl _ _ | with_reducible refine Grow.G.alloc ?_ _ | with_reducible refine Grow.G.trans ?_ hb4 | with_reducible refine Grow.G.trans ?_ hb3 | with_reducible refine Grow.G.trans ?_ hb2 | with_reducible refine Grow.G.trans ?_ hb1 | ((with_reducible refine Below.setCell ?_ ?_ _); rotate_left; (focus (first | omega | (simp; done) | (simp; omega)))))); all_goals fail))))
        (try (have hlewn4_3 : wn2.heap.size ≤ wn4.heap.size := (by first | omega | (have hh := hxwn4z3; (try simp at hh); omega))))
        (try (have hlwn4_3_0 : wn2.heap.size < wn4.heap.size := (by first | omega | (have hh := hxwn4z3; (try simp at hh); omega))))
        (try (have hlwn4_3_1 : wn2.heap.size + 1 < wn4.heap.size := (by first | omega | (have hh := hxwn4z3; (try simp at hh); omega))))
        (try (have hlwn4_3_2 : wn2.heap.size + 1 + 1 < wn4.heap.size := (by first | omega | (have hh := hxwn4z3; (try simp at hh); omega))))
        simp only [List.mem_cons, List.mem_nil_iff, or_false] at hq4
        subst hq4
        refine Evo.runs (by rfl) (by rfl) (fun K' hK' => ?_)
        go_simp
        (try (simp only [Evo.after_value, Evo.after_skip]))
        refine hK'.out _ _ ?_
        clear hK'
        simp only [Act.put, List.setIfInBounds_toArray, List.set_cons_zero, List.set_cons_succ]
        refine ⟨.inl (by first | rfl | trivial), ?_⟩
        refine Evo.done (by decide +kernel) (fun wn5 hb5 => ?_)
        (have q1 := (bcell hb5).1; have q2 := (bcell hb5).2.1; have q3 := hb5.size; go_wp2_with fail; go_meet; refine ⟨_, rfl, ?_, ?_, ?_, ?_, ?_, ?_, ?_, ?_⟩; (focus omega); (focus (simp at q3; omega)); (focus go_simp); (focus go_simp); (focus go_simp); (focus go_simp); (focus go_simp); (repeat (first | with_reducible exact Grow.G.refl _ | with_reducible exact Below.refl _ _ | with_reducible refine Grow.G.alloc ?_ _ | with_reducible refine Grow.G.trans ?_ hb5 | with_reducible refine Grow.G.trans ?_ hb4 | with_reducible refine Grow.G.trans ?_ hb3 | with_reducible refine Grow.G.trans ?_ hb2 | with_reducible refine Grow.G.trans ?_ hb1 | ((with_reducible refine Below.setCell ?_ ?_ _); rotate_left; (focus (first | omega | (simp; done) | (simp; omega)))) | with_reducible assumption | with_reducible refine Grow.G.trans ?_ (by with_reducible assumption))))
  case rest =>
    obtain ⟨g, rfl, hg1, hg2, c0, c1, c2, c3, f2, hG⟩ := hcut
    have HG := Lib.hid hG
    have N6 := nT_range zs
    have NT : Hid (nT zs = if lz = 0 then 1 else 1 + (withinI (zs.getD 0 0) 6).toNat) := Lib.hid (by rw [← LZ.out]; rfl)
    clear hG at0 at1 wr3 a0 a1 a2 a3 hk0 hk1
    generalize hN : nT zs = N at *
    have HN := Lib.hid hN
    clear hN
    go_upto_if 29 with fail
    go_cut [9] (fun s9 wx => s9 = .int .i64 N ∧ wc = wx)
    case first =>
      by_cases hz0 : lz = 0
      · have e1 : Hid (N = 1) := Lib.hid (by rw [NT.out, if_pos hz0])
        have hd : ¬ 0 < lz := by omega
        clear hz0
        go_wp2_with fail
        go_meet
        exact ⟨by rw [e1.out]; rfl, rfl⟩
      · obtain ⟨b, off, rfl, hc, hw⟩ := (HZ.out.at (Grow.G.trans (Grow.G.alloc (Grow.G.refl w) _) HG.out) (show 0 < zs.length by rw [LZ.out]; omega))
        have hc : wc.cell? ⟨b, off, none⟩ = some (.int .i64 (zs.getD 0 0)) := hc
        have e1 : Hid (N = 1 + (withinI (zs.getD 0 0) 6).toNat) := Lib.hid (by rw [NT.out, if_neg hz0])
        have hd : 0 < lz := by omega
        have W6 := Lib.hid (fun w => within2_any (zs.getD 0 0) 6 w (by omega) (by omega) hw.1 hw.2)
        have r6 := withinI_range (zs.getD 0 0) 6 (by omega)
        generalize zs.getD 0 0 = z at *
        generalize withinI z 6 = q at *
        clear hz0
        go_wp2_with fail
        refine (W6.out _).mono ?_
        rintro e wx ⟨rfl, rfl⟩
        go_wp2_with fail
        go_meet
        exact ⟨by rw [e1.out]; congr 1; omega, rfl⟩
    case rest =>
      obtain ⟨rfl, rfl⟩ := hcut
      go_wp2_with fail
      have hG := HG.out
      have RT := Lib.hid (show RtLoop w wc g nm cf rl (.slice none 0 0) 0 (gRun cf zs N 0).2 from ⟨c0, c1, c2, c3, f2, World.ownsRow_nil _ _ _ _, hG, hg2, hg1⟩)
      clear c0 c1 c2 c3 f2 hG HG hg2
      obtain ⟨i0, hi, hz0, hz1, hz2⟩ := info_parts infoT
      have HI := Lib.hid hi; have HZ0 := Lib.hid hz0; have HZ1 := Lib.hid hz1; have HZ2 := Lib.hid hz2
      clear hi hz0 hz1 hz2
      go_loopg [8, 10] N (fun gg s8 s10 wr => ∃ (i : Nat) (sa : Option Addr) (sc : Nat), gg = N - i ∧ i ≤ N ∧ s10 = .int .i64 i ∧ s8 = .int .i64 (gRun cf zs N i).1 ∧ RtLoop w wr g nm cf rl (.slice sa i sc) i (gRun cf zs N i).2)
      case atStart => exact ⟨0, none, 0, rfl, by omega, rfl, rfl, RT.out⟩
      case round =>
        clear RT
        obtain ⟨i, sa, sc, rfl, hiN, rfl, rfl, hR⟩ := hrel
        have R := Lib.hid hR
        have GL := gRun_left cf zs N i
        by_cases hlt : i < N
        · have GS := Lib.hid (gRun_s cf zs N i)
          have KA : Hid (kAt zs i = if i + 1 < lz then zs.getD (i + 1) 0 else i) := Lib.hid (by rw [← LZ.out]; rfl)
          have c0 := hR.c0; have c1 := hR.c1; have c2 := hR.c2; have c3 := hR.c3; have f2 := hR.f2; have hg3 := hR.lt
          clear hR
          have PC : Hid (pcOf (kAt zs i) i N (gRun cf zs N i).1 = if i + 1 = N then (gRun cf zs N i).1 else withinI (kAt zs i) ((gRun cf zs N i).1 + 1)) := Lib.hid rfl
          have KW : wf64 (kAt zs i) := by
            rw [KA.out]; split
            · exact (HZ.out.at (Grow.G.refl w) (by rw [LZ.out]; assumption)).choose_spec.choose_spec.2.2
            · exact ⟨by omega, by omega⟩
          generalize hk : kAt zs i = kk at *
          generalize (gRun cf zs N i).1 = lf at *
          have HK := Lib.hid hk
          clear hk
          go_upto_if 45 with fail
          go_cut [11] (fun s11 wx => s11 = .int .i64 kk ∧ wr = wx)
          case first =>
            by_cases hz : i + 1 < lz
            · obtain ⟨b, off, rfl, hc, hw⟩ := (HZ.out.at R.out.grow (show i + 1 < zs.length by rw [LZ.out]; exact hz))
              have e1 : Hid (kk = zs.getD (i + 1) 0) := Lib.hid (by rw [KA.out, if_pos hz])
              generalize zs.getD (i + 1) 0 = z at *
              go_wp2_with fail
              go_meet
              exact ⟨by rw [e1.out], rfl⟩
            · have e1 : Hid (kk = i) := Lib.hid (by rw [KA.out, if_neg hz])
              go_wp2_with fail
              go_meet
              exact ⟨by rw [e1.out], rfl⟩
          case rest =>
            obtain ⟨rfl, rfl⟩ := hcut
            have W1 := Lib.hid (fun w => within2_any kk (lf + 1) w (by omega) (by omega) KW.1 KW.2)
            go_upto_if 59 with (first | (go_at_call 15; (with_reducible refine (W1.out _).mono ?_); rintro e w' ⟨rfl, rfl⟩))
            go_cut [12] (fun s12 wx => s12 = .pointer (some ⟨wr.heap.size, 0, none⟩) ∧ wx = wr.alloc (.cells #[.string ⟨#[]⟩, .string ⟨#[]⟩, .int .i64 (pcOf kk i N lf)] 41))
            case first =>
              by_cases hz : i + 1 = N
              · have e1 : Hid (pcOf kk i N lf = lf) := Lib.hid (by rw [PC.out, if_pos hz])
                have hd : (i : Int) = (N : Int) - 1 := by omega
                clear hz
                go_wp2_with fail
                go_meet
                exact ⟨rfl, by rw [e1.out]⟩
              · have e1 : Hid (pcOf kk i N lf = withinI kk (lf + 1)) := Lib.hid (by rw [PC.out, if_neg hz])
                have hd : ¬ (i : Int) = (N : Int) - 1 := by omega
                clear hz
                go_wp2_with fail
                go_meet
                exact ⟨rfl, by rw [e1.out]⟩
            case rest =>
              obtain ⟨rfl, rfl⟩ := hcut
              clear W1
              have PB : 0 ≤ pcOf kk i N lf ∧ pcOf kk i N lf ≤ lf := by
                have h2 := withinI_range kk (lf + 1) (by omega)
                rw [PC.out]; split <;> omega
              generalize hP : pcOf kk i N lf = pc at *
              have k101 := tdiv_wf KW 101 (by omega)
              have k303 := tdiv_wf KW 303 (by omega)
              have k1212 := tdiv_wf KW 1212 (by omega)
              have W2 := Lib.hid (fun w => within2_any (kk.tdiv 101) 3 w (by omega) (by omega) k101.1 k101.2)
              have W3 := Lib.hid (fun w => Evo.same (within2_any (kk.tdiv 303) 4 w (by omega) (by omega) k303.1 k303.2))
              have W4 := Lib.hid (fun w => within2_any (kk.tdiv 1212) 3 w (by omega) (by omega) k1212.1 k1212.2)
              have w303 := wrap_wf k303
              have RV : Hid (rvOf cf kk = if 0 < withinI (kk.tdiv 101) 3 then cf ++ ⟨#[45]⟩ ++ byte1 (49 + (withinI (kk.tdiv 303) 4).toNat) else ⟨#[]⟩) := Lib.hid rfl
              have TV : Hid (tgOf kk i = if withinI (kk.tdiv 1212) 3 = 0 then ⟨#[116]⟩ ++ byte1 (48 + i) else ⟨#[]⟩) := Lib.hid rfl
              have r303 := withinI_range (kk.tdiv 303) 4 (by omega)
              generalize withinI (kk.tdiv 101) 3 = q101 at *
              generalize withinI (kk.tdiv 303) 4 = q303 at *
              generalize withinI (kk.tdiv 1212) 3 = q1212 at *
              have ka := k101.1; have kb := k101.2; have kc := k303.1; have kd := k303.2; have ke := k1212.1; have kf := k1212.2
              clear k101 k303 k1212
              go_upto_if 65 with (first | (go_at_call 15; (with_reducible refine (W2.out _).mono ?_); rintro e w' ⟨rfl, rfl⟩))
              go_cut [12] (fun s12 wx => s12 = .pointer (some ⟨wr.heap.size, 0, none⟩) ∧ wx.cell? ⟨wr.heap.size, 0, none⟩ = some (.string (rvOf cf kk)) ∧ wx.cell? ⟨wr.heap.size, 1, none⟩ = some (.string ⟨#[]⟩) ∧ wx.cell? ⟨wr.heap.size, 2, none⟩ = some (.int .i64 pc) ∧ wx.frozen? ⟨wr.heap.size, 1, none⟩ = false ∧ Hid (wr.heap.size < wx.heap.size) ∧ Hid (Grow.G wr wx))
              case first =>
                by_cases hz : 0 < q101
                · have e1 : Hid (rvOf cf kk = cf ++ ⟨#[45]⟩ ++ byte1 (49 + q303.toNat)) := Lib.hid (by rw [RV.out, if_pos hz])
                  have hcv := fun (w' : World) (b : Nat) (h : w'.cell? ⟨b, 0, none⟩ = some (.int .u8 (49 + q303))) => run_convert_bytes_arg (P := Try.prog) w' 51 5 Try.underlying51 Try.underlying5 b 0 1 1 [49 + q303] rfl (fun i hi => by
                    obtain rfl : i = 0 := by omega
                    exact h) 9 Try.underlying9
                  have wu : IntKind.u8.wrap (49 + q303) = 49 + q303 := by rw [IntKind.wrap_u8]; omega
                  have wi : IntKind.i64.wrap (49 + q303) = 49 + q303 := wrap_wf ⟨by omega, by omega⟩
                  have sz3 : (strOfNums [49 + q303]).size = 1 := rfl
                  have SE : Hid (strOfNums [49 + q303] = byte1 (49 + q303.toNat)) := Lib.hid (by unfold strOfNums byte1; simp only [List.map_cons, List.map_nil]; congr; omega)
                  generalize strOfNums [49 + q303] = sx at *
                  go_wp2_with fail
                  refine Evo.start' (ℓ := some 12) (T := Grow.G) (by kernel_rfl) ⟨Evo.preG, by decide +kernel, (by intro c a d v w h; cases d <;> exact h), by decide +kernel⟩ (fun ok => ?_)
                  first | (refine Evo.value ok 0 ?_ (by rfl) (by decide +kernel) (by rfl) ?_ ?_; rotate_left; (intro w' hg; go_simp <;> with_reducible rfl); simp only [Act.put, List.setIfInBounds_toArray, List.set_cons_zero, List.set_cons_succ]) | (refine Evo.value ok 0 ?_ (by rfl) (by decide +kernel) (by rfl) ?_ ?_; rotate_left; (intro w' hg; go_simp; rw [if_neg (by omega)]); simp only [Act.put, List.setIfInBounds_toArray, List.set_cons_zero, List.set_cons_succ])
                  first | (refine Evo.value ok 1 ?_ (by rfl) (by decide +kernel) (by rfl) ?_ ?_; rotate_left; (intro w' hg; have hgc := (bcell hg).1; have hgf := (bcell hg).2.1; (try (have hlew_1 : wr.heap.size ≤ w'.heap.size := (by first | omega | (have hh := (bcell hg).2.2; (try simp at hh); omega)))); (try (have hlw_1_0 : wr.heap.size < w'.heap.size := (by first | omega | (have hh := (bcell hg).2.2; (try simp at hh); omega)))); (try (have hlw_1_1 : wr.heap.size + 1 < w'.heap.size := (by first | omega | (have hh := (bcell hg).2.2; (try simp at hh); omega)))); (try (have hlw_1_2 : wr.heap.size + 1 + 1 < w'.heap.size := (by first | omega | (have hh := (bcell hg).2.2; (try simp at hh); omega)))); go_simp <;> with_reducible rfl); simp only [Act.put, List.setIfInBounds_toArray, List.set_cons_zero, List.set_cons_succ]) | (refine Evo.value ok 1 ?_ (by rfl) (by decide +kernel) (by rfl) ?_ ?_; rotate_left; (intro w' hg; go_simp <;> with_reducible rfl); simp only [Act.put, List.setIfInBounds_toArray, List.set_cons_zero, List.set_cons_succ])
                  first | (refine Evo.value ok 2 ?_ (by rfl) (by decide +kernel) (by rfl) ?_ ?_; rotate_left; (intro w' hg; go_simp <;> with_reducible rfl); simp only [Act.put, List.setIfInBounds_toArray, List.set_cons_zero, List.set_cons_succ]) | (refine Evo.value ok 2 ?_ (by rfl) (by decide +kernel) (by rfl) ?_ ?_; rotate_left; (intro w' hg; go_simp; rw [if_neg (by omega)]); simp only [Act.put, List.setIfInBounds_toArray, List.set_cons_zero, List.set_cons_succ])
                  first | (refine Evo.value ok 3 ?_ (by rfl) (by decide +kernel) (by rfl) ?_ ?_; rotate_left; (intro w' hg; go_simp <;> with_reducible rfl); simp only [Act.put, List.setIfInBounds_toArray, List.set_cons_zero, List.set_cons_succ]) | (refine Evo.value ok 3 ?_ (by rfl) (by decide +kernel) (by rfl) ?_ ?_; rotate_left; (intro w' hg; go_simp; rw [if_neg (by omega)]); simp only [Act.put, List.setIfInBounds_toArray, List.set_cons_zero, List.set_cons_succ])
                  first | (refine Evo.value ok 4 ?_ (by rfl) (by decide +kernel) (by rfl) ?_ ?_; rotate_left; (intro w' hg; go_simp <;> with_reducible rfl); simp only [Act.put, List.setIfInBounds_toArray, List.set_cons_zero, List.set_cons_succ]) | (refine Evo.value ok 4 ?_ (by rfl) (by decide +kernel) (by rfl) ?_ ?_; rotate_left; (intro w' hg; go_simp; rw [if_neg (by omega)]); simp only [Act.put, List.setIfInBounds_toArray, List.set_cons_zero, List.set_cons_succ])
                  (refine Evo.call ok 5 ?_ 15 ?_ (by rfl) (by decide +kernel) (by rfl) ?_ ?_ ?_; rotate_left 2; (focus (intro w'; go_simp <;> with_reducible rfl)); (focus (intro w' g'; with_reducible exact W3.out w')); simp only [Act.put, List.setIfInBounds_toArray, List.set_cons_zero, List.set_cons_succ])
                  first | (refine Evo.value ok 6 ?_ (by rfl) (by decide +kernel) (by rfl) ?_ ?_; rotate_left; (intro w' hg; go_simp <;> with_reducible rfl); simp only [Act.put, List.setIfInBounds_toArray, List.set_cons_zero, List.set_cons_succ]) | (refine Evo.value ok 6 ?_ (by rfl) (by decide +kernel) (by rfl) ?_ ?_; rotate_left; (intro w' hg; go_simp; rw [if_neg (by omega)]); simp only [Act.put, List.setIfInBounds_toArray, List.set_cons_zero, List.set_cons_succ])
                  first | (refine Evo.value ok 7 ?_ (by rfl) (by decide +kernel) (by rfl) ?_ ?_; rotate_left; (intro w' hg; have hgc := (bcell hg).1; have hgf := (bcell hg).2.1; (try (have hlew_1 : wr.heap.size ≤ w'.heap.size := (by first | omega | (have hh := (bcell hg).2.2; (try simp at hh); omega)))); (try (have hlw_1_0 : wr.heap.size < w'.heap.size := (by first | omega | (have hh := (bcell hg).2.2; (try simp at hh); omega)))); (try (have hlw_1_1 : wr.heap.size + 1 < w'.heap.size := (by first | omega | (have hh := (bcell hg).2.2; (try simp at hh); omega)))); (try (have hlw_1_2 : wr.heap.size + 1 + 1 < w'.heap.size := (by first | omega | (have hh := (bcell hg).2.2; (try simp at hh); omega)))); go_simp <;> with_reducible rfl); simp only [Act.put, List.setIfInBounds_toArray, List.set_cons_zero, List.set_cons_succ]) | (refine Evo.value ok 7 ?_ (by rfl) (by decide +kernel) (by rfl) ?_ ?_; rotate_left; (intro w' hg; go_simp <;> with_reducible rfl); simp only [Act.put, List.setIfInBounds_toArray, List.set_cons_zero, List.set_cons_succ])
                  refine Evo.all [8] (by decide +kernel) rfl ?_
                  intro wn1 hb1 iq1 hq1
                  have KB1 := Lib.hid (Evo.later hb1)
                  have hxwn1c := (bcell hb1).1
                  have hxwn1f := (bcell hb1).2.1
                  have hxwn1z := (bcell hb1).2.2
                  (try (have hlewn1_1 : wr.heap.size ≤ wn1.heap.size := (by first | omega | (have hh := hxwn1z; (try simp at hh); omega))))
                  (try (have hlwn1_1_0 : wr.heap.size < wn1.heap.size := (by first | omega | (have hh := hxwn1z; (try simp at hh); omega))))
                  (try (have hlwn1_1_1 : wr.heap.size + 1 < wn1.heap.size := (by first | omega | (have hh := hxwn1z; (try simp at hh); omega))))
                  (try (have hlwn1_1_2 : wr.heap.size + 1 + 1 < wn1.heap.size := (by first | omega | (have hh := hxwn1z; (try simp at hh); omega))))
                  simp only [List.mem_cons, List.mem_nil_iff, or_false] at hq1
                  subst hq1
                  refine Evo.runs (by rfl) (by rfl) (fun K' hK' => ?_)
                  go_simp
                  (try (simp only [Evo.after_value, Evo.after_skip]))
                  refine hK'.out _ _ ?_
                  clear hK'
                  simp only [Act.put, List.setIfInBounds_toArray, List.set_cons_zero, List.set_cons_succ]
                  refine ⟨.inr (by (repeat (first | with_reducible exact Grow.G.refl _ | with_reducible exact Below.refl _ _ | with_reducible refine Grow.G.alloc ?_ _ | with_reducible refine Grow.G.trans ?_ hb2 | with_reducible refine Grow.G.trans ?_ hb1 | ((with_reducible refine Below.setCell ?_ ?_ _); rotate_left; (focus (first | omega | (simp; done) | (simp; omega))))))), ?_⟩
                  first | (refine Evo.value ok 9 ?_ (by rfl) (by decide +kernel) (by rfl) ?_ ?_; rotate_left; (intro w' hg; have hgc := (bcell hg).1; have hgf := (bcell hg).2.1; (try (have hlew_2 : wn1.heap.size ≤ w'.heap.size := (by first | omega | (have hh := (bcell hg).2.2; (try simp at hh); omega)))); (try (have hlw_2_0 : wn1.heap.size < w'.heap.size := (by first | omega | (have hh := (bcell hg).2.2; (try simp at hh); omega)))); (try (have hlw_2_1 : wn1.heap.size + 1 < w'.heap.size := (by first | omega | (have hh := (bcell hg).2.2; (try simp at hh); omega)))); (try (have hlw_2_2 : wn1.heap.size + 1 + 1 < w'.heap.size := (by first | omega | (have hh := (bcell hg).2.2; (try simp at hh); omega)))); (try (refine Evo.laterK KB1.out w' ?_ (fun hxwc1 hxwf1 hxwz1 => ?_); (focus ((repeat (first | with_reducible exact Grow.G.refl _ | with_reducible exact Below.refl _ _ | with_reducible refine Grow.G.alloc ?_ _ | with_reducible refine Grow.G.trans ?_ hb2 | with_reducible refine Grow.G.trans ?_ hb1 | ((with_reducible refine Below.setCell ?_ ?_ _); rotate_left; (focus (first | omega | (simp; done) | (simp; omega)))))); all_goals fail)))); (try (have hlew_1 : wr.heap.size ≤ w'.heap.size := (by first | omega | (have hh := hxwz1; (try simp at hh); omega)))); (try (have hlw_1_0 : wr.heap.size < w'.heap.size := (by first | omega | (have hh := hxwz1; (try simp at hh); omega)))); (try (have hlw_1_1 : wr.heap.size + 1 < w'.heap.size := (by first | omega | (have hh := hxwz1; (try simp at hh); omega)))); (try (have hlw_1_2 : wr.heap.size + 1 + 1 < w'.heap.size := (by first | omega | (have hh := hxwz1; (try simp at hh); omega)))); go_simp <;> with_reducible rfl); simp only [Act.put, List.setIfInBounds_toArray, List.set_cons_zero, List.set_cons_succ]) | (refine Evo.value ok 9 ?_ (by rfl) (by decide +kernel) (by rfl) ?_ ?_; rotate_left; (intro w' hg; go_simp <;> with_reducible rfl); simp only [Act.put, List.setIfInBounds_toArray, List.set_cons_zero, List.set_cons_succ])
                  first | (refine Evo.value ok 10 ?_ (by rfl) (by decide +kernel) (by rfl) ?_ ?_; rotate_left; (intro w' hg; go_simp <;> with_reducible rfl); simp only [Act.put, List.setIfInBounds_toArray, List.set_cons_zero, List.set_cons_succ]) | (refine Evo.value ok 10 ?_ (by rfl) (by decide +kernel) (by rfl) ?_ ?_; rotate_left; (intro w' hg; go_simp; rw [if_neg (by omega)]); simp only [Act.put, List.setIfInBounds_toArray, List.set_cons_zero, List.set_cons_succ])
                  first | (refine Evo.value ok 11 ?_ (by rfl) (by decide +kernel) (by rfl) ?_ ?_; rotate_left; (intro w' hg; go_simp <;> with_reducible rfl); simp only [Act.put, List.setIfInBounds_toArray, List.set_cons_zero, List.set_cons_succ]) | (refine Evo.value ok 11 ?_ (by rfl) (by decide +kernel) (by rfl) ?_ ?_; rotate_left; (intro w' hg; go_simp; rw [if_neg (by omega)]); simp only [Act.put, List.setIfInBounds_toArray, List.set_cons_zero, List.set_cons_succ])
                  refine Evo.all [12] (by decide +kernel) rfl ?_
                  intro wn2 hb2 iq2 hq2
                  have KB2 := Lib.hid (Evo.later hb2)
                  have hxwn2c := (bcell hb2).1
                  have hxwn2f := (bcell hb2).2.1
                  have hxwn2z := (bcell hb2).2.2
                  (try (have hlewn2_2 : wn1.heap.size ≤ wn2.heap.size := (by first | omega | (have hh := hxwn2z; (try simp at hh); omega))))
                  (try (have hlwn2_2_0 : wn1.heap.size < wn2.heap.size := (by first | omega | (have hh := hxwn2z; (try simp at hh); omega))))
                  (try (have hlwn2_2_1 : wn1.heap.size + 1 < wn2.heap.size := (by first | omega | (have hh := hxwn2z; (try simp at hh); omega))))
                  (try (have hlwn2_2_2 : wn1.heap.size + 1 + 1 < wn2.heap.size := (by first | omega | (have hh := hxwn2z; (try simp at hh); omega))))
                  (try (refine Evo.laterK KB1.out wn2 ?_ (fun hxwn2c1 hxwn2f1 hxwn2z1 => ?_); (focus ((repeat (first | with_reducible exact Grow.G.refl _ | with_reducible exact Below.refl _ _ | with_reducible refine Grow.G.alloc ?_ _ | with_reducible refine Grow.G.trans ?_ hb2 | with_reducible refine Grow.G.trans ?_ hb1 | ((with_reducible refine Below.setCell ?_ ?_ _); rotate_left; (focus (first | omega | (simp; done) | (simp; omega)))))); all_goals fail))))
                  (try (have hlewn2_1 : wr.heap.size ≤ wn2.heap.size := (by first | omega | (have hh := hxwn2z1; (try simp at hh); omega))))
                  (try (have hlwn2_1_0 : wr.heap.size < wn2.heap.size := (by first | omega | (have hh := hxwn2z1; (try simp at hh); omega))))
                  (try (have hlwn2_1_1 : wr.heap.size + 1 < wn2.heap.size := (by first | omega | (have hh := hxwn2z1; (try simp at hh); omega))))
                  (try (have hlwn2_1_2 : wr.heap.size + 1 + 1 < wn2.heap.size := (by first | omega | (have hh := hxwn2z1; (try simp at hh); omega))))
                  simp only [List.mem_cons, List.mem_nil_iff, or_false] at hq2
                  subst hq2
                  refine Evo.runs (by rfl) (by rfl) (fun K' hK' => ?_)
                  go_simp
                  (try (simp only [Evo.after_value, Evo.after_skip]))
                  refine hK'.out _ _ ?_
                  clear hK'
                  simp only [Act.put, List.setIfInBounds_toArray, List.set_cons_zero, List.set_cons_succ]
                  refine ⟨.inl (by first | rfl | trivial), ?_⟩
                  refine Evo.done (by decide +kernel) (fun wn3 hb3 => ?_)
                  (have q1 := (bcell hb3).1; have q2 := (bcell hb3).2.1; have q3 := hb3.size; go_wp2_with fail; go_meet; refine ⟨rfl, ?_, ?_, ?_, ?_, ?_, ?_⟩; (focus (rw [e1.out, ← SE.out]; go_simp)); (focus go_simp); (focus go_simp); (focus go_simp); (focus (show _ < _; simp at q3; omega)); (show Grow.G _ _); (repeat (first | with_reducible exact Grow.G.refl _ | with_reducible exact Below.refl _ _ | with_reducible refine Grow.G.alloc ?_ _ | with_reducible refine Grow.G.trans ?_ hb3 | with_reducible refine Grow.G.trans ?_ hb2 | with_reducible refine Grow.G.trans ?_ hb1 | ((with_reducible refine Below.setCell ?_ ?_ _); rotate_left; (focus (first | omega | (simp; done) | (simp; omega)))) | with_reducible assumption | with_reducible refine Grow.G.trans ?_ (by with_reducible assumption))))
                · have e1 : Hid (rvOf cf kk = ⟨#[]⟩) := Lib.hid (by rw [RV.out, if_neg hz])
                  go_wp2_with fail
                  go_meet
                  exact ⟨rfl, by rw [e1.out]; go_simp, by go_simp, by go_simp, by go_simp, (by show _ < _; simp), Grow.G.alloc (Grow.G.refl _) _⟩
              case rest =>
                obtain ⟨rfl, d0, d1, d2, df, hb, hg⟩ := hcut
                have hb' := hb.out
                have g0 := cell_later hg.out c0; have g1 := cell_later hg.out c1; have g2 := cell_later hg.out c2; have g3 := cell_later hg.out c3
                have gf := (bcell hg.out).2.1 g 2 hg3
                rw [f2] at gf
                clear c0 c1 c2 c3 f2 z0 z1 r303
                obtain ⟨wa, rfl⟩ : ∃ wa : World, wa = wc := ⟨_, rfl⟩
                go_upto_if 81 with (first | (go_at_call 15; (with_reducible refine (W4.out _).mono ?_); rintro e w' ⟨rfl, rfl⟩))
                go_cut [12] (fun s12 wx => s12 = .pointer (some ⟨wr.heap.size, 0, none⟩) ∧ wx.cell? ⟨wr.heap.size, 0, none⟩ = some (.string (rvOf cf kk)) ∧ wx.cell? ⟨wr.heap.size, 1, none⟩ = some (.string (tgOf kk i)) ∧ wx.cell? ⟨wr.heap.size, 2, none⟩ = some (.int .i64 pc) ∧ Hid (wr.heap.size < wx.heap.size) ∧ wx.cell? ⟨g, 0, none⟩ = some (.string nm) ∧ wx.cell? ⟨g, 1, none⟩ = some (.string cf) ∧ wx.cell? ⟨g, 2, none⟩ = some (.slice sa i sc) ∧ wx.cell? ⟨g, 3, none⟩ = some (.int .i64 rl) ∧ wx.frozen? ⟨g, 2, none⟩ = false ∧ Hid (Grow.G wr wx))
                case first =>
                  by_cases hz : q1212 = 0
                  · have e1 : Hid (tgOf kk i = ⟨#[116]⟩ ++ byte1 (48 + i)) := Lib.hid (by rw [TV.out, if_pos hz])
                    have hcv := fun (w' : World) (b : Nat) (h : w'.cell? ⟨b, 0, none⟩ = some (.int .u8 (48 + i))) => run_convert_bytes_arg (P := Try.prog) w' 51 5 Try.underlying51 Try.underlying5 b 0 1 1 [48 + (i : Int)] rfl (fun i hi => by
                      obtain rfl : i = 0 := by omega
                      exact h) 9 Try.underlying9
                    have sz3 : (strOfNums [48 + (i : Int)]).size = 1 := rfl
                    have SE : Hid (strOfNums [48 + (i : Int)] = byte1 (48 + i)) := Lib.hid (by unfold strOfNums byte1; simp only [List.map_cons, List.map_nil]; congr)
                    generalize strOfNums [48 + (i : Int)] = sx at *
                    have hi48 : (48 : Int) + i ≤ 255 := by omega
                    have hga : g < wa.heap.size := by omega
                    have hgn : ¬ g = wr.heap.size := by omega
                    have hgm : ¬ wr.heap.size = g := by omega
                    go_wp2_with fail
                    go_meet
                    refine ⟨rfl, ?_, ?_, ?_, ?_, ?_, ?_, ?_, ?_, ?_, ?_⟩
                    · go_simp
                    · rw [e1.out, ← SE.out]; go_simp
                    · go_simp
                    · show _ < _; simp; omega
                    · go_simp
                    · go_simp
                    · go_simp
                    · go_simp
                    · go_simp
                    · have := hg.out; clear e1 SE hcv; show Grow.G _ _; refine Grow.G.alloc (Below.setCell (hg.out) (by simp) _) _
                  · have e1 : Hid (tgOf kk i = ⟨#[]⟩) := Lib.hid (by rw [TV.out, if_neg hz])
                    go_wp2_with fail
                    go_meet
                    exact ⟨rfl, d0, by rw [e1.out]; exact d1, d2, hb, g0, g1, g2, g3, gf, hg⟩
                case rest =>
                  obtain ⟨rfl, d0, d1, d2, hb, g0, g1, g2, g3, gf, hg⟩ := hcut
                  have HB := hb.out
                  clear RV TV W2 W3 W4 w303 ka kb kc kd ke kf KA PC
                  generalize rvOf cf kk = rv at *
                  generalize tgOf kk i = tg at *
                  obtain ⟨wb, rfl⟩ : ∃ wb : World, wb = wc := ⟨_, rfl⟩
                  have OW := Lib.hid (own_later R.out.own hg.out)
                  go_wp2_with (at_builtin; refine wpList_append_own _ rfl _ _ 33 rfl (g + 1) 41 i0 (.agg #[.string ⟨#[]⟩, .string ⟨#[]⟩, .int .i64 0]) 3 40 Try.underlying33 HI.out HZ0.out HZ1.out HZ2.out rfl (by decide) _ _ _ rfl (OW.out.alloc _) ⟨wb.heap.size, 0, none⟩ 1 1 [.string rv, .string tg, .int .i64 pc] rfl rfl (news_new _ [_, _, _] _ _ rfl) ?_ ?_ ?_ ?_ ?_)
                  · intro u hu; simp at hu; rcases hu with rfl | rfl | rfl <;> rfl
                  · unfold maxLen; omega
                  · omega
                  · simp; omega
                  · intro v' w1 hown hgr _
                    obtain ⟨sa', sc', rfl⟩ := own_shape hown
                    have hne : some g ≠ (Value.slice sa i sc).ownBlock := fun e => by have := (OW.out.lt g e.symm).1; omega
                    have hgb : g < wb.heap.size := by omega
                    have hbk := (hgr.block g (by simp; omega) hne).trans (Below.heap_alloc wb _ g hgb)
                    have g0 := (World.cell?_of_block (w := wb) (w' := w1) (a := ⟨g, 0, none⟩) hbk).trans g0
                    have g1 := (World.cell?_of_block (w := wb) (w' := w1) (a := ⟨g, 1, none⟩) hbk).trans g1
                    have g2 := (World.cell?_of_block (w := wb) (w' := w1) (a := ⟨g, 2, none⟩) hbk).trans g2
                    have g3 := (World.cell?_of_block (w := wb) (w' := w1) (a := ⟨g, 3, none⟩) hbk).trans g3
                    have gf := (World.frozen?_of_block (w := wb) (w' := w1) (a := ⟨g, 2, none⟩) hbk).trans gf
                    have G1 := Lib.hid (own_grow (Grow.G.alloc (Grow.G.trans R.out.grow0 hg.out) _) (OW.out.alloc _) (by simp; omega) hgr)
                    have HS := Lib.hid (Nat.lt_of_lt_of_le (show g < (wb.alloc (.cells #[.string rv, .string tg, .int .i64 pc] 41)).heap.size by simp; omega) hgr.size)
                    have HO := Lib.hid hown
                    clear hgr hown hbk hne d0 d1 d2
                    go_wp2_with fail
                    go_roundg (N - (i + 1))
                    case measure => omega
                    case rel =>
                      refine ⟨i + 1, sa', sc', rfl, by omega, rfl, by rw [GS.out], ?_⟩
                      rw [GS.out]
                      refine ⟨?_, ?_, ?_, ?_, ?_, ?_, Below.setCell G1.out (by simp; omega) _, by simpa [World.setCell] using HS.out, hg1⟩
                      · go_simp
                      · go_simp
                      · go_simp
                      · go_simp
                      · go_simp
                      · refine ownsRow_setCell_below ?_ (by show g < g + 1; omega) _
                        have := HO.out
                        unfold flatT at *
                        simpa [List.flatMap_append] using this
        · obtain rfl : i = N := by omega
          have c0 := hR.c0; have c1 := hR.c1; have c2 := hR.c2; have c3 := hR.c3; have f2 := hR.f2; have hg3 := hR.lt
          have OW := hR.own
          have hG := hR.grow
          have hx := (bcell hR.grow0).1
          have hf := (bcell hR.grow0).2.1
          have gn : ¬ g = w.heap.size := by omega
          obtain ⟨b, sc', hv, hb⟩ := own_some OW (by omega)
          obtain ⟨rfl, rfl⟩ : sa = some ⟨b, 0, none⟩ ∧ sc = sc' := by cases hv; exact ⟨rfl, rfl⟩
          have BW := Lib.hid hb
          have OW := Lib.hid OW
          have HG := Lib.hid hG
          clear hR hv hb hG
          go_wp2_with fail
          refine bodyPost_ret (v := .agg #[.string nm, .string cf, .slice (some ⟨b, 0, none⟩) i sc, .int .i64 rl]) (by simp [results, Try.results18, go_sem, hx]) rfl ⟨⟨b, sc, by rw [HN.out]; rfl, ?_⟩, ?_⟩
          · have E : Hid (gTs cf zs = (gRun cf zs i i).2) := Lib.hid (by unfold gTs; rw [HN.out])
            rw [HN.out, E.out]
            refine own_base ?_ (show w.heap.size ≤ g + 1 by omega)
            exact ownsRow_setCell_below (ownsRow_setCell_below (ownsRow_setCell_below (ownsRow_setCell_below OW.out (by show w.heap.size < g + 1; omega) _) (by show w.heap.size < g + 1; omega) _) (by show w.heap.size < g + 1; omega) _) (by show w.heap.size < g + 1; omega) _
          · exact Below.setCell (Below.setCell (Below.setCell (Below.setCell HG.out (Nat.le_refl _) _) (Nat.le_refl _) _) (Nat.le_refl _) _) (Nat.le_refl _) _
end Go.Proofs.Ytpmhmegjckhbmaa
