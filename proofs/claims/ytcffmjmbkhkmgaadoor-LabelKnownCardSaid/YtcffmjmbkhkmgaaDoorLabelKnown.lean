/- The walk of LabelKnown. -/
import Derived.Test.YtcffmjmbkhkmgaaDoorLong
import Derived.Test.YtcffmjmbkhkmgaaDoorParse
import Derived.Test.YtcffmjmbkhkmgaaDoorRegion
namespace Go.Proofs.YtcffmjmbkhkmgaaDoor
set_option linter.unusedVariables false
set_option linter.unusedSimpArgs false
open Go.RowKit

theorem cellsMap {α : Type} (f : α → Value) (L : List α) (d : α) (k : Nat) (h : k < L.length) : ((L.map f).toArray)[k]? = some (f (L.getD k d)) := by
  simp [List.getD, h]
theorem cell_new {w : World} {cs : Array Value} {t : TypeId} {b k : Nat} {v : Value} (h : cs[k]? = some v) (hb : b = w.heap.size) : (w.alloc (.cells cs t)).cell? ⟨b, k, none⟩ = some v := by
  subst hb
  simp [World.cell?_alloc_new, h]
theorem cell_old {w : World} {o : Obj} {a : Addr} {v : Value} (h : w.cell? a = some v) : (w.alloc o).cell? a = some v :=
  (World.cell?_alloc_some w a o (by rw [h]; rfl)).trans h

def knNames : List ByteArray := [⟨#[97]⟩, ⟨#[97, 49]⟩, ⟨#[119, 101, 98, 45, 97, 112, 112]⟩, ⟨#[97, 98, 99, 100, 101, 102, 103, 104, 105, 106, 107, 108, 109, 110, 111, 112]⟩, ⟨#[]⟩, ⟨#[49, 97]⟩, ⟨#[45, 97]⟩, ⟨#[97, 45]⟩, ⟨#[65]⟩, ⟨#[97, 95, 98]⟩, ⟨#[97, 98, 99, 100, 101, 102, 103, 104, 105, 106, 107, 108, 109, 110, 111, 112, 113]⟩, ⟨#[97, 32, 98]⟩, ⟨#[97, 45, 45, 98]⟩, ⟨#[122, 57, 45, 48]⟩]
def knIs : List Bool := [true, true, true, true, false, false, false, false, false, false, false, false, true, true]
def knRevs : List ByteArray := [⟨#[97, 45, 49]⟩, ⟨#[97, 45, 98, 45, 49, 50]⟩, ⟨#[97, 45, 57, 57, 57, 57, 57, 57]⟩, ⟨#[97, 45, 49, 48, 48, 48, 48, 48, 48]⟩, ⟨#[97, 45, 48]⟩, ⟨#[97, 45, 48, 49]⟩, ⟨#[97]⟩, ⟨#[97, 49]⟩, ⟨#[45, 49]⟩, ⟨#[97, 45, 45, 49]⟩, ⟨#[49, 45, 49]⟩, ⟨#[97, 45, 49, 45]⟩, ⟨#[97, 45, 45, 98, 45, 51]⟩, ⟨#[97, 45, 98]⟩]
def knGens : List Int := [1, 12, 999999, 0, 0, 0, 0, 0, 0, 0, 0, 0, 3, 0]
theorem kn_names : ∀ k, k < 14 → nameB 16 (knNames.getD k ⟨#[]⟩) = knIs.getD k false := by decide +kernel
theorem kn_sizes : ∀ k, k < 14 → (knNames.getD k ⟨#[]⟩).size ≤ 100 ∧ (knRevs.getD k ⟨#[]⟩).size ≤ 100 := by decide +kernel
theorem kn_parse : ∀ k, k < 14 → (0 < knGens.getD k 0 ∧ (parse (knRevs.getD k ⟨#[]⟩)).map (fun x => (x.2 : Int)) = some (knGens.getD k 0)) ∨ (knGens.getD k 0 = 0 ∧ parse (knRevs.getD k ⟨#[]⟩) = none) := by decide +kernel
/-- its parts, or none -/
theorem kn_revs (k : Nat) (hk : k < 14) : (0 < knGens.getD k 0 ∧ ∃ c, IsRev (knRevs.getD k ⟨#[]⟩) c (knGens.getD k 0)) ∨ (knGens.getD k 0 = 0 ∧ ∀ c n, ¬ IsRev (knRevs.getD k ⟨#[]⟩) c n) := by
  rcases kn_parse k hk with ⟨h1, h2⟩ | ⟨h1, h2⟩
  · obtain ⟨⟨c, n⟩, h3, h4⟩ := Option.map_eq_some_iff.1 h2
    refine .inl ⟨h1, c, ?_⟩
    rw [← h4]; exact parse_yes h3
  · exact .inr ⟨h1, parse_no h2⟩

theorem listMap {α : Type} (f : α → Value) (L : List α) (d : α) (k : Nat) (h : k < (L.map f).length) : (L.map f)[k]'h = f (L.getD k d) := by
  have h' : k < L.length := by simpa using h
  simp [List.getD, h']
theorem kn_at (k : Nat) (hk : k < 14) : ([.string ⟨#[97, 45, 49]⟩, .string ⟨#[97, 45, 98, 45, 49, 50]⟩, .string ⟨#[97, 45, 57, 57, 57, 57, 57, 57]⟩, .string ⟨#[97, 45, 49, 48, 48, 48, 48, 48, 48]⟩, .string ⟨#[97, 45, 48]⟩, .string ⟨#[97, 45, 48, 49]⟩, .string ⟨#[97]⟩, .string ⟨#[97, 49]⟩, .string ⟨#[45, 49]⟩, .string ⟨#[97, 45, 45, 49]⟩, .string ⟨#[49, 45, 49]⟩, .string ⟨#[97, 45, 49, 45]⟩, .string ⟨#[97, 45, 45, 98, 45, 51]⟩, .string ⟨#[97, 45, 98]⟩] : List Value)[k]'(by simpa using hk) = .string (knRevs.getD k ⟨#[]⟩) := listMap Value.string knRevs _ k (by simpa [knRevs] using hk)

set_option maxRecDepth 100000 in
set_option maxHeartbeats 1000000 in
theorem walkLabelKnown (w : World) (a : Int) (ha : wf64 a) (ht : Tab w) :
    Calls Tryd.prog 7 #[.int .i64 a] w fun e w' => e = .returned (.bool true) ∧ Below w.heap.size w w' := by
  have HT := Lib.hid ht
  clear ht
  have hk := withinI_range a 14 (by omega)
  have WK := Lib.hid (fun w => within_any a 14 w (by omega) (by omega) ha.1 ha.2)
  generalize withinI a 14 = k at *
  obtain ⟨k, rfl⟩ := Int.eq_ofNat_of_zero_le hk.1
  have hk14 : k < 14 := by omega
  have hlo : (0 : Int) ≤ (k : Int) := by omega
  have hhi : (k : Int) < 14 := by omega
  clear hk
  have NB := Lib.hid (kn_names k hk14)
  have SZ := Lib.hid (kn_sizes k hk14)
  have hat := kn_at k hk14
  have K1 := Lib.hid (cellsMap Value.string knNames ⟨#[]⟩ k hk14)
  have K2 := Lib.hid (cellsMap Value.bool knIs false k hk14)
  have K4 := Lib.hid (cellsMap (Value.int .i64) knGens 0 k hk14)
  have RV := Lib.hid (kn_revs k hk14)
  generalize knRevs.getD k ⟨#[]⟩ = R at *
  generalize hnm : knNames.getD k ⟨#[]⟩ = nm at *
  generalize hb : knIs.getD k false = b at *
  generalize hg : knGens.getD k 0 = g at *
  clear hnm hb hg
  go_enter Tryd.func7, Tryd.ntmps7
  go_wp2_with (first | (go_at_call 10; refine (known_any _ HT.out).mono ?_; rintro e w1 ⟨rfl, hb1⟩) | (go_at_call 12; refine (WK.out _).mono ?_; rintro e w2 ⟨rfl, rfl⟩))
  refine (split_any _ _ (by have := SZ.out; omega)).mono ?_
  set_option pp.maxSteps 1000000 in
  rintro e w3 ⟨ha3, hb3⟩
  have B3 : Hid (Below w.heap.size w w3) := Lib.hid ((((((hb1.alloc hb1.size _).alloc (by have := hb1.size; simp; omega) _).alloc (by have := hb1.size; simp; omega) _).alloc (by have := hb1.size; simp; omega) _)).trans (hb3.mono (by have := hb1.size; simp; omega)))
  have c1 : w3.cell? ⟨w1.heap.size, k, none⟩ = some (.string nm) := (hb3.cell (p := ⟨w1.heap.size, k, none⟩) (by first | (simp; done) | (simp; omega))).trans (cell_old (cell_old (cell_old (cell_new K1.out (by simp)))))
  have c2 : w3.cell? ⟨w1.heap.size + 1, k, none⟩ = some (.bool b) := (hb3.cell (p := ⟨w1.heap.size + 1, k, none⟩) (by first | (simp; done) | (simp; omega))).trans (cell_old (cell_old (cell_new K2.out (by simp))))
  have c4 : w3.cell? ⟨w1.heap.size + 1 + 1 + 1, k, none⟩ = some (.int .i64 g) := (hb3.cell (p := ⟨w1.heap.size + 1 + 1 + 1, k, none⟩) (by simp)).trans (cell_new K4.out (by simp))
  have RVo := RV.out
  clear hb3 hb1
  rcases ha3 with ⟨c, n, hr, rfl⟩ | ⟨hno, rfl⟩
  · have hgn : g = n ∧ 0 < g := by
      rcases RVo with ⟨h1, c', h2⟩ | ⟨_, h2⟩
      · exact ⟨(h2.unique hr).2, h1⟩
      · exact absurd hr (h2 c n)
    obtain ⟨rfl, hg0⟩ := hgn
    have hd : decide (0 < g) = true := by simpa using hg0
    have NM := Lib.hid (fun w => name_eq nm w b (by have := SZ.out; unfold maxLen; omega) NB.out)
    clear RVo hr
    have C1 : ∀ w', Grow.G w3 w' → w'.cell? ⟨w1.heap.size, k, none⟩ = some (.string nm) := fun w' g => cell_later g c1
    have C2 : ∀ w', Grow.G w3 w' → w'.cell? ⟨w1.heap.size + 1, k, none⟩ = some (.bool b) := fun w' g => cell_later g c2
    have C4 : ∀ w', Grow.G w3 w' → w'.cell? ⟨w1.heap.size + 1 + 1 + 1, k, none⟩ = some (.int .i64 g) := fun w' g => cell_later g c4
    clear c1 c2 c4
    go_wp2_with fail
    refine Grow.region_seqT (by kernel_rfl) (by kernel_rfl) (by intro c a d v w h; cases d <;> exact h) (by kernel_rfl) ?_
    iterate 4 (first
      | (refine Grow.seqT.value ?_ (by rfl) ?_ ?_; rotate_left; (intro w' hg; go_simp <;> with_reducible rfl); simp only [Act.put, List.setIfInBounds_toArray, List.set_cons_zero, List.set_cons_succ])
      | (refine Grow.seqT.idle (by rfl) ?_; simp only [Act.put, List.setIfInBounds_toArray, List.set_cons_zero, List.set_cons_succ]))
    refine Grow.seqT.call (.bool b) 13 _ (by rfl) ?_ (fun w' _ => (NM.out w')) ?_
    · intro w'; go_simp
    simp only [Act.put, List.setIfInBounds_toArray, List.set_cons_zero, List.set_cons_succ]
    repeat (first
      | (refine Grow.seqT.value ?_ (by rfl) ?_ ?_; rotate_left; (intro w' hg; go_simp <;> with_reducible rfl); simp only [Act.put, List.setIfInBounds_toArray, List.set_cons_zero, List.set_cons_succ])
      | (refine Grow.seqT.idle (by rfl) ?_; simp only [Act.put, List.setIfInBounds_toArray, List.set_cons_zero, List.set_cons_succ]))
    refine Grow.seqT.done (fun w4 g4 => ?_)
    go_wp2
    go_ret
    exact ⟨rfl, Grow.G.trans B3.out g4⟩
  · have hgn : g = 0 := by
      rcases RVo with ⟨h1, c', h2⟩ | ⟨h2, _⟩
      · exact absurd h2 (hno c' g)
      · exact h2
    subst hgn
    have NM := Lib.hid (fun w => name_eq nm w b (by have := SZ.out; unfold maxLen; omega) NB.out)
    clear RVo hno
    have C1 : ∀ w', Grow.G w3 w' → w'.cell? ⟨w1.heap.size, k, none⟩ = some (.string nm) := fun w' g => cell_later g c1
    have C2 : ∀ w', Grow.G w3 w' → w'.cell? ⟨w1.heap.size + 1, k, none⟩ = some (.bool b) := fun w' g => cell_later g c2
    have C4 : ∀ w', Grow.G w3 w' → w'.cell? ⟨w1.heap.size + 1 + 1 + 1, k, none⟩ = some (.int .i64 0) := fun w' g => cell_later g c4
    clear c1 c2 c4
    go_wp2_with fail
    refine Grow.region_seqT (by kernel_rfl) (by kernel_rfl) (by intro c a d v w h; cases d <;> exact h) (by kernel_rfl) ?_
    iterate 4 (first
      | (refine Grow.seqT.value ?_ (by rfl) ?_ ?_; rotate_left; (intro w' hg; go_simp <;> with_reducible rfl); simp only [Act.put, List.setIfInBounds_toArray, List.set_cons_zero, List.set_cons_succ])
      | (refine Grow.seqT.idle (by rfl) ?_; simp only [Act.put, List.setIfInBounds_toArray, List.set_cons_zero, List.set_cons_succ]))
    refine Grow.seqT.call (.bool b) 13 _ (by rfl) ?_ (fun w' _ => (NM.out w')) ?_
    · intro w'; go_simp
    simp only [Act.put, List.setIfInBounds_toArray, List.set_cons_zero, List.set_cons_succ]
    repeat (first
      | (refine Grow.seqT.value ?_ (by rfl) ?_ ?_; rotate_left; (intro w' hg; go_simp <;> with_reducible rfl); simp only [Act.put, List.setIfInBounds_toArray, List.set_cons_zero, List.set_cons_succ])
      | (refine Grow.seqT.idle (by rfl) ?_; simp only [Act.put, List.setIfInBounds_toArray, List.set_cons_zero, List.set_cons_succ]))
    refine Grow.seqT.done (fun w4 g4 => ?_)
    go_wp2
    go_ret
    exact ⟨rfl, Grow.G.trans B3.out g4⟩
end Go.Proofs.YtcffmjmbkhkmgaaDoor
