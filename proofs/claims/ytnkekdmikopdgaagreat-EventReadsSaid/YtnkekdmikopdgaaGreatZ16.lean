/- My own texts Known3, laid in one file. -/
import Derived.Test.YtnkekdmikopdgaaGreatZ13
import Derived.Test.YtnkekdmikopdgaaGreatZ14

/- What damperlaw3's known tells. -/
namespace Go.Proofs.YtnkekdmikopdgaaGreat
set_option maxRecDepth 100000
set_option linter.unusedVariables false
set_option linter.unusedSimpArgs false
set_option linter.unnecessarySimpa false
open Go.RowKit

theorem parse_nil_any (w : World) : Calls Tryz.prog 19 #[.slice none 0 0] w fun e w' => ∃ a' c', e = .returned (.tuple #[.agg #[.int .i64 0, .string ⟨#[]⟩, .string ⟨#[]⟩, .int .i64 0, .int .i64 0, .string ⟨#[]⟩, .int .i64 0, .int .i64 0, .int .i64 0, .int .i64 0, .int .i64 0, .string ⟨#[]⟩, .string ⟨#[]⟩, .slice a' 0 c', .int .i64 0], .int .i64 10]) ∧ Grow.G w w' :=
 (eparse_any 0 none 0 [] w (.inl rfl) Bts.nil).mono fun e w' ⟨a', c', he, _, hg⟩ => ⟨a', c', he, hg⟩
theorem tick_chk : ({ ev0 with k := 9 } : EvD).chk = 0 := by
 unfold EvD.chk EvD.kept
 simp [ev0]
theorem tick_parse : evParse [9] = ({ ev0 with k := 9 }, 0) := parse_bytes tick_chk
theorem parse_tick_any (b : Nat) (w : World) (hb : Blk w b #[.int .u8 9] 5) : Calls Tryz.prog 19 #[.slice (some ⟨b, 0, none⟩) 1 1] w fun e w' => ∃ a' c', e = .returned (.tuple #[.agg #[.int .i64 9, .string ⟨#[]⟩, .string ⟨#[]⟩, .int .i64 0, .int .i64 0, .string ⟨#[]⟩, .int .i64 0, .int .i64 0, .int .i64 0, .int .i64 0, .int .i64 0, .string ⟨#[]⟩, .string ⟨#[]⟩, .slice a' 0 c', .int .i64 0], .int .i64 0]) ∧ Grow.G w w' := by
 refine (eparse_any b (some ⟨b, 0, none⟩) 1 [9] w (.inr ⟨0, rfl, Nat.le_refl _, hb.lt, fun i hi => ?_⟩) (fun x hx => by simp at hx; omega)).mono fun e w' ⟨a', c', he, _, hg⟩ => ?_
 ·
  obtain rfl : i = 0 := by simp at hi; omega
  exact (hb.cell 0).trans rfl
 ·
  rw [tick_parse] at he
  exact ⟨a', c', he, hg⟩
theorem cut_zero_any (b : Nat) (w : World) (hb : Blk w b #[.int .u8 0, .int .u8 0] 5) : Calls Tryz.prog 23 #[.slice (some ⟨b, 0, none⟩) 2 2] w fun e w' => ∃ a' c', e = .returned (.slice a' 1 c') ∧ Grow.G w w' := by
 have hc : cutE [0, 0] = [[]] := by rw [cutE_two]; simp [pieceN, cutE_nil]
 refine (ecut_any b (some ⟨b, 0, none⟩) 2 [0, 0] w (.inr ⟨0, rfl, Nat.le_refl _, fun i hi => ?_⟩) hb.lt (fun x hx => by simp at hx; omega) (by simp)).mono fun e w' ⟨v, he, hp, hg⟩ => ?_
 ·
  have hi2 : i = 0 ∨ i = 1 := by simp at hi; omega
  rcases hi2 with rfl | rfl
  ·
   exact (hb.cell 0).trans rfl
  ·
   exact (hb.cell 1).trans rfl
 ·
  rw [hc] at hp
  obtain ⟨vs, _, ho, _⟩ := hp
  obtain ⟨sa, cc, rfl⟩ := own_shape ho
  exact ⟨sa, cc, he, hg⟩
set_option maxHeartbeats 2000000 in
theorem known3_any (w : World) : Calls Tryz.prog 11 #[] w fun e w' => e = .returned (.bool true) ∧ Grow.G w w' := by
 go_enter Tryz.func11, Tryz.ntmps11
 go_wp2_with fail
 refine (parse_nil_any _).mono ?_
 rintro e wn1 ⟨a1, c1, rfl, hb1⟩
 have KB1 := Lib.hid (Evo.later hb1)
 have hxwn1c := (bcell hb1).1
 have hxwn1f := (bcell hb1).2.1
 have hxwn1z := (bcell hb1).2.2
 (try (have hlewn1_1 : w.heap.size ≤ wn1.heap.size := (by first | omega | (have hh := hxwn1z; (try simp at hh); omega))))
 (try (have hlwn1_1_0 : w.heap.size < wn1.heap.size := (by first | omega | (have hh := hxwn1z; (try simp at hh); omega))))
 (try (have hlwn1_1_1 : w.heap.size + 1 < wn1.heap.size := (by first | omega | (have hh := hxwn1z; (try simp at hh); omega))))
 (try (have hlwn1_1_2 : w.heap.size + 1 + 1 < wn1.heap.size := (by first | omega | (have hh := hxwn1z; (try simp at hh); omega))))
 go_wp2_with fail
 have B1 := Blk.new (wn1.alloc (.cells #[.int .i64 0, .string ⟨#[]⟩, .string ⟨#[]⟩, .int .i64 0, .int .i64 0, .string ⟨#[]⟩, .int .i64 0, .int .i64 0, .int .i64 0, .int .i64 0, .int .i64 0, .string ⟨#[]⟩, .string ⟨#[]⟩, .slice a1 0 c1, .int .i64 0] 28)) #[.int .u8 9] 5
 rw [World.size_alloc] at B1
 refine (parse_tick_any _ _ B1).mono ?_
 rintro e wn2 ⟨a2, c2, rfl, hb2⟩
 clear B1
 have KB2 := Lib.hid (Evo.later hb2)
 have hxwn2c := (bcell hb2).1
 have hxwn2f := (bcell hb2).2.1
 have hxwn2z := (bcell hb2).2.2
 (try (have hlewn2_2 : wn1.heap.size ≤ wn2.heap.size := (by first | omega | (have hh := hxwn2z; (try simp at hh); omega))))
 (try (have hlwn2_2_0 : wn1.heap.size < wn2.heap.size := (by first | omega | (have hh := hxwn2z; (try simp at hh); omega))))
 (try (have hlwn2_2_1 : wn1.heap.size + 1 < wn2.heap.size := (by first | omega | (have hh := hxwn2z; (try simp at hh); omega))))
 (try (have hlwn2_2_2 : wn1.heap.size + 1 + 1 < wn2.heap.size := (by first | omega | (have hh := hxwn2z; (try simp at hh); omega))))
 (try (refine Evo.laterK KB1.out wn2 ?_ (fun hxwn2c1 hxwn2f1 hxwn2z1 => ?_); (focus ((repeat (first | with_reducible exact Grow.G.refl _ | with_reducible exact Below.refl _ _ | with_reducible refine Grow.G.alloc ?_ _ | with_reducible refine Grow.G.trans ?_ hb2 | with_reducible refine Grow.G.trans ?_ hb1 | ((with_reducible refine Below.setCell ?_ ?_ _); rotate_left; (focus (first | omega | (simp; done) | (simp; omega)))))); all_goals fail))))
 (try (have hlewn2_1 : w.heap.size ≤ wn2.heap.size := (by first | omega | (have hh := hxwn2z1; (try simp at hh); omega))))
 (try (have hlwn2_1_0 : w.heap.size < wn2.heap.size := (by first | omega | (have hh := hxwn2z1; (try simp at hh); omega))))
 (try (have hlwn2_1_1 : w.heap.size + 1 < wn2.heap.size := (by first | omega | (have hh := hxwn2z1; (try simp at hh); omega))))
 (try (have hlwn2_1_2 : w.heap.size + 1 + 1 < wn2.heap.size := (by first | omega | (have hh := hxwn2z1; (try simp at hh); omega))))
 go_wp2_with fail
 have B2 := Blk.new (wn2.alloc (.cells #[.int .i64 9, .string ⟨#[]⟩, .string ⟨#[]⟩, .int .i64 0, .int .i64 0, .string ⟨#[]⟩, .int .i64 0, .int .i64 0, .int .i64 0, .int .i64 0, .int .i64 0, .string ⟨#[]⟩, .string ⟨#[]⟩, .slice a2 0 c2, .int .i64 0] 28)) #[.int .u8 0, .int .u8 0] 5
 rw [World.size_alloc] at B2
 refine (cut_zero_any _ _ B2).mono ?_
 rintro e wn3 ⟨a3, c3, rfl, hb3⟩
 clear B2
 have KB3 := Lib.hid (Evo.later hb3)
 have hxwn3c := (bcell hb3).1
 have hxwn3f := (bcell hb3).2.1
 have hxwn3z := (bcell hb3).2.2
 (try (have hlewn3_3 : wn2.heap.size ≤ wn3.heap.size := (by first | omega | (have hh := hxwn3z; (try simp at hh); omega))))
 (try (have hlwn3_3_0 : wn2.heap.size < wn3.heap.size := (by first | omega | (have hh := hxwn3z; (try simp at hh); omega))))
 (try (have hlwn3_3_1 : wn2.heap.size + 1 < wn3.heap.size := (by first | omega | (have hh := hxwn3z; (try simp at hh); omega))))
 (try (have hlwn3_3_2 : wn2.heap.size + 1 + 1 < wn3.heap.size := (by first | omega | (have hh := hxwn3z; (try simp at hh); omega))))
 (try (refine Evo.laterK KB1.out wn3 ?_ (fun hxwn3c1 hxwn3f1 hxwn3z1 => ?_); (focus ((repeat (first | with_reducible exact Grow.G.refl _ | with_reducible exact Below.refl _ _ | with_reducible refine Grow.G.alloc ?_ _ | with_reducible refine Grow.G.trans ?_ hb3 | with_reducible refine Grow.G.trans ?_ hb2 | with_reducible refine Grow.G.trans ?_ hb1 | ((with_reducible refine Below.setCell ?_ ?_ _); rotate_left; (focus (first | omega | (simp; done) | (simp; omega)))))); all_goals fail))))
 (try (have hlewn3_1 : w.heap.size ≤ wn3.heap.size := (by first | omega | (have hh := hxwn3z1; (try simp at hh); omega))))
 (try (have hlwn3_1_0 : w.heap.size < wn3.heap.size := (by first | omega | (have hh := hxwn3z1; (try simp at hh); omega))))
 (try (have hlwn3_1_1 : w.heap.size + 1 < wn3.heap.size := (by first | omega | (have hh := hxwn3z1; (try simp at hh); omega))))
 (try (have hlwn3_1_2 : w.heap.size + 1 + 1 < wn3.heap.size := (by first | omega | (have hh := hxwn3z1; (try simp at hh); omega))))
 (try (refine Evo.laterK KB2.out wn3 ?_ (fun hxwn3c2 hxwn3f2 hxwn3z2 => ?_); (focus ((repeat (first | with_reducible exact Grow.G.refl _ | with_reducible exact Below.refl _ _ | with_reducible refine Grow.G.alloc ?_ _ | with_reducible refine Grow.G.trans ?_ hb3 | with_reducible refine Grow.G.trans ?_ hb2 | with_reducible refine Grow.G.trans ?_ hb1 | ((with_reducible refine Below.setCell ?_ ?_ _); rotate_left; (focus (first | omega | (simp; done) | (simp; omega)))))); all_goals fail))))
 (try (have hlewn3_2 : wn1.heap.size ≤ wn3.heap.size := (by first | omega | (have hh := hxwn3z2; (try simp at hh); omega))))
 (try (have hlwn3_2_0 : wn1.heap.size < wn3.heap.size := (by first | omega | (have hh := hxwn3z2; (try simp at hh); omega))))
 (try (have hlwn3_2_1 : wn1.heap.size + 1 < wn3.heap.size := (by first | omega | (have hh := hxwn3z2; (try simp at hh); omega))))
 (try (have hlwn3_2_2 : wn1.heap.size + 1 + 1 < wn3.heap.size := (by first | omega | (have hh := hxwn3z2; (try simp at hh); omega))))
 go_wp2_with fail
 go_ret
 exact ⟨rfl, by (repeat (first | with_reducible exact Grow.G.refl _ | with_reducible exact Below.refl _ _ | with_reducible refine Grow.G.alloc ?_ _ | with_reducible refine Grow.G.trans ?_ hb4 | with_reducible refine Grow.G.trans ?_ hb3 | with_reducible refine Grow.G.trans ?_ hb2 | with_reducible refine Grow.G.trans ?_ hb1 | ((with_reducible refine Below.setCell ?_ ?_ _); rotate_left; (focus (first | omega | (simp; done) | (simp; omega)))) | with_reducible assumption | with_reducible refine Grow.G.trans ?_ (by with_reducible assumption)))⟩
end Go.Proofs.YtnkekdmikopdgaaGreat
