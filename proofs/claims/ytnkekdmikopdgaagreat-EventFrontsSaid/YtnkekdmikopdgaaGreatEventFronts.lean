/- The walk of EventFronts. -/
import Derived.Test.YtnkekdmikopdgaaGreatZ7
import Derived.Test.YtnkekdmikopdgaaGreatZ17
import Derived.Test.YtnkekdmikopdgaaGreatZ16
import Derived.Test.YtnkekdmikopdgaaGreatZ15
import Derived.Test.YtnkekdmikopdgaaGreatZ5
namespace Go.Proofs.YtnkekdmikopdgaaGreat
set_option maxRecDepth 100000
set_option linter.unusedVariables false
set_option linter.unusedSimpArgs false
set_option linter.unnecessarySimpa false
open Go.RowKit

set_option maxHeartbeats 4000000 in
theorem walkEventFronts (w : World) (kd : Int) (hkd : wf64 kd) (n : Int) (hn : wf64 n) (dr : Int) (hdr : wf64 dr) (nm : Int) (hnm : wf64 nm) (c : Cfg) (hc : c.wf ∧ c.nm.size ≤ 140737488351232) (v : Value) (zs : List Int) (hz : IntSlice w v zs) (cut : Int) (hcut : wf64 cut) (more : Int) (hmore : wfu8 more) :
    Calls Tryz.prog 9 #[.int .i64 kd, .int .i64 n, .int .i64 dr, .int .i64 nm, c.v, v, .int .i64 cut, .int .u8 more] w fun e w' => e = .returned (.bool true) ∧ Below w.heap.size w w' := by
  have MK := Lib.hid (fun w h => make_any kd n dr nm c v zs w hkd hn hdr hnm hc.1 h)
  have HZ := Lib.hid hz
  have CHK := mkE_chk kd n dr nm c zs
  generalize mkE kd n dr nm c zs = E at *
  have RB := Lib.hid (fun a c w h => rbytes_any E a c w CHK h)
  have BL := bytes_len CHK
  have BB := Lib.hid (bytes_bts E)
  have PF := Lib.hid (fun k (hk : k < E.bytes.length) => parse_front CHK (List.take_append_drop k E.bytes) (by intro h; have := congrArg List.length h; simp at this; omega))
  have PM := Lib.hid (parse_more CHK)
  generalize E.bytes = B at *
  have WI := Lib.hid (fun w => within3_any cut B.length w (by omega) (by omega) hcut.1 hcut.2)
  have rW := withinI_range cut B.length (by omega)
  generalize withinI cut B.length = q at *
  obtain ⟨k, rfl⟩ := Int.eq_ofNat_of_zero_le rW.1
  have hk : k < B.length := by omega
  have PK := Lib.hid (PF.out k hk)
  obtain ⟨T, hT⟩ : ∃ T, T = B.take k := ⟨_, rfl⟩
  have TL : T.length = k := by rw [hT, List.length_take]; omega
  have BT : Bts T := hT ▸ BB.out.take k
  have HBT := Lib.hid BT
  rw [← hT] at PK
  have HT := Lib.hid hT
  have HTL := Lib.hid TL
  clear BT hT TL
  obtain ⟨m0, m1⟩ := hmore
  obtain ⟨cn, im, co, mn, mx, gr⟩ := c
  unfold Cfg.v at *
  dsimp only at *
  clear hz hc hkd hn hdr hnm hcut rW PF CHK
  go_enter Tryz.func9, Tryz.ntmps9
  go_wp2_with fail
  refine (known3_any _).mono ?_
  rintro e wn1 ⟨rfl, hb1⟩
  have g1 : Grow.G w wn1 := Grow.G.trans (Grow.G.alloc (Grow.G.refl _) _) hb1
  have KB1 := Lib.hid (Evo.later hb1)
  have hxwn1c := (bcell hb1).1
  have hxwn1f := (bcell hb1).2.1
  have hxwn1z := (bcell hb1).2.2
  (try (have hlewn1_1 : w.heap.size ≤ wn1.heap.size := (by first | omega | (have hh := hxwn1z; (try simp at hh); omega))))
  (try (have hlwn1_1_0 : w.heap.size < wn1.heap.size := (by first | omega | (have hh := hxwn1z; (try simp at hh); omega))))
  (try (have hlwn1_1_1 : w.heap.size + 1 < wn1.heap.size := (by first | omega | (have hh := hxwn1z; (try simp at hh); omega))))
  (try (have hlwn1_1_2 : w.heap.size + 1 + 1 < wn1.heap.size := (by first | omega | (have hh := hxwn1z; (try simp at hh); omega))))
  go_wp2_with fail
  refine (MK.out _ (HZ.out.below g1)).mono ?_
  rintro e wn2 ⟨a2, c2, rfl, ht2, -, hb2⟩
  have g2 : Grow.G w wn2 := g1.trans hb2
  go_wp2_with fail
  refine (RB.out _ _ _ ht2).mono ?_
  rintro e wn3 ⟨v3, rfl, ho3, hb3⟩
  have g3 : Grow.G w wn3 := g2.trans hb3
  obtain ⟨s3, c3, rfl⟩ := own_shape ho3
  obtain ⟨b3, rfl, -, hcap, -⟩ := own_cap ho3 BL.1
  have S3 := Lib.hid (src_own ho3)
  have S3T := Lib.hid (show Fr.Src wn3 _ (T.map (Value.int .u8)) from by rw [HT.out]; exact src_take k S3.out)
  have G3 := Lib.hid g3
  clear hb1 hb2 hb3 g1 g2 g3 ht2 ho3
  go_wp2_with fail
  refine (WI.out _).mono ?_
  rintro e wx ⟨rfl, rfl⟩
  go_wp2_with (at_builtin; refine wpList_copyb rfl _ _ rfl rfl (by first | rfl | simp) T rfl HTL.out S3T.out (by have := HTL.out; omega) ?_)
  intro s4 c4 wn4 ho4 hg4
  obtain ⟨sb4, hp4⟩ := own_pz ho4
  have G4 := Lib.hid (G3.out.trans hg4)
  have S4 := Lib.hid (S3.out.grow hg4)
  clear G3 S3 S3T hg4 ho4
  go_wp2_with fail
  refine (eparse_any sb4 s4 c4 T wn4 hp4 HBT.out).mono ?_
  rintro e wn5 ⟨a5, c5, rfl, -, hb5⟩
  rw [PK.out]
  dsimp only
  rw [ev0_cells]
  have G5 := Lib.hid (G4.out.trans hb5)
  have S5 := Lib.hid (S4.out.grow hb5)
  clear G4 S4 hb5 hp4
  have GG : Grow.G wn5 (wn5.alloc (.cells #[.int .i64 0, .string ⟨#[]⟩, .string ⟨#[]⟩, .int .i64 0, .int .i64 0, .string ⟨#[]⟩, .int .i64 0, .int .i64 0, .int .i64 0, .int .i64 0, .int .i64 0, .string ⟨#[]⟩, .string ⟨#[]⟩, .slice a5 0 c5, .int .i64 0] 28)) := Grow.G.alloc (Grow.G.refl _) _
  have S6 := Lib.hid (S5.out.grow GG)
  have G6 := Lib.hid (G5.out.trans GG)
  clear GG
  go_wp2_with (at_builtin; refine wpList_copyb rfl _ _ rfl rfl (by first | (with_reducible rfl) | (simp; done)) B rfl rfl S6.out (by omega) ?_)
  intro s7 c7 wn7 ho7 hg7
  have HO7 := Lib.hid ho7
  have G7 := Lib.hid hg7
  clear ho7 hg7
  go_wp2_with (at_builtin; refine wpList_moreb rfl _ _ rfl rfl [more] rfl rfl (.inr ⟨_, rfl, news_new wn7 [.int .u8 more] _ _ rfl⟩) (own_later HO7.out (Grow.G.alloc (Grow.G.refl _) _)) rfl (G7.out.trans (Grow.G.alloc (Grow.G.refl _) _)) (by simp) (by have := G7.out.size; simp at this ⊢; omega) (by simp; omega) ?_)
  intro s8 c8 wn8 ho8 hg8
  obtain ⟨sb8, hp8⟩ := own_pz ho8
  have G8 := Lib.hid (G6.out.trans hg8)
  have HB8 := Lib.hid (show Bts (B ++ [more]) from BB.out.app (fun x hx => by rw [List.mem_singleton] at hx; subst hx; exact ⟨m0, m1⟩))
  clear G6 S6 hg8 ho8 HO7 G7
  go_wp2_with fail
  have EP := eparse_any sb8 s8 c8 (B ++ [more]) wn8 hp8 HB8.out
  rw [show (B ++ [more]).length = B.length + 1 by simp] at EP
  refine EP.mono ?_
  clear EP
  rintro e wn9 ⟨a9, c9, rfl, -, hb9⟩
  rw [PM.out]
  dsimp only
  rw [ev0_cells]
  have G9 := Lib.hid (G8.out.trans hb9)
  clear G8 hb9 hp8
  go_wp2_with fail
  go_ret
  exact ⟨rfl, G9.out.trans (Below.alloc (Below.refl _ _) (Nat.le_refl _) _)⟩
end Go.Proofs.YtnkekdmikopdgaaGreat
