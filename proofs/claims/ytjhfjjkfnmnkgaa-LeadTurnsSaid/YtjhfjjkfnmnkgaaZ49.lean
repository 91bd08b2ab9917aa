/- My own texts Rl3, Rl4, laid in one file. -/
import Derived.Test.YtjhfjjkfnmnkgaaZ48
import Derived.Test.YtjhfjjkfnmnkgaaZ40
import Derived.Test.YtjhfjjkfnmnkgaaZ44

/- roll.each: one thing of each of a list. -/
namespace Go.Proofs.Ytjhfjjkfnmnkgaa
set_option maxRecDepth 100000
set_option linter.unusedVariables false
set_option linter.unusedSimpArgs false
set_option linter.unnecessarySimpa false
open Go.RowKit Go.Args

set_option maxHeartbeats 4000000 in
theorem eachS_any (a : Option Addr) (l : List Shr) (c : Nat) (w : World) (hsm : Small l) (h : ShSl w a l) :
    Calls Try.prog 56 #[.slice a l.length c, .func (.func 57) #[] #[]] w fun e w' => ∃ b, e = .returned (.slice (some ⟨b, 0, none⟩) l.length l.length) ∧ w.heap.size ≤ b ∧ Blk w' b ((l.map id).flatMap Shr.cells).toArray 53 ∧ Grow.G w w' := by
  have HS := Lib.hid h
  have HM := Lib.hid hsm
  have hl := hsm.1
  have CO := Lib.hid (fun (s : Shr) (w : World) (h1 : 0 ≤ s.w ∧ s.w ≤ 1000) (h2 : s.rev.size ≤ 140737488351232) => rown_any s w h2)
  have HI : Hid ((Try.prog.info? 53).isSome = true) := Lib.hid (by kernel_rfl)
  have HC : Hid (Try.prog.cellsOf 53 = 2) := Lib.hid (by kernel_rfl)
  clear h hsm
  go_enter Try.func56, Try.ntmps56
  have MZ := make_shr l.length (by omega)
  go_wp2_with fail
  clear MZ
  have B0 := Blk.new w (zrS l.length).toArray 53
  have g0' := Grow.G.alloc (Grow.G.refl w) (.cells (zrS l.length).toArray 53)
  obtain ⟨W, hW⟩ : ∃ W, W = w.alloc (.cells (zrS l.length).toArray 53) := ⟨_, rfl⟩
  rw [← hW] at B0 g0' ⊢
  have zl := zrS_len l.length
  have hgb := B0.lt
  have HN := Lib.hid (fun (k : Nat) (s : Shr) (hs : l[k]? = some s) (wr : World) (hc : Chg (fun k => k = w.heap.size) W wr) => (show ∃ b off, a = some ⟨b, off, none⟩ ∧ ¬ b = w.heap.size ∧ wr.cell? ⟨b, off + k * 2, none⟩ = some (.string s.rev) ∧ wr.cell? ⟨b, off + k * 2 + 1, none⟩ = some (.int .i64 s.w) from by
    obtain ⟨b, off, ha, h0⟩ := HS.out.spot (List.getElem?_eq_some_iff.1 hs).1
    have q0 := h0 k s hs 0 _ rfl
    have hb := cell_in q0
    exact ⟨b, off, ha, by omega, hc.cell (cell_later g0' q0) (fun e => by omega), hc.cell (cell_later g0' (h0 k s hs 1 _ rfl)) (fun e => by omega)⟩))
  clear HS
  have G0 := Lib.hid g0'
  clear hW g0'
  obtain ⟨gb, hg⟩ : ∃ gb, gb = w.heap.size := ⟨_, rfl⟩
  rw [← hg] at B0 hgb HN ⊢
  have hgw : w.heap.size ≤ gb := by omega
  clear hg
  generalize zrS l.length = zs at *
  go_loopw [13] (fun i wr => ∃ k : Nat, k ≤ l.length ∧ i = .int .i64 k ∧ Hid (Blk wr gb (((l.map id).take k).flatMap Shr.cells ++ zs.drop (k * 2)).toArray 53) ∧ Hid (Chg (fun k => k = gb) W wr)) (fun i _ => l.length - (intOf i).toNat)
  case atStart => exact ⟨0, by omega, rfl, Lib.hid (by simpa using B0), Lib.hid (Chg.refl _ _)⟩
  case round =>
    obtain ⟨k, hk, rfl, BG, CG⟩ := hrel
    by_cases hlt : k < l.length
    · obtain ⟨s, hs⟩ : ∃ s, l[k]? = some s := ⟨_, List.getElem?_eq_getElem hlt⟩
      obtain ⟨sb, off, rfl, hne, c0, c1⟩ := HN.out k s hs wr CG.out
      have hsm := HM.out.2 s (List.mem_of_getElem? hs)
      have CW := Lib.hid (fun w => CO.out s w ⟨hsm.1, hsm.2.1⟩ (by omega))
      have STP := Lib.hid (fun (o : Nat) (ho : o = k * 2) => made_step (cells := Shr.cells) (n := 2) (fun x => rfl) (l := l.map id) (k := k) (x := id s) (by rw [List.getElem?_map, hs]; rfl) (zs := zs) (o := o) ho)
      have d0 : decide ((k : Int) < (l.length : Int)) = true := decide_eq_true (by omega)
      have hk1 : IntKind.i64.wrap ((k : Int) + 1) = (k : Int) + 1 := IntWalk.i64_in _ ⟨by omega, by omega⟩
      have k1 : (0 : Int) ≤ (k : Int) := by omega
      have k2 : (k : Int) < (l.length : Int) := by omega
      have hlr := BG.out.lt
      obtain ⟨rv, x⟩ := s
      dsimp only at *
      clear hs hsm
      go_wp2_with fail
      have g1 := Grow.G.alloc (Grow.G.refl wr) (.cells #[.string rv, .int .i64 x] 53)
      have Q1 := Blk.new wr #[.string rv, .int .i64 x] 53
      obtain ⟨W1, hW1⟩ : ∃ W1, W1 = wr.alloc (.cells #[.string rv, .int .i64 x] 53) := ⟨_, rfl⟩
      rw [← hW1] at g1 Q1 ⊢
      refine (CW.out _).mono ?_
      rintro e w2 ⟨rfl, hg2⟩
      have g3 := g1.trans hg2
      have B2 := BG.out.grow g3
      have BB := Lib.hid B2
      have CC := Lib.hid (CG.out.trans (Chg.grow g3))
      have hl2 : gb < w2.heap.size := B2.lt
      have HF : Hid (∀ o, o = k * 2 → o + 2 ≤ (((l.map id).take k).flatMap Shr.cells ++ zs.drop (k * 2)).length) := Lib.hid (fun o ho => by
        have e1 := flat_len (cells := Shr.cells) (n := 2) (fun x => rfl) ((l.map id).take k)
        rw [List.length_take, List.length_map, Nat.min_eq_left (by omega)] at e1
        have : (k + 1) * 2 ≤ l.length * 2 := Nat.mul_le_mul_right _ hlt
        rw [List.length_append, e1, List.length_drop]; omega)
      have HO : Hid (∀ u ∈ (Value.agg (Shr.cells (id ⟨rv, x⟩)).toArray).cells.toList, u.oneCell' = true) := Lib.hid (by intro u hu; simp [Value.cells, Shr.cells, id] at hu; rcases hu with rfl | rfl <;> rfl)
      clear g1 Q1 hW1 hg2 B2 BG CG
      go_wp2_with (refine storeS (t := 53) rfl rfl rfl rfl BB.out ⟨HI.out, HC.out⟩ (HF.out _ rfl) HO.out ?_; intro w3 B3 C3; have B3 := Lib.hid B3; have C3 := Lib.hid C3)
      have BZ : Blk w3 gb (((l.map id).take (k + 1)).flatMap Shr.cells ++ zs.drop ((k + 1) * 2)).toArray 53 := by
        have e := STP.out (k * 2) rfl
        rw [← e]
        exact B3.out
      refine Stay.go ?_
      have BZ := Lib.hid BZ
      have CZ := Lib.hid (CC.out.trans C3.out)
      clear B3 C3 CC BB STP HF HO
      go_wp2_with fail
      go_roundw
      case rel => exact ⟨k + 1, by omega, by go_num, BZ, CZ⟩
      case measure => simp [intOf]; omega
    · have d0 : decide ((k : Int) < (l.length : Int)) = false := decide_eq_false (by omega)
      obtain rfl : k = l.length := by omega
      have BG := BG.out
      rw [List.take_of_length_le (by simp), List.drop_eq_nil_of_le (by omega), List.append_nil] at BG
      have BG := Lib.hid BG
      clear HN
      go_wp2_with fail
      go_ret
      exact ⟨gb, rfl, by omega, BG.out, (Chg.trans (Chg.grow G0.out) CG.out).toGrow (fun k hk e => by omega)⟩
set_option maxHeartbeats 4000000 in
theorem eachB_any (a : Option Addr) (l : List Shr) (c : Nat) (w : World) (hsm : Small l) (h : ShSl w a l) :
    Calls Try.prog 67 #[.slice a l.length c, .func (.func 68) #[] #[]] w fun e w' => ∃ b, e = .returned (.slice (some ⟨b, 0, none⟩) l.length l.length) ∧ w.heap.size ≤ b ∧ Blk w' b ((l.map stW).flatMap Wy.cells).toArray 106 ∧ Grow.G w w' := by
  have HS := Lib.hid h
  have HM := Lib.hid hsm
  have hl := hsm.1
  have CO := Lib.hid (fun (s : Shr) (w : World) (h1 : 0 ≤ s.w ∧ s.w ≤ 1000) (h2 : s.rev.size ≤ 140737488351232) => rstart_any s w ⟨by omega, by omega⟩ (by omega))
  have HI : Hid ((Try.prog.info? 106).isSome = true) := Lib.hid (by kernel_rfl)
  have HC : Hid (Try.prog.cellsOf 106 = 3) := Lib.hid (by kernel_rfl)
  clear h hsm
  go_enter Try.func67, Try.ntmps67
  have MZ := make_way l.length (by omega)
  go_wp2_with fail
  clear MZ
  have B0 := Blk.new w (zrW l.length).toArray 106
  have g0' := Grow.G.alloc (Grow.G.refl w) (.cells (zrW l.length).toArray 106)
  obtain ⟨W, hW⟩ : ∃ W, W = w.alloc (.cells (zrW l.length).toArray 106) := ⟨_, rfl⟩
  rw [← hW] at B0 g0' ⊢
  have zl := zrW_len l.length
  have hgb := B0.lt
  have HN := Lib.hid (fun (k : Nat) (s : Shr) (hs : l[k]? = some s) (wr : World) (hc : Chg (fun k => k = w.heap.size) W wr) => (show ∃ b off, a = some ⟨b, off, none⟩ ∧ ¬ b = w.heap.size ∧ wr.cell? ⟨b, off + k * 2, none⟩ = some (.string s.rev) ∧ wr.cell? ⟨b, off + k * 2 + 1, none⟩ = some (.int .i64 s.w) from by
    obtain ⟨b, off, ha, h0⟩ := HS.out.spot (List.getElem?_eq_some_iff.1 hs).1
    have q0 := h0 k s hs 0 _ rfl
    have hb := cell_in q0
    exact ⟨b, off, ha, by omega, hc.cell (cell_later g0' q0) (fun e => by omega), hc.cell (cell_later g0' (h0 k s hs 1 _ rfl)) (fun e => by omega)⟩))
  clear HS
  have G0 := Lib.hid g0'
  clear hW g0'
  obtain ⟨gb, hg⟩ : ∃ gb, gb = w.heap.size := ⟨_, rfl⟩
  rw [← hg] at B0 hgb HN ⊢
  have hgw : w.heap.size ≤ gb := by omega
  clear hg
  generalize zrW l.length = zs at *
  go_loopw [13] (fun i wr => ∃ k : Nat, k ≤ l.length ∧ i = .int .i64 k ∧ Hid (Blk wr gb (((l.map stW).take k).flatMap Wy.cells ++ zs.drop (k * 3)).toArray 106) ∧ Hid (Chg (fun k => k = gb) W wr)) (fun i _ => l.length - (intOf i).toNat)
  case atStart => exact ⟨0, by omega, rfl, Lib.hid (by simpa using B0), Lib.hid (Chg.refl _ _)⟩
  case round =>
    obtain ⟨k, hk, rfl, BG, CG⟩ := hrel
    by_cases hlt : k < l.length
    · obtain ⟨s, hs⟩ : ∃ s, l[k]? = some s := ⟨_, List.getElem?_eq_getElem hlt⟩
      obtain ⟨sb, off, rfl, hne, c0, c1⟩ := HN.out k s hs wr CG.out
      have hsm := HM.out.2 s (List.mem_of_getElem? hs)
      have CW := Lib.hid (fun w => CO.out s w ⟨hsm.1, hsm.2.1⟩ (by omega))
      have STP := Lib.hid (fun (o : Nat) (ho : o = k * 3) => made_step (cells := Wy.cells) (n := 3) (fun x => rfl) (l := l.map stW) (k := k) (x := stW s) (by rw [List.getElem?_map, hs]; rfl) (zs := zs) (o := o) ho)
      have d0 : decide ((k : Int) < (l.length : Int)) = true := decide_eq_true (by omega)
      have hk1 : IntKind.i64.wrap ((k : Int) + 1) = (k : Int) + 1 := IntWalk.i64_in _ ⟨by omega, by omega⟩
      have k1 : (0 : Int) ≤ (k : Int) := by omega
      have k2 : (k : Int) < (l.length : Int) := by omega
      have hlr := BG.out.lt
      obtain ⟨rv, x⟩ := s
      dsimp only at *
      clear hs hsm
      go_wp2_with fail
      have g1 := Grow.G.alloc (Grow.G.refl wr) (.cells #[.string rv, .int .i64 x] 53)
      have Q1 := Blk.new wr #[.string rv, .int .i64 x] 53
      obtain ⟨W1, hW1⟩ : ∃ W1, W1 = wr.alloc (.cells #[.string rv, .int .i64 x] 53) := ⟨_, rfl⟩
      rw [← hW1] at g1 Q1 ⊢
      refine (CW.out _).mono ?_
      rintro e w2 ⟨rfl, hg2⟩
      have g3 := g1.trans hg2
      have B2 := BG.out.grow g3
      have BB := Lib.hid B2
      have CC := Lib.hid (CG.out.trans (Chg.grow g3))
      have hl2 : gb < w2.heap.size := B2.lt
      have HF : Hid (∀ o, o = k * 3 → o + 3 ≤ (((l.map stW).take k).flatMap Wy.cells ++ zs.drop (k * 3)).length) := Lib.hid (fun o ho => by
        have e1 := flat_len (cells := Wy.cells) (n := 3) (fun x => rfl) ((l.map stW).take k)
        rw [List.length_take, List.length_map, Nat.min_eq_left (by omega)] at e1
        have : (k + 1) * 3 ≤ l.length * 3 := Nat.mul_le_mul_right _ hlt
        rw [List.length_append, e1, List.length_drop]; omega)
      have HO : Hid (∀ u ∈ (Value.agg (Wy.cells (stW ⟨rv, x⟩)).toArray).cells.toList, u.oneCell' = true) := Lib.hid (by intro u hu; simp [Value.cells, Wy.cells, stW] at hu; rcases hu with rfl | rfl | rfl <;> rfl)
      clear g1 Q1 hW1 hg2 B2 BG CG
      go_wp2_with (refine storeS (t := 106) rfl rfl rfl rfl BB.out ⟨HI.out, HC.out⟩ (HF.out _ rfl) HO.out ?_; intro w3 B3 C3; have B3 := Lib.hid B3; have C3 := Lib.hid C3)
      have BZ : Blk w3 gb (((l.map stW).take (k + 1)).flatMap Wy.cells ++ zs.drop ((k + 1) * 3)).toArray 106 := by
        have e := STP.out (k * 3) rfl
        rw [← e]
        exact B3.out
      refine Stay.go ?_
      have BZ := Lib.hid BZ
      have CZ := Lib.hid (CC.out.trans C3.out)
      clear B3 C3 CC BB STP HF HO
      go_wp2_with fail
      go_roundw
      case rel => exact ⟨k + 1, by omega, by go_num, BZ, CZ⟩
      case measure => simp [intOf]; omega
    · have d0 : decide ((k : Int) < (l.length : Int)) = false := decide_eq_false (by omega)
      obtain rfl : k = l.length := by omega
      have BG := BG.out
      rw [List.take_of_length_le (by simp), List.drop_eq_nil_of_le (by omega), List.append_nil] at BG
      have BG := Lib.hid BG
      clear HN
      go_wp2_with fail
      go_ret
      exact ⟨gb, rfl, by omega, BG.out, (Chg.trans (Chg.grow G0.out) CG.out).toGrow (fun k hk e => by omega)⟩
set_option maxHeartbeats 4000000 in
theorem eachE_any (a : Option Addr) (l : List Shr) (c : Nat) (w : World) (hsm : Small l) (h : ShSl w a l) :
    Calls Try.prog 67 #[.slice a l.length c, .func (.func 69) #[] #[]] w fun e w' => ∃ b, e = .returned (.slice (some ⟨b, 0, none⟩) l.length l.length) ∧ w.heap.size ≤ b ∧ Blk w' b ((l.map enW).flatMap Wy.cells).toArray 106 ∧ Grow.G w w' := by
  have HS := Lib.hid h
  have HM := Lib.hid hsm
  have hl := hsm.1
  have CO := Lib.hid (fun (s : Shr) (w : World) (h1 : 0 ≤ s.w ∧ s.w ≤ 1000) (h2 : s.rev.size ≤ 140737488351232) => rend_any s w)
  have HI : Hid ((Try.prog.info? 106).isSome = true) := Lib.hid (by kernel_rfl)
  have HC : Hid (Try.prog.cellsOf 106 = 3) := Lib.hid (by kernel_rfl)
  clear h hsm
  go_enter Try.func67, Try.ntmps67
  have MZ := make_way l.length (by omega)
  go_wp2_with fail
  clear MZ
  have B0 := Blk.new w (zrW l.length).toArray 106
  have g0' := Grow.G.alloc (Grow.G.refl w) (.cells (zrW l.length).toArray 106)
  obtain ⟨W, hW⟩ : ∃ W, W = w.alloc (.cells (zrW l.length).toArray 106) := ⟨_, rfl⟩
  rw [← hW] at B0 g0' ⊢
  have zl := zrW_len l.length
  have hgb := B0.lt
  have HN := Lib.hid (fun (k : Nat) (s : Shr) (hs : l[k]? = some s) (wr : World) (hc : Chg (fun k => k = w.heap.size) W wr) => (show ∃ b off, a = some ⟨b, off, none⟩ ∧ ¬ b = w.heap.size ∧ wr.cell? ⟨b, off + k * 2, none⟩ = some (.string s.rev) ∧ wr.cell? ⟨b, off + k * 2 + 1, none⟩ = some (.int .i64 s.w) from by
    obtain ⟨b, off, ha, h0⟩ := HS.out.spot (List.getElem?_eq_some_iff.1 hs).1
    have q0 := h0 k s hs 0 _ rfl
    have hb := cell_in q0
    exact ⟨b, off, ha, by omega, hc.cell (cell_later g0' q0) (fun e => by omega), hc.cell (cell_later g0' (h0 k s hs 1 _ rfl)) (fun e => by omega)⟩))
  clear HS
  have G0 := Lib.hid g0'
  clear hW g0'
  obtain ⟨gb, hg⟩ : ∃ gb, gb = w.heap.size := ⟨_, rfl⟩
  rw [← hg] at B0 hgb HN ⊢
  have hgw : w.heap.size ≤ gb := by omega
  clear hg
  generalize zrW l.length = zs at *
  go_loopw [13] (fun i wr => ∃ k : Nat, k ≤ l.length ∧ i = .int .i64 k ∧ Hid (Blk wr gb (((l.map enW).take k).flatMap Wy.cells ++ zs.drop (k * 3)).toArray 106) ∧ Hid (Chg (fun k => k = gb) W wr)) (fun i _ => l.length - (intOf i).toNat)
  case atStart => exact ⟨0, by omega, rfl, Lib.hid (by simpa using B0), Lib.hid (Chg.refl _ _)⟩
  case round =>
    obtain ⟨k, hk, rfl, BG, CG⟩ := hrel
    by_cases hlt : k < l.length
    · obtain ⟨s, hs⟩ : ∃ s, l[k]? = some s := ⟨_, List.getElem?_eq_getElem hlt⟩
      obtain ⟨sb, off, rfl, hne, c0, c1⟩ := HN.out k s hs wr CG.out
      have hsm := HM.out.2 s (List.mem_of_getElem? hs)
      have CW := Lib.hid (fun w => CO.out s w ⟨hsm.1, hsm.2.1⟩ (by omega))
      have STP := Lib.hid (fun (o : Nat) (ho : o = k * 3) => made_step (cells := Wy.cells) (n := 3) (fun x => rfl) (l := l.map enW) (k := k) (x := enW s) (by rw [List.getElem?_map, hs]; rfl) (zs := zs) (o := o) ho)
      have d0 : decide ((k : Int) < (l.length : Int)) = true := decide_eq_true (by omega)
      have hk1 : IntKind.i64.wrap ((k : Int) + 1) = (k : Int) + 1 := IntWalk.i64_in _ ⟨by omega, by omega⟩
      have k1 : (0 : Int) ≤ (k : Int) := by omega
      have k2 : (k : Int) < (l.length : Int) := by omega
      have hlr := BG.out.lt
      obtain ⟨rv, x⟩ := s
      dsimp only at *
      clear hs hsm
      go_wp2_with fail
      have g1 := Grow.G.alloc (Grow.G.refl wr) (.cells #[.string rv, .int .i64 x] 53)
      have Q1 := Blk.new wr #[.string rv, .int .i64 x] 53
      obtain ⟨W1, hW1⟩ : ∃ W1, W1 = wr.alloc (.cells #[.string rv, .int .i64 x] 53) := ⟨_, rfl⟩
      rw [← hW1] at g1 Q1 ⊢
      refine (CW.out _).mono ?_
      rintro e w2 ⟨rfl, hg2⟩
      have g3 := g1.trans hg2
      have B2 := BG.out.grow g3
      have BB := Lib.hid B2
      have CC := Lib.hid (CG.out.trans (Chg.grow g3))
      have hl2 : gb < w2.heap.size := B2.lt
      have HF : Hid (∀ o, o = k * 3 → o + 3 ≤ (((l.map enW).take k).flatMap Wy.cells ++ zs.drop (k * 3)).length) := Lib.hid (fun o ho => by
        have e1 := flat_len (cells := Wy.cells) (n := 3) (fun x => rfl) ((l.map enW).take k)
        rw [List.length_take, List.length_map, Nat.min_eq_left (by omega)] at e1
        have : (k + 1) * 3 ≤ l.length * 3 := Nat.mul_le_mul_right _ hlt
        rw [List.length_append, e1, List.length_drop]; omega)
      have HO : Hid (∀ u ∈ (Value.agg (Wy.cells (enW ⟨rv, x⟩)).toArray).cells.toList, u.oneCell' = true) := Lib.hid (by intro u hu; simp [Value.cells, Wy.cells, enW] at hu; rcases hu with rfl | rfl | rfl <;> rfl)
      clear g1 Q1 hW1 hg2 B2 BG CG
      go_wp2_with (refine storeS (t := 106) rfl rfl rfl rfl BB.out ⟨HI.out, HC.out⟩ (HF.out _ rfl) HO.out ?_; intro w3 B3 C3; have B3 := Lib.hid B3; have C3 := Lib.hid C3)
      have BZ : Blk w3 gb (((l.map enW).take (k + 1)).flatMap Wy.cells ++ zs.drop ((k + 1) * 3)).toArray 106 := by
        have e := STP.out (k * 3) rfl
        rw [← e]
        exact B3.out
      refine Stay.go ?_
      have BZ := Lib.hid BZ
      have CZ := Lib.hid (CC.out.trans C3.out)
      clear B3 C3 CC BB STP HF HO
      go_wp2_with fail
      go_roundw
      case rel => exact ⟨k + 1, by omega, by go_num, BZ, CZ⟩
      case measure => simp [intOf]; omega
    · have d0 : decide ((k : Int) < (l.length : Int)) = false := decide_eq_false (by omega)
      obtain rfl : k = l.length := by omega
      have BG := BG.out
      rw [List.take_of_length_le (by simp), List.drop_eq_nil_of_le (by omega), List.append_nil] at BG
      have BG := Lib.hid BG
      clear HN
      go_wp2_with fail
      go_ret
      exact ⟨gb, rfl, by omega, BG.out, (Chg.trans (Chg.grow G0.out) CG.out).toGrow (fun k hk e => by omega)⟩

theorem SlOf.tail {α : Type} {cells : α → List Value} {n : Nat} {w : World} {b off : Nat} {x : α} {l : List α} (h : SlOf w cells n (some ⟨b, off, none⟩) (x :: l)) : SlOf w cells n (some ⟨b, off + n, none⟩) l := by
  rcases h with h | ⟨b', off', e, h⟩
  · cases h
  · cases e
    refine .inr ⟨b, off + n, rfl, fun i y hi j v hj => ?_⟩
    have := h (i + 1) y (by simpa using hi) j v hj
    rw [show off + (i + 1) * n + j = off + n + i * n + j by rw [Nat.succ_mul]; omega] at this
    exact this
theorem SlOf.tailIf {α : Type} {cells : α → List Value} {n : Nat} {w : World} {b off : Nat} {x : α} {l : List α} {d : Nat} (h : SlOf w cells n (some ⟨b, off, none⟩) (x :: l)) (hd : l.length + 1 ≤ d) : SlOf w cells n (if d = 1 then some ⟨b, off, none⟩ else some ⟨b, off + n, none⟩) l := by
  by_cases e : d = 1
  · exact .inl (List.eq_nil_of_length_eq_zero (by omega))
  · rw [if_neg e]; exact SlOf.tail h
theorem SlOf.head3 {w : World} {a : Option Addr} {x : Wy} {l : List Wy} (h : WySl w a (x :: l)) : ∃ b off, a = some ⟨b, off, none⟩ ∧ w.cell? ⟨b, off, none⟩ = some (.string x.rev) ∧ w.cell? ⟨b, off + 1, none⟩ = some (.int .i64 x.w) ∧ w.cell? ⟨b, off + 2, none⟩ = some (.int .i64 x.c) := by
  obtain ⟨b, off, ha, hc⟩ := h.spot (i := 0) (by simp)
  refine ⟨b, off, ha, ?_, ?_, ?_⟩
  · simpa using hc 0 x rfl 0 _ rfl
  · simpa using hc 0 x rfl 1 _ rfl
  · simpa using hc 0 x rfl 2 _ rfl
set_option maxHeartbeats 8000000 in
theorem merge_any (a : Option Addr) (xs : List Wy) (c : Nat) (b : Option Addr) (ys : List Wy) (d : Nat) (w : World) (hx : xs.length ≤ 1000) (hy : ys.length ≤ 1000) (hc : xs.length ≤ c) (hd : ys.length ≤ d) (hc2 : c ≤ 1000000) (hd2 : d ≤ 1000000) (h1 : WySl w a xs) (h2 : WySl w b ys) :
    Calls Try.prog 66 #[.slice a xs.length c, .slice b ys.length d, .func (.func 70) #[] #[]] w fun e w' => ∃ v, e = .returned v ∧ w'.ownsRow w.heap.size 106 3 v (mrgW xs ys).length ((mrgW xs ys).flatMap Wy.cells) ∧ Grow.G w w' := by
  have H1 := Lib.hid h1
  have H2 := Lib.hid h2
  clear h1 h2
  obtain ⟨i0, hi, hz0, hz1, hz2⟩ := info_parts infoWy
  have hsum : IntKind.i64.wrap ((xs.length : Int) + (ys.length : Int)) = (xs.length : Int) + (ys.length : Int) := IntWalk.i64_in _ ⟨by omega, by omega⟩
  have MZ := make_way0 (xs.length + ys.length) (by omega)
  rw [Int.natCast_add] at MZ
  go_enter Try.func66, Try.ntmps66
  go_wp2_with fail
  clear MZ
  have O0 : (w.alloc (.cells (zrW (xs.length + ys.length)).toArray 106)).ownsRow w.heap.size 106 3 (.slice (some ⟨w.heap.size, 0, none⟩) 0 (xs.length + ys.length)) 0 [] :=
    ⟨rfl, .inr ⟨w.heap.size, xs.length + ys.length, _, rfl, Nat.le_refl _, (MapKept.heap_alloc w _).1, Nat.zero_le _, by unfold maxLen; omega, by simp [zrW_len], by simp⟩⟩
  have g0' := Grow.G.alloc (Grow.G.refl w) (.cells (zrW (xs.length + ys.length)).toArray 106)
  obtain ⟨W, hW⟩ : ∃ W, W = w.alloc (.cells (zrW (xs.length + ys.length)).toArray 106) := ⟨_, rfl⟩
  rw [← hW] at O0 g0' ⊢
  have hle : w.heap.size ≤ W.heap.size := g0'.size
  clear hW
  have HI := Lib.hid hi
  have HZ0 := Lib.hid hz0
  have HZ1 := Lib.hid hz1
  have HZ2 := Lib.hid hz2
  have HZ3 := Lib.hid hi
  clear hi hz0 hz1 hz2
  generalize Value.slice (some ⟨w.heap.size, 0, none⟩) 0 (xs.length + ys.length) = lv at *
  go_loopw [0, 1, 7, 19] (fun av bv lv i wr => ∃ (a' : Option Addr) (X : List Wy) (c' : Nat) (b' : Option Addr) (Y : List Wy) (d' : Nat) (acc : List Wy) (v : Value), v = lv ∧ av = .slice a' X.length c' ∧ X.length ≤ c' ∧ c' ≤ 1000000 ∧ bv = .slice b' Y.length d' ∧ Y.length ≤ d' ∧ d' ≤ 1000000 ∧ i = .int .i64 acc.length ∧ acc.length + X.length + Y.length = xs.length + ys.length ∧ Hid (WySl w a' X) ∧ Hid (WySl w b' Y) ∧ Hid (wr.ownsRow w.heap.size 106 3 v acc.length (acc.flatMap Wy.cells)) ∧ Hid (acc ++ mrgW X Y = mrgW xs ys) ∧ Hid (Grow.G w wr)) (fun _ _ _ i _ => xs.length + ys.length - (intOf i).toNat)
  case atStart => exact ⟨a, xs, c, b, ys, d, [], lv, rfl, rfl, hc, hc2, rfl, hd, hd2, rfl, by simp, H1, H2, Lib.hid O0, Lib.hid rfl, Lib.hid g0'⟩
  case round =>
    obtain ⟨a', X, c', b', Y, d', acc, v, rfl, rfl, hX, hc', rfl, hY, hd', rfl, hlen, S1, S2, OW, EQ, G⟩ := hrel
    have k1 : (0 : Int) ≤ (acc.length : Int) := by omega
    have HV : Hid (∀ k, v.ownBlock = some k → w.heap.size ≤ k) := Lib.hid (fun k hk => (OW.out.lt k hk).1)
    have hk1 : IntKind.i64.wrap ((acc.length : Int) + 1) = (acc.length : Int) + 1 := IntWalk.i64_in _ ⟨by omega, by omega⟩
    cases X with
    | nil =>
      cases Y with
      | nil =>
        simp at hlen
        have d0 : decide ((acc.length : Int) < ((xs.length : Int) + (ys.length : Int))) = false := decide_eq_false (by omega)
        have E : Hid (acc = mrgW xs ys) := Lib.hid (by have h := EQ.out; rw [mrgW_nil, List.append_nil] at h; exact h)
        simp only [List.length_nil]
        go_wp2_with fail
        go_ret
        exact ⟨_, rfl, by rw [← E.out]; exact OW.out, G.out⟩
      | cons y Y =>
        simp only [List.length_nil, List.length_cons] at hlen hY ⊢
        have d0 : decide ((acc.length : Int) < ((xs.length : Int) + (ys.length : Int))) = true := decide_eq_true (by omega)
        have EQ' : Hid (acc ++ ([y] ++ mrgW [] Y) = mrgW xs ys) := Lib.hid (by have h := EQ.out; rw [mrgW_nil] at h; rw [mrgW_nil]; exact h)
        clear EQ
        obtain ⟨yb, yo, rfl, d0, d1, d2⟩ := SlOf.head3 S2.out
        have db := cell_in d0
        have KC := Lib.hid (fun (w' : World) (h : Chg (fun k => v.ownBlock = some k) wr w') => (⟨h.cell (cell_later G.out d0) (fun q => by have := HV.out _ q; omega), h.cell (cell_later G.out d1) (fun q => by have := HV.out _ q; omega), h.cell (cell_later G.out d2) (fun q => by have := HV.out _ q; omega), trivial⟩ : w'.cell? ⟨yb, yo, none⟩ = some (.string y.rev) ∧ w'.cell? ⟨yb, yo + 1, none⟩ = some (.int .i64 y.w) ∧ w'.cell? ⟨yb, yo + 2, none⟩ = some (.int .i64 y.c) ∧ True))
        have KC0 := Lib.hid (fun (w' : World) (h : Chg (fun _ => False) wr w') => KC.out w' (h.mono fun _ _ q => q.elim))
        clear d0 d1 d2 db
        have TL : Hid (WySl w (if d' = 1 then some ⟨yb, yo, none⟩ else some ⟨yb, yo + 3, none⟩) Y) := Lib.hid (SlOf.tailIf S2.out hY)
        have hs1 : (1 : Int) ≤ (Y.length : Int) + 1 := by omega
        have SB := Lib.hid True.intro
        go_wp2_with fail
        refine Evo2.start' (ℓ := none) (S := Chg (fun _ => False)) (E := Grow.G) (by kernel_rfl) ⟨Chg.pre _, by decide +kernel, (by intro c a d v w h; cases d <;> exact h), by decide +kernel⟩ (fun ok => ?_)
        refine Evo2.va ok 0 _ _ ?_
        refine Evo2.va ok 1 _ _ ?_
        refine Evo2.va ok 2 _ _ ?_
        refine Evo2.va ok 3 _ _ ?_
        first | (refine Evo2.va ok 4 _ _ ?_) | (refine Evo2.vi ok 4 _ ?_)
        first | (refine Evo2.va ok 5 _ _ ?_) | (refine Evo2.vi ok 5 _ ?_)
        first | (refine Evo2.va ok 6 _ _ ?_) | (refine Evo2.vi ok 6 _ ?_)
        first | (refine Evo2.va ok 7 _ _ ?_) | (refine Evo2.vi ok 7 _ ?_)
        first | (refine Evo2.va ok 8 _ _ ?_) | (refine Evo2.vi ok 8 _ ?_)
        first | (refine Evo2.va ok 9 _ _ ?_) | (refine Evo2.vi ok 9 _ ?_)
        first | (refine Evo2.va ok 10 _ _ ?_) | (refine Evo2.vi ok 10 _ ?_)
        first | (refine Evo2.vl ok 11 KC0.out (Chg.refl (fun _ => False) _) _ _ ?_) | (refine Evo2.va ok 11 _ _ ?_) | (refine Evo2.vi ok 11 _ ?_)
        first | (refine Evo2.va ok 12 _ _ ?_) | (refine Evo2.vi ok 12 _ ?_)
        first | (refine Evo2.va ok 13 _ _ ?_) | (refine Evo2.vi ok 13 _ ?_)
        first | (refine Evo2.vl ok 14 KC0.out (Chg.refl (fun _ => False) _) _ _ ?_) | (refine Evo2.va ok 14 _ _ ?_) | (refine Evo2.vi ok 14 _ ?_)
        first | (refine Evo2.cal ok 15 ?_ 70 ?_ ?_ ?_ ?_; rotate_left 2; (focus (intro w'; go_simp <;> with_reducible rfl)); (focus (intro w' g'; with_reducible exact SB.out w')); simp only [Act.put, L0, L1, L2]) | (refine Evo2.vi ok 15 _ ?_)
        first | (refine Evo2.va ok 16 _ _ ?_) | (refine Evo2.vi ok 16 _ ?_)
        refine Evo2.va ok 17 _ _ ?_
        refine Evo2.done (by decide +kernel) (fun wz gz => ?_)
        have AZ := Chg.trans (Chg.refl (fun _ => False) _) (Chg.grow gz)
        have G4 := Lib.hid (g0 AZ)
        have OW4 := Lib.hid (own_later OW.out G4.out)
        have KC4 := Lib.hid (fun (w' : World) (h : Chg (fun k => v.ownBlock = some k) wz w') => KC.out w' (Chg.trans (Chg.grow G4.out) h))
        have hs4 := G4.out.size
        have hs3 := G.out.size
        clear AZ KC KC0 gz
        generalize wz = W4 at *
        go_wp2_with fail
        refine Evo2.start' (ℓ := none) (S := Chg (fun k => v.ownBlock = some k)) (E := Grow.G) (by kernel_rfl) ⟨Chg.pre _, by decide +kernel, (by intro c a d v w h; cases d <;> exact h), by decide +kernel⟩ (fun ok => ?_)
        refine Evo2.va ok 0 _ _ ?_
        refine Evo2.va ok 1 _ _ ?_
        refine Evo2.va ok 2 _ _ ?_
        first | (refine Evo2.vl ok 3 KC4.out (Chg.refl (fun k => v.ownBlock = some k) _) _ _ ?_) | (refine Evo2.va ok 3 _ _ ?_)
        refine Evo2.va ok 6 _ _ ?_
        refine Evo2.va ok 7 _ _ ?_
        refine Evo2.all [4] (by decide +kernel) rfl ?_
        intro wp1 gp1 iq hq
        simp only [List.mem_cons, List.mem_nil_iff, or_false] at hq
        have AP1 := Chg.trans (Chg.refl (fun k => v.ownBlock = some k) _) (Chg.grow gp1)
        subst hq
        refine Evo2.runs (by rfl) (by rfl) (fun K' hK' => ?_)
        (try obtain ⟨q1, q2, q3⟩ := KC4.out wp1 AP1)
        go_simp
        (try (simp only [Evo.after_value, Evo.after_skip]))
        refine hK'.out _ _ ?_
        clear hK'
        simp only [Act.put, L0, L1, L2]
        (try clear q1 q2 q3)
        refine ⟨.inr (Chg.alloc (Chg.refl _ _) _), ?_⟩
        generalize hG1 : World.alloc wp1 _ = wg1
        have GG1 : Grow.G wp1 wg1 := hG1 ▸ Grow.G.alloc (Grow.G.refl _) _
        have NC1 := (congrArg (fun W : World => W.heap[wp1.heap.size]?) hG1).symm.trans (MapKept.heap_alloc wp1 _).1
        have NL1 : wp1.heap.size < wg1.heap.size := by rw [← hG1]; simp
        clear hG1
        refine Evo2.all [5] (by decide +kernel) rfl ?_
        intro wp2 gp2 iq hq
        simp only [List.mem_cons, List.mem_nil_iff, or_false] at hq
        have AP2 := Chg.trans (Chg.trans AP1 (Chg.grow GG1)) (Chg.grow gp2)
        have NC1 := (gp2.block _ NL1).trans NC1
        have NL1 := Nat.lt_of_lt_of_le NL1 gp2.size
        subst hq
        refine Fr.own_fr (by rfl) (by rfl) (Operand.tmp 39) (Operand.tmp 43) 97 (by rfl) w.heap.size 106 i0 (.agg #[.string ⟨#[]⟩, .int .i64 0, .int .i64 0]) 3 32 Try.underlying97 HI.out HZ0.out HZ1.out HZ2.out rfl (by decide) _ _ _ (by rfl) (own_later OW4.out ?_) _ 1 1 [.string y.rev, .int .i64 y.w, .int .i64 y.c] (by rfl) rfl (news_at NC1) ?_ ?_ ?_ ?_ ?_ 
        · exact (gp1.trans GG1).trans gp2 
        · intro u hu; simp at hu; rcases hu with rfl | rfl | rfl <;> rfl 
        · unfold maxLen; omega 
        · omega 
        · have := AP2.size; omega
        intro vw2 wc2 OW2 fr2
        have CH2 : Chg (fun k => v.ownBlock = some k) _ _ := Chg.ofFr fr2
        refine ⟨.inr CH2, ?_⟩
        have AC2 := Chg.trans AP2 CH2
        simp only [Act.put, L0, L1, L2]
        refine Evo2.va ok 8 _ _ ?_
        refine Evo2.va ok 9 _ _ ?_
        refine Evo2.done (by decide +kernel) (fun wz gz => ?_)
        have AZ := Chg.trans AC2 (Chg.grow gz)
        have OWZ := Lib.hid (own_later OW2 gz)
        have GZ := Lib.hid ((Chg.trans (Chg.grow (G := fun k => v.ownBlock = some k) (G.out.trans G4.out)) AZ).toGrow (fun k hk q => by have := HV.out _ q; omega))
        clear AZ gz OW2 fr2 CH2
        go_wp2_with fail
        have AL : Hid (Value.int .i64 ((acc.length : Int) + 1) = .int .i64 ((acc ++ [y]).length : Nat)) := Lib.hid (by simp)
        have HL : Hid ((acc ++ [y]).length + ([] : List Wy).length + Y.length = xs.length + ys.length) := Lib.hid (by simp; omega)
        go_roundw
        case rel => exact ⟨_, [], _, _, Y, _, acc ++ [y], _, rfl, rfl, Nat.zero_le _, by omega, rfl, by omega, by omega, AL.out, HL.out, S1, TL, Lib.hid (by rw [List.length_append, List.flatMap_append]; exact OWZ.out), Lib.hid (by rw [List.append_assoc]; exact EQ'.out), GZ⟩
        case measure => simp [intOf]; omega
    | cons x X =>
      cases Y with
      | nil =>
        simp only [List.length_nil, List.length_cons] at hlen hX ⊢
        have d0 : decide ((acc.length : Int) < ((xs.length : Int) + (ys.length : Int))) = true := decide_eq_true (by omega)
        have EQ' : Hid (acc ++ ([x] ++ mrgW X []) = mrgW xs ys) := Lib.hid (by have h := EQ.out; rw [mrgW_nil'] at h; rw [mrgW_nil']; exact h)
        clear EQ
        obtain ⟨xb, xo, rfl, e0, e1, e2⟩ := SlOf.head3 S1.out
        have eb := cell_in e0
        have KC := Lib.hid (fun (w' : World) (h : Chg (fun k => v.ownBlock = some k) wr w') => (⟨h.cell (cell_later G.out e0) (fun q => by have := HV.out _ q; omega), h.cell (cell_later G.out e1) (fun q => by have := HV.out _ q; omega), h.cell (cell_later G.out e2) (fun q => by have := HV.out _ q; omega), trivial⟩ : w'.cell? ⟨xb, xo, none⟩ = some (.string x.rev) ∧ w'.cell? ⟨xb, xo + 1, none⟩ = some (.int .i64 x.w) ∧ w'.cell? ⟨xb, xo + 2, none⟩ = some (.int .i64 x.c) ∧ True))
        have KC0 := Lib.hid (fun (w' : World) (h : Chg (fun _ => False) wr w') => KC.out w' (h.mono fun _ _ q => q.elim))
        clear e0 e1 e2 eb
        have TL : Hid (WySl w (if c' = 1 then some ⟨xb, xo, none⟩ else some ⟨xb, xo + 3, none⟩) X) := Lib.hid (SlOf.tailIf S1.out hX)
        have hs1 : (1 : Int) ≤ (X.length : Int) + 1 := by omega
        have SB := Lib.hid True.intro
        go_wp2_with fail
        refine Evo2.start' (ℓ := none) (S := Chg (fun _ => False)) (E := Grow.G) (by kernel_rfl) ⟨Chg.pre _, by decide +kernel, (by intro c a d v w h; cases d <;> exact h), by decide +kernel⟩ (fun ok => ?_)
        refine Evo2.va ok 0 _ _ ?_
        refine Evo2.va ok 1 _ _ ?_
        refine Evo2.va ok 2 _ _ ?_
        refine Evo2.va ok 3 _ _ ?_
        first | (refine Evo2.va ok 4 _ _ ?_) | (refine Evo2.vi ok 4 _ ?_)
        first | (refine Evo2.va ok 5 _ _ ?_) | (refine Evo2.vi ok 5 _ ?_)
        first | (refine Evo2.va ok 6 _ _ ?_) | (refine Evo2.vi ok 6 _ ?_)
        first | (refine Evo2.va ok 7 _ _ ?_) | (refine Evo2.vi ok 7 _ ?_)
        first | (refine Evo2.va ok 8 _ _ ?_) | (refine Evo2.vi ok 8 _ ?_)
        first | (refine Evo2.va ok 9 _ _ ?_) | (refine Evo2.vi ok 9 _ ?_)
        first | (refine Evo2.va ok 10 _ _ ?_) | (refine Evo2.vi ok 10 _ ?_)
        first | (refine Evo2.vl ok 11 KC0.out (Chg.refl (fun _ => False) _) _ _ ?_) | (refine Evo2.va ok 11 _ _ ?_) | (refine Evo2.vi ok 11 _ ?_)
        first | (refine Evo2.va ok 12 _ _ ?_) | (refine Evo2.vi ok 12 _ ?_)
        first | (refine Evo2.va ok 13 _ _ ?_) | (refine Evo2.vi ok 13 _ ?_)
        first | (refine Evo2.vl ok 14 KC0.out (Chg.refl (fun _ => False) _) _ _ ?_) | (refine Evo2.va ok 14 _ _ ?_) | (refine Evo2.vi ok 14 _ ?_)
        first | (refine Evo2.cal ok 15 ?_ 70 ?_ ?_ ?_ ?_; rotate_left 2; (focus (intro w'; go_simp <;> with_reducible rfl)); (focus (intro w' g'; with_reducible exact SB.out w')); simp only [Act.put, L0, L1, L2]) | (refine Evo2.vi ok 15 _ ?_)
        first | (refine Evo2.va ok 16 _ _ ?_) | (refine Evo2.vi ok 16 _ ?_)
        refine Evo2.va ok 17 _ _ ?_
        refine Evo2.done (by decide +kernel) (fun wz gz => ?_)
        have AZ := Chg.trans (Chg.refl (fun _ => False) _) (Chg.grow gz)
        have G4 := Lib.hid (g0 AZ)
        have OW4 := Lib.hid (own_later OW.out G4.out)
        have KC4 := Lib.hid (fun (w' : World) (h : Chg (fun k => v.ownBlock = some k) wz w') => KC.out w' (Chg.trans (Chg.grow G4.out) h))
        have hs4 := G4.out.size
        have hs3 := G.out.size
        clear AZ KC KC0 gz
        generalize wz = W4 at *
        go_wp2_with fail
        refine Evo2.start' (ℓ := none) (S := Chg (fun k => v.ownBlock = some k)) (E := Grow.G) (by kernel_rfl) ⟨Chg.pre _, by decide +kernel, (by intro c a d v w h; cases d <;> exact h), by decide +kernel⟩ (fun ok => ?_)
        refine Evo2.va ok 0 _ _ ?_
        refine Evo2.va ok 1 _ _ ?_
        refine Evo2.va ok 2 _ _ ?_
        first | (refine Evo2.vl ok 3 KC4.out (Chg.refl (fun k => v.ownBlock = some k) _) _ _ ?_) | (refine Evo2.va ok 3 _ _ ?_)
        refine Evo2.va ok 6 _ _ ?_
        refine Evo2.va ok 7 _ _ ?_
        refine Evo2.all [4] (by decide +kernel) rfl ?_
        intro wp1 gp1 iq hq
        simp only [List.mem_cons, List.mem_nil_iff, or_false] at hq
        have AP1 := Chg.trans (Chg.refl (fun k => v.ownBlock = some k) _) (Chg.grow gp1)
        subst hq
        refine Evo2.runs (by rfl) (by rfl) (fun K' hK' => ?_)
        (try obtain ⟨q1, q2, q3⟩ := KC4.out wp1 AP1)
        go_simp
        (try (simp only [Evo.after_value, Evo.after_skip]))
        refine hK'.out _ _ ?_
        clear hK'
        simp only [Act.put, L0, L1, L2]
        (try clear q1 q2 q3)
        refine ⟨.inr (Chg.alloc (Chg.refl _ _) _), ?_⟩
        generalize hG1 : World.alloc wp1 _ = wg1
        have GG1 : Grow.G wp1 wg1 := hG1 ▸ Grow.G.alloc (Grow.G.refl _) _
        have NC1 := (congrArg (fun W : World => W.heap[wp1.heap.size]?) hG1).symm.trans (MapKept.heap_alloc wp1 _).1
        have NL1 : wp1.heap.size < wg1.heap.size := by rw [← hG1]; simp
        clear hG1
        refine Evo2.all [5] (by decide +kernel) rfl ?_
        intro wp2 gp2 iq hq
        simp only [List.mem_cons, List.mem_nil_iff, or_false] at hq
        have AP2 := Chg.trans (Chg.trans AP1 (Chg.grow GG1)) (Chg.grow gp2)
        have NC1 := (gp2.block _ NL1).trans NC1
        have NL1 := Nat.lt_of_lt_of_le NL1 gp2.size
        subst hq
        refine Fr.own_fr (by rfl) (by rfl) (Operand.tmp 47) (Operand.tmp 51) 97 (by rfl) w.heap.size 106 i0 (.agg #[.string ⟨#[]⟩, .int .i64 0, .int .i64 0]) 3 32 Try.underlying97 HI.out HZ0.out HZ1.out HZ2.out rfl (by decide) _ _ _ (by rfl) (own_later OW4.out ?_) _ 1 1 [.string x.rev, .int .i64 x.w, .int .i64 x.c] (by rfl) rfl (news_at NC1) ?_ ?_ ?_ ?_ ?_ 
        · exact (gp1.trans GG1).trans gp2 
        · intro u hu; simp at hu; rcases hu with rfl | rfl | rfl <;> rfl 
        · unfold maxLen; omega 
        · omega 
        · have := AP2.size; omega
        intro vw2 wc2 OW2 fr2
        have CH2 : Chg (fun k => v.ownBlock = some k) _ _ := Chg.ofFr fr2
        refine ⟨.inr CH2, ?_⟩
        have AC2 := Chg.trans AP2 CH2
        simp only [Act.put, L0, L1, L2]
        refine Evo2.va ok 8 _ _ ?_
        refine Evo2.va ok 9 _ _ ?_
        refine Evo2.done (by decide +kernel) (fun wz gz => ?_)
        have AZ := Chg.trans AC2 (Chg.grow gz)
        have OWZ := Lib.hid (own_later OW2 gz)
        have GZ := Lib.hid ((Chg.trans (Chg.grow (G := fun k => v.ownBlock = some k) (G.out.trans G4.out)) AZ).toGrow (fun k hk q => by have := HV.out _ q; omega))
        clear AZ gz OW2 fr2 CH2
        go_wp2_with fail
        have AL : Hid (Value.int .i64 ((acc.length : Int) + 1) = .int .i64 ((acc ++ [x]).length : Nat)) := Lib.hid (by simp)
        have HL : Hid ((acc ++ [x]).length + X.length + ([] : List Wy).length = xs.length + ys.length) := Lib.hid (by simp; omega)
        go_roundw
        case rel => exact ⟨_, X, _, _, [], _, acc ++ [x], _, rfl, rfl, by omega, by omega, rfl, Nat.zero_le _, by omega, AL.out, HL.out, TL, S2, Lib.hid (by rw [List.length_append, List.flatMap_append]; exact OWZ.out), Lib.hid (by rw [List.append_assoc]; exact EQ'.out), GZ⟩
        case measure => simp [intOf]; omega
      | cons y Y =>
        simp only [List.length_nil, List.length_cons] at hlen hX hY ⊢
        have d0 : decide ((acc.length : Int) < ((xs.length : Int) + (ys.length : Int))) = true := decide_eq_true (by omega)
        have EQ0 := EQ.out
        clear EQ
        rw [mrgW_cons] at EQ0
        cases HB : ltS y.rev x.rev with
        | true =>
          rw [if_pos HB] at EQ0
          have EQ' : Hid (acc ++ ([y] ++ mrgW (x :: X) Y) = mrgW xs ys) := Lib.hid EQ0
          clear EQ0
          obtain ⟨xb, xo, rfl, e0, e1, e2⟩ := SlOf.head3 S1.out
          have eb := cell_in e0
          obtain ⟨yb, yo, rfl, d0, d1, d2⟩ := SlOf.head3 S2.out
          have db := cell_in d0
          have KC := Lib.hid (fun (w' : World) (h : Chg (fun k => v.ownBlock = some k) wr w') => (⟨h.cell (cell_later G.out e0) (fun q => by have := HV.out _ q; omega), h.cell (cell_later G.out e1) (fun q => by have := HV.out _ q; omega), h.cell (cell_later G.out e2) (fun q => by have := HV.out _ q; omega), h.cell (cell_later G.out d0) (fun q => by have := HV.out _ q; omega), h.cell (cell_later G.out d1) (fun q => by have := HV.out _ q; omega), h.cell (cell_later G.out d2) (fun q => by have := HV.out _ q; omega), trivial⟩ : w'.cell? ⟨xb, xo, none⟩ = some (.string x.rev) ∧ w'.cell? ⟨xb, xo + 1, none⟩ = some (.int .i64 x.w) ∧ w'.cell? ⟨xb, xo + 2, none⟩ = some (.int .i64 x.c) ∧ w'.cell? ⟨yb, yo, none⟩ = some (.string y.rev) ∧ w'.cell? ⟨yb, yo + 1, none⟩ = some (.int .i64 y.w) ∧ w'.cell? ⟨yb, yo + 2, none⟩ = some (.int .i64 y.c) ∧ True))
          have KC0 := Lib.hid (fun (w' : World) (h : Chg (fun _ => False) wr w') => KC.out w' (h.mono fun _ _ q => q.elim))
          clear e0 e1 e2 eb d0 d1 d2 db
          have TL : Hid (WySl w (if d' = 1 then some ⟨yb, yo, none⟩ else some ⟨yb, yo + 3, none⟩) Y) := Lib.hid (SlOf.tailIf S2.out hY)
          have hs1 : (1 : Int) ≤ (Y.length : Int) + 1 := by omega
          have SB := Lib.hid (rbefore_any y.rev x.rev y.w y.c x.w x.c)
          rw [HB] at SB
          clear HB
          go_wp2_with fail
          refine Evo2.start' (ℓ := none) (S := Chg (fun _ => False)) (E := Grow.G) (by kernel_rfl) ⟨Chg.pre _, by decide +kernel, (by intro c a d v w h; cases d <;> exact h), by decide +kernel⟩ (fun ok => ?_)
          refine Evo2.va ok 0 _ _ ?_
          refine Evo2.va ok 1 _ _ ?_
          refine Evo2.va ok 2 _ _ ?_
          refine Evo2.va ok 3 _ _ ?_
          first | (refine Evo2.va ok 4 _ _ ?_) | (refine Evo2.vi ok 4 _ ?_)
          first | (refine Evo2.va ok 5 _ _ ?_) | (refine Evo2.vi ok 5 _ ?_)
          first | (refine Evo2.va ok 6 _ _ ?_) | (refine Evo2.vi ok 6 _ ?_)
          first | (refine Evo2.va ok 7 _ _ ?_) | (refine Evo2.vi ok 7 _ ?_)
          first | (refine Evo2.va ok 8 _ _ ?_) | (refine Evo2.vi ok 8 _ ?_)
          first | (refine Evo2.va ok 9 _ _ ?_) | (refine Evo2.vi ok 9 _ ?_)
          first | (refine Evo2.va ok 10 _ _ ?_) | (refine Evo2.vi ok 10 _ ?_)
          first | (refine Evo2.vl ok 11 KC0.out (Chg.refl (fun _ => False) _) _ _ ?_) | (refine Evo2.va ok 11 _ _ ?_) | (refine Evo2.vi ok 11 _ ?_)
          first | (refine Evo2.va ok 12 _ _ ?_) | (refine Evo2.vi ok 12 _ ?_)
          first | (refine Evo2.va ok 13 _ _ ?_) | (refine Evo2.vi ok 13 _ ?_)
          first | (refine Evo2.vl ok 14 KC0.out (Chg.refl (fun _ => False) _) _ _ ?_) | (refine Evo2.va ok 14 _ _ ?_) | (refine Evo2.vi ok 14 _ ?_)
          first | (refine Evo2.cal ok 15 ?_ 70 ?_ ?_ ?_ ?_; rotate_left 2; (focus (intro w'; go_simp <;> with_reducible rfl)); (focus (intro w' g'; with_reducible exact SB.out w')); simp only [Act.put, L0, L1, L2]) | (refine Evo2.vi ok 15 _ ?_)
          first | (refine Evo2.va ok 16 _ _ ?_) | (refine Evo2.vi ok 16 _ ?_)
          refine Evo2.va ok 17 _ _ ?_
          refine Evo2.done (by decide +kernel) (fun wz gz => ?_)
          have AZ := Chg.trans (Chg.refl (fun _ => False) _) (Chg.grow gz)
          have G4 := Lib.hid (g0 AZ)
          have OW4 := Lib.hid (own_later OW.out G4.out)
          have KC4 := Lib.hid (fun (w' : World) (h : Chg (fun k => v.ownBlock = some k) wz w') => KC.out w' (Chg.trans (Chg.grow G4.out) h))
          have hs4 := G4.out.size
          have hs3 := G.out.size
          clear AZ KC KC0 gz
          generalize wz = W4 at *
          go_wp2_with fail
          refine Evo2.start' (ℓ := none) (S := Chg (fun k => v.ownBlock = some k)) (E := Grow.G) (by kernel_rfl) ⟨Chg.pre _, by decide +kernel, (by intro c a d v w h; cases d <;> exact h), by decide +kernel⟩ (fun ok => ?_)
          refine Evo2.va ok 0 _ _ ?_
          refine Evo2.va ok 1 _ _ ?_
          refine Evo2.va ok 2 _ _ ?_
          first | (refine Evo2.vl ok 3 KC4.out (Chg.refl (fun k => v.ownBlock = some k) _) _ _ ?_) | (refine Evo2.va ok 3 _ _ ?_)
          refine Evo2.va ok 6 _ _ ?_
          refine Evo2.va ok 7 _ _ ?_
          refine Evo2.all [4] (by decide +kernel) rfl ?_
          intro wp1 gp1 iq hq
          simp only [List.mem_cons, List.mem_nil_iff, or_false] at hq
          have AP1 := Chg.trans (Chg.refl (fun k => v.ownBlock = some k) _) (Chg.grow gp1)
          subst hq
          refine Evo2.runs (by rfl) (by rfl) (fun K' hK' => ?_)
          (try obtain ⟨q1, q2, q3, q4, q5, q6⟩ := KC4.out wp1 AP1)
          go_simp
          (try (simp only [Evo.after_value, Evo.after_skip]))
          refine hK'.out _ _ ?_
          clear hK'
          simp only [Act.put, L0, L1, L2]
          (try clear q1 q2 q3 q4 q5 q6)
          refine ⟨.inr (Chg.alloc (Chg.refl _ _) _), ?_⟩
          generalize hG1 : World.alloc wp1 _ = wg1
          have GG1 : Grow.G wp1 wg1 := hG1 ▸ Grow.G.alloc (Grow.G.refl _) _
          have NC1 := (congrArg (fun W : World => W.heap[wp1.heap.size]?) hG1).symm.trans (MapKept.heap_alloc wp1 _).1
          have NL1 : wp1.heap.size < wg1.heap.size := by rw [← hG1]; simp
          clear hG1
          refine Evo2.all [5] (by decide +kernel) rfl ?_
          intro wp2 gp2 iq hq
          simp only [List.mem_cons, List.mem_nil_iff, or_false] at hq
          have AP2 := Chg.trans (Chg.trans AP1 (Chg.grow GG1)) (Chg.grow gp2)
          have NC1 := (gp2.block _ NL1).trans NC1
          have NL1 := Nat.lt_of_lt_of_le NL1 gp2.size
          subst hq
          refine Fr.own_fr (by rfl) (by rfl) (Operand.tmp 39) (Operand.tmp 43) 97 (by rfl) w.heap.size 106 i0 (.agg #[.string ⟨#[]⟩, .int .i64 0, .int .i64 0]) 3 32 Try.underlying97 HI.out HZ0.out HZ1.out HZ2.out rfl (by decide) _ _ _ (by rfl) (own_later OW4.out ?_) _ 1 1 [.string y.rev, .int .i64 y.w, .int .i64 y.c] (by rfl) rfl (news_at NC1) ?_ ?_ ?_ ?_ ?_ 
          · exact (gp1.trans GG1).trans gp2 
          · intro u hu; simp at hu; rcases hu with rfl | rfl | rfl <;> rfl 
          · unfold maxLen; omega 
          · omega 
          · have := AP2.size; omega
          intro vw2 wc2 OW2 fr2
          have CH2 : Chg (fun k => v.ownBlock = some k) _ _ := Chg.ofFr fr2
          refine ⟨.inr CH2, ?_⟩
          have AC2 := Chg.trans AP2 CH2
          simp only [Act.put, L0, L1, L2]
          refine Evo2.va ok 8 _ _ ?_
          refine Evo2.va ok 9 _ _ ?_
          refine Evo2.done (by decide +kernel) (fun wz gz => ?_)
          have AZ := Chg.trans AC2 (Chg.grow gz)
          have OWZ := Lib.hid (own_later OW2 gz)
          have GZ := Lib.hid ((Chg.trans (Chg.grow (G := fun k => v.ownBlock = some k) (G.out.trans G4.out)) AZ).toGrow (fun k hk q => by have := HV.out _ q; omega))
          clear AZ gz OW2 fr2 CH2
          go_wp2_with fail
          have AL : Hid (Value.int .i64 ((acc.length : Int) + 1) = .int .i64 ((acc ++ [y]).length : Nat)) := Lib.hid (by simp)
          have HL : Hid ((acc ++ [y]).length + (x :: X : List Wy).length + Y.length = xs.length + ys.length) := Lib.hid (by simp; omega)
          go_roundw
          case rel => exact ⟨_, x :: X, _, _, Y, _, acc ++ [y], _, rfl, rfl, hX, by omega, rfl, by omega, by omega, AL.out, HL.out, S1, TL, Lib.hid (by rw [List.length_append, List.flatMap_append]; exact OWZ.out), Lib.hid (by rw [List.append_assoc]; exact EQ'.out), GZ⟩
          case measure => simp [intOf]; omega
        | false =>
          rw [if_neg (by rw [HB]; exact Bool.false_ne_true)] at EQ0
          have EQ' : Hid (acc ++ ([x] ++ mrgW X (y :: Y)) = mrgW xs ys) := Lib.hid EQ0
          clear EQ0
          obtain ⟨xb, xo, rfl, e0, e1, e2⟩ := SlOf.head3 S1.out
          have eb := cell_in e0
          obtain ⟨yb, yo, rfl, d0, d1, d2⟩ := SlOf.head3 S2.out
          have db := cell_in d0
          have KC := Lib.hid (fun (w' : World) (h : Chg (fun k => v.ownBlock = some k) wr w') => (⟨h.cell (cell_later G.out e0) (fun q => by have := HV.out _ q; omega), h.cell (cell_later G.out e1) (fun q => by have := HV.out _ q; omega), h.cell (cell_later G.out e2) (fun q => by have := HV.out _ q; omega), h.cell (cell_later G.out d0) (fun q => by have := HV.out _ q; omega), h.cell (cell_later G.out d1) (fun q => by have := HV.out _ q; omega), h.cell (cell_later G.out d2) (fun q => by have := HV.out _ q; omega), trivial⟩ : w'.cell? ⟨xb, xo, none⟩ = some (.string x.rev) ∧ w'.cell? ⟨xb, xo + 1, none⟩ = some (.int .i64 x.w) ∧ w'.cell? ⟨xb, xo + 2, none⟩ = some (.int .i64 x.c) ∧ w'.cell? ⟨yb, yo, none⟩ = some (.string y.rev) ∧ w'.cell? ⟨yb, yo + 1, none⟩ = some (.int .i64 y.w) ∧ w'.cell? ⟨yb, yo + 2, none⟩ = some (.int .i64 y.c) ∧ True))
          have KC0 := Lib.hid (fun (w' : World) (h : Chg (fun _ => False) wr w') => KC.out w' (h.mono fun _ _ q => q.elim))
          clear e0 e1 e2 eb d0 d1 d2 db
          have TL : Hid (WySl w (if c' = 1 then some ⟨xb, xo, none⟩ else some ⟨xb, xo + 3, none⟩) X) := Lib.hid (SlOf.tailIf S1.out hX)
          have hs1 : (1 : Int) ≤ (X.length : Int) + 1 := by omega
          have SB := Lib.hid (rbefore_any y.rev x.rev y.w y.c x.w x.c)
          rw [HB] at SB
          clear HB
          go_wp2_with fail
          refine Evo2.start' (ℓ := none) (S := Chg (fun _ => False)) (E := Grow.G) (by kernel_rfl) ⟨Chg.pre _, by decide +kernel, (by intro c a d v w h; cases d <;> exact h), by decide +kernel⟩ (fun ok => ?_)
          refine Evo2.va ok 0 _ _ ?_
          refine Evo2.va ok 1 _ _ ?_
          refine Evo2.va ok 2 _ _ ?_
          refine Evo2.va ok 3 _ _ ?_
          first | (refine Evo2.va ok 4 _ _ ?_) | (refine Evo2.vi ok 4 _ ?_)
          first | (refine Evo2.va ok 5 _ _ ?_) | (refine Evo2.vi ok 5 _ ?_)
          first | (refine Evo2.va ok 6 _ _ ?_) | (refine Evo2.vi ok 6 _ ?_)
          first | (refine Evo2.va ok 7 _ _ ?_) | (refine Evo2.vi ok 7 _ ?_)
          first | (refine Evo2.va ok 8 _ _ ?_) | (refine Evo2.vi ok 8 _ ?_)
          first | (refine Evo2.va ok 9 _ _ ?_) | (refine Evo2.vi ok 9 _ ?_)
          first | (refine Evo2.va ok 10 _ _ ?_) | (refine Evo2.vi ok 10 _ ?_)
          first | (refine Evo2.vl ok 11 KC0.out (Chg.refl (fun _ => False) _) _ _ ?_) | (refine Evo2.va ok 11 _ _ ?_) | (refine Evo2.vi ok 11 _ ?_)
          first | (refine Evo2.va ok 12 _ _ ?_) | (refine Evo2.vi ok 12 _ ?_)
          first | (refine Evo2.va ok 13 _ _ ?_) | (refine Evo2.vi ok 13 _ ?_)
          first | (refine Evo2.vl ok 14 KC0.out (Chg.refl (fun _ => False) _) _ _ ?_) | (refine Evo2.va ok 14 _ _ ?_) | (refine Evo2.vi ok 14 _ ?_)
          first | (refine Evo2.cal ok 15 ?_ 70 ?_ ?_ ?_ ?_; rotate_left 2; (focus (intro w'; go_simp <;> with_reducible rfl)); (focus (intro w' g'; with_reducible exact SB.out w')); simp only [Act.put, L0, L1, L2]) | (refine Evo2.vi ok 15 _ ?_)
          first | (refine Evo2.va ok 16 _ _ ?_) | (refine Evo2.vi ok 16 _ ?_)
          refine Evo2.va ok 17 _ _ ?_
          refine Evo2.done (by decide +kernel) (fun wz gz => ?_)
          have AZ := Chg.trans (Chg.refl (fun _ => False) _) (Chg.grow gz)
          have G4 := Lib.hid (g0 AZ)
          have OW4 := Lib.hid (own_later OW.out G4.out)
          have KC4 := Lib.hid (fun (w' : World) (h : Chg (fun k => v.ownBlock = some k) wz w') => KC.out w' (Chg.trans (Chg.grow G4.out) h))
          have hs4 := G4.out.size
          have hs3 := G.out.size
          clear AZ KC KC0 gz
          generalize wz = W4 at *
          go_wp2_with fail
          refine Evo2.start' (ℓ := none) (S := Chg (fun k => v.ownBlock = some k)) (E := Grow.G) (by kernel_rfl) ⟨Chg.pre _, by decide +kernel, (by intro c a d v w h; cases d <;> exact h), by decide +kernel⟩ (fun ok => ?_)
          refine Evo2.va ok 0 _ _ ?_
          refine Evo2.va ok 1 _ _ ?_
          refine Evo2.va ok 2 _ _ ?_
          first | (refine Evo2.vl ok 3 KC4.out (Chg.refl (fun k => v.ownBlock = some k) _) _ _ ?_) | (refine Evo2.va ok 3 _ _ ?_)
          refine Evo2.va ok 6 _ _ ?_
          refine Evo2.va ok 7 _ _ ?_
          refine Evo2.all [4] (by decide +kernel) rfl ?_
          intro wp1 gp1 iq hq
          simp only [List.mem_cons, List.mem_nil_iff, or_false] at hq
          have AP1 := Chg.trans (Chg.refl (fun k => v.ownBlock = some k) _) (Chg.grow gp1)
          subst hq
          refine Evo2.runs (by rfl) (by rfl) (fun K' hK' => ?_)
          (try obtain ⟨q1, q2, q3, q4, q5, q6⟩ := KC4.out wp1 AP1)
          go_simp
          (try (simp only [Evo.after_value, Evo.after_skip]))
          refine hK'.out _ _ ?_
          clear hK'
          simp only [Act.put, L0, L1, L2]
          (try clear q1 q2 q3 q4 q5 q6)
          refine ⟨.inr (Chg.alloc (Chg.refl _ _) _), ?_⟩
          generalize hG1 : World.alloc wp1 _ = wg1
          have GG1 : Grow.G wp1 wg1 := hG1 ▸ Grow.G.alloc (Grow.G.refl _) _
          have NC1 := (congrArg (fun W : World => W.heap[wp1.heap.size]?) hG1).symm.trans (MapKept.heap_alloc wp1 _).1
          have NL1 : wp1.heap.size < wg1.heap.size := by rw [← hG1]; simp
          clear hG1
          refine Evo2.all [5] (by decide +kernel) rfl ?_
          intro wp2 gp2 iq hq
          simp only [List.mem_cons, List.mem_nil_iff, or_false] at hq
          have AP2 := Chg.trans (Chg.trans AP1 (Chg.grow GG1)) (Chg.grow gp2)
          have NC1 := (gp2.block _ NL1).trans NC1
          have NL1 := Nat.lt_of_lt_of_le NL1 gp2.size
          subst hq
          refine Fr.own_fr (by rfl) (by rfl) (Operand.tmp 47) (Operand.tmp 51) 97 (by rfl) w.heap.size 106 i0 (.agg #[.string ⟨#[]⟩, .int .i64 0, .int .i64 0]) 3 32 Try.underlying97 HI.out HZ0.out HZ1.out HZ2.out rfl (by decide) _ _ _ (by rfl) (own_later OW4.out ?_) _ 1 1 [.string x.rev, .int .i64 x.w, .int .i64 x.c] (by rfl) rfl (news_at NC1) ?_ ?_ ?_ ?_ ?_ 
          · exact (gp1.trans GG1).trans gp2 
          · intro u hu; simp at hu; rcases hu with rfl | rfl | rfl <;> rfl 
          · unfold maxLen; omega 
          · omega 
          · have := AP2.size; omega
          intro vw2 wc2 OW2 fr2
          have CH2 : Chg (fun k => v.ownBlock = some k) _ _ := Chg.ofFr fr2
          refine ⟨.inr CH2, ?_⟩
          have AC2 := Chg.trans AP2 CH2
          simp only [Act.put, L0, L1, L2]
          refine Evo2.va ok 8 _ _ ?_
          refine Evo2.va ok 9 _ _ ?_
          refine Evo2.done (by decide +kernel) (fun wz gz => ?_)
          have AZ := Chg.trans AC2 (Chg.grow gz)
          have OWZ := Lib.hid (own_later OW2 gz)
          have GZ := Lib.hid ((Chg.trans (Chg.grow (G := fun k => v.ownBlock = some k) (G.out.trans G4.out)) AZ).toGrow (fun k hk q => by have := HV.out _ q; omega))
          clear AZ gz OW2 fr2 CH2
          go_wp2_with fail
          have AL : Hid (Value.int .i64 ((acc.length : Int) + 1) = .int .i64 ((acc ++ [x]).length : Nat)) := Lib.hid (by simp)
          have HL : Hid ((acc ++ [x]).length + X.length + (y :: Y : List Wy).length = xs.length + ys.length) := Lib.hid (by simp; omega)
          go_roundw
          case rel => exact ⟨_, X, _, _, y :: Y, _, acc ++ [x], _, rfl, rfl, by omega, by omega, rfl, hY, by omega, AL.out, HL.out, TL, S2, Lib.hid (by rw [List.length_append, List.flatMap_append]; exact OWZ.out), Lib.hid (by rw [List.append_assoc]; exact EQ'.out), GZ⟩
          case measure => simp [intOf]; omega
end Go.Proofs.Ytjhfjjkfnmnkgaa
