/- My own texts Tab12, Tab15, TabC, laid in one file. -/
import Derived.Test.YtjhfjjkfnmnkgaaZ40
import Derived.Test.YtjhfjjkfnmnkgaaZ37
import Derived.Test.YtjhfjjkfnmnkgaaZ29

/- damperlaw5's within. -/
namespace Go.Proofs.Ytjhfjjkfnmnkgaa
set_option maxRecDepth 100000
set_option linter.unusedVariables false
set_option linter.unusedSimpArgs false
set_option linter.unnecessarySimpa false
open Go.RowKit Go.Args

set_option maxHeartbeats 400000 in
theorem within5w_any (a n : Int) (w : World) (hn : 1 ≤ n) (hn2 : n ≤ 4611686018427387904) (ha : -9223372036854775808 ≤ a) (ha2 : a ≤ 9223372036854775807) :
    Calls Try.prog 28 #[.int .i64 a, .int .i64 n] w fun e w' => e = .returned (.int .i64 (withinI a n)) ∧ w = w' := by
  have h1 := Int.tmod_lt_of_pos a (show 0 < n by omega)
  have h2 : -n < a.tmod n := by
    have := Int.lt_tmod_of_pos a (show 0 < n by omega); omega
  by_cases h : a.tmod n < 0
  · have E : Hid (withinI a n = a.tmod n + n) := Lib.hid (by unfold withinI; rw [if_pos h])
    go_enter Try.func28, Try.ntmps28
    go_wp2
    go_ret
    exact ⟨ret_i64 E.out.symm, rfl⟩
  · have E : Hid (withinI a n = a.tmod n) := Lib.hid (by unfold withinI; rw [if_neg h])
    go_enter Try.func28, Try.ntmps28
    go_wp2
    go_ret
    exact ⟨ret_i64 E.out.symm, rfl⟩

/-- The names that a law takes. -/
def revL : List ByteArray := [⟨#[97, 112, 105, 45, 49]⟩, ⟨#[97, 112, 105, 45, 50]⟩, ⟨#[119, 101, 98, 45, 49]⟩, ⟨#[119, 101, 98, 45, 49, 50]⟩, ⟨#[119, 101, 98, 45, 50]⟩, ⟨#[119, 101, 98, 45, 51]⟩]
def revK (k : Nat) : ByteArray := revL.getD k ⟨#[]⟩
theorem revs_any (w : World) : Calls Try.prog 22 #[] w fun e w' => e = .returned (.slice (some ⟨w.heap.size, 0, none⟩) 6 6) ∧ Blk w' w.heap.size #[.string (revK 0), .string (revK 1), .string (revK 2), .string (revK 3), .string (revK 4), .string (revK 5)] 9 ∧ Grow.G w w' := by
  go_enter Try.func22, Try.ntmps22
  go_wp2
  go_ret
  exact ⟨rfl, Blk.new w _ _, Grow.G.alloc (Grow.G.refl _) _⟩
theorem rev_at {w : World} {b : Nat} (h : Blk w b #[.string (revK 0), .string (revK 1), .string (revK 2), .string (revK 3), .string (revK 4), .string (revK 5)] 9) {k : Nat} (hk : k < 6) : w.cell? ⟨b, k, none⟩ = some (.string (revK k)) := by
  refine Blk.at (cs := [.string (revK 0), .string (revK 1), .string (revK 2), .string (revK 3), .string (revK 4), .string (revK 5)]) (k := k) h ?_
  match k, hk with
  | 0, _ => rfl
  | 1, _ => rfl
  | 2, _ => rfl
  | 3, _ => rfl
  | 4, _ => rfl
  | 5, _ => rfl
def kAt (zs : List Int) (k : Nat) : Int := if k < zs.length then zs.getD k 0 else 7 * k
def shV (zs : List Int) (k : Nat) (z : Int) : Int :=
  if k = 5 then z else if withinI ((kAt zs k).tdiv 101) 3 = 0 then 0 else withinI (kAt zs k) (z + 1)
def mkSh (zs : List Int) : Nat → Int → List Shr
  | 0, _ => []
  | n + 1, z => if 0 < z then (if 0 < shV zs (5 - n) z then [⟨revK (5 - n), shV zs (5 - n) z⟩] else []) ++ mkSh zs n (z - shV zs (5 - n) z) else []
def mkS (zs : List Int) : List Shr := mkSh zs 6 100
theorem shV_le (zs : List Int) (k : Nat) (z : Int) (h : 0 ≤ z) : 0 ≤ shV zs k z ∧ shV zs k z ≤ z := by
  unfold shV
  have := withinI_range (kAt zs k) (z + 1) (by omega)
  split
  · omega
  · split <;> omega
theorem mkSh_zero (zs : List Int) (n : Nat) {z : Int} (h : ¬ 0 < z) : mkSh zs n z = [] := by
  cases n with
  | zero => rfl
  | succ n => rw [mkSh, if_neg h]
theorem infoShr : (Try.prog.info? 53).map (fun i => (i.zero, i.size, i.bytes)) = some (some (.agg #[.string ⟨#[]⟩, .int .i64 0]), 2, 24) := by kernel_rfl
def KVs (wr : World) (sa : Option Addr) (zs : List Int) (k : Nat) (kk : Int) : Bool → Prop
  | true => k < zs.length ∧ ∃ b off, sa = some ⟨b, off, none⟩ ∧ wr.cell? ⟨b, off + k, none⟩ = some (.int .i64 kk)
  | false => ¬ k < zs.length ∧ 7 * (k : Int) = kk
set_option maxHeartbeats 8000000 in
theorem shares_any (w : World) (v : Value) (zs : List Int) (hz : IntSlice w v zs) :
    Calls Try.prog 27 #[v] w fun e w' => ∃ x, e = .returned x ∧ w'.ownsRow w.heap.size 53 2 x (mkS zs).length ((mkS zs).flatMap Shr.cells) ∧ Grow.G w w' := by
  obtain ⟨sa, cap, rfl, hsl⟩ : ∃ sa cap, v = .slice sa zs.length cap ∧ (∀ k, k < zs.length → ∃ b off, sa = some ⟨b, off, none⟩ ∧ ∀ w', Grow.G w w' → w'.cell? ⟨b, off + k, none⟩ = some (.int .i64 (zs.getD k 0))) := by
    rcases hz with ⟨b, off, cap, rfl, h⟩ | ⟨rfl, a, cap, rfl⟩
    · exact ⟨_, cap, rfl, fun k hk => ⟨b, off, rfl, fun w' g => cell_later g (h.cell k hk)⟩⟩
    · exact ⟨a, cap, rfl, fun k hk => absurd hk (by simp)⟩
  have hwf : ∀ k, wf64 (kAt zs k) ∨ 6 ≤ k := by
    intro k
    by_cases h6 : 6 ≤ k
    · exact .inr h6
    refine .inl ?_
    unfold kAt
    by_cases hl : k < zs.length
    · rw [if_pos hl]
      rcases hz with ⟨b, off, cap, _, h⟩ | ⟨rfl, _⟩
      · exact h.wf k
      · simp at hl
    · rw [if_neg hl]; unfold wf64; omega
  have HWF := Lib.hid hwf
  have HSL := Lib.hid hsl
  have hzl : zs.length ≤ maxLen := by
    rcases hz with ⟨b, off, cap, _, h⟩ | ⟨rfl, _⟩
    · exact h.len
    · simp
  unfold maxLen at hzl
  clear hz hsl hwf
  go_enter Try.func27, Try.ntmps27
  go_wp2_with fail
  refine (revs_any _).mono ?_
  rintro e w1 ⟨rfl, hb, hg⟩
  have RB := Lib.hid (fun w' (g : Grow.G w1 w') {k : Nat} (hk : k < 6) => rev_at (hb.grow g) hk)
  have G1 := Lib.hid hg
  have z1 := hb.lt
  clear hb hg
  go_wp2_with fail
  go_loopw [3, 4, 6] (fun rv lv i wr => ∃ (k : Nat) (z : Int) (acc : List Shr), k ≤ 6 ∧ lv = .int .i64 z ∧ 0 ≤ z ∧ z ≤ 100 ∧ i = .int .i64 k ∧ acc.length ≤ k ∧ Hid (wr.ownsRow w1.heap.size 53 2 rv acc.length (acc.flatMap Shr.cells)) ∧ Hid (mkS zs = acc ++ mkSh zs (6 - k) z) ∧ Hid (Grow.G w1 wr)) (fun _ _ i _ => 6 - (intOf i).toNat)
  case atStart => exact ⟨0, 100, [], by omega, rfl, by omega, by omega, rfl, by simp, Lib.hid (World.ownsRow_nil _ _ _ _), Lib.hid rfl, Lib.hid (Grow.G.refl _)⟩
  case round =>
    obtain ⟨k, z, acc, hk, rfl, hz0, hz1, rfl, hac, OW, SP, G⟩ := hrel
    by_cases hgo : k < 6 ∧ 0 < z
    · obtain ⟨hk6, hzp⟩ := hgo
      have d0 : decide (k < 6) = true := decide_eq_true hk6
      have d1 : decide (z > 0) = true := decide_eq_true hzp
      have hkk := (HWF.out k).resolve_right (by omega)
      have hk1 : IntKind.i64.wrap ((k : Int) + 1) = (k : Int) + 1 := IntWalk.i64_in _ ⟨by omega, by omega⟩
      have hw0 : IntKind.i64.wrap (z + 1) = z + 1 := IntWalk.i64_in _ ⟨by omega, by omega⟩
      have hw7 : IntKind.i64.wrap (7 * (k : Int)) = 7 * (k : Int) := IntWalk.i64_in _ ⟨by omega, by omega⟩
      have SV := shV_le zs k z hz0
      obtain ⟨x, hx⟩ : ∃ x, shV zs k z = x := ⟨_, rfl⟩
      have ST : Hid (mkS zs = acc ++ ((if 0 < x then [⟨revK k, x⟩] else []) ++ mkSh zs (6 - (k + 1)) (z - x))) := Lib.hid (by
        rw [SP.out, show 6 - k = (5 - k) + 1 by omega, mkSh, if_pos hzp, show 5 - (5 - k) = k by omega, hx, show 6 - (k + 1) = 5 - k by omega])
      rw [hx] at SV
      clear SP
      have WI := Lib.hid (fun w => within5w_any (kAt zs k) (z + 1) w (by omega) (by omega) hkk.1 hkk.2)
      have hq : -9223372036854775808 ≤ (kAt zs k).tdiv 101 ∧ (kAt zs k).tdiv 101 ≤ 9223372036854775807 := by
        unfold wf64 at hkk
        rcases Int.le_total 0 (kAt zs k) with h | h
        · rw [Int.tdiv_eq_ediv_of_nonneg h]; omega
        · have e : kAt zs k = -(-(kAt zs k)) := by omega
          rw [e, Int.neg_tdiv, Int.tdiv_eq_ediv_of_nonneg (by omega)]; omega
      have W3 := Lib.hid (fun w => within5w_any ((kAt zs k).tdiv 101) 3 w (by omega) (by omega) hq.1 hq.2)
      have hq1 : IntKind.i64.wrap ((kAt zs k).tdiv 101) = (kAt zs k).tdiv 101 := IntWalk.i64_in _ ⟨by omega, by omega⟩
      unfold shV at hx
      have HX := Lib.hid hx
      clear hx hq
      have KV : (k < zs.length ∧ ∃ b off, sa = some ⟨b, off, none⟩ ∧ wr.cell? ⟨b, off + k, none⟩ = some (.int .i64 (kAt zs k))) ∨ (¬ k < zs.length ∧ 7 * (k : Int) = kAt zs k) := by
        by_cases hl : k < zs.length
        · obtain ⟨b, off, h1, h2⟩ := HSL.out k hl
          exact .inl ⟨hl, b, off, h1, by unfold kAt; rw [if_pos hl]; exact h2 _ (G1.out.trans G.out)⟩
        · exact .inr ⟨hl, by unfold kAt; rw [if_neg hl]⟩
      generalize kAt zs k = kk at *
      generalize hy : withinI kk (z + 1) = y at *
      generalize hu : withinI (kk.tdiv 101) 3 = u at *
      have HR := RB.out _ G.out hk6
      obtain ⟨i0, hi, ha0, ha1, ha2⟩ := info_parts infoShr
      have KV2 : ∃ kb : Bool, Hid (KVs wr sa zs k kk kb) := by
        rcases KV with h | h
        · exact ⟨true, Lib.hid h⟩
        · exact ⟨false, Lib.hid h⟩
      clear KV
      obtain ⟨kb, KV⟩ := KV2
      have hzx : IntKind.i64.wrap (z - x) = z - x := IntWalk.i64_in _ ⟨by omega, by omega⟩
      have EX : (k = 5 ∧ x = z) ∨ (¬ k = 5 ∧ u = 0 ∧ x = 0) ∨ (¬ k = 5 ∧ ¬ u = 0 ∧ x = y) := by
        have h := HX.out
        by_cases t2 : k = 5
        · rw [if_pos t2] at h; exact .inl ⟨t2, h.symm⟩
        · rw [if_neg t2] at h
          by_cases t1 : u = 0
          · rw [if_pos t1] at h; exact .inr (.inl ⟨t2, t1, h.symm⟩)
          · rw [if_neg t1] at h; exact .inr (.inr ⟨t2, t1, h.symm⟩)
      obtain ⟨ub, hub⟩ : ∃ ub, (u == 0) = ub := ⟨_, rfl⟩
      have UB : ub = decide (u = 0) := by rw [← hub]; rfl
      clear HX hkk
      cases kb with
      | true =>
        obtain ⟨hl, b, off, rfl, c0⟩ := KV.out
        have d2 : decide (k < zs.length) = true := decide_eq_true hl
        have d3 : decide ((k : Int) < (zs.length : Int)) = true := decide_eq_true (by omega)
        have k1 : (0 : Int) ≤ (k : Int) := by omega
        have k2 : (k : Int) < (zs.length : Int) := by omega
        clear hl KV
        go_wp2_with fail
        refine (WI.out _).mono ?_
        rintro e wx ⟨rfl, rfl⟩
        go_wp2_with fail
        refine (W3.out _).mono ?_
        rintro e wx ⟨rfl, rfl⟩
        rcases EX with ⟨t2, h0⟩ | ⟨t2, t1, rfl⟩ | ⟨t2, t1, rfl⟩
        · have d5 : ((k : Int) == 5) = true := by rw [t2]; rfl
          subst h0
          rw [Int.sub_self] at ST hzx
          have ST2 : Hid (mkS zs = (acc ++ [⟨revK k, x⟩]) ++ mkSh zs (6 - (k + 1)) 0) := Lib.hid (by rw [ST.out, if_pos hzp, List.append_assoc])
          clear t2 UB ST
          cases ub with
          | true =>
            go_wp2_with (at_builtin; refine Fr.wpList_append_fr _ rfl _ _ 37 rfl w1.heap.size 53 i0 (.agg #[.string ⟨#[]⟩, .int .i64 0]) 2 24 Try.underlying37 hi ha0 ha1 ha2 rfl (by decide) _ _ _ rfl (own_later OW.out (Grow.G.alloc (Grow.G.refl _) _)) ⟨wr.heap.size, 0, none⟩ 1 1 [.string (revK k), .int .i64 x] rfl rfl (news_new _ _ _ _ rfl) (by intro u hu; simp at hu; rcases hu with rfl | rfl <;> rfl) (by unfold maxLen; omega) (by omega) (by have := G.out.size; simp; omega) ?_; intro v' w' hown hfr; have OW' := Lib.hid hown; have G' := Lib.hid (own_grow (G.out.trans (Grow.G.alloc (Grow.G.refl _) _)) (own_later OW.out (Grow.G.alloc (Grow.G.refl _) _)) (Nat.le_refl _) hfr.g); clear hown hfr)
            go_roundw
            case rel => exact ⟨k + 1, 0, _, by omega, by simp, by omega, by omega, by go_num, by rw [List.length_append, List.length_singleton]; omega, by rw [List.length_append, List.length_singleton, List.flatMap_append]; exact OW', ST2, G'⟩
            case measure => simp [intOf]; omega
          | false =>
            go_wp2_with (at_builtin; refine Fr.wpList_append_fr _ rfl _ _ 37 rfl w1.heap.size 53 i0 (.agg #[.string ⟨#[]⟩, .int .i64 0]) 2 24 Try.underlying37 hi ha0 ha1 ha2 rfl (by decide) _ _ _ rfl (own_later OW.out (Grow.G.alloc (Grow.G.refl _) _)) ⟨wr.heap.size, 0, none⟩ 1 1 [.string (revK k), .int .i64 x] rfl rfl (news_new _ _ _ _ rfl) (by intro u hu; simp at hu; rcases hu with rfl | rfl <;> rfl) (by unfold maxLen; omega) (by omega) (by have := G.out.size; simp; omega) ?_; intro v' w' hown hfr; have OW' := Lib.hid hown; have G' := Lib.hid (own_grow (G.out.trans (Grow.G.alloc (Grow.G.refl _) _)) (own_later OW.out (Grow.G.alloc (Grow.G.refl _) _)) (Nat.le_refl _) hfr.g); clear hown hfr)
            go_roundw
            case rel => exact ⟨k + 1, 0, _, by omega, by simp, by omega, by omega, by go_num, by rw [List.length_append, List.length_singleton]; omega, by rw [List.length_append, List.length_singleton, List.flatMap_append]; exact OW', ST2, G'⟩
            case measure => simp [intOf]; omega
        · have d5 : ((k : Int) == 5) = false := by simp; omega
          obtain rfl : ub = true := by rw [UB]; exact decide_eq_true t1
          have ST2 : Hid (mkS zs = acc ++ mkSh zs (6 - (k + 1)) (z - 0)) := Lib.hid (by rw [ST.out]; rfl)
          clear t2 t1 UB ST
          go_wp2_with fail
          go_roundw
          case rel => exact ⟨k + 1, z - 0, acc, by omega, by rw [Int.sub_zero], by omega, by omega, by go_num, by omega, OW, ST2, G⟩
          case measure => simp [intOf]; omega
        · have d5 : ((k : Int) == 5) = false := by simp; omega
          obtain rfl : ub = false := by rw [UB]; exact decide_eq_false t1
          clear t2 t1 UB
          by_cases t3 : 0 < x
          · have d6 : decide (x > 0) = true := decide_eq_true t3
            have ST2 : Hid (mkS zs = (acc ++ [⟨revK k, x⟩]) ++ mkSh zs (6 - (k + 1)) (z - x)) := Lib.hid (by rw [ST.out, if_pos t3, List.append_assoc])
            clear t3 ST
            go_wp2_with (at_builtin; refine Fr.wpList_append_fr _ rfl _ _ 37 rfl w1.heap.size 53 i0 (.agg #[.string ⟨#[]⟩, .int .i64 0]) 2 24 Try.underlying37 hi ha0 ha1 ha2 rfl (by decide) _ _ _ rfl (own_later OW.out (Grow.G.alloc (Grow.G.refl _) _)) ⟨wr.heap.size, 0, none⟩ 1 1 [.string (revK k), .int .i64 x] rfl rfl (news_new _ _ _ _ rfl) (by intro u hu; simp at hu; rcases hu with rfl | rfl <;> rfl) (by unfold maxLen; omega) (by omega) (by have := G.out.size; simp; omega) ?_; intro v' w' hown hfr; have OW' := Lib.hid hown; have G' := Lib.hid (own_grow (G.out.trans (Grow.G.alloc (Grow.G.refl _) _)) (own_later OW.out (Grow.G.alloc (Grow.G.refl _) _)) (Nat.le_refl _) hfr.g); clear hown hfr)
            go_roundw
            case rel => exact ⟨k + 1, z - x, _, by omega, rfl, by omega, by omega, by go_num, by rw [List.length_append, List.length_singleton]; omega, by rw [List.length_append, List.length_singleton, List.flatMap_append]; exact OW', ST2, G'⟩
            case measure => simp [intOf]; omega
          · have d6 : decide (x > 0) = false := decide_eq_false t3
            have ST2 : Hid (mkS zs = acc ++ mkSh zs (6 - (k + 1)) (z - x)) := Lib.hid (by rw [ST.out, if_neg t3]; rfl)
            clear t3 ST
            go_wp2_with fail
            go_roundw
            case rel => exact ⟨k + 1, z - x, acc, by omega, rfl, by omega, by omega, by go_num, by omega, OW, ST2, G⟩
            case measure => simp [intOf]; omega
      | false =>
        obtain ⟨hl, hkv⟩ := KV.out
        have d2 : decide (k < zs.length) = false := decide_eq_false hl
        have d3 : decide ((k : Int) < (zs.length : Int)) = false := decide_eq_false (by omega)
        clear hl KV
        rw [hkv] at hw7
        go_wp2_with fail
        refine (WI.out _).mono ?_
        rintro e wx ⟨rfl, rfl⟩
        go_wp2_with fail
        refine (W3.out _).mono ?_
        rintro e wx ⟨rfl, rfl⟩
        rcases EX with ⟨t2, h0⟩ | ⟨t2, t1, rfl⟩ | ⟨t2, t1, rfl⟩
        · have d5 : ((k : Int) == 5) = true := by rw [t2]; rfl
          subst h0
          rw [Int.sub_self] at ST hzx
          have ST2 : Hid (mkS zs = (acc ++ [⟨revK k, x⟩]) ++ mkSh zs (6 - (k + 1)) 0) := Lib.hid (by rw [ST.out, if_pos hzp, List.append_assoc])
          clear t2 UB ST
          cases ub with
          | true =>
            go_wp2_with (at_builtin; refine Fr.wpList_append_fr _ rfl _ _ 37 rfl w1.heap.size 53 i0 (.agg #[.string ⟨#[]⟩, .int .i64 0]) 2 24 Try.underlying37 hi ha0 ha1 ha2 rfl (by decide) _ _ _ rfl (own_later OW.out (Grow.G.alloc (Grow.G.refl _) _)) ⟨wr.heap.size, 0, none⟩ 1 1 [.string (revK k), .int .i64 x] rfl rfl (news_new _ _ _ _ rfl) (by intro u hu; simp at hu; rcases hu with rfl | rfl <;> rfl) (by unfold maxLen; omega) (by omega) (by have := G.out.size; simp; omega) ?_; intro v' w' hown hfr; have OW' := Lib.hid hown; have G' := Lib.hid (own_grow (G.out.trans (Grow.G.alloc (Grow.G.refl _) _)) (own_later OW.out (Grow.G.alloc (Grow.G.refl _) _)) (Nat.le_refl _) hfr.g); clear hown hfr)
            go_roundw
            case rel => exact ⟨k + 1, 0, _, by omega, by simp, by omega, by omega, by go_num, by rw [List.length_append, List.length_singleton]; omega, by rw [List.length_append, List.length_singleton, List.flatMap_append]; exact OW', ST2, G'⟩
            case measure => simp [intOf]; omega
          | false =>
            go_wp2_with (at_builtin; refine Fr.wpList_append_fr _ rfl _ _ 37 rfl w1.heap.size 53 i0 (.agg #[.string ⟨#[]⟩, .int .i64 0]) 2 24 Try.underlying37 hi ha0 ha1 ha2 rfl (by decide) _ _ _ rfl (own_later OW.out (Grow.G.alloc (Grow.G.refl _) _)) ⟨wr.heap.size, 0, none⟩ 1 1 [.string (revK k), .int .i64 x] rfl rfl (news_new _ _ _ _ rfl) (by intro u hu; simp at hu; rcases hu with rfl | rfl <;> rfl) (by unfold maxLen; omega) (by omega) (by have := G.out.size; simp; omega) ?_; intro v' w' hown hfr; have OW' := Lib.hid hown; have G' := Lib.hid (own_grow (G.out.trans (Grow.G.alloc (Grow.G.refl _) _)) (own_later OW.out (Grow.G.alloc (Grow.G.refl _) _)) (Nat.le_refl _) hfr.g); clear hown hfr)
            go_roundw
            case rel => exact ⟨k + 1, 0, _, by omega, by simp, by omega, by omega, by go_num, by rw [List.length_append, List.length_singleton]; omega, by rw [List.length_append, List.length_singleton, List.flatMap_append]; exact OW', ST2, G'⟩
            case measure => simp [intOf]; omega
        · have d5 : ((k : Int) == 5) = false := by simp; omega
          obtain rfl : ub = true := by rw [UB]; exact decide_eq_true t1
          have ST2 : Hid (mkS zs = acc ++ mkSh zs (6 - (k + 1)) (z - 0)) := Lib.hid (by rw [ST.out]; rfl)
          clear t2 t1 UB ST
          go_wp2_with fail
          go_roundw
          case rel => exact ⟨k + 1, z - 0, acc, by omega, by rw [Int.sub_zero], by omega, by omega, by go_num, by omega, OW, ST2, G⟩
          case measure => simp [intOf]; omega
        · have d5 : ((k : Int) == 5) = false := by simp; omega
          obtain rfl : ub = false := by rw [UB]; exact decide_eq_false t1
          clear t2 t1 UB
          by_cases t3 : 0 < x
          · have d6 : decide (x > 0) = true := decide_eq_true t3
            have ST2 : Hid (mkS zs = (acc ++ [⟨revK k, x⟩]) ++ mkSh zs (6 - (k + 1)) (z - x)) := Lib.hid (by rw [ST.out, if_pos t3, List.append_assoc])
            clear t3 ST
            go_wp2_with (at_builtin; refine Fr.wpList_append_fr _ rfl _ _ 37 rfl w1.heap.size 53 i0 (.agg #[.string ⟨#[]⟩, .int .i64 0]) 2 24 Try.underlying37 hi ha0 ha1 ha2 rfl (by decide) _ _ _ rfl (own_later OW.out (Grow.G.alloc (Grow.G.refl _) _)) ⟨wr.heap.size, 0, none⟩ 1 1 [.string (revK k), .int .i64 x] rfl rfl (news_new _ _ _ _ rfl) (by intro u hu; simp at hu; rcases hu with rfl | rfl <;> rfl) (by unfold maxLen; omega) (by omega) (by have := G.out.size; simp; omega) ?_; intro v' w' hown hfr; have OW' := Lib.hid hown; have G' := Lib.hid (own_grow (G.out.trans (Grow.G.alloc (Grow.G.refl _) _)) (own_later OW.out (Grow.G.alloc (Grow.G.refl _) _)) (Nat.le_refl _) hfr.g); clear hown hfr)
            go_roundw
            case rel => exact ⟨k + 1, z - x, _, by omega, rfl, by omega, by omega, by go_num, by rw [List.length_append, List.length_singleton]; omega, by rw [List.length_append, List.length_singleton, List.flatMap_append]; exact OW', ST2, G'⟩
            case measure => simp [intOf]; omega
          · have d6 : decide (x > 0) = false := decide_eq_false t3
            have ST2 : Hid (mkS zs = acc ++ mkSh zs (6 - (k + 1)) (z - x)) := Lib.hid (by rw [ST.out, if_neg t3]; rfl)
            clear t3 ST
            go_wp2_with fail
            go_roundw
            case rel => exact ⟨k + 1, z - x, acc, by omega, rfl, by omega, by omega, by go_num, by omega, OW, ST2, G⟩
            case measure => simp [intOf]; omega
    · have E : Hid (mkS zs = acc) := Lib.hid (by
        rw [SP.out]
        by_cases h6 : k < 6
        · rw [mkSh_zero _ _ (fun h => hgo ⟨h6, h⟩), List.append_nil]
        · rw [show 6 - k = 0 by omega]; exact List.append_nil _)
      have FIN := Lib.hid (own_base OW.out (Nat.le_of_lt z1))
      by_cases h6 : k < 6
      · have d0 : decide (k < 6) = true := decide_eq_true h6
        have d1 : decide (z > 0) = false := decide_eq_false (fun h => hgo ⟨h6, h⟩)
        go_wp2_with fail
        go_ret
        exact ⟨_, rfl, by rw [E.out]; exact FIN.out, G1.out.trans G.out⟩
      · have d0 : decide (k < 6) = false := decide_eq_false h6
        go_wp2_with fail
        go_ret
        exact ⟨_, rfl, by rw [E.out]; exact FIN.out, G1.out.trans G.out⟩

/-- Of n draws from a on, how many have P. -/
def cntP (P : Int → Bool) (a : Int) : Nat → Nat
  | 0 => 0
  | n + 1 => cntP P a n + (P ((a + n) % 100)).toNat
theorem cntP_front (P : Int → Bool) (a : Int) : ∀ n, cntP P a (n + 1) = (P (a % 100)).toNat + cntP P (a + 1) n
  | 0 => by simp [cntP]
  | n + 1 => by
    rw [cntP, cntP_front P a n, cntP]
    rw [show a + ((n + 1 : Nat) : Int) = a + 1 + (n : Int) by omega]
    omega
theorem cntP_shift (P : Int → Bool) (a : Int) : cntP P (a + 1) 100 = cntP P a 100 := by
  have h1 : cntP P a 101 = (P (a % 100)).toNat + cntP P (a + 1) 100 := cntP_front P a 100
  have h2 : cntP P a 101 = cntP P a 100 + (P ((a + 100) % 100)).toNat := rfl
  rw [show (a + 100) % 100 = a % 100 by omega] at h2
  omega
theorem cntP_any (P : Int → Bool) (a : Int) : cntP P a 100 = cntP P 0 100 := by
  have up : ∀ n : Nat, ∀ a : Int, cntP P (a + n) 100 = cntP P a 100 := by
    intro n
    induction n with
    | zero => intro a; simp
    | succ n ih => intro a; rw [show a + ((n + 1 : Nat) : Int) = (a + n) + 1 by omega, cntP_shift, ih]
  rcases Int.le_total 0 a with h | h
  · have := up a.toNat 0
    rw [← this, show (0 : Int) + (a.toNat : Int) = a by omega]
  · have := up (-a).toNat a
    rw [← this, show a + ((-a).toNat : Int) = 0 by omega]
theorem cntP_between (P : Int → Bool) (s w : Int) (hs : 0 ≤ s) (hw : 0 ≤ w) (hP : ∀ d, 0 ≤ d → d < 100 → P d = decide (s ≤ d ∧ d < s + w)) :
    ∀ n : Nat, n ≤ 100 → (cntP P 0 n : Int) = if (n : Int) ≤ s then 0 else if (n : Int) ≤ s + w then n - s else w
  | 0, _ => by rw [if_pos (by simpa using hs)]; rfl
  | n + 1, hn => by
    have ih := cntP_between P s w hs hw hP n (by omega)
    have h := hP ((0 + (n : Int)) % 100) (by omega) (by omega)
    rw [cntP]
    rw [show (0 + (n : Int)) % 100 = n by omega] at *
    rw [h, Int.natCast_add, ih]
    by_cases h1 : s ≤ (n : Int) ∧ (n : Int) < s + w
    · rw [decide_eq_true h1]
      simp only [Bool.toNat_true]
      split <;> split <;> (try split) <;> (try split) <;> omega
    · rw [decide_eq_false h1]
      simp only [Bool.toNat_false]
      split <;> split <;> (try split) <;> (try split) <;> omega
theorem pickL_at : ∀ (l : List Shr), (∀ s, s ∈ l → 0 ≤ s.w) → ∀ (j : Nat) (s : Shr) (d : Int), l[j]? = some s → sumW (l.take j) ≤ d → d < sumW (l.take j) + s.w → pickL l d = s.rev
  | [], _, j, s, d, h, _, _ => by simp at h
  | x :: r, hp, 0, s, d, h, h1, h2 => by
    simp at h; subst h
    rw [pickL, if_pos (by simpa [sumW] using h2)]
  | x :: r, hp, j + 1, s, d, h, h1, h2 => by
    rw [List.take_succ_cons, sumW] at h1 h2
    have hr : ∀ s, s ∈ r → 0 ≤ s.w := fun s hs => hp s (by simp [hs])
    have h0 : ∀ (l : List Shr), (∀ s, s ∈ l → 0 ≤ s.w) → 0 ≤ sumW l := by
      intro l
      induction l with
      | nil => intro _; simp [sumW]
      | cons y l ih => intro hl; rw [sumW]; have := ih (fun s hs => hl s (by simp [hs])); have := hl y (by simp); omega
    have hj := h0 (r.take j) (fun s hs => hr s (List.mem_of_mem_take hs))
    rw [pickL, if_neg (by omega)]
    exact pickL_at r hr j s (d - x.w) (by simpa using h) (by omega) (by omega)
theorem pickL_ex : ∀ (l : List Shr), (∀ s, s ∈ l → 0 ≤ s.w) → ∀ (d : Int), 0 ≤ d → d < sumW l → ∃ j s, l[j]? = some s ∧ sumW (l.take j) ≤ d ∧ d < sumW (l.take j) + s.w
  | [], _, d, h0, h1 => by simp [sumW] at h1; omega
  | x :: r, hp, d, h0, h1 => by
    rw [sumW] at h1
    by_cases h : d < x.w
    · exact ⟨0, x, rfl, by simpa [sumW] using h0, by simpa [sumW] using h⟩
    · obtain ⟨j, s, e1, e2, e3⟩ := pickL_ex r (fun s hs => hp s (by simp [hs])) (d - x.w) (by omega) (by omega)
      exact ⟨j + 1, s, by simpa using e1, by rw [List.take_succ_cons, sumW]; omega, by rw [List.take_succ_cons, sumW]; omega⟩
theorem ascF_pair : ∀ (l : List Shr) (a : ByteArray), ascF a l = true → l.Pairwise (fun s t => ltS s.rev t.rev = true) ∧ ∀ s, s ∈ l → ltS a s.rev = true
  | [], a, _ => ⟨List.Pairwise.nil, fun s hs => (by cases hs)⟩
  | x :: r, a, h => by
    rw [ascF, Bool.and_eq_true, Bool.and_eq_true] at h
    obtain ⟨h1, h2⟩ := ascF_pair r x.rev h.2
    refine ⟨List.Pairwise.cons h2 h1, fun s hs => ?_⟩
    rcases List.mem_cons.1 hs with rfl | hs
    · exact h.1.2
    · exact ltS_tr h.1.2 (h2 s hs)
theorem asc_inj {l : List Shr} {a : ByteArray} (h : ascF a l = true) {i j : Nat} {s t : Shr} (hi : l[i]? = some s) (hj : l[j]? = some t) (e : s.rev = t.rev) : i = j := by
  have hp := List.pairwise_iff_getElem.1 (ascF_pair l a h).1
  obtain ⟨li, ei⟩ := List.getElem?_eq_some_iff.1 hi
  obtain ⟨lj, ej⟩ := List.getElem?_eq_some_iff.1 hj
  rcases Nat.lt_trichotomy i j with h' | h' | h'
  · have := hp i j li lj h'
    rw [ei, ej, e, ltS_irr] at this; cases this
  · exact h'
  · have := hp j i lj li h'
    rw [ei, ej, e, ltS_irr] at this; cases this
theorem sumW_le (l : List Shr) (hp : ∀ s, s ∈ l → 0 ≤ s.w) (j : Nat) : 0 ≤ sumW (l.take j) ∧ sumW (l.take j) ≤ sumW l := by
  have h0 : ∀ (l : List Shr), (∀ s, s ∈ l → 0 ≤ s.w) → 0 ≤ sumW l := by
    intro l
    induction l with
    | nil => intro _; simp [sumW]
    | cons y l ih => intro hl; rw [sumW]; have := ih (fun s hs => hl s (by simp [hs])); have := hl y (by simp); omega
  have ha : ∀ (l m : List Shr), sumW (l ++ m) = sumW l + sumW m := by
    intro l m
    induction l with
    | nil => simp [sumW]
    | cons y l ih => rw [List.cons_append, sumW, sumW, ih]; omega
  have h1 := ha (l.take j) (l.drop j)
  rw [List.take_append_drop] at h1
  have h2 := h0 (l.take j) (fun s hs => hp s (List.mem_of_mem_take hs))
  have h3 := h0 (l.drop j) (fun s hs => hp s (List.mem_of_mem_drop hs))
  omega
/-- Of a hundred draws each Share has as many as it weighs. -/
theorem hundred (l : List Shr) (a : ByteArray) (h : ascF a l = true) (hp : ∀ s, s ∈ l → 0 ≤ s.w) (hs : sumW l = 100) (j : Nat) (s : Shr) (hj : l[j]? = some s) (f : Int) :
    (cntP (fun d => s.rev.toList == (pickL l d).toList) f 100 : Int) = s.w := by
  rw [cntP_any]
  have b := sumW_le l hp j
  have b2 := sumW_le l hp (j + 1)
  have hst : sumW (l.take (j + 1)) = sumW (l.take j) + s.w := by
    rw [List.take_add_one, hj]
    have ha : ∀ (l m : List Shr), sumW (l ++ m) = sumW l + sumW m := by
      intro l m
      induction l with
      | nil => simp [sumW]
      | cons y l ih => rw [List.cons_append, sumW, sumW, ih]; omega
    rw [ha]; simp [sumW]
  have hw := hp s (List.mem_of_getElem? hj)
  have := cntP_between (fun d => s.rev.toList == (pickL l d).toList) (sumW (l.take j)) s.w b.1 hw (fun d h0 h1 => by
    obtain ⟨k, t, hk, k1, k2⟩ := pickL_ex l hp d h0 (by omega)
    rw [pickL_at l hp k t d hk k1 k2]
    by_cases e : k = j
    · subst e
      rw [hj] at hk; cases hk
      rw [decide_eq_true ⟨k1, k2⟩]; exact eqS_iff.2 rfl
    · rw [neS_iff.2 (fun q => e (asc_inj h hk hj q.symm)), decide_eq_false]
      intro ⟨q1, q2⟩
      have := pickL_at l hp j s d hj q1 q2
      rw [pickL_at l hp k t d hk k1 k2] at this
      exact e (asc_inj h hk hj this)) 100 (by omega)
  rw [this]
  rw [hst] at b2
  split
  · omega
  · split <;> omega
end Go.Proofs.Ytjhfjjkfnmnkgaa
