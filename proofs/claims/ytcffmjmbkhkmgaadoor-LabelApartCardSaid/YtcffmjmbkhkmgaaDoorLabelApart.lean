/- The walk of LabelApart. -/
import Derived.Test.YtcffmjmbkhkmgaaDoorLabelBack
namespace Go.Proofs.YtcffmjmbkhkmgaaDoor
set_option linter.unusedVariables false
set_option linter.unusedSimpArgs false
open Go.RowKit

theorem toList_beq (x y : ByteArray) (b : Bool) (h : b = decide (x = y)) : (x.toList == y.toList) = b := by
  subst h
  rw [ByteArray.toList_eq, ByteArray.toList_eq, Bool.eq_iff_iff]
  simp only [beq_iff_eq, decide_eq_true_eq]
  exact ⟨fun h => ByteArray.ext (Array.toList_inj.1 h), fun h => by rw [h]⟩
theorem revS_inj {s t : ByteArray} {g h : Int} (hs : revP s g) (ht : revP t h) (e : revS s g = revS t h) : s = t ∧ g = h := by
  have h1 := isRev_revS hs
  have h2 := isRev_revS ht
  rw [e] at h1
  exact h1.unique h2

set_option maxRecDepth 100000 in
set_option maxHeartbeats 2000000 in
theorem walkLabelApart (w : World) (v : Value) (zs : List Int) (hz : IntSlice w v zs) (v2 : Value) (ys : List Int) (hy : IntSlice w v2 ys) (a : Int) (ha : wf64 a) (b : Int) (hb : wf64 b) (ht : Tab w) :
    Calls Tryd.prog 6 #[v, v2, .int .i64 a, .int .i64 b] w fun e w' => e = .returned (.bool true) ∧ Below w.heap.size w w' := by
  have HT := Lib.hid ht
  have HZ := Lib.hid hz
  have HY := Lib.hid hy
  clear ht hz hy
  have hq := withinI_range a 9999 (by omega)
  have hp := withinI_range b 9999 (by omega)
  have WQ := Lib.hid (fun w => within_any a 9999 w (by omega) (by omega) ha.1 ha.2)
  have WP := Lib.hid (fun w => within_any b 9999 w (by omega) (by omega) hb.1 hb.2)
  generalize withinI a 9999 = q at *
  generalize withinI b 9999 = p at *
  have tz := textS_size zs
  have ty := textS_size ys
  have TX := Lib.hid (fun w h => text_any v zs w h)
  have TY := Lib.hid (fun w h => text_any v2 ys w h)
  generalize textS zs = t1 at *
  generalize textS ys = t2 at *
  have z1 : ((⟨#[97]⟩ : ByteArray) ++ t1).size ≤ 49 := by rw [ByteArray.size_append]; show 1 + t1.size ≤ 49; omega
  have z2 : ((⟨#[97]⟩ : ByteArray) ++ t2).size ≤ 49 := by rw [ByteArray.size_append]; show 1 + t2.size ≤ 49; omega
  have N1 := Lib.hid (fun w => name_any (⟨#[97]⟩ ++ t1) w (by unfold maxLen; omega))
  have N2 := Lib.hid (fun w => name_any (⟨#[97]⟩ ++ t2) w (by unfold maxLen; omega))
  have R1 := Lib.hid (fun w h => rev_any (⟨#[97]⟩ ++ t1) (1 + q) w (by unfold maxLen; omega) (by omega) (by omega) h)
  have R2 := Lib.hid (fun w h => rev_any (⟨#[97]⟩ ++ t2) (1 + p) w (by unfold maxLen; omega) (by omega) (by omega) h)
  have DG := Lib.hid (fun w => digits_any (1 + q) w (by omega) (by omega))
  have TXZ := Lib.hid (fun w' (h : Grow.G w w') => HZ.out.below h)
  have TYZ := Lib.hid (fun w' (h : Grow.G w w') => HY.out.below h)
  have TT := Lib.hid (fun w' (h : Grow.G w w') => HT.out.below h)
  by_cases c1 : nameB 16 (⟨#[97]⟩ ++ t1) = true
  · by_cases c2 : nameB 16 (⟨#[97]⟩ ++ t2) = true
    · have P1 : revP (⟨#[97]⟩ ++ t1) (1 + q) := ⟨c1, by omega, by omega⟩
      have P2 : revP (⟨#[97]⟩ ++ t2) (1 + p) := ⟨c2, by omega, by omega⟩
      have e1 := toList_isEmpty _ (revS_size P1)
      have e2 := toList_ne _ (revS_size P1)
      have e3 := toList_isEmpty _ (revS_size P2)
      have e4 := toList_ne _ (revS_size P2)
      have SZ : ((revS (⟨#[97]⟩ ++ t1) (1 + q)).size : Int) = ((⟨#[97]⟩ : ByteArray) ++ t1).size + 1 + (digS (1 + q).toNat).size := by
        rw [revS_yes P1, ByteArray.size_append, ByteArray.size_append]; show ((_ + 1 + _ : Nat) : Int) = _; omega
      have DZ := digS_ten (n := (1 + q).toNat) (by omega)
      have EQ : Hid (∀ b1 b2 b3, b1 = decide (revS (⟨#[97]⟩ ++ t1) (1 + q) = revS (⟨#[97]⟩ ++ t2) (1 + p)) → b2 = decide ((⟨#[97]⟩ : ByteArray) ++ t1 = ⟨#[97]⟩ ++ t2) → b3 = decide (1 + q = 1 + p) → b1 = (b2 && b3)) := Lib.hid (by
        intro b1 b2 b3 h1 h2 h3
        subst h1 h2 h3
        rw [Bool.eq_iff_iff]
        simp only [Bool.and_eq_true, decide_eq_true_eq]
        constructor
        · intro e; exact revS_inj P1 P2 e
        · rintro ⟨h4, h5⟩; rw [h4, h5])
      have B1 := toList_beq (revS (⟨#[97]⟩ ++ t1) (1 + q)) (revS (⟨#[97]⟩ ++ t2) (1 + p)) _ rfl
      have B2 := toList_beq (⟨#[97]⟩ ++ t1) (⟨#[97]⟩ ++ t2) _ rfl
      generalize revS (⟨#[97]⟩ ++ t1) (1 + q) = x at *
      generalize revS (⟨#[97]⟩ ++ t2) (1 + p) = y at *
      by_cases hst : (⟨#[97]⟩ : ByteArray) ++ t1 = ⟨#[97]⟩ ++ t2
      · by_cases hgh : q = p
        · have S1 : (x.toList == y.toList) = true := by rw [B1]; exact EQ.out _ true true rfl (by simp [hst]) (by simp; omega)
          have S2 : (((⟨#[97]⟩ : ByteArray) ++ t1).toList == ((⟨#[97]⟩ : ByteArray) ++ t2).toList) = true := by rw [B2]; simp [hst]
          have S3 : ((1 + q) == (1 + p)) = true := by simp; omega
          clear B1 B2 hst hgh
          go_enter Tryd.func6, Tryd.ntmps6
          go_wp2_with fail
          refine (known_any _ (TT.out _ (Grow.G.refl w))).mono ?_
          rintro e wn1 ⟨rfl, hbn⟩
          have C1 := Lib.hid (Grow.G.trans (Grow.G.refl w) hbn)
          clear hbn
          go_wp2_with fail
          refine (TX.out _ (TXZ.out _ C1.out)).mono ?_
          rintro e wn2 ⟨rfl, hbn⟩
          have C2 := Lib.hid (Grow.G.trans C1.out hbn)
          clear hbn
          go_wp2_with fail
          refine (TY.out _ (TYZ.out _ C2.out)).mono ?_
          rintro e wn3 ⟨rfl, hbn⟩
          have C3 := Lib.hid (Grow.G.trans C2.out hbn)
          clear hbn
          go_wp2_with fail
          refine (N1.out _).mono ?_
          rintro e wn4 ⟨rfl, hbn⟩
          have C4 := Lib.hid (Grow.G.trans C3.out hbn)
          clear hbn
          go_wp2_with fail
          refine (N2.out _).mono ?_
          rintro e wn5 ⟨rfl, hbn⟩
          have C5 := Lib.hid (Grow.G.trans C4.out hbn)
          clear hbn
          go_wp2_with fail
          refine (WQ.out _).mono ?_
          rintro e wx ⟨rfl, rfl⟩
          go_wp2_with fail
          refine (WP.out _).mono ?_
          rintro e wx ⟨rfl, rfl⟩
          go_wp2_with fail
          refine (R1.out _ (TT.out _ C5.out)).mono ?_
          rintro e wn6 ⟨rfl, hbn⟩
          have C6 := Lib.hid (Grow.G.trans C5.out hbn)
          clear hbn
          go_wp2_with fail
          refine (R2.out _ (TT.out _ C6.out)).mono ?_
          rintro e wn7 ⟨rfl, hbn⟩
          have C7 := Lib.hid (Grow.G.trans C6.out hbn)
          clear hbn
          go_wp2_with fail
          refine (DG.out _).mono ?_
          rintro e wn8 ⟨rfl, hbn⟩
          have C8 := Lib.hid (Grow.G.trans C7.out hbn)
          clear hbn
          go_wp2_with fail
          go_ret
          exact ⟨ret_bool (by first | rfl | (simp; omega)), C8.out⟩
        · have S1 : (x.toList == y.toList) = false := by rw [B1]; exact EQ.out _ true false rfl (by simp [hst]) (by simp; omega)
          have S2 : (((⟨#[97]⟩ : ByteArray) ++ t1).toList == ((⟨#[97]⟩ : ByteArray) ++ t2).toList) = true := by rw [B2]; simp [hst]
          have S3 : ((1 + q) == (1 + p)) = false := by simp; omega
          clear B1 B2 hst hgh
          go_enter Tryd.func6, Tryd.ntmps6
          go_wp2_with fail
          refine (known_any _ (TT.out _ (Grow.G.refl w))).mono ?_
          rintro e wn1 ⟨rfl, hbn⟩
          have C1 := Lib.hid (Grow.G.trans (Grow.G.refl w) hbn)
          clear hbn
          go_wp2_with fail
          refine (TX.out _ (TXZ.out _ C1.out)).mono ?_
          rintro e wn2 ⟨rfl, hbn⟩
          have C2 := Lib.hid (Grow.G.trans C1.out hbn)
          clear hbn
          go_wp2_with fail
          refine (TY.out _ (TYZ.out _ C2.out)).mono ?_
          rintro e wn3 ⟨rfl, hbn⟩
          have C3 := Lib.hid (Grow.G.trans C2.out hbn)
          clear hbn
          go_wp2_with fail
          refine (N1.out _).mono ?_
          rintro e wn4 ⟨rfl, hbn⟩
          have C4 := Lib.hid (Grow.G.trans C3.out hbn)
          clear hbn
          go_wp2_with fail
          refine (N2.out _).mono ?_
          rintro e wn5 ⟨rfl, hbn⟩
          have C5 := Lib.hid (Grow.G.trans C4.out hbn)
          clear hbn
          go_wp2_with fail
          refine (WQ.out _).mono ?_
          rintro e wx ⟨rfl, rfl⟩
          go_wp2_with fail
          refine (WP.out _).mono ?_
          rintro e wx ⟨rfl, rfl⟩
          go_wp2_with fail
          refine (R1.out _ (TT.out _ C5.out)).mono ?_
          rintro e wn6 ⟨rfl, hbn⟩
          have C6 := Lib.hid (Grow.G.trans C5.out hbn)
          clear hbn
          go_wp2_with fail
          refine (R2.out _ (TT.out _ C6.out)).mono ?_
          rintro e wn7 ⟨rfl, hbn⟩
          have C7 := Lib.hid (Grow.G.trans C6.out hbn)
          clear hbn
          go_wp2_with fail
          refine (DG.out _).mono ?_
          rintro e wn8 ⟨rfl, hbn⟩
          have C8 := Lib.hid (Grow.G.trans C7.out hbn)
          clear hbn
          go_wp2_with fail
          go_ret
          exact ⟨ret_bool (by first | rfl | (simp; omega)), C8.out⟩
      · by_cases hgh : q = p
        · have S1 : (x.toList == y.toList) = false := by rw [B1]; exact EQ.out _ false true rfl (by simp [hst]) (by simp; omega)
          have S2 : (((⟨#[97]⟩ : ByteArray) ++ t1).toList == ((⟨#[97]⟩ : ByteArray) ++ t2).toList) = false := by rw [B2]; simp [hst]
          have S3 : ((1 + q) == (1 + p)) = true := by simp; omega
          clear B1 B2 hst hgh
          go_enter Tryd.func6, Tryd.ntmps6
          go_wp2_with fail
          refine (known_any _ (TT.out _ (Grow.G.refl w))).mono ?_
          rintro e wn1 ⟨rfl, hbn⟩
          have C1 := Lib.hid (Grow.G.trans (Grow.G.refl w) hbn)
          clear hbn
          go_wp2_with fail
          refine (TX.out _ (TXZ.out _ C1.out)).mono ?_
          rintro e wn2 ⟨rfl, hbn⟩
          have C2 := Lib.hid (Grow.G.trans C1.out hbn)
          clear hbn
          go_wp2_with fail
          refine (TY.out _ (TYZ.out _ C2.out)).mono ?_
          rintro e wn3 ⟨rfl, hbn⟩
          have C3 := Lib.hid (Grow.G.trans C2.out hbn)
          clear hbn
          go_wp2_with fail
          refine (N1.out _).mono ?_
          rintro e wn4 ⟨rfl, hbn⟩
          have C4 := Lib.hid (Grow.G.trans C3.out hbn)
          clear hbn
          go_wp2_with fail
          refine (N2.out _).mono ?_
          rintro e wn5 ⟨rfl, hbn⟩
          have C5 := Lib.hid (Grow.G.trans C4.out hbn)
          clear hbn
          go_wp2_with fail
          refine (WQ.out _).mono ?_
          rintro e wx ⟨rfl, rfl⟩
          go_wp2_with fail
          refine (WP.out _).mono ?_
          rintro e wx ⟨rfl, rfl⟩
          go_wp2_with fail
          refine (R1.out _ (TT.out _ C5.out)).mono ?_
          rintro e wn6 ⟨rfl, hbn⟩
          have C6 := Lib.hid (Grow.G.trans C5.out hbn)
          clear hbn
          go_wp2_with fail
          refine (R2.out _ (TT.out _ C6.out)).mono ?_
          rintro e wn7 ⟨rfl, hbn⟩
          have C7 := Lib.hid (Grow.G.trans C6.out hbn)
          clear hbn
          go_wp2_with fail
          refine (DG.out _).mono ?_
          rintro e wn8 ⟨rfl, hbn⟩
          have C8 := Lib.hid (Grow.G.trans C7.out hbn)
          clear hbn
          go_wp2_with fail
          go_ret
          exact ⟨ret_bool (by first | rfl | (simp; omega)), C8.out⟩
        · have S1 : (x.toList == y.toList) = false := by rw [B1]; exact EQ.out _ false false rfl (by simp [hst]) (by simp; omega)
          have S2 : (((⟨#[97]⟩ : ByteArray) ++ t1).toList == ((⟨#[97]⟩ : ByteArray) ++ t2).toList) = false := by rw [B2]; simp [hst]
          have S3 : ((1 + q) == (1 + p)) = false := by simp; omega
          clear B1 B2 hst hgh
          go_enter Tryd.func6, Tryd.ntmps6
          go_wp2_with fail
          refine (known_any _ (TT.out _ (Grow.G.refl w))).mono ?_
          rintro e wn1 ⟨rfl, hbn⟩
          have C1 := Lib.hid (Grow.G.trans (Grow.G.refl w) hbn)
          clear hbn
          go_wp2_with fail
          refine (TX.out _ (TXZ.out _ C1.out)).mono ?_
          rintro e wn2 ⟨rfl, hbn⟩
          have C2 := Lib.hid (Grow.G.trans C1.out hbn)
          clear hbn
          go_wp2_with fail
          refine (TY.out _ (TYZ.out _ C2.out)).mono ?_
          rintro e wn3 ⟨rfl, hbn⟩
          have C3 := Lib.hid (Grow.G.trans C2.out hbn)
          clear hbn
          go_wp2_with fail
          refine (N1.out _).mono ?_
          rintro e wn4 ⟨rfl, hbn⟩
          have C4 := Lib.hid (Grow.G.trans C3.out hbn)
          clear hbn
          go_wp2_with fail
          refine (N2.out _).mono ?_
          rintro e wn5 ⟨rfl, hbn⟩
          have C5 := Lib.hid (Grow.G.trans C4.out hbn)
          clear hbn
          go_wp2_with fail
          refine (WQ.out _).mono ?_
          rintro e wx ⟨rfl, rfl⟩
          go_wp2_with fail
          refine (WP.out _).mono ?_
          rintro e wx ⟨rfl, rfl⟩
          go_wp2_with fail
          refine (R1.out _ (TT.out _ C5.out)).mono ?_
          rintro e wn6 ⟨rfl, hbn⟩
          have C6 := Lib.hid (Grow.G.trans C5.out hbn)
          clear hbn
          go_wp2_with fail
          refine (R2.out _ (TT.out _ C6.out)).mono ?_
          rintro e wn7 ⟨rfl, hbn⟩
          have C7 := Lib.hid (Grow.G.trans C6.out hbn)
          clear hbn
          go_wp2_with fail
          refine (DG.out _).mono ?_
          rintro e wn8 ⟨rfl, hbn⟩
          have C8 := Lib.hid (Grow.G.trans C7.out hbn)
          clear hbn
          go_wp2_with fail
          go_ret
          exact ⟨ret_bool (by first | rfl | (simp; omega)), C8.out⟩
    · have c2' : nameB 16 (⟨#[97]⟩ ++ t2) = false := by simpa using c2
      clear c2
      go_enter Tryd.func6, Tryd.ntmps6
      go_wp2_with fail
      refine (known_any _ (TT.out _ (Grow.G.refl w))).mono ?_
      rintro e wn1 ⟨rfl, hbn⟩
      have C1 := Lib.hid (Grow.G.trans (Grow.G.refl w) hbn)
      clear hbn
      go_wp2_with fail
      refine (TX.out _ (TXZ.out _ C1.out)).mono ?_
      rintro e wn2 ⟨rfl, hbn⟩
      have C2 := Lib.hid (Grow.G.trans C1.out hbn)
      clear hbn
      go_wp2_with fail
      refine (TY.out _ (TYZ.out _ C2.out)).mono ?_
      rintro e wn3 ⟨rfl, hbn⟩
      have C3 := Lib.hid (Grow.G.trans C2.out hbn)
      clear hbn
      go_wp2_with fail
      refine (N1.out _).mono ?_
      rintro e wn4 ⟨rfl, hbn⟩
      have C4 := Lib.hid (Grow.G.trans C3.out hbn)
      clear hbn
      go_wp2_with fail
      refine (N2.out _).mono ?_
      rintro e wn5 ⟨rfl, hbn⟩
      have C5 := Lib.hid (Grow.G.trans C4.out hbn)
      clear hbn
      go_wp2_with fail
      go_ret
      exact ⟨rfl, C5.out⟩
  · have c1' : nameB 16 (⟨#[97]⟩ ++ t1) = false := by simpa using c1
    clear c1
    go_enter Tryd.func6, Tryd.ntmps6
    go_wp2_with fail
    refine (known_any _ (TT.out _ (Grow.G.refl w))).mono ?_
    rintro e wn1 ⟨rfl, hbn⟩
    have C1 := Lib.hid (Grow.G.trans (Grow.G.refl w) hbn)
    clear hbn
    go_wp2_with fail
    refine (TX.out _ (TXZ.out _ C1.out)).mono ?_
    rintro e wn2 ⟨rfl, hbn⟩
    have C2 := Lib.hid (Grow.G.trans C1.out hbn)
    clear hbn
    go_wp2_with fail
    refine (TY.out _ (TYZ.out _ C2.out)).mono ?_
    rintro e wn3 ⟨rfl, hbn⟩
    have C3 := Lib.hid (Grow.G.trans C2.out hbn)
    clear hbn
    go_wp2_with fail
    refine (N1.out _).mono ?_
    rintro e wn4 ⟨rfl, hbn⟩
    have C4 := Lib.hid (Grow.G.trans C3.out hbn)
    clear hbn
    go_wp2_with fail
    go_ret
    exact ⟨rfl, C4.out⟩
end Go.Proofs.YtcffmjmbkhkmgaaDoor
