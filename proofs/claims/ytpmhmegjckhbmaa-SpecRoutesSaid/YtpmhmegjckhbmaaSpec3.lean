/- What spec's each and sum answer over a route's targets. -/
import Derived.Test.YtpmhmegjckhbmaaSpec2
namespace Go.Proofs.Ytpmhmegjckhbmaa
set_option linter.unusedVariables false
set_option linter.unusedSimpArgs false
set_option linter.unnecessarySimpa false
open Go.RowKit

structure TgtAt (w : World) (b o : Nat) (t : Tgt) : Prop where
  c0 : w.cell? ⟨b, o, none⟩ = some (.string t.rv)
  c1 : w.cell? ⟨b, o + 1, none⟩ = some (.string t.tg)
  c2 : w.cell? ⟨b, o + 1 + 1, none⟩ = some (.int .i64 t.pc)
def tg0 : Tgt := ⟨⟨#[]⟩, ⟨#[]⟩, 0⟩
/-- A slice's targets. -/
def TgtSl (w : World) (a : Option Addr) (ts : List Tgt) : Prop := ts = [] ∨ ∃ b off, a = some ⟨b, off, none⟩ ∧ ∀ i, i < ts.length → TgtAt w b (off + i * 3) (ts.getD i tg0)
theorem TgtAt.later {w w' : World} {b o : Nat} {t : Tgt} (h : TgtAt w b o t) (g : Grow.G w w') : TgtAt w' b o t := ⟨cell_later g h.c0, cell_later g h.c1, cell_later g h.c2⟩
theorem TgtSl.later {w w' : World} {a : Option Addr} {ts : List Tgt} (h : TgtSl w a ts) (g : Grow.G w w') : TgtSl w' a ts :=
  h.imp id fun ⟨b, off, ha, hc⟩ => ⟨b, off, ha, fun i hi => (hc i hi).later g⟩
theorem TgtSl.at {w : World} {a : Option Addr} {ts : List Tgt} (h : TgtSl w a ts) {k : Nat} (hk : k < ts.length) : ∃ b off, a = some ⟨b, off, none⟩ ∧ TgtAt w b (off + k * 3) (ts.getD k tg0) := by
  rcases h with rfl | ⟨b, off, ha, hc⟩
  · simp at hk
  · exact ⟨b, off, ha, hc k hk⟩
def Tgt.ok (t : Tgt) : Prop := t.rv.size ≤ 140737488351232 ∧ t.tg.size ≤ 140737488351232 ∧ wf64 t.pc
theorem getD_map {α β : Type} (f : α → β) (l : List α) (k : Nat) (d : α) (e : β) (h : k < l.length) : (l.map f).getD k e = f (l.getD k d) := by
  simp [List.getD, h]

theorem tgt_err (t : Tgt) : fst0 [unl t.nmd 1, unl (inB t.pc 0 100) 2] = t.err := by
  unfold Tgt.err unl
  cases t.nmd <;> cases inB t.pc 0 100 <;> rfl
def eachE (ts : List Tgt) : Int := fst0 (ts.map Tgt.err)

set_option maxHeartbeats 1000000 in
theorem each_any (nm cf : ByteArray) (a : Option Addr) (ts : List Tgt) (c : Nat) (rl : Int) (w : World) (hl : ts.length ≤ maxLen) (ht : TgtSl w a ts) (hk : ∀ i, i < ts.length → (ts.getD i tg0).ok) :
    Calls Try.prog 32 #[rtV nm cf (.slice a ts.length c) rl] w fun x w' => x = .returned (.int .i64 (eachE ts)) ∧ Below w.heap.size w w' := by
  have HT := Lib.hid ht
  have HK := Lib.hid hk
  clear ht hk
  unfold maxLen at hl
  unfold rtV
  go_enter Try.func32, Try.ntmps32
  go_wp2
  go_loopw [10] (fun i wr => ∃ k : Nat, k ≤ ts.length ∧ i = .int .i64 k ∧ Hid (Grow.G w wr) ∧ Hid (∀ j, j < k → (ts.map Tgt.err).getD j 0 = 0)) (fun i _ => ts.length - (intOf i).toNat)
  case atStart => exact ⟨0, by omega, rfl, (Grow.G.alloc (Grow.G.refl _) _), fun j h => by omega⟩
  case round =>
    obtain ⟨k, hk, rfl, G, H0⟩ := hrel
    by_cases hlt : k < ts.length
    · obtain ⟨b, off, rfl, hat⟩ := (HT.out.later G.out).at hlt
      have OK := HK.out k hlt
      have FA := Lib.hid (fst0_at (ts.map Tgt.err) k (by simpa using hlt) H0.out)
      have GM := Lib.hid (getD_map Tgt.err ts k tg0 0 hlt)
      generalize ts.getD k tg0 = t at *
      have N := Lib.hid (fun w => tnamed_any t w OK.1 OK.2.1)
      have M := Lib.hid (fun w => tpart_any t w)
      have E := Lib.hid (tgt_err t)
      obtain ⟨rv, tg, pc⟩ := t
      unfold Tgt.v at *
      have ⟨c0, c1, c2⟩ := hat
      simp only at c0 c1 c2
      clear hat OK
      go_wp2_with fail
      refine (first_any _ [unl (Tgt.nmd ⟨rv, tg, pc⟩) 1, unl (inB pc 0 100) 2] (fun | 0 => 43 | _ => 44) (fun _ => .agg #[.string rv, .string tg, .int .i64 pc]) _ (by show 2 ≤ 100; decide) ?_ ?_ ?_).mono ?_
      · intro i hi
        match i, hi with
        | 0, _ => go_simp
        | 1, _ => go_simp
      · intro i hi args w'
        match i, hi with
        | 0, _ => go_simp
        | 1, _ => go_simp
      · intro i hi _ w' _
        match i, hi with
        | 0, _ => exact N.out w'
        | 1, _ => exact M.out w'
      rintro e w1 ⟨he, hb⟩
      rw [E.out] at he
      subst he
      have G1 := Lib.hid (show Grow.G w w1 by have := G.out; clear c0 c1 c2; (repeat (first | with_reducible exact Grow.G.refl _ | with_reducible exact Below.refl _ _ | with_reducible refine Grow.G.alloc ?_ _ | with_reducible refine Grow.G.trans ?_ hb1 | ((with_reducible refine Below.setCell ?_ ?_ _); rotate_left; (focus (first | omega | (simp; done) | (simp; omega)))) | with_reducible assumption | with_reducible refine Grow.G.trans ?_ (by with_reducible assumption))))
      clear hb c0 c1 c2
      generalize hv : Tgt.err ⟨rv, tg, pc⟩ = v at *
      have HV := Lib.hid hv
      clear hv
      by_cases h0 : v = 0
      · subst h0
        go_wp2_with fail
        go_roundw
        case rel => exact ⟨k + 1, by omega, by go_num, G1.out, fun j hj => by
          by_cases e : j = k
          · rw [e, GM.out]
          · exact H0.out j (by omega)⟩
        case measure => simp [intOf]; omega
      · have h0' : (v != 0) = true := by simpa using h0
        have FE : Hid (eachE ts = v) := Lib.hid (by unfold eachE; rw [FA.out (by rw [GM.out]; exact h0), GM.out])
        clear h0
        go_wp2_with fail
        go_ret
        exact ⟨ret_i64 FE.out.symm, G1.out⟩
    · have FE : Hid (eachE ts = 0) := Lib.hid (fst0_none _ fun j hj => H0.out j (by rw [List.length_map] at hj; omega))
      go_wp2
      go_ret
      exact ⟨ret_i64 FE.out.symm, G.out⟩

def sumT (ts : List Tgt) : Int := (ts.map Tgt.pc).sum
theorem sumT_snoc (ts : List Tgt) (k : Nat) (h : k < ts.length) : sumT (ts.take (k + 1)) = sumT (ts.take k) + (ts.getD k tg0).pc := by
  unfold sumT
  rw [List.take_succ_eq_append_getElem h, List.map_append, List.sum_append]
  simp [List.getD, h]
theorem sumT_bd (ts : List Tgt) (h : ∀ i, i < ts.length → 0 ≤ (ts.getD i tg0).pc ∧ (ts.getD i tg0).pc ≤ 100) : ∀ k, k ≤ ts.length → 0 ≤ sumT (ts.take k) ∧ sumT (ts.take k) ≤ 100 * k
  | 0, _ => by simp [sumT]
  | k + 1, hk => by
    have := sumT_bd ts h k (by omega)
    have := h k (by omega)
    rw [sumT_snoc ts k (by omega)]; omega

set_option maxHeartbeats 1000000 in
theorem sum_any (nm cf : ByteArray) (a : Option Addr) (ts : List Tgt) (c : Nat) (rl : Int) (w : World) (hl : ts.length ≤ 100) (ht : TgtSl w a ts) (hk : ∀ i, i < ts.length → 0 ≤ (ts.getD i tg0).pc ∧ (ts.getD i tg0).pc ≤ 100) :
    Calls Try.prog 34 #[rtV nm cf (.slice a ts.length c) rl] w fun x w' => x = .returned (.int .i64 (unl (sumT ts == 100) 4)) ∧ Below w.heap.size w w' := by
  have HT := Lib.hid ht
  have HK := Lib.hid hk
  clear ht hk
  unfold rtV
  go_enter Try.func34, Try.ntmps34
  go_wp2
  go_loopw [3, 9] (fun s i wr => ∃ k : Nat, k ≤ ts.length ∧ i = .int .i64 k ∧ s = .int .i64 (sumT (ts.take k)) ∧ Hid (Grow.G w wr)) (fun _ i _ => ts.length - (intOf i).toNat)
  case atStart => exact ⟨0, by omega, rfl, rfl, (Grow.G.alloc (Grow.G.refl _) _)⟩
  case round =>
    obtain ⟨k, hk, rfl, rfl, G⟩ := hrel
    have bd := sumT_bd ts HK.out k hk
    by_cases hlt : k < ts.length
    · obtain ⟨b, off, rfl, hat⟩ := (HT.out.later G.out).at hlt
      have OK := HK.out k hlt
      have SN := Lib.hid (sumT_snoc ts k hlt)
      generalize ts.getD k tg0 = t at *
      generalize sumT (ts.take k) = s at *
      obtain ⟨rv, tg, pc⟩ := t
      have ⟨c0, c1, c2⟩ := hat
      simp only at c0 c1 c2 OK
      clear hat
      go_wp2_with fail
      go_roundw
      case rel => exact ⟨k + 1, by omega, by go_num, by rw [SN.out], by have := G.out; clear c0 c1 c2; show Grow.G _ _; (repeat (first | with_reducible exact Grow.G.refl _ | with_reducible exact Below.refl _ _ | with_reducible refine Grow.G.alloc ?_ _ | with_reducible refine Grow.G.trans ?_ hb1 | ((with_reducible refine Below.setCell ?_ ?_ _); rotate_left; (focus (first | omega | (simp; done) | (simp; omega)))) | with_reducible assumption | with_reducible refine Grow.G.trans ?_ (by with_reducible assumption)))⟩
      case measure => simp [intOf]; omega
    · have e : Hid (ts.take k = ts) := Lib.hid (List.take_of_length_le (by omega))
      rw [e.out] at bd ⊢
      generalize hs : sumT ts = s at *
      have HS := Lib.hid hs
      clear hs
      go_wp2_with (go_at_call 39; (with_reducible refine (unless_any _ _ _).mono ?_); rintro e w' ⟨rfl, rfl⟩)
      go_ret
      exact ⟨ret_i64 (by rw [HS.out]), G.out⟩
end Go.Proofs.Ytpmhmegjckhbmaa
