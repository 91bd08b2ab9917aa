
/- damperlaw13.weight; led with another time to take, plainly. -/
import Derived.Test.YtjhfjjkfnmnkgaaZ98L
import Derived.Test.YtjhfjjkfnmnkgaaZ48
namespace Go.Proofs.Ytjhfjjkfnmnkgaa
set_option maxRecDepth 100000
set_option linter.unusedVariables false
set_option linter.unusedSimpArgs false
set_option linter.unnecessarySimpa false
open Go.RowKit Go.Args

set_option maxHeartbeats 4000000 in
theorem weight13_any (a : Option Addr) (l : List Shr) (c : Nat) (n : ByteArray) (w : World) (hl : l.length ≤ 1000000) (h : ShSl w a l) :
    Calls Try.prog 26 #[.slice a l.length c, .string n] w fun e w' => e = .returned (.int .i64 (wtL l n)) ∧ w = w' := by
  have HS := Lib.hid h
  clear h
  go_enter Try.func26, Try.ntmps26
  go_wp2_with fail
  go_loopw [5] (fun i wr => ∃ k : Nat, k ≤ l.length ∧ i = .int .i64 k ∧ Hid (wtL l n = wtL (l.drop k) n) ∧ wr = w) (fun i _ => l.length - (_root_.Go.RowKit.intOf i).toNat)
  case atStart => exact ⟨0, by omega, rfl, Lib.hid rfl, rfl⟩
  case round =>
    obtain ⟨k, hk, rfl, HW, rfl⟩ := hrel
    by_cases hlt : k < l.length
    · obtain ⟨s, hs⟩ : ∃ s, l[k]? = some s := ⟨_, List.getElem?_eq_getElem hlt⟩
      obtain ⟨sb, off, rfl, hc⟩ := ShSl.at HS.out hs
      obtain ⟨c0, c1⟩ := hc _ (Grow.G.refl _)
      have ST := HW.out.trans (wtL_step hs n)
      obtain ⟨rv, x⟩ := s
      dsimp only at *
      clear hs hc HW
      have d0 : decide ((k : Int) < (l.length : Int)) = true := decide_eq_true (by omega)
      have hk1 : IntKind.i64.wrap ((k : Int) + 1) = (k : Int) + 1 := IntWalk.i64_in _ ⟨by omega, by omega⟩
      have k1 : (0 : Int) ≤ (k : Int) := by omega
      have k2 : (k : Int) < (l.length : Int) := by omega
      by_cases e : rv = n
      · rw [if_pos e] at ST
        have E : (rv.toList == n.toList) = true := eqS_iff.2 e
        have ST := Lib.hid ST
        clear e
        go_wp2_with fail
        go_ret
        exact ⟨ret_i64 ST.out.symm, rfl⟩
      · rw [if_neg e] at ST
        have E : (rv.toList == n.toList) = false := neS_iff.2 e
        have ST := Lib.hid ST
        clear e
        go_wp2_with fail
        go_roundw
        case rel => exact ⟨k + 1, by omega, by go_num, ST, trivial⟩
        case measure => simp [_root_.Go.RowKit.intOf]; omega
    · have d0 : decide ((k : Int) < (l.length : Int)) = false := decide_eq_false (by omega)
      have hz : l.drop k = [] := List.drop_eq_nil_of_le (by omega)
      have ST := HW.out
      rw [hz] at ST
      have ST := Lib.hid ST
      clear hz HW
      go_wp2_with fail
      go_ret
      exact ⟨ret_i64 ST.out.symm, rfl⟩
/-- A route on its way from x to y, at time T, where it has lst. -/
structure WhJ (x y : List Shr) (l : List Wa) (T : Int) (lst : List Shr) (z : Wa) : Prop where
  f : findW l fr13 = some z
  to : z.to = y
  wh : 1 ≤ z.wh
  sh : z.sh = lst
  ro : z.sh = rollL z.fr y (T - z.si) z.wh
  sd : Sd z.fr
  up : ∀ n, wtL x n ≤ wtL y n → wtL z.fr n ≤ wtL y n
theorem WhJ.step {x y : List Shr} {l : List Wa} {T T' v : Int} {lst : List Shr} {z : Wa} (h : WhJ x y l T lst z) (hy : Sd y) (hT : T ≤ T') (hv : 1 ≤ v) :
    (∃ z', WhJ x y (turnW l fr13 y [] T' v) T' (stepW (findW l fr13) fr13 y [] T' v).sh z') ∧ ∀ n, wtL x n ≤ wtL y n → wtL lst n ≤ wtL (stepW (findW l fr13) fr13 y [] T' v).sh n := by
  rw [h.f]
  by_cases e : z.wh = v
  · have k := stepW_keep (nm := fr13) (tg := []) (now := T') h.to e
    rw [k]
    refine ⟨⟨⟨z.nm, z.fr, z.to, z.si, z.wh, rollL z.fr z.to (T' - z.si) z.wh, []⟩, ⟨by rw [findW_turn, h.f, k], h.to, h.wh, rfl, by show rollL z.fr z.to _ _ = _; rw [h.to], h.sd, h.up⟩⟩, fun n hn => ?_⟩
    show wtL lst n ≤ wtL (rollL z.fr z.to (T' - z.si) z.wh) n
    rw [← h.sh, h.ro, h.to]
    exact (roll_mono h.sd hy (by have := h.wh; omega) (by omega) n).1 (h.up n hn)
  · have k : stepW (some z) fr13 y [] T' v = newW fr13 z.sh y [] T' v := by
      unfold stepW
      dsimp only
      rw [if_neg fun q => e (keepsW_iff.1 q).1]
    have hs : Sd z.sh := by rw [h.ro]; exact roll_sd' h.sd hy
    have hf : rollL z.sh y 0 v = z.sh := roll_from (by omega) (by omega)
    rw [k]
    refine ⟨⟨newW fr13 z.sh y [] T' v, ⟨by rw [findW_turn, h.f, k], rfl, hv, rfl, by show rollL z.sh y 0 v = rollL z.sh y (T' - T') v; rw [Int.sub_self], hs, fun n hn => ?_⟩⟩, fun n hn => ?_⟩
    · show wtL z.sh n ≤ wtL y n
      have q := roll_between (t := T - z.si) (n := z.wh) h.sd hy n
      rw [← h.ro] at q
      have := h.up n hn
      omega
    · show wtL lst n ≤ wtL (rollL z.sh y 0 v) n
      rw [hf, h.sh]; exact Int.le_refl _
end Go.Proofs.Ytjhfjjkfnmnkgaa
