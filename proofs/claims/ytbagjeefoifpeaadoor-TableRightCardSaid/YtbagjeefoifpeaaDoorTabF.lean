
/- Whether a table is not too much: damperlaw5.Few; what a law's changed table is. -/
import Derived.Test.YtbagjeefoifpeaaDoorTableSame
import Derived.Test.YtbagjeefoifpeaaDoorZ39
import Derived.Test.YtbagjeefoifpeaaDoorArgTb
import Derived.Test.YtbagjeefoifpeaaDoorZ1
namespace Go.Proofs.YtbagjeefoifpeaaDoor
set_option maxRecDepth 100000
set_option linter.unusedVariables false
set_option linter.unusedSimpArgs false
set_option linter.unnecessarySimpa false
open Go.RowKit Go.Args

set_option maxHeartbeats 4000000 in
theorem few_any (a : Option Addr) (l : List Shr) (c : Nat) (a' : Option Addr) (m : List Tgo) (c' : Nat) (w : World) (h : TabIn w a l a' m) :
    Calls Tryd.prog 10 #[.agg #[.slice a l.length c, .slice a' m.length c']] w fun e w' => ∃ q, e = .returned (.bool q) ∧ (q = true → l.length ≤ 12 ∧ m.length ≤ 12) ∧ Grow.G w w' := by
  have H := Lib.hid h
  have hll := h.ll
  have hlm := h.lm
  unfold maxLen at hll hlm
  clear h
  go_enter Tryd.func10, Tryd.ntmps10
  go_wp2_with fail
  have B0 := Lib.hid (Blk.new w #[Value.slice a l.length c, Value.slice a' m.length c'] 25)
  obtain ⟨W0, hW0⟩ : ∃ W0, W0 = w.alloc (.cells #[Value.slice a l.length c, Value.slice a' m.length c'] 25) := ⟨_, rfl⟩
  rw [← hW0] at B0 ⊢
  have G0 : Hid (Grow.G w W0) := Lib.hid (by rw [hW0]; exact Grow.G.alloc (Grow.G.refl _) _)
  clear hW0
  generalize w.heap.size = gb at *
  have e0 := Blk.at (cs := [Value.slice a l.length c, Value.slice a' m.length c']) (k := 0) B0.out rfl
  have e1 := Blk.at (cs := [Value.slice a l.length c, Value.slice a' m.length c']) (k := 1) B0.out rfl
  go_loopw [3] (fun i wr => ∃ k : Nat, k ≤ l.length ∧ i = .int .i64 k ∧ wr = W0) (fun i _ => l.length - (intOf i).toNat)
  case atStart => exact ⟨0, by omega, rfl, rfl⟩
  case round =>
    obtain ⟨k, hk, rfl, rfl⟩ := hrel
    by_cases hlt : k < l.length
    · obtain ⟨s, hs⟩ : ∃ s, l[k]? = some s := ⟨_, List.getElem?_eq_getElem hlt⟩
      obtain ⟨b, off, rfl, hc⟩ := ShSl.at H.out.sh hs
      obtain ⟨c0, c1⟩ := hc _ G0.out
      have ho := H.out.ok s (List.mem_of_getElem? hs)
      unfold Shr.ok at ho
      obtain ⟨rv, n⟩ := s
      dsimp only at *
      clear hs hc
      have d0 : decide ((k : Int) < (l.length : Int)) = true := decide_eq_true (by omega)
      have hk1 : IntKind.i64.wrap ((k : Int) + 1) = (k : Int) + 1 := IntWalk.i64_in _ ⟨by omega, by omega⟩
      have k1 : (0 : Int) ≤ (k : Int) := by omega
      have k2 : (k : Int) < (l.length : Int) := by omega
      by_cases t0 : 60 < rv.size
      · have d1 : decide ((rv.size : Int) > 60) = true := decide_eq_true (by omega)
        have d2 : decide (60 < rv.size) = true := decide_eq_true t0
        go_wp2_with fail
        go_ret
        exact ⟨false, rfl, fun h => (by cases h), G0.out⟩
      · have d1 : decide ((rv.size : Int) > 60) = false := decide_eq_false (by omega)
        have d2 : decide (60 < rv.size) = false := decide_eq_false t0
        go_wp2_with fail
        go_roundw
        case rel => exact ⟨k + 1, by omega, by go_num, by first | rfl | trivial⟩
        case measure => simp [intOf]; omega
    · have d0 : decide ((k : Int) < (l.length : Int)) = false := decide_eq_false (by omega)
      go_wp2_with fail
      go_loopw [4] (fun i wr' => ∃ k : Nat, k ≤ m.length ∧ i = .int .i64 k ∧ wr' = wr) (fun i _ => m.length - (intOf i).toNat)
      case atStart => exact ⟨0, by omega, rfl, rfl⟩
      case round =>
        obtain ⟨k, hk, rfl, rfl⟩ := hrel
        by_cases hlt : k < m.length
        · obtain ⟨s, hs⟩ : ∃ s, m[k]? = some s := ⟨_, List.getElem?_eq_getElem hlt⟩
          obtain ⟨b, off, rfl, hc⟩ := TgSl.at H.out.tg hs
          obtain ⟨c0, c1⟩ := hc _ G0.out
          have ho := H.out.ok' s (List.mem_of_getElem? hs)
          unfold Tgo.ok at ho
          obtain ⟨tg, rv⟩ := s
          dsimp only at *
          clear hs hc
          have d0 : decide ((k : Int) < (m.length : Int)) = true := decide_eq_true (by omega)
          have hk1 : IntKind.i64.wrap ((k : Int) + 1) = (k : Int) + 1 := IntWalk.i64_in _ ⟨by omega, by omega⟩
          have k1 : (0 : Int) ≤ (k : Int) := by omega
          have k2 : (k : Int) < (m.length : Int) := by omega
          obtain ⟨y1, hy1⟩ : ∃ y, decide (60 < rv.size) = y := ⟨_, rfl⟩
          obtain ⟨y2, hy2⟩ : ∃ y, decide (60 < tg.size) = y := ⟨_, rfl⟩
          have hz1 : decide ((rv.size : Int) > 60) = y1 := by rw [← hy1]; exact decide_eq_decide.2 (by omega)
          have hz2 : decide ((tg.size : Int) > 60) = y2 := by rw [← hy2]; exact decide_eq_decide.2 (by omega)
          cases y1 with
          | true =>
            go_wp2_with fail
            go_ret
            exact ⟨false, rfl, fun h => (by cases h), G0.out⟩
          | false =>
            cases y2 with
            | true =>
              go_wp2_with fail
              go_ret
              exact ⟨false, rfl, fun h => (by cases h), G0.out⟩
            | false =>
              go_wp2_with fail
              go_roundw
              case rel => exact ⟨k + 1, by omega, by go_num, by first | rfl | trivial⟩
              case measure => simp [intOf]; omega
        · have d0 : decide ((k : Int) < (m.length : Int)) = false := decide_eq_false (by omega)
          by_cases t1 : l.length ≤ 12
          · have d1 : decide (l.length ≤ 12) = true := decide_eq_true t1
            have d2 : decide ((l.length : Int) ≤ 12) = true := decide_eq_true (by omega)
            by_cases t2 : m.length ≤ 12
            · have d3 : decide (m.length ≤ 12) = true := decide_eq_true t2
              have d4 : decide ((m.length : Int) ≤ 12) = true := decide_eq_true (by omega)
              have HL := Lib.hid (And.intro t1 t2)
              clear t1 t2
              go_wp2_with fail
              go_ret
              exact ⟨true, rfl, fun _ => HL.out, G0.out⟩
            · have d3 : decide (m.length ≤ 12) = false := decide_eq_false t2
              have d4 : decide ((m.length : Int) ≤ 12) = false := decide_eq_false (by omega)
              clear t1 t2
              go_wp2_with fail
              go_ret
              exact ⟨false, rfl, fun h => (by cases h), G0.out⟩
          · have d1 : decide (l.length ≤ 12) = false := decide_eq_false t1
            have d2 : decide ((l.length : Int) ≤ 12) = false := decide_eq_false (by omega)
            clear t1
            go_wp2_with fail
            go_ret
            exact ⟨false, rfl, fun h => (by cases h), G0.out⟩
/-- The table that a law has changed: as it lies in its box. -/
structure FinT (w W : World) (gb : Nat) (a : Option Addr) (l : List Shr) (c : Nat) (a' : Option Addr) (m : List Tgo) (c' : Nat) : Prop where
  bx : Blk W gb #[.slice a l.length c, .slice a' m.length c'] 25
  sh : ShSl W a l
  tg : TgSl W a' m
  ll : l.length ≤ 1000000
  lm : m.length ≤ 1000000
  ok : ∀ s, s ∈ l → s.ok
  ok' : ∀ s, s ∈ m → s.ok
  g : Grow.G w W
namespace FinT
variable {w W : World} {gb : Nat} {a : Option Addr} {l : List Shr} {c : Nat} {a' : Option Addr} {m : List Tgo} {c' : Nat}
theorem kc (h : FinT w W gb a l c a' m c') (w' : World) (k : Chg (fun _ => False) W w') : w'.cell? ⟨gb, 0, none⟩ = some (.slice a l.length c) ∧ w'.cell? ⟨gb, 1, none⟩ = some (.slice a' m.length c') ∧ True :=
  ⟨k.cell (Blk.at (cs := [.slice a l.length c, .slice a' m.length c']) (k := 0) h.bx rfl) id, k.cell (Blk.at (cs := [.slice a l.length c, .slice a' m.length c']) (k := 1) h.bx rfl) id, trivial⟩
theorem q1 (h : FinT w W gb a l c a' m c') (w' : World) (k : Chg (fun _ => False) W w') : Calls Tryd.prog 12 #[.agg #[.slice a l.length c, .slice a' m.length c']] w' fun e w'' => e = .returned (.bool (rightB l m)) ∧ Grow.G w' w'' :=
  right_any a l c a' m c' w' h.ll h.lm (h.sh.later (g0 k)) (h.tg.later (g0 k)) h.ok h.ok'
theorem q2 (h : FinT w W gb a l c a' m c') (w' : World) (k : Chg (fun _ => False) W w') : Calls Tryd.prog 13 #[.agg #[.slice a l.length c, .slice a' m.length c']] w' fun e w'' => e = .returned (.bool (rightB l m)) ∧ Grow.G w' w'' :=
  rright_any a l c a' m c' w' h.ll h.lm (h.sh.later (g0 k)) (h.tg.later (g0 k)) h.ok h.ok'
end FinT
end Go.Proofs.YtbagjeefoifpeaaDoor
