/- My own texts Rl10, laid in one file. -/
import Derived.Test.YtjhfjjkfnmnkgaaZ51
import Derived.Test.YtjhfjjkfnmnkgaaZ2

/- damperref6.Shares. -/
namespace Go.Proofs.Ytjhfjjkfnmnkgaa
set_option maxRecDepth 100000
set_option linter.unusedVariables false
set_option linter.unusedSimpArgs false
set_option linter.unnecessarySimpa false
open Go.RowKit Go.Args

theorem flat_get {α : Type} {cells : α → List Value} {n : Nat} (hcl : ∀ x, (cells x).length = n) :
    ∀ (l : List α) (j : Nat) (u : Value), (l.flatMap cells)[j]? = some u → ∃ i k x, j = i * n + k ∧ l[i]? = some x ∧ (cells x)[k]? = some u
  | [], j, u, h => by simp at h
  | y :: l, j, u, h => by
    rw [List.flatMap_cons] at h
    by_cases hj : j < n
    · rw [List.getElem?_append_left (by rw [hcl]; exact hj)] at h
      exact ⟨0, j, y, by omega, rfl, h⟩
    · rw [List.getElem?_append_right (by rw [hcl]; omega), hcl] at h
      obtain ⟨i, k, x, e, h1, h2⟩ := flat_get hcl l (j - n) u h
      exact ⟨i + 1, k, x, by rw [Nat.succ_mul]; omega, h1, h2⟩
theorem SlOf.src {α : Type} {cells : α → List Value} {n : Nat} (hcl : ∀ x, (cells x).length = n) {w : World} {a : Option Addr} {l : List α} (h : SlOf w cells n a l) : Fr.Src w a (l.flatMap cells) := by
  rcases h with rfl | ⟨b, off, rfl, h⟩
  · cases a with
    | none => exact .inl ⟨rfl, rfl⟩
    | some ad => exact .inr ⟨ad, rfl, fun j u hj => by simp at hj⟩
  · refine .inr ⟨_, rfl, fun j u hj => ?_⟩
    obtain ⟨i, k, x, e, h1, h2⟩ := flat_get hcl l j u hj
    rw [addr_add0, e, ← Nat.add_assoc]
    exact h i x h1 k u h2
theorem shr_one (l : List Shr) : ∀ u ∈ l.flatMap Shr.cells, u.oneCell' = true := fun u hu => by
  obtain ⟨s, _, h⟩ := List.mem_flatMap.1 hu
  simp [Shr.cells] at h
  rcases h with rfl | rfl <;> rfl
section
variable (A B : ByteArray → Int) (t n : Int)
def lossN : List ByteArray → Int → Int
  | [], g => g
  | x :: r, g => lossN r (g - lost1 A B g x)
theorem gsum_step {N : List ByteArray} {k : Nat} {x : ByteArray} (h : N[k]? = some x) : gsum A B t n (N.take (k + 1)) = gsum A B t n (N.take k) + (if 0 < B x - A x then (B x - A x) * t / n else 0) := by
  have ap : ∀ a b : List ByteArray, gsum A B t n (a ++ b) = gsum A B t n a + gsum A B t n b := by
    intro a b
    induction a with
    | nil => simp [gsum]
    | cons y a ih => rw [List.cons_append, gsum, gsum, ih]; omega
  rw [List.take_add_one, h, ap]
  simp [gsum]
theorem outN_append (a b : List ByteArray) (g : Int) : outN A B t n (a ++ b) g = outN A B t n a g ++ outN A B t n b (lossN A B a g) := by
  induction a generalizing g with
  | nil => rfl
  | cons x a ih => rw [List.cons_append, outN, outN, lossN, ih, List.append_assoc]
theorem lossN_append (a b : List ByteArray) (g : Int) : lossN A B (a ++ b) g = lossN A B b (lossN A B a g) := by
  induction a generalizing g with
  | nil => rfl
  | cons x a ih => rw [List.cons_append, lossN, lossN, ih]
theorem outN_step {N : List ByteArray} {k : Nat} {x : ByteArray} (h : N[k]? = some x) (g : Int) :
    outN A B t n (N.take (k + 1)) g = outN A B t n (N.take k) g ++ (if 0 < now1 A B t n (lossN A B (N.take k) g) x then [⟨x, now1 A B t n (lossN A B (N.take k) g) x⟩] else []) ∧ lossN A B (N.take (k + 1)) g = lossN A B (N.take k) g - lost1 A B (lossN A B (N.take k) g) x := by
  rw [List.take_add_one, h, outN_append, lossN_append]
  exact ⟨by simp [outN], rfl⟩
theorem outN_len (N : List ByteArray) (g : Int) : (outN A B t n N g).length ≤ N.length := by
  induction N generalizing g with
  | nil => simp [outN]
  | cons x N ih =>
    have := ih (g - lost1 A B g x)
    rw [outN, List.length_append, List.length_cons]
    split <;> simp <;> omega
theorem lossN_bd (N : List ByteArray) (g : Int) (h : 0 ≤ g) : 0 ≤ lossN A B N g ∧ lossN A B N g ≤ g := by
  induction N generalizing g with
  | nil => exact ⟨h, Int.le_refl _⟩
  | cons x N ih =>
    rw [lossN]
    have h2 : 0 ≤ lost1 A B g x ∧ lost1 A B g x ≤ g := by unfold lost1; split <;> omega
    have := ih (g - lost1 A B g x) (by omega)
    omega
end
theorem gsum_le {A B : ByteArray → Int} {t n : Int} (h0 : 0 < t) (h1 : t < n) (hA : ∀ x, 0 ≤ A x) (hB : ∀ x, B x ≤ 1000) (N : List ByteArray) : 0 ≤ gsum A B t n N ∧ gsum A B t n N ≤ 1000 * N.length := by
  induction N with
  | nil => simp [gsum]
  | cons x N ih =>
    rw [gsum, List.length_cons]
    have h3 := by_le (c := B x - A x) h0 h1
    have := hA x
    have := hB x
    split
    · rename_i h
      rw [Int.max_eq_left (by omega)] at h3
      omega
    · omega
set_option maxHeartbeats 8000000 in
theorem rroll_any (a : Option Addr) (l : List Shr) (c : Nat) (b : Option Addr) (m : List Shr) (d : Nat) (t n : Int) (w : World) (s1 : Small l) (s2 : Small m) (ht : -1099511627776 ≤ t ∧ t ≤ 1099511627776) (hn : -1099511627776 ≤ n ∧ n ≤ 1099511627776) (h1 : ShSl w a l) (h2 : ShSl w b m) :
    Calls Try.prog 34 #[.slice a l.length c, .slice b m.length d, .int .i64 t, .int .i64 n] w fun e w' => ∃ v, e = .returned v ∧ w'.ownsRow w.heap.size 53 2 v (rollL l m t n).length ((rollL l m t n).flatMap Shr.cells) ∧ Grow.G w w' := by
  obtain ⟨i0, hi, ha0, ha1, ha2⟩ := info_parts infoSh
  have OF : Hid ((w.alloc (.cells #[] 53)).ownsRow w.heap.size 53 2 (.slice (some ⟨w.heap.size, 0, none⟩) 0 0) 0 []) := Lib.hid (own_of_blk (cs := []) (Blk.new' rfl) (Nat.le_refl _) rfl (by decide))
  have SA := Lib.hid (SlOf.src (cells := Shr.cells) (n := 2) (fun x => rfl) h1)
  have SB := Lib.hid (SlOf.src (cells := Shr.cells) (n := 2) (fun x => rfl) h2)
  have hl := s1.1
  have hm := s2.1
  by_cases g1 : n ≤ 0 ∨ t ≥ n
  · have RES : Hid (rollL l m t n = m) := Lib.hid (by unfold rollL; rw [if_pos g1])
    clear s1 s2 h1 h2
    go_enter Try.func34, Try.ntmps34
    have d0 : decide (n ≤ 0) = true ∨ decide (n ≤ 0) = false := by cases decide (n ≤ 0) <;> simp
    have d1 : decide (n ≤ 0) = false → decide (t ≥ n) = true := fun h => decide_eq_true (by have := of_decide_eq_false h; omega)
    have D1 := Lib.hid d1
    clear d1 g1
    rcases d0 with d0 | d0
    case inl =>
      clear D1
      go_wp2_with (at_builtin; refine Fr.wpList_append_src _ rfl _ _ 37 rfl w.heap.size 53 i0 (.agg #[.string ⟨#[]⟩, .int .i64 0]) 2 24 Try.underlying37 hi ha0 ha1 ha2 rfl (by decide) _ _ _ rfl OF.out _ _ _ (m.flatMap Shr.cells) rfl (flat_len (cells := Shr.cells) (n := 2) (fun x => rfl) m) (SB.out.grow (Grow.G.alloc (Grow.G.refl _) _)) (shr_one m) (by unfold maxLen; omega) (by omega) (by simp) ?_; intro v' w' hown hfr; have OW' := Lib.hid hown; have G' := Lib.hid (own_grow (Grow.G.alloc (Grow.G.refl _) _) OF.out (Nat.le_refl _) hfr.g); clear hown hfr)
      go_ret
      exact ⟨_, rfl, by rw [RES.out]; simpa using OW'.out, G'.out⟩
    case inr =>
      have d1 := D1.out d0
      clear D1
      go_wp2_with (at_builtin; refine Fr.wpList_append_src _ rfl _ _ 37 rfl w.heap.size 53 i0 (.agg #[.string ⟨#[]⟩, .int .i64 0]) 2 24 Try.underlying37 hi ha0 ha1 ha2 rfl (by decide) _ _ _ rfl OF.out _ _ _ (m.flatMap Shr.cells) rfl (flat_len (cells := Shr.cells) (n := 2) (fun x => rfl) m) (SB.out.grow (Grow.G.alloc (Grow.G.refl _) _)) (shr_one m) (by unfold maxLen; omega) (by omega) (by simp) ?_; intro v' w' hown hfr; have OW' := Lib.hid hown; have G' := Lib.hid (own_grow (Grow.G.alloc (Grow.G.refl _) _) OF.out (Nat.le_refl _) hfr.g); clear hown hfr)
      go_ret
      exact ⟨_, rfl, by rw [RES.out]; simpa using OW'.out, G'.out⟩
  · have d0 : decide (n ≤ 0) = false := decide_eq_false (by omega)
    have d1 : decide (t ≥ n) = false := decide_eq_false (by omega)
    by_cases g2 : t ≤ 0
    · have RES : Hid (rollL l m t n = l) := Lib.hid (by unfold rollL; rw [if_neg g1, if_pos g2])
      have d2 : decide (t ≤ 0) = true := decide_eq_true g2
      clear s1 s2 h1 h2 g1 g2
      go_enter Try.func34, Try.ntmps34
      go_wp2_with (at_builtin; refine Fr.wpList_append_src _ rfl _ _ 37 rfl w.heap.size 53 i0 (.agg #[.string ⟨#[]⟩, .int .i64 0]) 2 24 Try.underlying37 hi ha0 ha1 ha2 rfl (by decide) _ _ _ rfl OF.out _ _ _ (l.flatMap Shr.cells) rfl (flat_len (cells := Shr.cells) (n := 2) (fun x => rfl) l) (SA.out.grow (Grow.G.alloc (Grow.G.refl _) _)) (shr_one l) (by unfold maxLen; omega) (by omega) (by simp) ?_; intro v' w' hown hfr; have OW' := Lib.hid hown; have G' := Lib.hid (own_grow (Grow.G.alloc (Grow.G.refl _) _) OF.out (Nat.le_refl _) hfr.g); clear hown hfr)
      go_ret
      exact ⟨_, rfl, by rw [RES.out]; simpa using OW'.out, G'.out⟩
    · have d2 : decide (t ≤ 0) = false := decide_eq_false g2
      have RES : Hid (rollL l m t n = outN (wtL l) (wtL m) t n (namesL l m) (gsum (wtL l) (wtL m) t n (namesL l m))) := Lib.hid (by unfold rollL; rw [if_neg g1, if_neg g2])
      have h0 : 0 < t := by omega
      have h3 : t < n := by omega
      have WA := Lib.hid (fun (x : ByteArray) (w' : World) (g : Grow.G w w') => (rweight_any a l c x w' (by omega) (SlOf.later h1 g)).mono (fun e w'' (h : _ ∧ _) => (⟨h.1, h.2 ▸ Grow.G.refl _⟩ : _ ∧ Grow.G w' w'')))
      have WB := Lib.hid (fun (x : ByteArray) (w' : World) (g : Grow.G w w') => (rweight_any b m d x w' (by omega) (SlOf.later h2 g)).mono (fun e w'' (h : _ ∧ _) => (⟨h.1, h.2 ▸ Grow.G.refl _⟩ : _ ∧ Grow.G w' w'')))
      have BA := Lib.hid (fun x => wtL_bd s1 x)
      have BB := Lib.hid (fun x => wtL_bd s2 x)
      have NS := Lib.hid (names_size s1 s2)
      have H1 := Lib.hid h1
      have H2 := Lib.hid h2
      clear s1 s2 h1 h2 g1 g2 SA SB OF
      go_enter Try.func34, Try.ntmps34
      go_wp2_with fail
      go_loopw [9, 10] (fun nv i wr => ∃ (k : Nat) (v : Value), k ≤ l.length ∧ i = .int .i64 k ∧ v = nv ∧ Hid (wr.ownsRow w.heap.size 9 1 v (putN [] (l.take k)).length ((putN [] (l.take k)).map Value.string)) ∧ Hid (Grow.G w wr)) (fun _ i _ => l.length - (intOf i).toNat)
      case atStart => exact ⟨0, _, by omega, rfl, rfl, Lib.hid (World.ownsRow_nil _ _ _ _), Lib.hid (Grow.G.refl _)⟩
      case round =>
        obtain ⟨k, v, hk, rfl, rfl, OW, G⟩ := hrel
        by_cases hlt : k < l.length
        · obtain ⟨s, hs⟩ : ∃ s, l[k]? = some s := ⟨_, List.getElem?_eq_getElem hlt⟩
          obtain ⟨sb, off, rfl, hc⟩ := ShSl.at (SlOf.later H1.out G.out) hs
          obtain ⟨c0, c1⟩ := hc _ (Grow.G.refl _)
          have PL := putN_len (l.take k) []
          rw [List.length_take] at PL
          simp at PL
          have PU := Lib.hid (rput_any _ _ s.rev _ _ (by omega) G.out.size OW.out)
          have PS := Lib.hid (putN_step [] hs)
          have d3 : decide ((k : Int) < (l.length : Int)) = true := decide_eq_true (by omega)
          have hk1 : IntKind.i64.wrap ((k : Int) + 1) = (k : Int) + 1 := IntWalk.i64_in _ ⟨by omega, by omega⟩
          have k1 : (0 : Int) ≤ (k : Int) := by omega
          have k2 : (k : Int) < (l.length : Int) := by omega
          obtain ⟨rv, x⟩ := s
          dsimp only at *
          clear hs hc c1
          go_wp2_with fail
          refine PU.out.mono ?_
          rintro e w2 ⟨v2, rfl, O2, hg2⟩
          have O2 := Lib.hid O2
          have G2 := Lib.hid (G.out.trans hg2)
          clear hg2 PU c0
          go_wp2_with fail
          go_roundw
          case rel => exact ⟨k + 1, _, by omega, by go_num, rfl, by rw [PS.out]; exact O2, G2⟩
          case measure => simp [intOf]; omega
        · have d3 : decide ((k : Int) < (l.length : Int)) = false := decide_eq_false (by omega)
          have OW := OW.out
          rw [List.take_of_length_le (by omega)] at OW
          have OW := Lib.hid OW
          have PL := putN_len l []
          simp at PL
          clear hk
          go_wp2_with fail
          go_loopw [9, 11] (fun nv i wr => ∃ (k : Nat) (v : Value), k ≤ m.length ∧ i = .int .i64 k ∧ v = nv ∧ Hid (wr.ownsRow w.heap.size 9 1 v (putN (putN [] l) (m.take k)).length ((putN (putN [] l) (m.take k)).map Value.string)) ∧ Hid (Grow.G w wr)) (fun _ i _ => m.length - (intOf i).toNat)
          case atStart => exact ⟨0, _, by omega, rfl, rfl, OW, G⟩
          case round =>
            obtain ⟨k, v, hk, rfl, rfl, OW, G⟩ := hrel
            by_cases hlt : k < m.length
            · obtain ⟨s, hs⟩ : ∃ s, m[k]? = some s := ⟨_, List.getElem?_eq_getElem hlt⟩
              obtain ⟨sb, off, rfl, hc⟩ := ShSl.at (SlOf.later H2.out G.out) hs
              obtain ⟨c0, c1⟩ := hc _ (Grow.G.refl _)
              have PL2 := putN_len (m.take k) (putN [] l)
              rw [List.length_take] at PL2
              have PU := Lib.hid (rput_any _ _ s.rev _ _ (by omega) G.out.size OW.out)
              have PS := Lib.hid (putN_step (putN [] l) hs)
              have d3 : decide ((k : Int) < (m.length : Int)) = true := decide_eq_true (by omega)
              have hk1 : IntKind.i64.wrap ((k : Int) + 1) = (k : Int) + 1 := IntWalk.i64_in _ ⟨by omega, by omega⟩
              have k1 : (0 : Int) ≤ (k : Int) := by omega
              have k2 : (k : Int) < (m.length : Int) := by omega
              obtain ⟨rv, x⟩ := s
              dsimp only at *
              clear hs hc c1
              go_wp2_with fail
              refine PU.out.mono ?_
              rintro e w2 ⟨v2, rfl, O2, hg2⟩
              have O2 := Lib.hid O2
              have G2 := Lib.hid (G.out.trans hg2)
              clear hg2 PU c0
              go_wp2_with fail
              go_roundw
              case rel => exact ⟨k + 1, _, by omega, by go_num, rfl, by rw [PS.out]; exact O2, G2⟩
              case measure => simp [intOf]; omega
            · have d3 : decide ((k : Int) < (m.length : Int)) = false := decide_eq_false (by omega)
              have OW := OW.out
              rw [List.take_of_length_le (by omega)] at OW
              rw [show putN (putN [] l) m = namesL l m from rfl] at OW
              clear hk
              have NL := NS.out.1
              obtain ⟨na, nc, rfl⟩ := own_shape OW
              have OW := Lib.hid OW
              generalize namesL l m = N at *
              generalize hA : wtL l = A at *
              generalize hB : wtL m = B at *
              clear hA hB
              generalize wr = wN at *
              have NM := Lib.hid (fun (k : Nat) (x : ByteArray) (hx : N[k]? = some x) => (show ∃ g, na = some ⟨g, 0, none⟩ ∧ ∀ w', Grow.G wN w' → w'.cell? ⟨g, k, none⟩ = some (.string x) from by
                obtain ⟨g, c', e, _⟩ := own_some OW.out (by have := (List.getElem?_eq_some_iff.1 hx).1; omega)
                injection e with e1 e2 e3
                subst e1 e3
                exact ⟨g, rfl, fun w' h => own_cell (own_later OW.out h) (by rw [List.getElem?_map, hx]; rfl)⟩))
              go_wp2_with fail
              go_loopw [12, 13] (fun gv i wr => ∃ (j : Nat), j ≤ N.length ∧ i = .int .i64 j ∧ gv = .int .i64 (gsum A B t n (N.take j)) ∧ Hid (Grow.G wN wr)) (fun _ i _ => N.length - (intOf i).toNat)
              case atStart => exact ⟨0, by omega, rfl, rfl, Lib.hid (Grow.G.refl _)⟩
              case round =>
                obtain ⟨j, hj, rfl, rfl, GR⟩ := hrel
                by_cases hjl : j < N.length
                · obtain ⟨x, hx⟩ : ∃ x, N[j]? = some x := ⟨_, List.getElem?_eq_getElem hjl⟩
                  obtain ⟨g, rfl, hc⟩ := NM.out j x hx
                  have KC := Lib.hid (fun (w' : World) (h : Chg (fun _ => False) wr w') => (⟨hc w' (GR.out.trans (g0 h)), trivial⟩ : w'.cell? ⟨g, j, none⟩ = some (.string x) ∧ True))
                  have WA1 := Lib.hid (fun (w' : World) (h : Chg (fun _ => False) wr w') => WA.out x w' ((G.out.trans GR.out).trans (g0 h)))
                  have WB1 := Lib.hid (fun (w' : World) (h : Chg (fun _ => False) wr w') => WB.out x w' ((G.out.trans GR.out).trans (g0 h)))
                  have b1 := BA.out x
                  have b2 := BB.out x
                  have GS := gsum_step A B t n hx
                  have GB := gsum_le h0 h3 (fun x => (BA.out x).1) (fun x => (BB.out x).2) (N.take j)
                  rw [List.length_take] at GB
                  have hmul := by_le (c := B x - A x) h0 h3
                  have d3 : decide (j < N.length) = true := decide_eq_true hjl
                  have hk1 : IntKind.i64.wrap ((j : Int) + 1) = (j : Int) + 1 := IntWalk.i64_in _ ⟨by omega, by omega⟩
                  have k1 : (0 : Int) ≤ (j : Int) := by omega
                  have k2 : (j : Int) < (N.length : Int) := by omega
                  generalize gsum A B t n (N.take j) = gs at *
                  generalize A x = ax at *
                  generalize B x = bx at *
                  have hw1 : IntKind.i64.wrap (bx - ax) = bx - ax := IntWalk.i64_in _ ⟨by omega, by omega⟩
                  clear hx hc
                  by_cases hp : 0 < bx - ax
                  · rw [if_pos hp] at GS
                    rw [Int.max_eq_left (by omega)] at hmul
                    have hm0 : 0 ≤ (bx - ax) * t := Int.mul_nonneg (by omega) (by omega)
                    have hm1 : (bx - ax) * t ≤ 1000 * 1099511627776 := Int.mul_le_mul (by omega) (by omega) (by omega) (by omega)
                    have hw2 : IntKind.i64.wrap ((bx - ax) * t) = (bx - ax) * t := IntWalk.i64_in _ ⟨by omega, by omega⟩
                    have htd : ((bx - ax) * t).tdiv n = (bx - ax) * t / n := Int.tdiv_eq_ediv_of_nonneg hm0
                    have hw3 : IntKind.i64.wrap ((bx - ax) * t / n) = (bx - ax) * t / n := IntWalk.i64_in _ ⟨by omega, by omega⟩
                    have hw4 : IntKind.i64.wrap (gs + (bx - ax) * t / n) = gs + (bx - ax) * t / n := IntWalk.i64_in _ ⟨by omega, by omega⟩
                    have hn0 : (n == 0) = false := by simp; omega
                    have d4 : decide (bx - ax > 0) = true := decide_eq_true hp
                    have d5 : decide (0 < bx - ax) = true := decide_eq_true hp
                    have GS := Lib.hid GS
                    go_wp2_with fail
                    refine Evo2.start' (ℓ := none) (S := Chg (fun _ => False)) (E := Grow.G) (by kernel_rfl) ⟨Chg.pre _, by decide +kernel, (by intro c a d v w h; cases d <;> exact h), by decide +kernel⟩ (fun ok => ?_)
                    refine Evo2.va ok 0 _ _ ?_
                    refine Evo2.va ok 1 _ _ ?_
                    refine Evo2.va ok 2 _ _ ?_
                    refine Evo2.va ok 3 _ _ ?_
                    first | (refine Evo2.vl ok 4 KC.out (Chg.refl (fun _ => False) _) _ _ ?_) | (refine Evo2.va ok 4 _ _ ?_)
                    (refine Evo2.cal ok 5 ?_ 24 ?_ ?_ ?_ ?_; rotate_left 2; (focus (intro w'; go_simp <;> with_reducible rfl)); (focus (intro w' g'; with_reducible exact WB1.out w' (Chg.trans (Chg.refl (fun _ => False) _) g'))); simp only [Act.put, L0, L1, L2])
                    refine Evo2.va ok 6 _ _ ?_
                    refine Evo2.va ok 7 _ _ ?_
                    refine Evo2.va ok 8 _ _ ?_
                    refine Evo2.va ok 9 _ _ ?_
                    first | (refine Evo2.vl ok 10 KC.out (Chg.refl (fun _ => False) _) _ _ ?_) | (refine Evo2.va ok 10 _ _ ?_)
                    (refine Evo2.cal ok 11 ?_ 24 ?_ ?_ ?_ ?_; rotate_left 2; (focus (intro w'; go_simp <;> with_reducible rfl)); (focus (intro w' g'; with_reducible exact WA1.out w' (Chg.trans (Chg.refl (fun _ => False) _) g'))); simp only [Act.put, L0, L1, L2])
                    refine Evo2.va ok 12 _ _ ?_
                    refine Evo2.va ok 13 _ _ ?_
                    refine Evo2.done (by decide +kernel) (fun wz gz => ?_)
                    have AZ := Chg.trans (Chg.refl (fun _ => False) _) (Chg.grow gz)
                    go_wp2_with fail
                    go_roundw
                    case rel => exact ⟨j + 1, by omega, by go_num, by rw [GS.out], Lib.hid (GR.out.trans (g0 AZ))⟩
                    case measure => simp [intOf]; omega
                  · rw [if_neg hp, Int.add_zero] at GS
                    have d4 : decide (bx - ax > 0) = false := decide_eq_false hp
                    have d5 : decide (0 < bx - ax) = false := decide_eq_false hp
                    have GS := Lib.hid GS
                    go_wp2_with fail
                    refine Evo2.start' (ℓ := none) (S := Chg (fun _ => False)) (E := Grow.G) (by kernel_rfl) ⟨Chg.pre _, by decide +kernel, (by intro c a d v w h; cases d <;> exact h), by decide +kernel⟩ (fun ok => ?_)
                    refine Evo2.va ok 0 _ _ ?_
                    refine Evo2.va ok 1 _ _ ?_
                    refine Evo2.va ok 2 _ _ ?_
                    refine Evo2.va ok 3 _ _ ?_
                    first | (refine Evo2.vl ok 4 KC.out (Chg.refl (fun _ => False) _) _ _ ?_) | (refine Evo2.va ok 4 _ _ ?_)
                    (refine Evo2.cal ok 5 ?_ 24 ?_ ?_ ?_ ?_; rotate_left 2; (focus (intro w'; go_simp <;> with_reducible rfl)); (focus (intro w' g'; with_reducible exact WB1.out w' (Chg.trans (Chg.refl (fun _ => False) _) g'))); simp only [Act.put, L0, L1, L2])
                    refine Evo2.va ok 6 _ _ ?_
                    refine Evo2.va ok 7 _ _ ?_
                    refine Evo2.va ok 8 _ _ ?_
                    refine Evo2.va ok 9 _ _ ?_
                    first | (refine Evo2.vl ok 10 KC.out (Chg.refl (fun _ => False) _) _ _ ?_) | (refine Evo2.va ok 10 _ _ ?_)
                    (refine Evo2.cal ok 11 ?_ 24 ?_ ?_ ?_ ?_; rotate_left 2; (focus (intro w'; go_simp <;> with_reducible rfl)); (focus (intro w' g'; with_reducible exact WA1.out w' (Chg.trans (Chg.refl (fun _ => False) _) g'))); simp only [Act.put, L0, L1, L2])
                    refine Evo2.va ok 12 _ _ ?_
                    refine Evo2.va ok 13 _ _ ?_
                    refine Evo2.done (by decide +kernel) (fun wz gz => ?_)
                    have AZ := Chg.trans (Chg.refl (fun _ => False) _) (Chg.grow gz)
                    go_wp2_with fail
                    go_roundw
                    case rel => exact ⟨j + 1, by omega, by go_num, by rw [GS.out], Lib.hid (GR.out.trans (g0 AZ))⟩
                    case measure => simp [intOf]; omega
                · have d3 : decide (j < N.length) = false := decide_eq_false hjl
                  have G' := Lib.hid (G.out.trans GR.out)
                  have G'M := Lib.hid GR.out
                  have GB := gsum_le h0 h3 (fun x => (BA.out x).1) (fun x => (BB.out x).2) N
                  rw [List.take_of_length_le (by omega)]
                  generalize gsum A B t n N = gs at *
                  have hs7 := G'.out.size
                  generalize wr = wM at *
                  go_wp2_with fail
                  go_loopw [12, 15, 16] (fun gv ov i wr => ∃ (j : Nat) (v : Value), j ≤ N.length ∧ i = .int .i64 j ∧ v = ov ∧ gv = .int .i64 (lossN A B (N.take j) gs) ∧ Hid (wr.ownsRow wM.heap.size 53 2 v (outN A B t n (N.take j) gs).length ((outN A B t n (N.take j) gs).flatMap Shr.cells)) ∧ Hid (Grow.G wM wr)) (fun _ _ i _ => N.length - (intOf i).toNat)
                  case atStart => exact ⟨0, _, by omega, rfl, rfl, rfl, Lib.hid (World.ownsRow_nil _ _ _ _), Lib.hid (Grow.G.refl _)⟩
                  case round =>
                    obtain ⟨j, v, hj, rfl, rfl, rfl, OW, GR⟩ := hrel
                    by_cases hjl : j < N.length
                    · obtain ⟨x, hx⟩ : ∃ x, N[j]? = some x := ⟨_, List.getElem?_eq_getElem hjl⟩
                      obtain ⟨g, rfl, hc⟩ := NM.out j x hx
                      have GM := Lib.hid G'M.out
                      have KC := Lib.hid (fun (w' : World) (h : Chg (fun _ => False) wr w') => (⟨hc w' ((GM.out.trans GR.out).trans (g0 h)), trivial⟩ : w'.cell? ⟨g, j, none⟩ = some (.string x) ∧ True))
                      have WA1 := Lib.hid (fun (w' : World) (h : Chg (fun _ => False) wr w') => WA.out x w' ((G'.out.trans GR.out).trans (g0 h)))
                      have WB1 := Lib.hid (fun (w' : World) (h : Chg (fun _ => False) wr w') => WB.out x w' ((G'.out.trans GR.out).trans (g0 h)))
                      have b1 := BA.out x
                      have b2 := BB.out x
                      have ol := outN_len A B t n (N.take j) gs
                      rw [List.length_take] at ol
                      have lb := lossN_bd A B (N.take j) gs GB.1
                      have OS := outN_step A B t n hx gs
                      have hmul := by_le (c := B x - A x) h0 h3
                      have d3 : decide (j < N.length) = true := decide_eq_true hjl
                      have hk1 : IntKind.i64.wrap ((j : Int) + 1) = (j : Int) + 1 := IntWalk.i64_in _ ⟨by omega, by omega⟩
                      have k1 : (0 : Int) ≤ (j : Int) := by omega
                      have k2 : (j : Int) < (N.length : Int) := by omega
                      generalize lossN A B (N.take j) gs = q at *
                      generalize outN A B t n (N.take j) gs = out at *
                      have NC : (A x < B x → now1 A B t n q x = A x + (B x - A x) * t / n) ∧ (B x < A x → now1 A B t n q x = A x - min (A x - B x) q) ∧ (A x = B x → now1 A B t n q x = A x) := by
                        unfold now1 lost1
                        refine ⟨fun h => by rw [if_pos h], fun h => by rw [if_neg (by omega), if_pos h], fun h => by rw [if_neg (by omega), if_neg (by omega)]; omega⟩
                      have LC : (B x < A x → lost1 A B q x = min (A x - B x) q) ∧ (¬ B x < A x → lost1 A B q x = 0) := by
                        unfold lost1
                        exact ⟨fun h => by rw [if_pos h], fun h => by rw [if_neg h]⟩
                      generalize now1 A B t n q x = nw at *
                      generalize lost1 A B q x = ls at *
                      generalize A x = ax at *
                      generalize B x = bx at *
                      obtain ⟨OS1, OS2⟩ := OS
                      clear hx
                      rcases Int.lt_trichotomy ax bx with hcs | hcs | hcs
                      · have NW : nw = ax + (bx - ax) * t / n := NC.1 hcs
                        have LS : ls = 0 := LC.2 (by omega)
                        rw [LS] at OS2
                        rw [Int.sub_zero] at OS2
                        have OS2 := Lib.hid OS2
                        have e5 : decide (bx > ax) = true := decide_eq_true (by omega)
                        have e6 : decide (ax < bx) = true := decide_eq_true (by omega)
                        have e7 : decide (bx < ax) = false := decide_eq_false (by omega)
                        rw [Int.max_eq_left (by omega)] at hmul
                        have hm0 : 0 ≤ (bx - ax) * t := Int.mul_nonneg (by omega) (by omega)
                        have hm1 : (bx - ax) * t ≤ 1000 * 1099511627776 := Int.mul_le_mul (by omega) (by omega) (by omega) (by omega)
                        have hw1 : IntKind.i64.wrap (bx - ax) = bx - ax := IntWalk.i64_in _ ⟨by omega, by omega⟩
                        have hw2 : IntKind.i64.wrap ((bx - ax) * t) = (bx - ax) * t := IntWalk.i64_in _ ⟨by omega, by omega⟩
                        have htd : ((bx - ax) * t).tdiv n = (bx - ax) * t / n := Int.tdiv_eq_ediv_of_nonneg hm0
                        have hw3 : IntKind.i64.wrap ((bx - ax) * t / n) = (bx - ax) * t / n := IntWalk.i64_in _ ⟨by omega, by omega⟩
                        have hw4 : IntKind.i64.wrap (ax + (bx - ax) * t / n) = ax + (bx - ax) * t / n := IntWalk.i64_in _ ⟨by omega, by omega⟩
                        have hn0 : (n == 0) = false := by simp; omega
                        clear LS NC LC hcs
                        by_cases hp : 0 < ax + (bx - ax) * t / n
                        · have d7 : decide (ax + (bx - ax) * t / n > 0) = true := decide_eq_true hp
                          have d8 : decide (0 < ax + (bx - ax) * t / n) = true := decide_eq_true hp
                          rw [NW, if_pos hp] at OS1
                          have OS1 := Lib.hid OS1
                          clear NW hp
                          go_wp2_with fail
                          refine Evo2.start' (ℓ := none) (S := Chg (fun _ => False)) (E := Grow.G) (by kernel_rfl) ⟨Chg.pre _, by decide +kernel, (by intro c a d v w h; cases d <;> exact h), by decide +kernel⟩ (fun ok => ?_)
                          refine Evo2.va ok 0 _ _ ?_
                          refine Evo2.va ok 1 _ _ ?_
                          refine Evo2.va ok 2 _ _ ?_
                          refine Evo2.va ok 3 _ _ ?_
                          first | (refine Evo2.vl ok 4 KC.out (Chg.refl (fun _ => False) _) _ _ ?_) | (refine Evo2.va ok 4 _ _ ?_)
                          (refine Evo2.cal ok 5 ?_ 24 ?_ ?_ ?_ ?_; rotate_left 2; (focus (intro w'; go_simp <;> with_reducible rfl)); (focus (intro w' g'; with_reducible exact WA1.out w' (Chg.trans (Chg.refl (fun _ => False) _) g'))); simp only [Act.put, L0, L1, L2])
                          refine Evo2.va ok 6 _ _ ?_
                          refine Evo2.va ok 7 _ _ ?_
                          refine Evo2.va ok 8 _ _ ?_
                          refine Evo2.va ok 9 _ _ ?_
                          first | (refine Evo2.vl ok 10 KC.out (Chg.refl (fun _ => False) _) _ _ ?_) | (refine Evo2.va ok 10 _ _ ?_)
                          (refine Evo2.cal ok 11 ?_ 24 ?_ ?_ ?_ ?_; rotate_left 2; (focus (intro w'; go_simp <;> with_reducible rfl)); (focus (intro w' g'; with_reducible exact WB1.out w' (Chg.trans (Chg.refl (fun _ => False) _) g'))); simp only [Act.put, L0, L1, L2])
                          refine Evo2.va ok 12 _ _ ?_
                          refine Evo2.va ok 13 _ _ ?_
                          refine Evo2.done (by decide +kernel) (fun wz gz => ?_)
                          have AZ := Chg.trans (Chg.refl (fun _ => False) _) (Chg.grow gz)
                          have G6 := Lib.hid (g0 AZ)
                          have O6 := Lib.hid (own_later OW.out G6.out)
                          have c6 := hc wz ((GM.out.trans GR.out).trans G6.out)
                          have hs6 := G6.out.size
                          have hs5 := GR.out.size
                          clear AZ gz KC WA1 WB1
                          generalize wz = W6 at *
                          go_wp2_with (at_builtin; refine Fr.wpList_append_fr _ rfl _ _ 37 rfl wM.heap.size 53 i0 (.agg #[.string ⟨#[]⟩, .int .i64 0]) 2 24 Try.underlying37 hi ha0 ha1 ha2 rfl (by decide) _ _ _ rfl (own_later O6.out (Grow.G.alloc (Grow.G.refl _) _)) ⟨W6.heap.size, 0, none⟩ 1 1 [.string x, .int .i64 (ax + (bx - ax) * t / n)] rfl rfl (news_new _ _ _ _ rfl) (by intro u hu; simp at hu; rcases hu with rfl | rfl <;> rfl) (by unfold maxLen; omega) (by omega) (by simp; omega) ?_; intro v' w' hown hfr; have OW' := Lib.hid hown; have G' := Lib.hid (own_grow ((GR.out.trans G6.out).trans (Grow.G.alloc (Grow.G.refl _) _)) (own_later O6.out (Grow.G.alloc (Grow.G.refl _) _)) (Nat.le_refl _) hfr.g); clear hown hfr)
                          go_roundw
                          case rel => exact ⟨j + 1, _, by omega, by go_num, rfl, by rw [OS2.out], by rw [OS1.out, List.length_append, List.flatMap_append]; exact OW', G'⟩
                          case measure => simp [intOf]; omega
                        · have d7 : decide (ax + (bx - ax) * t / n > 0) = false := decide_eq_false hp
                          have d8 : decide (0 < ax + (bx - ax) * t / n) = false := decide_eq_false hp
                          rw [NW, if_neg hp] at OS1
                          rw [List.append_nil] at OS1
                          have OS1 := Lib.hid OS1
                          clear NW hp
                          go_wp2_with fail
                          refine Evo2.start' (ℓ := none) (S := Chg (fun _ => False)) (E := Grow.G) (by kernel_rfl) ⟨Chg.pre _, by decide +kernel, (by intro c a d v w h; cases d <;> exact h), by decide +kernel⟩ (fun ok => ?_)
                          refine Evo2.va ok 0 _ _ ?_
                          refine Evo2.va ok 1 _ _ ?_
                          refine Evo2.va ok 2 _ _ ?_
                          refine Evo2.va ok 3 _ _ ?_
                          first | (refine Evo2.vl ok 4 KC.out (Chg.refl (fun _ => False) _) _ _ ?_) | (refine Evo2.va ok 4 _ _ ?_)
                          (refine Evo2.cal ok 5 ?_ 24 ?_ ?_ ?_ ?_; rotate_left 2; (focus (intro w'; go_simp <;> with_reducible rfl)); (focus (intro w' g'; with_reducible exact WA1.out w' (Chg.trans (Chg.refl (fun _ => False) _) g'))); simp only [Act.put, L0, L1, L2])
                          refine Evo2.va ok 6 _ _ ?_
                          refine Evo2.va ok 7 _ _ ?_
                          refine Evo2.va ok 8 _ _ ?_
                          refine Evo2.va ok 9 _ _ ?_
                          first | (refine Evo2.vl ok 10 KC.out (Chg.refl (fun _ => False) _) _ _ ?_) | (refine Evo2.va ok 10 _ _ ?_)
                          (refine Evo2.cal ok 11 ?_ 24 ?_ ?_ ?_ ?_; rotate_left 2; (focus (intro w'; go_simp <;> with_reducible rfl)); (focus (intro w' g'; with_reducible exact WB1.out w' (Chg.trans (Chg.refl (fun _ => False) _) g'))); simp only [Act.put, L0, L1, L2])
                          refine Evo2.va ok 12 _ _ ?_
                          refine Evo2.va ok 13 _ _ ?_
                          refine Evo2.done (by decide +kernel) (fun wz gz => ?_)
                          have AZ := Chg.trans (Chg.refl (fun _ => False) _) (Chg.grow gz)
                          have G6 := Lib.hid (g0 AZ)
                          have O6 := Lib.hid (own_later OW.out G6.out)
                          have c6 := hc wz ((GM.out.trans GR.out).trans G6.out)
                          have hs6 := G6.out.size
                          have hs5 := GR.out.size
                          clear AZ gz KC WA1 WB1
                          generalize wz = W6 at *
                          go_wp2_with fail
                          go_roundw
                          case rel => exact ⟨j + 1, _, by omega, by go_num, rfl, by rw [OS2.out], by rw [OS1.out]; exact O6, Lib.hid (GR.out.trans G6.out)⟩
                          case measure => simp [intOf]; omega
                      · have NW : nw = ax := NC.2.2 hcs
                        have LS : ls = 0 := LC.2 (by omega)
                        rw [LS] at OS2
                        rw [Int.sub_zero] at OS2
                        have OS2 := Lib.hid OS2
                        have e5 : decide (bx > ax) = false := decide_eq_false (by omega)
                        have e6 : decide (ax < bx) = false := decide_eq_false (by omega)
                        have e7 : decide (bx < ax) = false := decide_eq_false (by omega)
                        clear LS NC LC hcs
                        by_cases hp : 0 < ax
                        · have d7 : decide (ax > 0) = true := decide_eq_true hp
                          have d8 : decide (0 < ax) = true := decide_eq_true hp
                          rw [NW, if_pos hp] at OS1
                          have OS1 := Lib.hid OS1
                          clear NW hp
                          go_wp2_with fail
                          refine Evo2.start' (ℓ := none) (S := Chg (fun _ => False)) (E := Grow.G) (by kernel_rfl) ⟨Chg.pre _, by decide +kernel, (by intro c a d v w h; cases d <;> exact h), by decide +kernel⟩ (fun ok => ?_)
                          refine Evo2.va ok 0 _ _ ?_
                          refine Evo2.va ok 1 _ _ ?_
                          refine Evo2.va ok 2 _ _ ?_
                          refine Evo2.va ok 3 _ _ ?_
                          first | (refine Evo2.vl ok 4 KC.out (Chg.refl (fun _ => False) _) _ _ ?_) | (refine Evo2.va ok 4 _ _ ?_)
                          (refine Evo2.cal ok 5 ?_ 24 ?_ ?_ ?_ ?_; rotate_left 2; (focus (intro w'; go_simp <;> with_reducible rfl)); (focus (intro w' g'; with_reducible exact WA1.out w' (Chg.trans (Chg.refl (fun _ => False) _) g'))); simp only [Act.put, L0, L1, L2])
                          refine Evo2.va ok 6 _ _ ?_
                          refine Evo2.va ok 7 _ _ ?_
                          refine Evo2.va ok 8 _ _ ?_
                          refine Evo2.va ok 9 _ _ ?_
                          first | (refine Evo2.vl ok 10 KC.out (Chg.refl (fun _ => False) _) _ _ ?_) | (refine Evo2.va ok 10 _ _ ?_)
                          (refine Evo2.cal ok 11 ?_ 24 ?_ ?_ ?_ ?_; rotate_left 2; (focus (intro w'; go_simp <;> with_reducible rfl)); (focus (intro w' g'; with_reducible exact WB1.out w' (Chg.trans (Chg.refl (fun _ => False) _) g'))); simp only [Act.put, L0, L1, L2])
                          refine Evo2.va ok 12 _ _ ?_
                          refine Evo2.va ok 13 _ _ ?_
                          refine Evo2.done (by decide +kernel) (fun wz gz => ?_)
                          have AZ := Chg.trans (Chg.refl (fun _ => False) _) (Chg.grow gz)
                          have G6 := Lib.hid (g0 AZ)
                          have O6 := Lib.hid (own_later OW.out G6.out)
                          have c6 := hc wz ((GM.out.trans GR.out).trans G6.out)
                          have hs6 := G6.out.size
                          have hs5 := GR.out.size
                          clear AZ gz KC WA1 WB1
                          generalize wz = W6 at *
                          go_wp2_with (at_builtin; refine Fr.wpList_append_fr _ rfl _ _ 37 rfl wM.heap.size 53 i0 (.agg #[.string ⟨#[]⟩, .int .i64 0]) 2 24 Try.underlying37 hi ha0 ha1 ha2 rfl (by decide) _ _ _ rfl (own_later O6.out (Grow.G.alloc (Grow.G.refl _) _)) ⟨W6.heap.size, 0, none⟩ 1 1 [.string x, .int .i64 (ax)] rfl rfl (news_new _ _ _ _ rfl) (by intro u hu; simp at hu; rcases hu with rfl | rfl <;> rfl) (by unfold maxLen; omega) (by omega) (by simp; omega) ?_; intro v' w' hown hfr; have OW' := Lib.hid hown; have G' := Lib.hid (own_grow ((GR.out.trans G6.out).trans (Grow.G.alloc (Grow.G.refl _) _)) (own_later O6.out (Grow.G.alloc (Grow.G.refl _) _)) (Nat.le_refl _) hfr.g); clear hown hfr)
                          go_roundw
                          case rel => exact ⟨j + 1, _, by omega, by go_num, rfl, by rw [OS2.out], by rw [OS1.out, List.length_append, List.flatMap_append]; exact OW', G'⟩
                          case measure => simp [intOf]; omega
                        · have d7 : decide (ax > 0) = false := decide_eq_false hp
                          have d8 : decide (0 < ax) = false := decide_eq_false hp
                          rw [NW, if_neg hp] at OS1
                          rw [List.append_nil] at OS1
                          have OS1 := Lib.hid OS1
                          clear NW hp
                          go_wp2_with fail
                          refine Evo2.start' (ℓ := none) (S := Chg (fun _ => False)) (E := Grow.G) (by kernel_rfl) ⟨Chg.pre _, by decide +kernel, (by intro c a d v w h; cases d <;> exact h), by decide +kernel⟩ (fun ok => ?_)
                          refine Evo2.va ok 0 _ _ ?_
                          refine Evo2.va ok 1 _ _ ?_
                          refine Evo2.va ok 2 _ _ ?_
                          refine Evo2.va ok 3 _ _ ?_
                          first | (refine Evo2.vl ok 4 KC.out (Chg.refl (fun _ => False) _) _ _ ?_) | (refine Evo2.va ok 4 _ _ ?_)
                          (refine Evo2.cal ok 5 ?_ 24 ?_ ?_ ?_ ?_; rotate_left 2; (focus (intro w'; go_simp <;> with_reducible rfl)); (focus (intro w' g'; with_reducible exact WA1.out w' (Chg.trans (Chg.refl (fun _ => False) _) g'))); simp only [Act.put, L0, L1, L2])
                          refine Evo2.va ok 6 _ _ ?_
                          refine Evo2.va ok 7 _ _ ?_
                          refine Evo2.va ok 8 _ _ ?_
                          refine Evo2.va ok 9 _ _ ?_
                          first | (refine Evo2.vl ok 10 KC.out (Chg.refl (fun _ => False) _) _ _ ?_) | (refine Evo2.va ok 10 _ _ ?_)
                          (refine Evo2.cal ok 11 ?_ 24 ?_ ?_ ?_ ?_; rotate_left 2; (focus (intro w'; go_simp <;> with_reducible rfl)); (focus (intro w' g'; with_reducible exact WB1.out w' (Chg.trans (Chg.refl (fun _ => False) _) g'))); simp only [Act.put, L0, L1, L2])
                          refine Evo2.va ok 12 _ _ ?_
                          refine Evo2.va ok 13 _ _ ?_
                          refine Evo2.done (by decide +kernel) (fun wz gz => ?_)
                          have AZ := Chg.trans (Chg.refl (fun _ => False) _) (Chg.grow gz)
                          have G6 := Lib.hid (g0 AZ)
                          have O6 := Lib.hid (own_later OW.out G6.out)
                          have c6 := hc wz ((GM.out.trans GR.out).trans G6.out)
                          have hs6 := G6.out.size
                          have hs5 := GR.out.size
                          clear AZ gz KC WA1 WB1
                          generalize wz = W6 at *
                          go_wp2_with fail
                          go_roundw
                          case rel => exact ⟨j + 1, _, by omega, by go_num, rfl, by rw [OS2.out], by rw [OS1.out]; exact O6, Lib.hid (GR.out.trans G6.out)⟩
                          case measure => simp [intOf]; omega
                      · have NW : nw = ax - min (ax - bx) q := NC.2.1 hcs
                        have LS : ls = min (ax - bx) q := LC.1 hcs
                        rw [LS] at OS2
                        have OS2 := Lib.hid OS2
                        have e4 : decide (bx > ax) = false := decide_eq_false (by omega)
                        have e5 : decide (ax < bx) = false := decide_eq_false (by omega)
                        have e6 : decide (bx < ax) = true := decide_eq_true (by omega)
                        have hw1 : IntKind.i64.wrap (ax - bx) = ax - bx := IntWalk.i64_in _ ⟨by omega, by omega⟩
                        have hw2 : IntKind.i64.wrap (q - min (ax - bx) q) = q - min (ax - bx) q := IntWalk.i64_in _ ⟨by omega, by omega⟩
                        have hw3 : IntKind.i64.wrap (ax - min (ax - bx) q) = ax - min (ax - bx) q := IntWalk.i64_in _ ⟨by omega, by omega⟩
                        clear LS NC LC hcs
                        by_cases hp : 0 < ax - min (ax - bx) q
                        · have d7 : decide (ax - min (ax - bx) q > 0) = true := decide_eq_true hp
                          have d8 : decide (0 < ax - min (ax - bx) q) = true := decide_eq_true hp
                          have hp2 : min (ax - bx) q < ax := by omega
                          have d9 : decide (min (ax - bx) q < ax) = true := decide_eq_true hp2
                          rw [NW, if_pos hp] at OS1
                          have OS1 := Lib.hid OS1
                          clear NW hp
                          go_wp2_with fail
                          refine Evo2.start' (ℓ := none) (S := Chg (fun _ => False)) (E := Grow.G) (by kernel_rfl) ⟨Chg.pre _, by decide +kernel, (by intro c a d v w h; cases d <;> exact h), by decide +kernel⟩ (fun ok => ?_)
                          refine Evo2.va ok 0 _ _ ?_
                          refine Evo2.va ok 1 _ _ ?_
                          refine Evo2.va ok 2 _ _ ?_
                          refine Evo2.va ok 3 _ _ ?_
                          first | (refine Evo2.vl ok 4 KC.out (Chg.refl (fun _ => False) _) _ _ ?_) | (refine Evo2.va ok 4 _ _ ?_)
                          (refine Evo2.cal ok 5 ?_ 24 ?_ ?_ ?_ ?_; rotate_left 2; (focus (intro w'; go_simp <;> with_reducible rfl)); (focus (intro w' g'; with_reducible exact WA1.out w' (Chg.trans (Chg.refl (fun _ => False) _) g'))); simp only [Act.put, L0, L1, L2])
                          refine Evo2.va ok 6 _ _ ?_
                          refine Evo2.va ok 7 _ _ ?_
                          refine Evo2.va ok 8 _ _ ?_
                          refine Evo2.va ok 9 _ _ ?_
                          first | (refine Evo2.vl ok 10 KC.out (Chg.refl (fun _ => False) _) _ _ ?_) | (refine Evo2.va ok 10 _ _ ?_)
                          (refine Evo2.cal ok 11 ?_ 24 ?_ ?_ ?_ ?_; rotate_left 2; (focus (intro w'; go_simp <;> with_reducible rfl)); (focus (intro w' g'; with_reducible exact WB1.out w' (Chg.trans (Chg.refl (fun _ => False) _) g'))); simp only [Act.put, L0, L1, L2])
                          refine Evo2.va ok 12 _ _ ?_
                          refine Evo2.va ok 13 _ _ ?_
                          refine Evo2.done (by decide +kernel) (fun wz gz => ?_)
                          have AZ := Chg.trans (Chg.refl (fun _ => False) _) (Chg.grow gz)
                          have G6 := Lib.hid (g0 AZ)
                          have O6 := Lib.hid (own_later OW.out G6.out)
                          have c6 := hc wz ((GM.out.trans GR.out).trans G6.out)
                          have hs6 := G6.out.size
                          have hs5 := GR.out.size
                          clear AZ gz KC WA1 WB1
                          generalize wz = W6 at *
                          go_wp2_with (at_builtin; refine Fr.wpList_append_fr _ rfl _ _ 37 rfl wM.heap.size 53 i0 (.agg #[.string ⟨#[]⟩, .int .i64 0]) 2 24 Try.underlying37 hi ha0 ha1 ha2 rfl (by decide) _ _ _ rfl (own_later O6.out (Grow.G.alloc (Grow.G.refl _) _)) ⟨W6.heap.size, 0, none⟩ 1 1 [.string x, .int .i64 (ax - min (ax - bx) q)] rfl rfl (news_new _ _ _ _ rfl) (by intro u hu; simp at hu; rcases hu with rfl | rfl <;> rfl) (by unfold maxLen; omega) (by omega) (by simp; omega) ?_; intro v' w' hown hfr; have OW' := Lib.hid hown; have G' := Lib.hid (own_grow ((GR.out.trans G6.out).trans (Grow.G.alloc (Grow.G.refl _) _)) (own_later O6.out (Grow.G.alloc (Grow.G.refl _) _)) (Nat.le_refl _) hfr.g); clear hown hfr)
                          go_roundw
                          case rel => exact ⟨j + 1, _, by omega, by go_num, rfl, by rw [OS2.out], by rw [OS1.out, List.length_append, List.flatMap_append]; exact OW', G'⟩
                          case measure => simp [intOf]; omega
                        · have d7 : decide (ax - min (ax - bx) q > 0) = false := decide_eq_false hp
                          have d8 : decide (0 < ax - min (ax - bx) q) = false := decide_eq_false hp
                          have hp2 : ¬ min (ax - bx) q < ax := by omega
                          have d9 : decide (min (ax - bx) q < ax) = false := decide_eq_false hp2
                          rw [NW, if_neg hp] at OS1
                          rw [List.append_nil] at OS1
                          have OS1 := Lib.hid OS1
                          clear NW hp
                          go_wp2_with fail
                          refine Evo2.start' (ℓ := none) (S := Chg (fun _ => False)) (E := Grow.G) (by kernel_rfl) ⟨Chg.pre _, by decide +kernel, (by intro c a d v w h; cases d <;> exact h), by decide +kernel⟩ (fun ok => ?_)
                          refine Evo2.va ok 0 _ _ ?_
                          refine Evo2.va ok 1 _ _ ?_
                          refine Evo2.va ok 2 _ _ ?_
                          refine Evo2.va ok 3 _ _ ?_
                          first | (refine Evo2.vl ok 4 KC.out (Chg.refl (fun _ => False) _) _ _ ?_) | (refine Evo2.va ok 4 _ _ ?_)
                          (refine Evo2.cal ok 5 ?_ 24 ?_ ?_ ?_ ?_; rotate_left 2; (focus (intro w'; go_simp <;> with_reducible rfl)); (focus (intro w' g'; with_reducible exact WA1.out w' (Chg.trans (Chg.refl (fun _ => False) _) g'))); simp only [Act.put, L0, L1, L2])
                          refine Evo2.va ok 6 _ _ ?_
                          refine Evo2.va ok 7 _ _ ?_
                          refine Evo2.va ok 8 _ _ ?_
                          refine Evo2.va ok 9 _ _ ?_
                          first | (refine Evo2.vl ok 10 KC.out (Chg.refl (fun _ => False) _) _ _ ?_) | (refine Evo2.va ok 10 _ _ ?_)
                          (refine Evo2.cal ok 11 ?_ 24 ?_ ?_ ?_ ?_; rotate_left 2; (focus (intro w'; go_simp <;> with_reducible rfl)); (focus (intro w' g'; with_reducible exact WB1.out w' (Chg.trans (Chg.refl (fun _ => False) _) g'))); simp only [Act.put, L0, L1, L2])
                          refine Evo2.va ok 12 _ _ ?_
                          refine Evo2.va ok 13 _ _ ?_
                          refine Evo2.done (by decide +kernel) (fun wz gz => ?_)
                          have AZ := Chg.trans (Chg.refl (fun _ => False) _) (Chg.grow gz)
                          have G6 := Lib.hid (g0 AZ)
                          have O6 := Lib.hid (own_later OW.out G6.out)
                          have c6 := hc wz ((GM.out.trans GR.out).trans G6.out)
                          have hs6 := G6.out.size
                          have hs5 := GR.out.size
                          clear AZ gz KC WA1 WB1
                          generalize wz = W6 at *
                          go_wp2_with fail
                          go_roundw
                          case rel => exact ⟨j + 1, _, by omega, by go_num, rfl, by rw [OS2.out], by rw [OS1.out]; exact O6, Lib.hid (GR.out.trans G6.out)⟩
                          case measure => simp [intOf]; omega
                    · have d3 : decide (j < N.length) = false := decide_eq_false hjl
                      have OW := OW.out
                      rw [List.take_of_length_le (by omega)] at OW
                      have OZ := Lib.hid (own_base OW hs7)
                      go_wp2_with fail
                      go_ret
                      exact ⟨_, rfl, by rw [RES.out]; exact OZ.out, G'.out.trans GR.out⟩
end Go.Proofs.Ytjhfjjkfnmnkgaa
