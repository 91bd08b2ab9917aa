/- My own texts Tab14, laid in one file. -/
import Derived.Test.YtjhfjjkfnmnkgaaZ42
import Derived.Test.YtjhfjjkfnmnkgaaZ2

/- Whether two tables are the same: damperref5.Same. -/
namespace Go.Proofs.Ytjhfjjkfnmnkgaa
set_option maxRecDepth 100000
set_option linter.unusedVariables false
set_option linter.unusedSimpArgs false
set_option linter.unnecessarySimpa false
open Go.RowKit Go.Args

def tgoB (s t : Tgo) : Bool := (s.tag.toList == t.tag.toList) && (s.rev.toList == t.rev.toList)
theorem tgoB_iff (s t : Tgo) : tgoB s t = true ↔ s = t := by
  obtain ⟨m0, m1⟩ := s
  obtain ⟨m0', m1'⟩ := t
  unfold tgoB
  rw [Bool.and_eq_true, eqS_iff, eqS_iff, Tgo.mk.injEq]
theorem run_neq_tgo (m0 m0' m1 m1' : ByteArray) (w : World) :
    (binOp .neq 55 (.agg #[.string m0, .string m1]) (.agg #[.string m0', .string m1'])).run Try.prog w = .ok (.bool (!tgoB ⟨m0, m1⟩ ⟨m0', m1'⟩)) w := by
  go_simp
  unfold tgoB
  by_cases h0 : m0.toList = m0'.toList <;> by_cases h1 : m1.toList = m1'.toList <;> simp [h0, h1]
abbrev sameTgo (xs ys : List Tgo) : Bool := sameL tgo0 tgoB xs ys
set_option maxRecDepth 100000 in
set_option maxHeartbeats 4000000 in
theorem rsame_any (a : Option Addr) (l : List Shr) (c : Nat) (a' : Option Addr) (xs : List Tgo) (c' : Nat) (b0 : Option Addr) (l2 : List Shr) (d : Nat) (b1 : Option Addr) (ys : List Tgo) (d' : Nat) (w : World)
    (h1 : ShSl w a l) (h2 : TgSl w a' xs) (h3 : ShSl w b0 l2) (h4 : TgSl w b1 ys) (n0 : l.length ≤ 1000) (n1 : xs.length ≤ 1000) :
    Calls Try.prog 16 #[tabV a l.length c a' xs.length c', tabV b0 l2.length d b1 ys.length d'] w fun e w' => e = .returned (.bool (sameShr l l2 && sameTgo xs ys)) ∧ Grow.G w w' := by
  have SH := Lib.hid (fun w' (g : Grow.G w w') => rshares_same a b0 l l2 c d w' (by omega) (h1.later g) (h3.later g))
  have HT := Lib.hid h2
  have HT' := Lib.hid h4
  clear h1 h2 h3 h4 n0
  unfold tabV
  generalize sameShr l l2 = p at *
  generalize l.length = ll at *
  generalize l2.length = ll2 at *
  go_enter Try.func16, Try.ntmps16
  go_wp2_with fail
  have b00 := (Blk.new w #[.slice a ll c, .slice a' xs.length c'] 40).alloc (.cells #[.slice b0 ll2 d, .slice b1 ys.length d'] 40)
  have b11 := Blk.new (w.alloc (.cells #[.slice a ll c, .slice a' xs.length c'] 40)) #[.slice b0 ll2 d, .slice b1 ys.length d'] 40
  have g00 : Grow.G w ((w.alloc (.cells #[.slice a ll c, .slice a' xs.length c'] 40)).alloc (.cells #[.slice b0 ll2 d, .slice b1 ys.length d'] 40)) := by (repeat (first | with_reducible exact Grow.G.refl _ | with_reducible exact Below.refl _ _ | with_reducible refine Grow.G.alloc ?_ _ | with_reducible refine Grow.G.trans ?_ hb1 | ((with_reducible refine Below.setCell ?_ ?_ _); rotate_left; (focus (first | omega | (simp; done) | (simp; omega)))) | with_reducible assumption | with_reducible refine Grow.G.trans ?_ (by with_reducible assumption)))
  simp only [World.size_alloc] at b11
  refine (SH.out _ g00).mono ?_
  rintro e W0 ⟨rfl, hg⟩
  have B0 := Lib.hid (b00.grow hg)
  have B1 := Lib.hid (b11.grow hg)
  have G0 := Lib.hid (g00.trans hg)
  clear hg SH g00 b00 b11
  generalize w.heap.size = gb at *
  have e0 := Blk.at (cs := [Value.slice a ll c, Value.slice a' xs.length c']) (k := 1) B0.out rfl
  have e1 := Blk.at (cs := [Value.slice b0 ll2 d, Value.slice b1 ys.length d']) (k := 1) B1.out rfl
  cases p with
  | false =>
    go_wp2_with fail
    go_ret
    exact ⟨rfl, G0.out⟩
  | true =>
  by_cases hn : xs.length = ys.length
  · have hn1 : (xs.length != ys.length) = false := by simpa using hn
    have HN := Lib.hid hn
    clear hn
    go_wp2_with fail
    clear e0 e1
    go_loopw [5] (fun i wr => ∃ k : Nat, k ≤ xs.length ∧ i = .int .i64 k ∧ Hid (Grow.G W0 wr) ∧ Hid (∀ j, j < k → tgoB (xs.getD j tgo0) (ys.getD j tgo0) = true)) (fun i _ => xs.length - (intOf i).toNat)
    case atStart => exact ⟨0, by omega, rfl, Grow.G.refl _, fun j h => by omega⟩
    case round =>
      obtain ⟨k, hk, rfl, G, H0⟩ := hrel
      have e0 := Blk.at (cs := [Value.slice a ll c, Value.slice a' xs.length c']) (k := 1) (B0.out.grow G.out) rfl
      have e1 := Blk.at (cs := [Value.slice b0 ll2 d, Value.slice b1 ys.length d']) (k := 1) (B1.out.grow G.out) rfl
      by_cases hlt : k < xs.length
      · have hlt' : k < ys.length := by have := HN.out; omega
        obtain ⟨b, off, rfl, hat⟩ := (HT.out.later (G0.out.trans G.out)).spot hlt
        obtain ⟨b', off', rfl, hat'⟩ := (HT'.out.later (G0.out.trans G.out)).spot hlt'
        have NO := Lib.hid (fun h => sameL_no (d := tgo0) (q := tgoB) (ys := ys) hlt h)
        have H1 : Hid (∀ j, j < k + 1 → j ≠ k → tgoB (xs.getD j tgo0) (ys.getD j tgo0) = true) := Lib.hid (fun j h1 h2 => H0.out j (by omega))
        obtain ⟨t, hs⟩ : ∃ t, xs[k]? = some t := ⟨_, List.getElem?_eq_getElem hlt⟩
        obtain ⟨t', hs'⟩ : ∃ t', ys[k]? = some t' := ⟨_, List.getElem?_eq_getElem hlt'⟩
        have E1 : Hid (xs.getD k tgo0 = t) := Lib.hid (by simp [List.getD, hs])
        have E2 : Hid (ys.getD k tgo0 = t') := Lib.hid (by simp [List.getD, hs'])
        have c0 : ∀ w', Grow.G wr w' → w'.cell? ⟨b, off + k * 2, none⟩ = some (.string t.tag) := fun w' g => cell_later g (hat k _ hs 0 _ rfl)
        have c1 : ∀ w', Grow.G wr w' → w'.cell? ⟨b, off + k * 2 + 1, none⟩ = some (.string t.rev) := fun w' g => cell_later g (hat k _ hs 1 _ rfl)
        have d0 : ∀ w', Grow.G wr w' → w'.cell? ⟨b', off' + k * 2, none⟩ = some (.string t'.tag) := fun w' g => cell_later g (hat' k _ hs' 0 _ rfl)
        have d1 : ∀ w', Grow.G wr w' → w'.cell? ⟨b', off' + k * 2 + 1, none⟩ = some (.string t'.rev) := fun w' g => cell_later g (hat' k _ hs' 1 _ rfl)
        have f0 : ∀ w', Grow.G wr w' → w'.cell? ⟨gb, 1, none⟩ = some (.slice (some ⟨b, off, none⟩) xs.length c') := fun w' g => cell_later g e0
        have f1 : ∀ w', Grow.G wr w' → w'.cell? ⟨gb + 1, 1, none⟩ = some (.slice (some ⟨b', off', none⟩) ys.length d') := fun w' g => cell_later g e1
        have k1 : (0 : Int) ≤ (k : Int) := by omega
        have k2 : (k : Int) < (xs.length : Int) := by omega
        have k3 : (k : Int) < (ys.length : Int) := by omega
        have t0 : decide ((k : Int) < (xs.length : Int)) = true := decide_eq_true (by omega)
        have hk1 : IntKind.i64.wrap ((k : Int) + 1) = (k : Int) + 1 := IntWalk.i64_in _ ⟨by omega, by omega⟩
        obtain ⟨m0, m1⟩ := t
        obtain ⟨m0', m1'⟩ := t'
        simp only at c0 d0 c1 d1
        have RN := run_neq_tgo m0 m0' m1 m1'
        clear hat hat' hs hs' hlt hlt'
        go_wp2_with fail
        refine Grow.region_seqT (by kernel_rfl) (by kernel_rfl) (by intro c a d v w h; cases d <;> exact h) (by kernel_rfl) ?_
        repeat (first
          | (refine Grow.seqT.value ?_ (by rfl) ?_ ?_; rotate_left; (intro w' hg; go_simp <;> with_reducible rfl); simp only [Act.put, L0, L1, L2])
          | (refine Grow.seqT.value ?_ (by rfl) ?_ ?_; rotate_left; (intro w' hg; have ⟨hgc, hgf, hgz⟩ := bcell hg; go_simp <;> with_reducible rfl); simp only [Act.put, L0, L1, L2])
          | (refine Grow.seqT.value ?_ (by rfl) ?_ ?_; rotate_left; (intro w' hg; go_simp; rw [if_neg (by omega)]); simp only [Act.put, L0, L1, L2])
          | (refine Grow.seqT.idle (by rfl) ?_; simp only [Act.put, L0, L1, L2])
          )
        refine Grow.seqT.done (fun w4 g4 => ?_)
        clear c0 d0 c1 d1 f0 f1 RN
        generalize hq : tgoB ⟨m0, m1⟩ ⟨m0', m1'⟩ = q at *
        have HQ := Lib.hid hq
        clear hq
        cases q with
        | true =>
          go_wp2_with fail
          go_roundw
          case rel => exact ⟨k + 1, by omega, by go_num, Grow.G.trans G.out g4, fun j hj => by
            by_cases e : j = k
            · rw [e, E1.out, E2.out]; exact HQ.out
            · exact H1.out j hj e⟩
          case measure => simp [intOf]; omega
        | false =>
          go_wp2_with fail
          go_ret
          exact ⟨ret_bool (NO.out (by rw [E1.out, E2.out]; exact HQ.out)).symm, (G0.out.trans G.out).trans g4⟩
      · have t0 : decide ((k : Int) < (xs.length : Int)) = false := decide_eq_false (by omega)
        have Y := Lib.hid (sameL_yes HN.out (fun i hi => H0.out i (by omega)))
        go_wp2_with fail
        go_ret
        exact ⟨ret_bool Y.out.symm, G0.out.trans G.out⟩
  · have hn1 : (xs.length != ys.length) = true := by simpa using hn
    have Y := Lib.hid (sameL_len (d := tgo0) (q := tgoB) hn)
    clear hn
    go_wp2_with fail
    go_ret
    exact ⟨ret_bool Y.out.symm, G0.out⟩
end Go.Proofs.Ytjhfjjkfnmnkgaa
