/- My own texts Ints8, IntA, laid in one file. -/
import Derived.Test.YtfnpghekkhnjkaaZ59
import Derived.Test.YtfnpghekkhnjkaaZ2

/- damperlaw8.Ints: rows of numbers that are the same. -/
namespace Go.Proofs.Ytfnpghekkhnjkaa
set_option maxRecDepth 100000
set_option linter.unusedVariables false
set_option linter.unusedSimpArgs false
set_option linter.unnecessarySimpa false
open Go.RowKit Go.Args

set_option maxHeartbeats 1000000 in
/-- Two rows of the same numbers. -/
theorem ints8_same (a1 a2 : Option Addr) (c1 c2 : Nat) (l : List Int) (w : World) (hl : l.length ≤ 100000) (h1 : IntR w a1 l) (h2 : IntR w a2 l) :
    Calls Try.prog 22 #[.slice a1 l.length c1, .slice a2 l.length c2] w fun e w' => e = .returned (.bool true) ∧ Grow.G w w' := by
  have H1 := Lib.hid h1
  have H2 := Lib.hid h2
  clear h1 h2
  go_enter Try.func22, Try.ntmps22
  go_wp2_with fail
  go_loopw [5] (fun i wr => ∃ k : Nat, k ≤ l.length ∧ i = .int .i64 k ∧ Hid (Grow.G w wr)) (fun i _ => l.length - (intOf i).toNat)
  case atStart => exact ⟨0, by omega, rfl, Lib.hid (Grow.G.refl _)⟩
  case round =>
    obtain ⟨k, hk, rfl, G⟩ := hrel
    by_cases hlt : k < l.length
    · obtain ⟨y, hy⟩ : ∃ y, l[k]? = some y := ⟨_, List.getElem?_eq_getElem hlt⟩
      obtain ⟨g1, off1, rfl, hcl⟩ := H1.out.resolve_left (fun e => by rw [e] at hlt; simp at hlt)
      obtain ⟨g2, off2, rfl, hcl2⟩ := H2.out.resolve_left (fun e => by rw [e] at hlt; simp at hlt)
      have cy := cell_later G.out (hcl k y hy)
      have cz := cell_later G.out (hcl2 k y hy)
      have KC := Lib.hid (fun (w' : World) (h : Chg (fun _ => False) wr w') => (⟨h.cell cy id, h.cell cz id, trivial⟩ : w'.cell? ⟨g1, off1 + k, none⟩ = some (.int .i64 y) ∧ w'.cell? ⟨g2, off2 + k, none⟩ = some (.int .i64 y) ∧ True))
      have d0 : decide ((k : Int) < (l.length : Int)) = true := decide_eq_true (by omega)
      have hk1 : IntKind.i64.wrap ((k : Int) + 1) = (k : Int) + 1 := IntWalk.i64_in _ ⟨by omega, by omega⟩
      have k1 : (0 : Int) ≤ (k : Int) := by omega
      have k2 : (k : Int) < (l.length : Int) := by omega
      clear hcl hcl2 hy cy cz
      go_wp2_with fail
      refine wp_spec (fun a0 A W => ∃ x17 x18 x19 x20 x21 x22 x23 x24 : Value, A = (((((((((a0.put (some 17) x17).put (some 18) x18).put (some 19) x19).put (some 20) x20).put (some 21) x21).put (some 22) x22).put (some 23) x23).put (some 24) x24).put (some 25) (.bool false)) ∧ Hid (Grow.G wr W)) ?_ ?_
      all_goals simp only [Act.put, L0, L1, L2]
      ·
        refine Evo2.start' (ℓ := none) (S := Chg (fun _ => False)) (E := Grow.G) (by kernel_rfl) ⟨Chg.pre _, by decide +kernel, (by intro c a d v w h; cases d <;> exact h), by decide +kernel⟩ (fun ok => ?_)
        refine Evo2.va ok 0 _ _ ?_
        refine Evo2.va ok 1 _ _ ?_
        refine Evo2.va ok 2 _ _ ?_
        first | (refine Evo2.vl ok 3 KC.out (Chg.refl (fun _ => False) _) _ _ ?_) | (refine Evo2.va ok 3 _ _ ?_)
        refine Evo2.va ok 4 _ _ ?_
        refine Evo2.va ok 5 _ _ ?_
        refine Evo2.va ok 6 _ _ ?_
        first | (refine Evo2.vl ok 7 KC.out (Chg.refl (fun _ => False) _) _ _ ?_) | (refine Evo2.va ok 7 _ _ ?_)
        refine Evo2.va ok 8 _ _ ?_
        refine Evo2.done (by decide +kernel) (fun wz gz => ?_)
        have AZ := Chg.trans (Chg.refl (fun _ => False) _) (Chg.grow gz)
        dsimp only [PostN] 
        (repeat apply Exists.intro) 
        exact ⟨rfl, Lib.hid (AZ.toGrow (fun _ _ => id))⟩
      ·
        rintro A W2 ⟨x17, x18, x19, x20, x21, x22, x23, x24, rfl, g2⟩
        have G2 := Lib.hid (G.out.trans g2.out)
        go_wp2_with fail
        go_roundw
        case rel => exact ⟨k + 1, by omega, by go_num, G2⟩
        case measure => simp [intOf]; omega
    · obtain rfl : k = l.length := by omega
      have d0 : decide ((l.length : Int) < (l.length : Int)) = false := decide_eq_false (by omega)
      go_wp2_with fail
      go_ret
      exact ⟨rfl, G.out⟩
end Go.Proofs.Ytfnpghekkhnjkaa

/- Rows of numbers of a call's own that are put behind one another, among what a law holds. -/
namespace Go.Proofs.Ytfnpghekkhnjkaa
set_option maxRecDepth 100000
set_option linter.unusedVariables false
set_option linter.unusedSimpArgs false
open Go.RowKit Go.Args

theorem ints_one {l : List Int} : ∀ u ∈ intsV l, u.oneCell' = true := by
  intro u hu
  obtain ⟨x, _, rfl⟩ := List.mem_map.1 hu
  rfl
/-- A row that begins where its block does not hold anything. -/
theorem IntO.empty (w : World) : IntO (.slice (some ⟨w.heap.size, 0, none⟩) 0 0) [] (w.alloc (.cells #[] 3)) (fun k => k = w.heap.size) :=
  ⟨World.ownsRow.off ⟨rfl, .inr ⟨w.heap.size, 0, #[], rfl, Nat.zero_le _, World.alloc_heap_new w _, Nat.le_refl _, by decide, rfl, rfl⟩⟩, fun k => ⟨fun e => by rw [e]; rfl, fun e => (Option.some.inj e).symm⟩⟩
theorem addr_add (g off j : Nat) : (⟨g, off, none⟩ : Addr).add j = ⟨g, off + j, none⟩ := by unfold Addr.add; split <;> simp_all
theorem intR_src {w : World} {v : Value} {base : Nat} {a : Option Addr} {l : List Int} {c : Nat} (h : w.offRow base 3 1 (.slice a l.length c) l.length (intsV l)) : Fr.Src w a (intsV l) := by
  rcases h.at with ⟨h1, _, h3⟩ | ⟨g, off, c', hv, _, _, _, hc⟩
  · injection h1 with e1
    exact .inl ⟨e1, h3⟩
  · cases hv
    exact .inr ⟨_, rfl, fun j u hj => by rw [addr_add]; exact hc j u hj⟩
theorem blk_src {w : World} {g : Nat} {l : List Int} {T : TypeId} (h : Blk w g (intsV l).toArray T) : Fr.Src w (some ⟨g, 0, none⟩) (intsV l) :=
  .inr ⟨_, rfl, fun j u hj => by
    rw [addr_add, Nat.zero_add, h.cell j, List.getElem?_toArray]; exact hj⟩
section
variable {w0 w w' : World} {L : List MBox} {A B : Hp} {v v' : Value} {l ys : List Int} {x : Int}
theorem hold_apps8 (h : Hold w0 w L (Sep A (Sep (IntO v l) B))) (hA : Foot A) (hB : Foot B) (ho : w'.offRow 0 3 1 v' (l.length + ys.length) (intsV l ++ intsV ys)) (f : Fr.Fr w w' v v') : Hold w0 w' L (Sep A (Sep (IntO v' (l ++ ys)) B)) := by
  refine (h.rot.step (Sep.stepL (hA.sep hB) fun F ⟨hv, e⟩ => ?_)).rot
  refine ⟨fun k => v'.ownBlock = some k, ⟨?_, fun k => Iff.rfl⟩, (Chg.ofFr f).sub (fun k hk => (e k).2 hk), fun k hk => ?_⟩
  · show World.offRow _ _ _ _ _ (l ++ ys).length (List.map _ (l ++ ys))
    rw [List.length_append, List.map_append]
    exact ho
  · rcases f.o with q | ⟨g, q, hg⟩
    · exact .inl ((e k).2 (q ▸ hk))
    · have e2 : g = k := Option.some.inj (q.symm.trans hk)
      exact .inr (by omega)
theorem wpList_appI {ops : Array Oper} {rest : List Oper} {o : Oper} {a : Act} {Q : Exit → Act → World → Prop} (hgd : o.guard = none) (s x : Operand)
    (ho : o.op = .call { callee := .builtin .append, args := #[s, x], argTypes := #[22, 22] })
    (h : Hold w0 w L (Sep A (Sep (IntO v l) B))) (hA : Foot A) (hB : Foot B) (hs : a.eval s = v) {ad : Option Addr} {m c : Nat} (hx : a.eval x = .slice ad m c) (hm : ys.length = m) (hsrc : Fr.Src w ad (intsV ys)) (hl : l.length + ys.length ≤ 100000)
    (k : ∀ a' c' w', Hold w0 w' L (Sep A (Sep (IntO (.slice a' (l ++ ys).length c') (l ++ ys)) B)) → Stay (wpList Try.prog ops Q rest (a.put o.dst (.slice a' (l ++ ys).length c')) w')) : wpList Try.prog ops Q (o :: rest) a w := by
  obtain ⟨i0, hi, hz0, hz1, hz2⟩ := info_parts infoIntO
  subst hm
  refine Fr.wpList_append_off w hgd s x 22 ho 0 3 i0 (.int .i64 0) 1 8 Try.underlying22 hi hz0 hz1 hz2 rfl (by decide) v _ _ hs (hold_reads8 h) ad _ c (intsV ys) hx (by simp) hsrc ints_one ?_ ?_ (Nat.zero_le _) ?_
  · unfold maxLen; omega
  · omega
  · intro v' w' hown hfr
    have H := hold_apps8 h hA hB hown hfr
    obtain ⟨a', c', rfl⟩ := hown.shape
    rw [← List.length_append] at H ⊢
    exact k a' c' w' H
/-- One number of such a row set. -/
theorem wpList_setI {ops : Array Oper} {rest : List Oper} {o : Oper} {a : Act} {Q : Exit → Act → World → Prop} {t : TypeId} {p xo : Operand} (hA : Foot A) (ho : o.op = .store t p xo) (hgd : o.guard = none)
    {g off q c n : Nat} (hp : a.eval p = .pointer (some ⟨g, off + q, none⟩)) (hx : a.eval xo = .int .i64 x) (hs : (Try.prog.info? t).map (·.size) = some 1)
    (hm : Hold w0 w L (Sep (IntO (.slice (some ⟨g, off, none⟩) n c) l) A)) (hn : n = l.length) (hq : q < l.length)
    (h : ∀ w', Hold w0 w' L (Sep (IntO (.slice (some ⟨g, off, none⟩) n c) (l.set q x)) A) → Stay (wpList Try.prog ops Q rest (a.put o.dst undef) w')) : wpList Try.prog ops Q (o :: rest) a w := by
  subst hn
  have hc : Try.prog.cellsOf t = 1 := by
    unfold Program.cellsOf
    cases hi : Try.prog.info? t with
    | none => rw [hi] at hs; cases hs
    | some i => rw [hi] at hs; simpa using hs
  obtain ⟨F, ⟨F1, F2, ⟨⟨hlen, hr⟩, e1⟩, ha, ap, e⟩, h2, h3⟩ := hm.st
  rcases hr with ⟨hv, _⟩ | ⟨g', off', cap, cur, hv, _, hb, hnc, hcm, hfit, htk⟩
  · cases hv
  · cases hv
    refine Box.store ho hgd hp hx hb ⟨by cases hi : Try.prog.info? t with
      | none => rw [hi] at hs; cases hs
      | some i => rfl, by rw [hc]; rfl⟩ (by show off + q + 1 ≤ cur.size; omega) (fun u hu => by simp [Value.cells] at hu; subst hu; rfl) fun w' hb' hch => h w' ?_
    have hg : F1 g := (e1 g).2 rfl
    have hFg : F g := (e g).2 (.inl hg)
    refine ⟨hm.mem.chg hch (fun k hk q => by have q : k = g := q; subst q; have := h2 _ hFg; omega) (fun b hb q => by have q : b.1 = g := q; rw [← q] at hFg; exact h3 b hb hFg), F, ⟨F1, F2, ⟨⟨by simp, .inr ⟨g, off, c, _, by rw [List.length_set], Nat.zero_le _, hb', by rw [List.length_set]; exact hnc, hcm, ?_, ?_⟩⟩, e1⟩, hA.frame ha hch (fun k hk q => by have q : k = g := q; subst q; exact ap _ hg hk), ap, e⟩, h2, h3⟩
    · have hv1 : (Value.int .i64 x).cells.toList = [.int .i64 x] := rfl
      rw [hv1]
      simp only [List.size_toArray, List.length_append, List.length_take, List.length_drop, Array.length_toList, List.length_singleton]
      omega
    · have hv1 : (Value.int .i64 x).cells.toList = [.int .i64 x] := rfl
      have hset : cur.toList.take (off + q) ++ [Value.int .i64 x] ++ cur.toList.drop (off + q + 1) = cur.toList.set (off + q) (.int .i64 x) := by
        rw [List.set_eq_take_append_cons_drop, if_pos (by rw [Array.length_toList]; omega)]
        simp
      rw [hv1]
      show List.take _ (List.drop off (cur.toList.take (off + q) ++ [Value.int .i64 x] ++ cur.toList.drop (off + q + 1))) = _
      rw [hset, List.drop_set, if_neg (by omega), Nat.add_sub_cancel_left, List.take_set, List.length_set, htk]
      show (intsV l).set q _ = intsV (l.set q x)
      unfold intsV
      rw [List.map_set]
end
end Go.Proofs.Ytfnpghekkhnjkaa
