/- My own texts Pd8, PdL, laid in one file. -/
import Derived.Test.YtkjcofgdilfdkaaZ56
import Derived.Test.YtkjcofgdilfdkaaZ57
import Derived.Test.YtkjcofgdilfdkaaZ2

/- Pods among what a law holds; rows of numbers that are the same; damperlaw7's known. -/
namespace Go
set_option linter.unusedVariables false
open Go.RowKit
section
variable {P : Program} {f : FuncId} {args : Array Value} {w0 w : World} {L : List MBox} {A B C : Hp} {ι : Type}
/-- A call on the state that tells of something. -/
theorem Hold.callE {A' : ι → Hp} {R : ι → Ending → World → Prop} (h : Hold w0 w L A) (hc : ∀ F, A w F → Calls P f args w fun e w' => ∃ i, R i e w' ∧ EndS w w' F (A' i)) : Calls P f args w fun e w' => ∃ i, R i e w' ∧ Hold w0 w' L (A' i) := by
  obtain ⟨F, h1, h2, h3⟩ := h.st
  refine (hc F h1).mono ?_
  rintro e w' ⟨i, hr, F', q1, q2, q3⟩
  refine ⟨i, hr, h.mem.chg q2 (fun k hk hf => by have := h2 k hf; omega) h3, F', q1, q3.base h.mem.size h2, fun b hb hf => ?_⟩
  rcases q3 _ hf with q | q
  · exact h3 b hb q
  · have := (h.mem.blks b hb).1.lt
    omega
theorem Sep.callLE {A' : ι → Hp} {R : ι → Ending → World → Prop} (hB : Foot B) (hc : ∀ F, A w F → Calls P f args w fun e w' => ∃ i, R i e w' ∧ EndS w w' F (A' i)) : ∀ F, Sep A B w F → Calls P f args w fun e w' => ∃ i, R i e w' ∧ EndS w w' F (Sep (A' i) B) := by
  rintro F ⟨F1, F2, a, b, ap, e⟩
  refine (hc F1 a).mono ?_
  rintro x w' ⟨i, hr, F', q1, q2, q3⟩
  obtain ⟨b', ap'⟩ := hB.keep b ap q2 q3
  refine ⟨i, hr, fun k => F' k ∨ F2 k, ⟨F', F2, q1, b', ap', fun k => Iff.rfl⟩, q2.sub fun k hk => (e k).2 (.inl hk), fun k hk => ?_⟩
  rcases hk with hk | hk
  · exact (q3 k hk).imp (fun q => (e k).2 (.inl q)) id
  · exact .inl ((e k).2 (.inr hk))
theorem Sep.assoc {F : Nat → Prop} (h : Sep (Sep A B) C w F) : Sep A (Sep B C) w F := by
  obtain ⟨F1, F2, ⟨F3, F4, a, b, ap2, e2⟩, c, ap, e⟩ := h
  refine ⟨F3, fun k => F4 k ∨ F2 k, a, ⟨F4, F2, b, c, fun k q1 q2 => ap k ((e2 k).2 (.inr q1)) q2, fun k => Iff.rfl⟩, fun k q1 q2 => q2.elim (fun q => ap2 k q1 q) (fun q => ap k ((e2 k).2 (.inl q1)) q), fun k => ?_⟩
  rw [e, e2]
  exact ⟨fun q => q.elim (fun q => q.elim .inl (fun q => .inr (.inl q))) (fun q => .inr (.inr q)), fun q => q.elim (fun q => .inl (.inl q)) (fun q => q.elim (fun q => .inl (.inr q)) .inr)⟩
end
end Go
namespace Go.Proofs.Ytkjcofgdilfdkaa
set_option maxRecDepth 100000
set_option linter.unusedVariables false
set_option linter.unusedSimpArgs false
set_option linter.unnecessarySimpa false
open Go.RowKit Go.MapV Go.Maps

/-- A row of numbers is no part of a pod. -/
theorem PdIn.noRow {w : World} {g : Nat} {s : Pd} {m : Option Nat} {base n : Nat} {v : Value} {xs : List Value} (h : PdIn w g s m) (ho : w.ownsRow base 3 1 v n xs) : ∀ k, PdF g m k → v.ownBlock ≠ some k := by
  rintro k (rfl | hk) e
  · exact own_blk_types ho h.hb (by decide) e
  · have hm := h.hm
    rw [← hk] at hm
    obtain ⟨D, ⟨es, clock, hb, _⟩, _⟩ := hm
    rcases ho.2 with ⟨h1, _⟩ | ⟨g', cap, cur, hv, _, hg, _⟩
    · rw [h1] at e; cases e
    · rw [hv] at e
      have e : some g' = some k := e
      cases e
      rw [hg] at hb; cases hb
theorem pkill_told (g : Nat) (s : Pd) (w : World) (F : Nat → Prop) (h : PdP g s w F) :
    Calls Try.prog 17 #[pz g] w fun e w' => ∃ v, e = .returned (.tuple #[v, .int .i64 s.kill]) ∧ EndS w w' F (Sep (PdP g s.aftKill) (IntF v s.lost)) := by
  refine (pkill_any g s w F h).mono ?_
  rintro e w' ⟨v, rfl, ho, hb, F', ⟨m', hI, he⟩, c, fr⟩
  refine ⟨v, rfl, fun k => F' k ∨ v.ownBlock = some k, ⟨F', fun k => v.ownBlock = some k, ⟨m', hI, he⟩, ⟨own_base ho (Nat.zero_le _), fun k => Iff.rfl⟩, fun k q1 q2 => hI.noRow ho k ((he k).1 q1) q2, fun k => Iff.rfl⟩, c, fun k hk => ?_⟩
  rcases hk with hk | hk
  · exact fr k hk
  · exact .inr (hb k hk)
section
variable {w0 w : World} {L : List MBox} {A B : Hp} {g : Nat} {s s' : Pd} {er : Int}
theorem hold_pnew (h : Hold w0 w L A) (hA : Foot A) (c : Int) (hc : 0 ≤ c ∧ c ≤ 1000) : Calls Try.prog 11 #[.int .i64 c] w fun e w' => ∃ g, e = .returned (pz g) ∧ Hold w0 w' L (Sep (PdP g (Pd.new c)) A) := by
  refine (pnew_any c w hc).mono ?_
  rintro e w' ⟨rfl, h1, hg⟩
  exact ⟨_, rfl, h.beside hA hg h1 (fun k hk => by have hk : k = w.heap.size := hk; omega)⟩
theorem hold_pup (h : Hold w0 w L (Sep (PdP g s) B)) (hB : Foot B) (he : s.up = er := by rfl) (hs : s.aftUp = s' := by rfl) : Calls Try.prog 13 #[pz g] w fun e w' => e = .returned (.int .i64 er) ∧ Hold w0 w' L (Sep (PdP g s') B) := by
  subst he hs
  exact h.call ((PdP.foot _ _).sep hB) (Sep.callL hB fun F hS => pup_any g s w F hS)
theorem hold_pdrain (h : Hold w0 w L (Sep (PdP g s) B)) (hB : Foot B) (he : s.drain = er := by rfl) (hs : s.aftDrain = s' := by rfl) : Calls Try.prog 15 #[pz g] w fun e w' => e = .returned (.int .i64 er) ∧ Hold w0 w' L (Sep (PdP g s') B) := by
  subst he hs
  exact h.call ((PdP.foot _ _).sep hB) (Sep.callL hB fun F hS => pdrain_any g s w F hS)
theorem hold_ptake (h : Hold w0 w L (Sep (PdP g s) B)) (hB : Foot B) (x : Int) (hx : wf64 x) (he : s.take x = er := by rfl) (hs : s.aftTake x = s' := by rfl) : Calls Try.prog 22 #[pz g, .int .i64 x] w fun e w' => e = .returned (.int .i64 er) ∧ Hold w0 w' L (Sep (PdP g s') B) := by
  subst he hs
  exact h.call ((PdP.foot _ _).sep hB) (Sep.callL hB fun F hS => ptake_any g s x w F hS hx)
theorem hold_pgive (h : Hold w0 w L (Sep (PdP g s) B)) (hB : Foot B) (x : Int) (hx : wf64 x) (he : s.give x = er := by rfl) (hs : s.aftGive x = s' := by rfl) : Calls Try.prog 20 #[pz g, .int .i64 x] w fun e w' => e = .returned (.int .i64 er) ∧ Hold w0 w' L (Sep (PdP g s') B) := by
  subst he hs
  exact h.call ((PdP.foot _ _).sep hB) (Sep.callL hB fun F hS => pgive_any g s x w F hS hx)
theorem hold_pstate (h : Hold w0 w L (Sep (PdP g s) B)) (he : s.st = er := by rfl) : Calls Try.prog 24 #[pz g] w fun e w' => e = .returned (.int .i64 er) ∧ Hold w0 w' L (Sep (PdP g s) B) := by
  subst he
  obtain ⟨F, ⟨F1, F2, ⟨m, hI, _⟩, _⟩, _⟩ := id h.st
  refine (pstate_any g s m w hI).mono ?_
  rintro e w' ⟨rfl, rfl⟩
  exact ⟨rfl, h⟩
theorem hold_pload (h : Hold w0 w L (Sep (PdP g s) B)) (he : (s.l.length : Int) = er := by rfl) : Calls Try.prog 26 #[pz g] w fun e w' => e = .returned (.int .i64 er) ∧ Hold w0 w' L (Sep (PdP g s) B) := by
  subst he
  obtain ⟨F, ⟨F1, F2, ⟨m, hI, _⟩, _⟩, _⟩ := id h.st
  refine (pload_any g s m w hI).mono ?_
  rintro e w' ⟨rfl, rfl⟩
  exact ⟨rfl, h⟩
theorem hold_pkill (h : Hold w0 w L (Sep (PdP g s) B)) (hB : Foot B) (he : s.kill = er := by rfl) (hs : s.aftKill = s' := by rfl) : Calls Try.prog 17 #[pz g] w fun e w' => ∃ v, e = .returned (.tuple #[v, .int .i64 er]) ∧ Hold w0 w' L (Sep (PdP g s') (Sep (IntF v s.lost) B)) := by
  subst he hs
  refine (Hold.callE h (Sep.callLE hB fun F hS => pkill_told g s w F hS)).mono ?_
  rintro e w' ⟨v, rfl, hh⟩
  exact ⟨v, rfl, hh.map fun F q => q.assoc⟩
/-! ### the second form's, behind another state -/
theorem hold_rpnew (h : Hold w0 w L (Sep A B)) (hA : Foot A) (hB : Foot B) (c : Int) (hc : 0 ≤ c ∧ c ≤ 1000) : Calls Try.prog 12 #[.int .i64 c] w fun e w' => ∃ g, e = .returned (pz g) ∧ Hold w0 w' L (Sep A (Sep (RpP g (Pd.new c)) B)) := by
  refine (rpnew_any c w hc).mono ?_
  rintro e w' ⟨rfl, h1, hg⟩
  exact ⟨_, rfl, h.beside2 hA hB hg h1 (fun k hk => by have hk : k = w.heap.size := hk; omega)⟩
theorem hold_rpup (h : Hold w0 w L (Sep A (Sep (RpP g s) B))) (hA : Foot A) (hB : Foot B) (he : s.up = er := by rfl) (hs : s.aftUp = s' := by rfl) : Calls Try.prog 14 #[pz g] w fun e w' => e = .returned (.int .i64 er) ∧ Hold w0 w' L (Sep A (Sep (RpP g s') B)) := by
  subst he hs
  exact (h.rot.call ((RpP.foot _ _).sep (hA.sep hB)) (Sep.callL (hA.sep hB) fun F hS => rpup_any g s w F hS)).mono fun e w' ⟨q1, q2⟩ => ⟨q1, q2.rot⟩
theorem hold_rpdrain (h : Hold w0 w L (Sep A (Sep (RpP g s) B))) (hA : Foot A) (hB : Foot B) (he : s.drain = er := by rfl) (hs : s.aftDrain = s' := by rfl) : Calls Try.prog 16 #[pz g] w fun e w' => e = .returned (.int .i64 er) ∧ Hold w0 w' L (Sep A (Sep (RpP g s') B)) := by
  subst he hs
  exact (h.rot.call ((RpP.foot _ _).sep (hA.sep hB)) (Sep.callL (hA.sep hB) fun F hS => rpdrain_any g s w F hS)).mono fun e w' ⟨q1, q2⟩ => ⟨q1, q2.rot⟩
theorem hold_rptake (h : Hold w0 w L (Sep A (Sep (RpP g s) B))) (hA : Foot A) (hB : Foot B) (x : Int) (hx : wf64 x) (he : s.take x = er := by rfl) (hs : s.aftTake x = s' := by rfl) : Calls Try.prog 23 #[pz g, .int .i64 x] w fun e w' => e = .returned (.int .i64 er) ∧ Hold w0 w' L (Sep A (Sep (RpP g s') B)) := by
  subst he hs
  exact (h.rot.call ((RpP.foot _ _).sep (hA.sep hB)) (Sep.callL (hA.sep hB) fun F hS => rptake_any g s x w F hS hx)).mono fun e w' ⟨q1, q2⟩ => ⟨q1, q2.rot⟩
theorem hold_rpgive (h : Hold w0 w L (Sep A (Sep (RpP g s) B))) (hA : Foot A) (hB : Foot B) (x : Int) (he : s.give x = er := by rfl) (hs : s.aftGive x = s' := by rfl) : Calls Try.prog 21 #[pz g, .int .i64 x] w fun e w' => e = .returned (.int .i64 er) ∧ Hold w0 w' L (Sep A (Sep (RpP g s') B)) := by
  subst he hs
  exact (h.rot.call ((RpP.foot _ _).sep (hA.sep hB)) (Sep.callL (hA.sep hB) fun F hS => rpgive_any g s x w F hS)).mono fun e w' ⟨q1, q2⟩ => ⟨q1, q2.rot⟩
theorem hold_rpstate (h : Hold w0 w L (Sep A (Sep (RpP g s) B))) (he : s.st = er := by rfl) : Calls Try.prog 25 #[pz g] w fun e w' => e = .returned (.int .i64 er) ∧ Hold w0 w' L (Sep A (Sep (RpP g s) B)) := by
  subst he
  obtain ⟨F, ⟨F1, F2, ⟨m, hI, _⟩, _⟩, _⟩ := h.rot.st
  refine (rpstate_any g s m w hI).mono ?_
  rintro e w' ⟨rfl, rfl⟩
  exact ⟨rfl, h⟩
theorem hold_rpload (h : Hold w0 w L (Sep A (Sep (RpP g s) B))) (he : (s.l.length : Int) = er := by rfl) : Calls Try.prog 27 #[pz g] w fun e w' => e = .returned (.int .i64 er) ∧ Hold w0 w' L (Sep A (Sep (RpP g s) B)) := by
  subst he
  obtain ⟨F, ⟨F1, F2, ⟨m, hI, _⟩, _⟩, _⟩ := h.rot.st
  refine (rpload_any g s m w hI).mono ?_
  rintro e w' ⟨rfl, rfl⟩
  exact ⟨rfl, h⟩
theorem hold_rpkill (h : Hold w0 w L (Sep A (Sep (RpP g s) B))) (hA : Foot A) (hB : Foot B) (he : s.kill = er := by rfl) (hs : s.aftKill = s' := by rfl) : Calls Try.prog 18 #[pz g] w fun e w' => ∃ v, e = .returned (.tuple #[v, .int .i64 er]) ∧ Hold w0 w' L (Sep A (Sep (RpP g s') (Sep (IntF v s.lost) B))) := by
  subst he hs
  refine (Hold.callE h.rot (Sep.callLE (hA.sep hB) fun F hS => rpkill_any g s w F hS)).mono ?_
  rintro e w' ⟨v, rfl, hh⟩
  refine ⟨v, rfl, ?_⟩
  have h1 : Hold w0 w' L (Sep (RpP g s.aftKill) (Sep (IntF v s.lost) (Sep A B))) := hh.map fun F q => q.assoc
  have h2 : Hold w0 w' L (Sep (RpP g s.aftKill) (Sep A (Sep (IntF v s.lost) B))) := h1.map fun F q => q.under fun F q => q.rot
  exact h2.rot
end
set_option maxHeartbeats 1000000 in
/-- Two rows of the same numbers. -/
theorem ints7_same (a1 a2 : Option Addr) (c1 c2 : Nat) (l : List Int) (w : World) (hl : l.length ≤ 100000) (h1 : w.ownsRow 0 3 1 (.slice a1 l.length c1) l.length (intsV l)) (h2 : w.ownsRow 0 3 1 (.slice a2 l.length c2) l.length (intsV l)) :
    Calls Try.prog 19 #[.slice a1 l.length c1, .slice a2 l.length c2] w fun e w' => e = .returned (.bool true) ∧ Grow.G w w' := by
  have H1 := Lib.hid (own_ints h1)
  have H2 := Lib.hid (own_ints h2)
  clear h1 h2
  go_enter Try.func19, Try.ntmps19
  go_wp2_with fail
  go_loopw [5] (fun i wr => ∃ k : Nat, k ≤ l.length ∧ i = .int .i64 k ∧ Hid (Grow.G w wr)) (fun i _ => l.length - (intOf i).toNat)
  case atStart => exact ⟨0, by omega, rfl, Lib.hid (Grow.G.refl _)⟩
  case round =>
    obtain ⟨k, hk, rfl, G⟩ := hrel
    by_cases hlt : k < l.length
    · obtain ⟨y, hy⟩ : ∃ y, l[k]? = some y := ⟨_, List.getElem?_eq_getElem hlt⟩
      obtain ⟨g1, rfl, hc, hg1, hcl⟩ := H1.out.resolve_left (fun e => by rw [e.2.2] at hlt; simp at hlt)
      obtain ⟨g2, rfl, hc2, hg2, hcl2⟩ := H2.out.resolve_left (fun e => by rw [e.2.2] at hlt; simp at hlt)
      have cy := cell_later G.out (hcl k y hy)
      have cz := cell_later G.out (hcl2 k y hy)
      have KC := Lib.hid (fun (w' : World) (h : Chg (fun _ => False) wr w') => (⟨h.cell cy id, h.cell cz id, trivial⟩ : w'.cell? ⟨g1, k, none⟩ = some (.int .i64 y) ∧ w'.cell? ⟨g2, k, none⟩ = some (.int .i64 y) ∧ True))
      have d0 : decide ((k : Int) < (l.length : Int)) = true := decide_eq_true (by omega)
      have hk1 : IntKind.i64.wrap ((k : Int) + 1) = (k : Int) + 1 := IntWalk.i64_in _ ⟨by omega, by omega⟩
      have k1 : (0 : Int) ≤ (k : Int) := by omega
      have k2 : (k : Int) < (l.length : Int) := by omega
      clear hcl hcl2 hy cy cz
      go_wp2_with fail
      refine wp_spec (fun a0 A W => ∃ x17 x18 x19 x20 x21 x22 x23 x24 : Value, A = (((((((((a0.put (some 17) x17).put (some 18) x18).put (some 19) x19).put (some 20) x20).put (some 21) x21).put (some 22) x22).put (some 23) x23).put (some 24) x24).put (some 25) (.bool false)) ∧ Hid (Grow.G wr W)) ?_ ?_
      all_goals simp only [Act.put, L0, L1, L2]
      ·
        refine Evo2.start' (ℓ := none) (S := Chg (fun _ => False)) (E := Grow.G) (by kernel_rfl) ⟨Chg.pre _, by decide +kernel, (by intro c a d v w h; cases d <;> exact h), by decide +kernel⟩ (fun ok => ?_)
        refine Evo2.va ok 0 _ _ ?_
        refine Evo2.va ok 1 _ _ ?_
        refine Evo2.va ok 2 _ _ ?_
        first | (refine Evo2.vl ok 3 KC.out (Chg.refl (fun _ => False) _) _ _ ?_) | (refine Evo2.va ok 3 _ _ ?_)
        refine Evo2.va ok 4 _ _ ?_
        refine Evo2.va ok 5 _ _ ?_
        refine Evo2.va ok 6 _ _ ?_
        first | (refine Evo2.vl ok 7 KC.out (Chg.refl (fun _ => False) _) _ _ ?_) | (refine Evo2.va ok 7 _ _ ?_)
        refine Evo2.va ok 8 _ _ ?_
        refine Evo2.done (by decide +kernel) (fun wz gz => ?_)
        have AZ := Chg.trans (Chg.refl (fun _ => False) _) (Chg.grow gz)
        dsimp only [PostN] 
        (repeat apply Exists.intro) 
        exact ⟨rfl, Lib.hid (AZ.toGrow (fun _ _ => id))⟩
      ·
        rintro A W2 ⟨x17, x18, x19, x20, x21, x22, x23, x24, rfl, g2⟩
        have G2 := Lib.hid (G.out.trans g2.out)
        go_wp2_with fail
        go_roundw
        case rel => exact ⟨k + 1, by omega, by go_num, G2⟩
        case measure => simp [intOf]; omega
    · obtain rfl : k = l.length := by omega
      have d0 : decide ((l.length : Int) < (l.length : Int)) = false := decide_eq_false (by omega)
      go_wp2_with fail
      go_ret
      exact ⟨rfl, G.out⟩
set_option maxHeartbeats 1000000 in
theorem known7_any (w : World) : Calls Try.prog 9 #[] w fun e w' => e = .returned (.bool true) ∧ Below w.heap.size w w' := by
  go_enter Try.func9, Try.ntmps9
  go_wp2_with fail
  refine (hold_pnew (Hold.nil w) Emp.foot 1 (by decide)).mono ?_
  rintro e w1 ⟨g, rfl, hst⟩
  have H := Lib.hid hst
  clear hst
  go_wp2_with fail
  refine (hold_pstate (er := 1) H.out).mono ?_
  rintro e ws1 ⟨rfl, hst⟩
  replace H := Lib.hid hst
  clear hst
  go_wp2_with fail
  refine (hold_pload (er := 0) H.out).mono ?_
  rintro e ws2 ⟨rfl, hst⟩
  replace H := Lib.hid hst
  clear hst
  go_wp2_with fail
  refine (hold_ptake (er := 9) (s' := Pd.new 1) H.out Emp.foot 1 (by unfold wf64; omega)).mono ?_
  rintro e ws3 ⟨rfl, hst⟩
  replace H := Lib.hid hst
  clear hst
  go_wp2_with fail
  refine (hold_pup (er := 0) (s' := ⟨1, 2, []⟩) H.out Emp.foot).mono ?_
  rintro e ws4 ⟨rfl, hst⟩
  replace H := Lib.hid hst
  clear hst
  go_wp2_with fail
  refine (hold_ptake (er := 0) (s' := ⟨1, 2, [1]⟩) H.out Emp.foot 1 (by unfold wf64; omega)).mono ?_
  rintro e ws5 ⟨rfl, hst⟩
  replace H := Lib.hid hst
  clear hst
  go_wp2_with fail
  refine (hold_pload (er := 1) H.out).mono ?_
  rintro e ws6 ⟨rfl, hst⟩
  replace H := Lib.hid hst
  clear hst
  go_wp2_with fail
  go_ret
  exact ⟨rfl, H.out.below⟩
end Go.Proofs.Ytkjcofgdilfdkaa

/- Pods: what the laws' walks know plainly. -/
namespace Go
set_option linter.unusedVariables false
open Go.RowKit
section
variable {w0 w : World} {L : List MBox} {A B C D : Hp} {F : Nat → Prop}
/-- A state of which some is forgotten. -/
theorem Hold.weak (h : Hold w0 w L A) (f : ∀ F, A w F → ∃ F', B w F' ∧ ∀ k, F' k → F k) : Hold w0 w L B := by
  obtain ⟨F, h1, h2, h3⟩ := h.st
  obtain ⟨F', q1, q2⟩ := f F h1
  exact ⟨h.mem, F', q1, fun k hk => h2 k (q2 k hk), fun b hb q => h3 b hb (q2 _ q)⟩
theorem Sep.weakR (h : Sep A B w F) (f : ∀ F, B w F → ∃ F', C w F' ∧ ∀ k, F' k → F k) : ∃ F', Sep A C w F' ∧ ∀ k, F' k → F k := by
  obtain ⟨F1, F2, a, b, ap, e⟩ := h
  obtain ⟨F', q1, q2⟩ := f F2 b
  exact ⟨fun k => F1 k ∨ F' k, ⟨F1, F', a, q1, fun k h1 h2 => ap k h1 (q2 k h2), fun k => Iff.rfl⟩, fun k hk => (e k).2 (hk.imp id (q2 k))⟩
theorem Sep.dropL (h : Sep A B w F) : ∃ F', B w F' ∧ ∀ k, F' k → F k := by
  obtain ⟨F1, F2, a, b, ap, e⟩ := h
  exact ⟨F2, b, fun k hk => (e k).2 (.inr hk)⟩
theorem Sep.dropL2 (h : Sep A (Sep B C) w F) : ∃ F', C w F' ∧ ∀ k, F' k → F k := by
  obtain ⟨F1, q1, q2⟩ := h.dropL
  obtain ⟨F2, q3, q4⟩ := q1.dropL
  exact ⟨F2, q3, fun k hk => q2 k (q4 k hk)⟩
theorem Hold.rot2 (h : Hold w0 w L (Sep A (Sep B (Sep C D)))) : Hold w0 w L (Sep C (Sep A (Sep B D))) := (h.map fun F q => q.under fun F q => q.rot).rot
theorem Hold.tor2 (h : Hold w0 w L (Sep C (Sep A (Sep B D)))) : Hold w0 w L (Sep A (Sep B (Sep C D))) := h.rot.map fun F q => q.under fun F q => q.rot
end
end Go
namespace Go.Proofs.Ytkjcofgdilfdkaa
set_option maxRecDepth 100000
set_option linter.unusedVariables false
set_option linter.unusedSimpArgs false
open Go.RowKit Go.MapV

/-- What was told by both is the same. -/
theorem told_same {w0 w : World} {L : List MBox} {A B C : Hp} {u v : Value} {l : List Int} (h : Hold w0 w L (Sep A (Sep B (Sep (IntF u l) (Sep (IntF v l) C))))) (hl : l.length ≤ 100000) (hA : Foot A) (hB : Foot B) (hC : Foot C) :
    Calls Try.prog 19 #[v, u] w fun e w' => e = .returned (.bool true) ∧ Hold w0 w' L (Sep A (Sep B C)) := by
  obtain ⟨F, ⟨F1, F2, a, ⟨F3, F4, b, ⟨F5, F6, hu, ⟨F7, F8, hv, c, _⟩, _⟩, _⟩, _⟩, _⟩ := id h.st
  obtain ⟨a1, c1, e1⟩ := own_shape hu.1
  obtain ⟨a2, c2, e2⟩ := own_shape hv.1
  subst e1 e2
  refine (ints7_same a2 a1 c2 c1 l w hl hv.1 hu.1).mono ?_
  rintro e w' ⟨rfl, hg⟩
  have h2 : Hold w0 w L (Sep A (Sep B C)) := h.weak fun F q => q.weakR fun F q => q.weakR fun F q => q.dropL2
  exact ⟨rfl, h2.grow (hA.sep (hB.sep hC)) hg⟩
theorem told_room {w0 w : World} {L : List MBox} {A C : Hp} {u v : Value} {l : List Int} (h : Hold w0 w L (Sep A (Sep (IntF v l) (Sep (IntF u l) C)))) (hl : l.length ≤ 100000) (hA : Foot A) (hC : Foot C) :
    Calls Try.prog 19 #[v, u] w fun e w' => e = .returned (.bool true) ∧ Hold w0 w' L (Sep A C) := by
  obtain ⟨F, ⟨F1, F2, a, ⟨F3, F4, hv, ⟨F7, F8, hu, c, _⟩, _⟩, _⟩, _⟩ := id h.st
  obtain ⟨a1, c1, e1⟩ := own_shape hu.1
  obtain ⟨a2, c2, e2⟩ := own_shape hv.1
  subst e1 e2
  refine (ints7_same a2 a1 c2 c1 l w hl hv.1 hu.1).mono ?_
  rintro e w' ⟨rfl, hg⟩
  have h2 : Hold w0 w L (Sep A C) := h.weak fun F q => q.weakR fun F q => q.dropL2
  exact ⟨rfl, h2.grow (hA.sep hC) hg⟩
/-- Two rising rows of the same numbers are one. -/
theorem sorted_ext {l m : List Int} (h : l.Pairwise (· < ·)) (k : m.Pairwise (· < ·)) (e : ∀ x, x ∈ l ↔ x ∈ m) : l = m := by
  refine List.Perm.eq_of_pairwise (le := (· < ·)) (fun a b _ _ h1 h2 => by omega) h k ?_
  exact (List.perm_ext_iff_of_nodup (nodup_lt h) (nodup_lt k)).2 e
theorem ins_cut {l : List Int} {x : Int} (h : l.Pairwise (· < ·)) (hx : x ∈ l) : insZ (cutZ l x) x = l := by
  refine sorted_ext (insZ_lt x _ (cutZ_lt h x) (fun q => (cutZ_mem.1 q).2 rfl)) h fun y => ?_
  rw [insZ_mem, cutZ_mem]
  constructor
  · rintro (rfl | ⟨h, _⟩)
    · exact hx
    · exact h
  · intro hy
    by_cases e : y = x
    · exact .inl e
    · exact .inr ⟨hy, e⟩
/-- The numbers from a + 1 to a + n. -/
def fromTo (a n : Nat) : List Int := (List.range' (a + 1) n).map Nat.cast
theorem mem_fromTo {a n : Nat} {x : Int} : x ∈ fromTo a n ↔ (a : Int) < x ∧ x ≤ a + n := by
  unfold fromTo
  simp only [List.mem_map, List.mem_range'_1]
  constructor
  · rintro ⟨i, hi, rfl⟩; omega
  · intro h; exact ⟨x.toNat, by omega, by omega⟩
theorem len_fromTo (a n : Nat) : (fromTo a n).length = n := by simp [fromTo]
theorem lt_fromTo (a n : Nat) : (fromTo a n).Pairwise (· < ·) := by
  unfold fromTo
  refine List.pairwise_map.2 ((List.pairwise_lt_range' (s := a + 1) (n := n)).imp fun {x y} h => ?_)
  omega
theorem fill_one {K i : Nat} (h : i < K) : (⟨K, 2, fromTo 0 i⟩ : Pd).take ((i : Int) + 1) = 0 ∧ (⟨K, 2, fromTo 0 i⟩ : Pd).aftTake ((i : Int) + 1) = ⟨K, 2, fromTo 0 (i + 1)⟩ := by
  have h1 : ((i : Int) + 1) ∉ fromTo 0 i := fun q => by have := mem_fromTo.1 q; omega
  have e : (⟨K, 2, fromTo 0 i⟩ : Pd).take ((i : Int) + 1) = 0 := by
    unfold Pd.take
    rw [if_pos rfl, if_neg h1, if_neg (by rw [len_fromTo]; show ¬ ((K : Int) ≤ _); omega)]
  refine ⟨e, ?_⟩
  unfold Pd.aftTake
  rw [if_pos e]
  have e2 : insZ (fromTo 0 i) ((i : Int) + 1) = fromTo 0 (i + 1) := sorted_ext (insZ_lt _ _ (lt_fromTo _ _) h1) (lt_fromTo _ _) fun x => by
    rw [insZ_mem, mem_fromTo, mem_fromTo]; omega
  show (⟨K, 2, insZ (fromTo 0 i) ((i : Int) + 1)⟩ : Pd) = _
  rw [e2]
theorem fill_all {K : Nat} {x : Int} (h1 : 1 ≤ x) (h2 : x ≤ K) (hK : K ≤ 8) (U V : Pd) (hU : U = ⟨K, 2, fromTo 0 K⟩) (hV : V = ⟨K, 2, cutZ (fromTo 0 K) x⟩) :
    U.take 99 = 8 ∧ U.aftTake 99 = U ∧ U.give x = 0 ∧ U.aftGive x = V ∧ V.give x = 6 ∧ V.aftGive x = V ∧ (V.l.length : Int) = (K : Int) - 1 ∧ V.take x = 0 ∧ V.aftTake x = U ∧ (U.l.length : Int) = K := by
  subst hU hV
  have hx : x ∈ fromTo 0 K := mem_fromTo.2 (by omega)
  have hn : (99 : Int) ∉ fromTo 0 K := fun q => by have := mem_fromTo.1 q; omega
  have hc : x ∉ cutZ (fromTo 0 K) x := fun q => (cutZ_mem.1 q).2 rfl
  have hl := cutZ_len (nodup_lt (lt_fromTo 0 K)) hx
  rw [len_fromTo] at hl
  have t1 : (⟨K, 2, fromTo 0 K⟩ : Pd).take 99 = 8 := by
    unfold Pd.take
    rw [if_pos rfl, if_neg hn, if_pos (by rw [len_fromTo]; exact Int.le_refl _)]
  have t2 : (⟨K, 2, cutZ (fromTo 0 K) x⟩ : Pd).take x = 0 := by
    unfold Pd.take
    rw [if_pos rfl, if_neg hc, if_neg (by show ¬ ((K : Int) ≤ ((cutZ (fromTo 0 K) x).length : Int)); omega)]
  refine ⟨t1, ?_, if_pos hx, ?_, if_neg hc, if_neg hc, ?_, t2, ?_, ?_⟩
  · unfold Pd.aftTake; rw [t1, if_neg (by decide)]
  · unfold Pd.aftGive
    rw [if_pos hx]
    show (⟨K, if (2 : Int) = 3 ∧ _ then 4 else 2, cutZ (fromTo 0 K) x⟩ : Pd) = _
    rw [if_neg (fun e => absurd e.1 (by decide))]
  · show ((cutZ (fromTo 0 K) x).length : Int) = _
    omega
  · unfold Pd.aftTake
    rw [if_pos t2]
    show (⟨K, 2, insZ (cutZ (fromTo 0 K) x) x⟩ : Pd) = _
    rw [ins_cut (lt_fromTo 0 K) hx]
  · show ((fromTo 0 K).length : Int) = _
    rw [len_fromTo]
/-- Being drained: of m numbers i have been given back. -/
def drn (K m i : Nat) : Pd := ⟨K, if i = m then 4 else 3, fromTo i (m - i)⟩
theorem fromTo_nil {a n : Nat} : fromTo a n = [] ↔ n = 0 := by
  constructor
  · intro h; rw [← len_fromTo a n, h]; rfl
  · rintro rfl; rfl
theorem drn_start (K m : Nat) : (⟨K, 2, fromTo 0 m⟩ : Pd).drain = 0 ∧ (⟨K, 2, fromTo 0 m⟩ : Pd).aftDrain = drn K m 0 := by
  refine ⟨if_pos (.inr rfl), ?_⟩
  unfold Pd.aftDrain drn
  rw [if_pos (.inr rfl)]
  show (⟨K, if fromTo 0 m = [] then 4 else 3, fromTo 0 m⟩ : Pd) = ⟨K, _, fromTo 0 (m - 0)⟩
  by_cases h : m = 0
  · subst h; rfl
  · rw [if_neg (fun e => h (fromTo_nil.1 e)), if_neg (fun e => h e.symm)]; rfl
theorem drn_take (K m i : Nat) : (drn K m i).take 99 = 9 ∧ (drn K m i).aftTake 99 = drn K m i := by
  have h : (drn K m i).st ≠ 2 := by
    unfold drn; dsimp only; split <;> decide
  have e : (drn K m i).take 99 = 9 := if_neg h
  exact ⟨e, by unfold Pd.aftTake; rw [e, if_neg (by decide)]⟩
theorem drn_step {K m i : Nat} (h : i < m) : (drn K m i).st = 3 ∧ ((drn K m i).l.length : Int) = (m : Int) - ((i : Int) + 1) + 1 ∧ (drn K m i).drain = 9 ∧ (drn K m i).aftDrain = drn K m i ∧ (drn K m i).up = 9 ∧ (drn K m i).aftUp = drn K m i ∧ (drn K m i).give ((i : Int) + 1) = 0 ∧ (drn K m i).aftGive ((i : Int) + 1) = drn K m (i + 1) := by
  have e : drn K m i = ⟨K, 3, fromTo i (m - i)⟩ := by unfold drn; rw [if_neg (by omega)]
  rw [e]
  have hx : ((i : Int) + 1) ∈ fromTo i (m - i) := mem_fromTo.2 (by omega)
  have hc : cutZ (fromTo i (m - i)) ((i : Int) + 1) = fromTo (i + 1) (m - (i + 1)) := sorted_ext (cutZ_lt (lt_fromTo _ _) _) (lt_fromTo _ _) fun x => by
    rw [cutZ_mem, mem_fromTo, mem_fromTo]; omega
  refine ⟨rfl, by show ((fromTo i (m - i)).length : Int) = _; rw [len_fromTo]; omega, rfl, rfl, rfl, rfl, if_pos hx, ?_⟩
  unfold Pd.aftGive drn
  rw [if_pos hx]
  show (⟨K, if (3 : Int) = 3 ∧ cutZ (fromTo i (m - i)) ((i : Int) + 1) = [] then 4 else 3, cutZ (fromTo i (m - i)) ((i : Int) + 1)⟩ : Pd) = _
  rw [hc]
  by_cases h2 : i + 1 = m
  · rw [if_pos ⟨rfl, fromTo_nil.2 (by omega)⟩, if_pos h2]
  · rw [if_neg (fun e => by have := fromTo_nil.1 e.2; omega), if_neg h2]
theorem drn_end (K m : Nat) : drn K m m = ⟨K, 4, []⟩ := by
  unfold drn; rw [if_pos rfl, Nat.sub_self]; rfl
end Go.Proofs.Ytkjcofgdilfdkaa
