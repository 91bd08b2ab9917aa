/- My own texts TsF, RfHold, RfVer, ShSame, RfSame, laid in one file. -/
import Derived.Test.YtlnffdkaleapbaaGreatZ29
import Derived.Test.YtlnffdkaleapbaaGreatZ8
import Derived.Test.YtlnffdkaleapbaaGreatZ64
import Derived.Test.YtlnffdkaleapbaaGreatZ65
import Derived.Test.YtlnffdkaleapbaaGreatZ63
import Derived.Test.YtlnffdkaleapbaaGreatZ35

/- A row of targets among what a law holds. -/
namespace Go.Proofs.YtlnffdkaleapbaaGreat
set_option maxRecDepth 100000
set_option linter.unusedVariables false
set_option linter.unusedSimpArgs false
open Go.RowKit

def TsF (base : Nat) (v : Value) (ts : List Tgt) : Hp := RowF base 84 3 v ts.length (flatT ts)
theorem TsF.foot (base : Nat) (v : Value) (ts : List Tgt) : Foot (TsF base v ts) := RowF.foot _ _ _ _ _ _
theorem hold_ts {w0 w w' : World} {L : List MBox} {A B : Hp} (h : Hold w0 w L (Sep A B)) (hA : Foot A) (hB : Foot B) {v : Value} {ts : List Tgt} (g : Grow.G w w') (ho : OwnTs w' w.heap.size v ts) : Hold w0 w' L (Sep A (Sep (TsF w.heap.size v ts) B)) :=
  h.beside2 hA hB g (F₁ := fun k => v.ownBlock = some k) ⟨ho, fun k => Iff.rfl⟩ (fun k hk => (ho.lt k hk).1)
theorem see_ts {w0 w : World} {L : List MBox} {A B : Hp} {base n c : Nat} {a : Option Addr} {ts : List Tgt} (h : Hold w0 w L (Sep A (Sep (TsF base (.slice a n c) ts) B))) : TgtSl w a ts := by
  obtain ⟨F, ⟨F1, F2, _, ⟨F3, F4, q, _⟩, _⟩, _⟩ := h.st
  have ho : OwnTs w base (.slice a n c) ts := q.1
  obtain ⟨sa, c', hv⟩ := own_shape ho
  cases hv
  exact ho.tgts.1
end Go.Proofs.YtlnffdkaleapbaaGreat

/- The second form's shelf among what a law holds, behind the program's. -/
namespace Go.Proofs.YtlnffdkaleapbaaGreat
set_option maxRecDepth 100000
set_option linter.unusedVariables false
set_option linter.unusedSimpArgs false
set_option linter.unnecessarySimpa false
open Go.RowKit Go.MapV Go.Maps

theorem rputC_any (g : Nat) (s : Sh) (c : Cfg) (v : Int) (w : World) (F : Nat → Prop) (h : RfP g s w F) (hsz : c.nm.size ≤ 140737488351232) (hn : s.n < 1000000) :
    Calls Tryz.prog 10 #[pt g, c.v, .int .i64 v] w fun e w' => e = .returned (.tuple #[.int .i64 (s.numOf (s.putC c v)), .int .i64 (s.putC c v)]) ∧ EndS w w' F (RfP g (s.aftC c v)) := by
  by_cases he : c.err = 0
  · by_cases hr : mayP (verO (s.cf c.nm)) v = 0
    · exact rputC_yes g s c v w F h hsz hn he hr
    · exact rputC_no g s c v w F h hsz he _ rfl hr
  · exact rputC_bad g s c v w F h hsz he
theorem rputR_any (g : Nat) (s : Sh) (r : Rt) (a : Option Addr) (cap : Nat) (v : Int) (w : World) (F : Nat → Prop) (h : RfP g s w F) (h1 : r.nm.size ≤ 140737488351232) (h2 : r.cf.size ≤ 140737488351232) (hl : r.ts.length ≤ 1000) (ht : TgtSl w a r.ts) (hk : ∀ i, i < r.ts.length → (r.ts.getD i tg0).ok) (ha : ∀ b o, a = some ⟨b, o, none⟩ → ¬ F b ∧ b < w.heap.size) (hn : s.n < 1000000) :
    Calls Tryz.prog 13 #[pt g, rtV r.nm r.cf (.slice a r.ts.length cap) r.rl, .int .i64 v] w fun e w' => e = .returned (.tuple #[.int .i64 (s.numOf (s.putR r v)), .int .i64 (s.putR r v)]) ∧ EndS w w' F (RfP g (s.aftR r v)) := by
  by_cases he : r.err = 0
  · by_cases hr : mayP (verO (s.rt r.nm)) v = 0
    · exact rputR_yes g s r a cap v w F h h1 h2 hl ht hk ha hn he hr
    · exact rputR_no g s r a cap v w F h h1 h2 (by unfold maxLen; omega) ht hk he _ rfl hr
  · exact rputR_bad g s r a cap v w F h h1 h2 (by unfold maxLen; omega) ht hk he
section
variable {w0 w : World} {L : List MBox} {A B : Hp} {g : Nat} {s : Sh}
theorem hold_rfputC (h : Hold w0 w L (Sep A (Sep (RfP g s) B))) (hA : Foot A) (hB : Foot B) (c : Cfg) (v : Int) (hc : c.nm.size ≤ 140737488351232) (hn : s.n < 1000000) :
    Calls Tryz.prog 10 #[pt g, c.v, .int .i64 v] w fun e w' => e = .returned (.tuple #[.int .i64 (s.numOf (s.putC c v)), .int .i64 (s.putC c v)]) ∧ Hold w0 w' L (Sep A (Sep (RfP g (s.aftC c v)) B)) :=
  (h.rot.call ((RfP.foot _ _).sep (hA.sep hB)) (Sep.callL (hA.sep hB) fun F hS => rputC_any g s c v w F hS hc hn)).mono fun e w' ⟨q1, q2⟩ => ⟨q1, q2.rot⟩
theorem hold_rfdrop (h : Hold w0 w L (Sep A (Sep (RfP g s) B))) (hA : Foot A) (hB : Foot B) (k : Int) (nm : ByteArray) (v : Int) (hn : s.n < 1000000) :
    Calls Tryz.prog 15 #[pt g, .int .i64 k, .string nm, .int .i64 v] w fun e w' => e = .returned (.int .i64 (s.drop k nm v)) ∧ Hold w0 w' L (Sep A (Sep (RfP g (s.aftD k nm v)) B)) :=
  (h.rot.call ((RfP.foot _ _).sep (hA.sep hB)) (Sep.callL (hA.sep hB) fun F hS => rdrop_any g s k nm v w F hS hn)).mono fun e w' ⟨q1, q2⟩ => ⟨q1, q2.rot⟩
theorem hold_rfputR {base cap : Nat} {a : Option Addr} {r : Rt} (h : Hold w0 w L (Sep A (Sep (RfP g s) (Sep (TsF base (.slice a r.ts.length cap) r.ts) B)))) (hA : Foot A) (hB : Foot B) (v : Int) (h1 : r.nm.size ≤ 140737488351232) (h2 : r.cf.size ≤ 140737488351232) (hl : r.ts.length ≤ 1000) (hk : ∀ i, i < r.ts.length → (r.ts.getD i tg0).ok) (hn : s.n < 1000000) :
    Calls Tryz.prog 13 #[pt g, rtV r.nm r.cf (.slice a r.ts.length cap) r.rl, .int .i64 v] w fun e w' => e = .returned (.tuple #[.int .i64 (s.numOf (s.putR r v)), .int .i64 (s.putR r v)]) ∧ Hold w0 w' L (Sep A (Sep (RfP g (s.aftR r v)) (Sep (TsF base (.slice a r.ts.length cap) r.ts) B))) := by
  have hT := TsF.foot base (.slice a r.ts.length cap) r.ts
  -- the row comes first, behind the shelf
  have h3 : Hold w0 w L (Sep (RfP g s) (Sep (TsF base (.slice a r.ts.length cap) r.ts) (Sep A B))) := (h.rot).map fun F q => q.under fun F q => q.rot
  refine (h3.call (R := fun e w' => e = .returned (.tuple #[.int .i64 (s.numOf (s.putR r v)), .int .i64 (s.putR r v)])) (A' := Sep (RfP g (s.aftR r v)) (Sep (TsF base (.slice a r.ts.length cap) r.ts) (Sep A B))) ((RfP.foot _ _).sep (hT.sep (hA.sep hB))) ?_).mono ?_
  · rintro F ⟨F1, F2, q1, q2, ap, e⟩
    have q3 := q2
    obtain ⟨F3, F4, t1, t2, ap2, e2⟩ := q2
    have ho : OwnTs w base (.slice a r.ts.length cap) r.ts := t1.1
    refine (rputR_any g s r a cap v w F1 q1 h1 h2 hl ho.tgts.1 hk (fun b o ea => ?_) hn).mono ?_
    · have hb : F3 b := (t1.2 b).2 (by rw [ea]; rfl)
      exact ⟨fun q => ap b q ((e2 b).2 (.inl hb)), hT.lt t1 b hb⟩
    · rintro x w' ⟨hr, F', a1, a2, a3⟩
      obtain ⟨b', ap'⟩ := (hT.sep (hA.sep hB)).keep q3 ap a2 a3
      refine ⟨hr, fun k => F' k ∨ F2 k, ⟨F', F2, a1, b', ap', fun k => Iff.rfl⟩, a2.sub fun k hk => (e k).2 (.inl hk), fun k hk => ?_⟩
      rcases hk with hk | hk
      · exact (a3 k hk).imp (fun q => (e k).2 (.inl q)) id
      · exact .inl ((e k).2 (.inr hk))
  · rintro e w' ⟨hr, hh⟩
    have h4 : Hold w0 w' L (Sep (RfP g (s.aftR r v)) (Sep A (Sep (TsF base (.slice a r.ts.length cap) r.ts) B))) := hh.map fun F q => q.under fun F q => q.rot
    exact ⟨hr, h4.rot⟩
theorem hold_rfcfg (h : Hold w0 w L (Sep A (Sep (RfP g s) B))) (hA : Foot A) (hB : Foot B) (nm : ByteArray) :
    Calls Tryz.prog 20 #[pt g, .string nm] w fun e w' => e = .returned (.tuple #[(s.cfgOf nm).1.v, .int .i64 (s.cfgOf nm).2.1, .int .i64 (s.cfgOf nm).2.2.1, .bool (s.cfgOf nm).2.2.2]) ∧ Grow.G w w' ∧ Hold w0 w' L (Sep A (Sep (RfP g s) B)) := by
  obtain ⟨F, ⟨F1, F2, a, _⟩, _⟩ := h.rot.st
  exact (rconfig_any g s nm w F1 a).mono fun e w' ⟨q1, q2⟩ => ⟨q1, q2, h.grow (hA.sep ((RfP.foot _ _).sep hB)) q2⟩
theorem hold_rfrt_none (h : Hold w0 w L (Sep A (Sep (RfP g s) B))) (hA : Foot A) (hB : Foot B) (nm : ByteArray) (hf : s.rt nm = none) :
    Calls Tryz.prog 21 #[pt g, .string nm] w fun e w' => e = .returned (.tuple #[rtV ⟨#[]⟩ ⟨#[]⟩ (.slice none 0 0) 0, .int .i64 0, .bool false]) ∧ Grow.G w w' ∧ Hold w0 w' L (Sep A (Sep (RfP g s) B)) := by
  obtain ⟨F, ⟨F1, F2, a, _⟩, _⟩ := h.rot.st
  exact (rroute_none g s nm w F1 a hf).mono fun e w' ⟨q1, q2⟩ => ⟨q1, q2, h.grow (hA.sep ((RfP.foot _ _).sep hB)) q2⟩
theorem hold_rfrt_some (h : Hold w0 w L (Sep A (Sep (RfP g s) B))) (hA : Foot A) (hB : Foot B) (nm : ByteArray) (r : Rt) (v : Nat) (hf : s.rt nm = some (r, v)) :
    Calls Tryz.prog 21 #[pt g, .string nm] w fun e w' => ∃ b cap, e = .returned (.tuple #[rtV r.nm r.cf (.slice (some ⟨b, 0, none⟩) r.ts.length cap) r.rl, .int .i64 v, .bool true]) ∧ OwnTs w' w.heap.size (.slice (some ⟨b, 0, none⟩) r.ts.length cap) r.ts ∧ Grow.G w w' ∧ Hold w0 w' L (Sep A (Sep (RfP g s) B)) := by
  obtain ⟨F, ⟨F1, F2, a, _⟩, _⟩ := h.rot.st
  refine (rroute_some g s nm r v w F1 a hf).mono ?_
  rintro e w' ⟨b, cap, rfl, ho, hg⟩
  exact ⟨b, cap, rfl, ho, hg, h.grow (hA.sep ((RfP.foot _ _).sep hB)) hg⟩
theorem hold_rfnames_at (h : Hold w0 w L (Sep A (Sep (RfP g s) B))) (hA : Foot A) (hB : Foot B) (k : Int) (L' : List ByteArray) (hn : s.n ≤ 5000) (hL : NamesOf (s.names k) L') :
    Calls Tryz.prog 38 #[pt g, .int .i64 k] w fun e w' => ∃ a c, e = .returned (.slice a L'.length c) ∧ w'.ownsRow w.heap.size 9 1 (.slice a L'.length c) L'.length (L'.map Value.string) ∧ Grow.G w w' ∧ Hold w0 w' L (Sep A (Sep (RfP g s) B)) := by
  obtain ⟨F, ⟨F1, F2, q, _⟩, _⟩ := h.rot.st
  refine (rnames_any g s k w F1 q hn).mono ?_
  rintro e w' ⟨v, L2, rfl, hL2, hl, ho, hg⟩
  obtain rfl := hL.uniq hL2
  obtain ⟨a, c, rfl⟩ := own_shape ho
  exact ⟨a, c, rfl, ho, hg, h.grow (hA.sep ((RfP.foot _ _).sep hB)) hg⟩
/-- A new one. -/
theorem RfP.new (w : World) : RfP w.heap.size Sh.new (w.alloc (.cells #[.slice none 0 0, .int .i64 0] rshT)) (fun k => k = w.heap.size) := by
  refine ⟨.slice none 0 0, [], OSh.new, Nat.le_refl _, Sh.ok_new, by decide, ⟨fun k => k = w.heap.size, fun _ => False, ⟨Blk.new w _ _, fun k => Iff.rfl⟩, ⟨fun _ => False, fun _ => False, ⟨⟨rfl, .inl ⟨rfl, rfl⟩⟩, fun k => ⟨False.elim, fun e => by cases e⟩⟩, ⟨[], rfl, fun i x f h => by simp at h, List.Pairwise.nil, fun k => by simp⟩, fun k h => h.elim, fun k => by simp⟩, fun k _ h => h.elim, fun k => by simp⟩⟩
end

set_option maxHeartbeats 4000000 in
/-- What follows once the object's version is known. -/
theorem hold_version {w0 w : World} {L : List MBox} {A B : Hp} {g : Nat} {s : Sh} (h : Hold w0 w L (Sep A (Sep (RfP g s) B))) (hA : Foot A) (hB : Foot B) (k : Int) (nm : ByteArray) (raw : Int) (hr : wf64 raw) :
    Calls Tryz.prog 8 #[pt g, .int .i64 k, .string nm, .int .i64 raw] w fun e w' => ∃ y : Int, e = .returned (.int .i64 y) ∧ Hold w0 w' L (Sep A (Sep (RfP g s) B)) := by
  have FT := Lib.hid (hA.sep ((RfP.foot g s).sep hB))
  have r1 := withinI_range raw 6 (by omega)
  have WI := Lib.hid (fun w => within4_any raw 6 w (by omega) (by omega) hr.1 hr.2)
  obtain ⟨r, hr6⟩ : ∃ r : Nat, withinI raw 6 = r := ⟨(withinI raw 6).toNat, by omega⟩
  rw [hr6] at r1 WI
  have H := Lib.hid h
  have CF := Lib.hid (fun w' (h' : Hold w0 w' L (Sep A (Sep (RfP g s) B))) => hold_rfcfg h' hA hB nm)
  have RN := Lib.hid (fun hf w' (h' : Hold w0 w' L (Sep A (Sep (RfP g s) B))) => hold_rfrt_none h' hA hB nm hf)
  have RS := Lib.hid (fun r v hf w' (h' : Hold w0 w' L (Sep A (Sep (RfP g s) B))) => hold_rfrt_some h' hA hB nm r v hf)
  have hr5 : r < 6 := by omega
  clear h hr r1 hr6 hA hB
  by_cases hk : k = 1
  case' pos =>
    have d0 : (k == 1) = true := by simpa using hk
    clear hk
    obtain ⟨cc, hcc⟩ : ∃ cc, s.cfgOf nm = cc := ⟨_, rfl⟩
    rw [hcc] at CF
    obtain ⟨⟨c0, c1, c2, c3, c4, c5⟩, cv, cg, ci⟩ := cc
    unfold Cfg.v at CF
    dsimp only at CF
    clear hcc
    go_enter Tryz.func8, Tryz.ntmps8
    go_wp2_with fail
    refine (CF.out _ H.out).mono ?_
    rintro e w1 ⟨rfl, hg, hst⟩
    replace H := Lib.hid hst
    clear hst hg CF RN RS
    go_wp2_with fail
    generalize cv = vv at *
  case' neg =>
    have d0 : (k == 1) = false := by simpa using hk
    clear hk CF
    cases hf : s.rt nm with
    | none =>
      have RN := Lib.hid (RN.out hf)
      unfold rtV at RN
      clear hf RS
      go_enter Tryz.func8, Tryz.ntmps8
      go_wp2_with fail
      refine (RN.out _ H.out).mono ?_
      rintro e w1 ⟨rfl, hg, hst⟩
      replace H := Lib.hid hst
      clear hst hg RN
      go_wp2_with fail
      refine (WI.out _).mono ?_
      rintro e wx ⟨rfl, rfl⟩
      have hcase : r = 0 ∨ r = 1 ∨ r = 2 ∨ r = 3 ∨ r = 4 ∨ r = 5 := by omega
      clear WI hr5
      rcases hcase with rfl | rfl | rfl | rfl | rfl | rfl
      all_goals
        go_wp2_with fail
        go_returns
        exact ⟨_, rfl, H.out.grow FT.out (Grow.G.alloc (Grow.G.refl _) _)⟩
    | some p =>
      obtain ⟨⟨r1, r2, ts, r3⟩, v⟩ := p
      have RS := Lib.hid (RS.out _ _ hf)
      unfold rtV at RS
      dsimp only at RS
      clear hf RN
      go_enter Tryz.func8, Tryz.ntmps8
      go_wp2_with fail
      refine (RS.out _ H.out).mono ?_
      rintro e w1 ⟨b, cap, rfl, ho, hg, hst⟩
      replace H := Lib.hid hst
      clear hst hg RS ho
      generalize (v : Int) = vv at *
      go_wp2_with fail
      refine (WI.out _).mono ?_
      rintro e wx ⟨rfl, rfl⟩
      have hcase : r = 0 ∨ r = 1 ∨ r = 2 ∨ r = 3 ∨ r = 4 ∨ r = 5 := by omega
      clear WI hr5
      rcases hcase with rfl | rfl | rfl | rfl | rfl | rfl
      all_goals
        go_wp2_with fail
        go_returns
        exact ⟨_, rfl, H.out.grow FT.out (Grow.G.alloc (Grow.G.refl _) _)⟩
  case pos =>
    refine (WI.out _).mono ?_
    rintro e wx ⟨rfl, rfl⟩
    have hcase : r = 0 ∨ r = 1 ∨ r = 2 ∨ r = 3 ∨ r = 4 ∨ r = 5 := by omega
    clear WI hr5
    rcases hcase with rfl | rfl | rfl | rfl | rfl | rfl
    all_goals
      go_wp2_with fail
      go_returns
      exact ⟨_, rfl, H.out.grow FT.out (Grow.G.alloc (Grow.G.refl _) _)⟩

def StrAt (w : World) (a : Option Addr) (L : List ByteArray) : Prop := ∀ k, k < L.length → ∃ r, a = some ⟨r, 0, none⟩ ∧ w.cell? ⟨r, k, none⟩ = some (.string (L.getD k ⟨#[]⟩))
set_option maxHeartbeats 2000000 in
theorem same4_any (w : World) (a : Option Addr) (c : Nat) (b : Option Addr) (d : Nat) (L : List ByteArray) (ha : StrAt w a L) (hb : StrAt w b L) (hl : L.length ≤ 1099511627776) :
    Calls Tryz.prog 37 #[.slice a L.length c, .slice b L.length d] w fun e w' => e = .returned (.bool true) ∧ Grow.G w w' := by
  have HA := Lib.hid ha
  have HB := Lib.hid hb
  clear ha hb
  go_enter Tryz.func37, Tryz.ntmps37
  go_wp2
  go_loopw [5] (fun i wr => ∃ k : Nat, k ≤ L.length ∧ i = .int .i64 k ∧ Grow.G w wr) (fun i _ => L.length - (intOf i).toNat)
  case atStart => exact ⟨0, by omega, rfl, Grow.G.refl _⟩
  case round =>
    obtain ⟨k, hk, rfl, hG⟩ := hrel
    have hk1 : IntKind.i64.wrap ((k : Int) + 1) = (k : Int) + 1 := IntWalk.i64_in _ ⟨by omega, by omega⟩
    by_cases hlt : k < L.length
    · obtain ⟨ra, rfl, ca⟩ := HA.out k hlt
      obtain ⟨rb, rfl, cb⟩ := HB.out k hlt
      generalize L.getD k ⟨#[]⟩ = x at *
      have t0 : decide ((k : Int) < (L.length : Int)) = true := decide_eq_true (by omega)
      have da : ∀ w', Grow.G wr w' → w'.cell? ⟨ra, k, none⟩ = some (.string x) := fun w' g => cell_later (hG.trans g) ca
      have db : ∀ w', Grow.G wr w' → w'.cell? ⟨rb, k, none⟩ = some (.string x) := fun w' g => cell_later (hG.trans g) cb
      clear ca cb
      go_wp2_with fail
      refine Grow.region_seqT (by kernel_rfl) (by kernel_rfl) (by intro c a d v w h; cases d <;> exact h) (by kernel_rfl) ?_
      repeat (first
        | (refine Grow.seqT.value ?_ (by rfl) ?_ ?_; rotate_left; (intro w' hg; go_simp <;> with_reducible rfl); simp only [Act.put, L0, L1, L2])
        | (refine Grow.seqT.value ?_ (by rfl) ?_ ?_; rotate_left; (intro w' hg; have ⟨hgc, hgf, hgz⟩ := bcell hg; go_simp <;> with_reducible rfl); simp only [Act.put, L0, L1, L2])
        | (refine Grow.seqT.value ?_ (by rfl) ?_ ?_; rotate_left; (intro w' hg; go_simp; rw [if_neg (by omega)]); simp only [Act.put, L0, L1, L2])
        | (refine Grow.seqT.idle (by rfl) ?_; simp only [Act.put, L0, L1, L2])
        )
      refine Grow.seqT.done (fun w4 g4 => ?_)
      go_wp2_with fail
      exact ⟨⟨k + 1, by omega, rfl, hG.trans g4⟩, by simp [intOf]; omega⟩
    · have t0 : decide ((k : Int) < (L.length : Int)) = false := decide_eq_false (by omega)
      go_wp2
      go_ret
      exact ⟨rfl, hG⟩

def sameNs : List ByteArray := [⟨#[119, 101, 98]⟩, ⟨#[97, 112, 105]⟩, ⟨#[97, 45, 98]⟩, ⟨#[102, 114, 111, 110, 116]⟩, ⟨#[98, 97, 99, 107]⟩, ⟨#[114, 45, 49]⟩, ⟨#[110, 111, 110, 101]⟩, ⟨#[]⟩]
abbrev TwoS (g q : Nat) (s : Sh) : Hp := Sep (ShP g s) (Sep (RfP q s) Emp)
theorem TwoS.foot (g q : Nat) (s : Sh) : Foot (TwoS g q s) := (ShP.foot g s).sep ((RfP.foot q s).sep Emp.foot)
theorem sameR_self (nm cf : ByteArray) (ts : List Tgt) (rl : Int) : sameR nm cf ts rl nm cf ts rl = true := by
  unfold sameR
  simp [sameTs_iff.2 rfl]
/-- Both shelves' Route, of whatever name: two routes that are the same. -/
def RtTold (w0 : World) (L : List MBox) (g q : Nat) (s : Sh) (f p : Nat) (nm : ByteArray) (r : Rt) (v : Int) (is : Bool) : Prop :=
  ∀ w', Hold w0 w' L (TwoS g q s) → Calls Tryz.prog f #[pt p, .string nm] w' fun e w'' => ∃ a c, e = .returned (.tuple #[rtV r.nm r.cf (.slice a r.ts.length c) r.rl, .int .i64 v, .bool is]) ∧ TgtSl w'' a r.ts ∧ (∀ b o, a = some ⟨b, o, none⟩ → b < w''.heap.size) ∧ Grow.G w' w'' ∧ Hold w0 w'' L (TwoS g q s)
theorem two_rt {w0 w : World} {L0 : List MBox} {g q : Nat} {s : Sh} (h : Hold w0 w L0 (TwoS g q s)) (nm : ByteArray) (hs : nm.size ≤ maxLen) :
    ∃ (r : Rt) (v : Int) (is : Bool), r.ts.length ≤ 1000 ∧ (∀ L, RtTold w0 L g q s 35 g nm r v is) ∧ (∀ L, RtTold w0 L g q s 21 q nm r v is) := by
  cases hf : s.rt nm with
  | none =>
    refine ⟨⟨⟨#[]⟩, ⟨#[]⟩, [], 0⟩, 0, false, Nat.zero_le _, fun L w' h' => ?_, fun L w' h' => ?_⟩
    · obtain ⟨F, ⟨F1, F2, a, _⟩, _⟩ := id h'.st
      refine (srt_none g F1 s nm w' a hs hf).mono ?_
      rintro e w'' ⟨rfl, hg⟩
      exact ⟨none, 0, rfl, .inl rfl, (fun b o e => by cases e), hg, h'.grow (TwoS.foot g q s) hg⟩
    · refine (hold_rfrt_none h' (ShP.foot g s) Emp.foot nm hf).mono ?_
      rintro e w'' ⟨rfl, hg, hh⟩
      exact ⟨none, 0, rfl, .inl rfl, (fun b o e => by cases e), hg, hh⟩
  | some p =>
    obtain ⟨r, v⟩ := p
    have hr : r.ts.length ≤ 1000 := by
      obtain ⟨F, ⟨F1, F2, ⟨mc, mr, mg, fr, hI⟩, _⟩, _⟩ := h.st
      have := rt_small (hI.ok.r nm r v hf).2.1
      omega
    refine ⟨r, v, true, hr, fun L w' h' => ?_, fun L w' h' => ?_⟩
    · obtain ⟨F, ⟨F1, F2, a, _⟩, _⟩ := id h'.st
      refine (srt_some g F1 s nm r v w' a hs hf).mono ?_
      rintro e w'' ⟨b, cap, rfl, ho, hg⟩
      exact ⟨_, cap, rfl, ho.tgts.1, (fun b' o e => (ho.tgts.2 b' o e).2), hg, h'.grow (TwoS.foot g q s) hg⟩
    · refine (hold_rfrt_some h' (ShP.foot g s) Emp.foot nm r v hf).mono ?_
      rintro e w'' ⟨b, cap, rfl, ho, hg, hh⟩
      exact ⟨_, cap, rfl, ho.tgts.1, (fun b' o e => (ho.tgts.2 b' o e).2), hg, hh⟩
/-- The eight names. -/
theorem sameNs_le : ∀ (k : Nat) (x : ByteArray), sameNs[k]? = some x → x.size ≤ 5 := by
  intro k x hx
  have h := List.mem_of_getElem? hx
  unfold sameNs at h
  simp only [List.mem_cons, List.not_mem_nil, or_false] at h
  rcases h with rfl | rfl | rfl | rfl | rfl | rfl | rfl | rfl <;> decide
set_option maxHeartbeats 16000000 in
theorem hold_same {w0 w : World} {g q : Nat} {s : Sh} (h : Hold w0 w [] (TwoS g q s)) (hn : s.n ≤ 1000) :
    Calls Tryz.prog 16 #[pt g, pt q] w fun e w' => e = .returned (.bool true) ∧ Hold w0 w' [] (TwoS g q s) := by
  have FT := Lib.hid (TwoS.foot g q s)
  have NM := Lib.hid sameNs_le
  have H0 := h.alloc' (TwoS.foot g q s) (sameNs.map Value.string) 9 rfl
  unfold sameNs at H0
  simp only [List.map_cons, List.map_nil] at H0
  simp only [K0, K1, L1, L2, K2, K3, K4, K5, K6, K7, Nat.reduceAdd, Nat.reduceSub] at H0
  have H := Lib.hid H0
  clear H0 h
  go_enter Tryz.func16, Tryz.ntmps16
  go_wp2_with fail
  go_loopw [6] (fun i wr => ∃ k : Nat, k ≤ 8 ∧ i = .int .i64 k ∧ Hid (Hold w0 wr [(w.heap.size, sameNs.map Value.string, 9)] (TwoS g q s))) (fun i _ => 8 - (intOf i).toNat)
  case atStart => exact ⟨0, by omega, rfl, H⟩
  case round =>
    clear H
    obtain ⟨k, hk, rfl, H⟩ := hrel
    by_cases h1 : k < 8
    · have d0 : decide ((k : Int) < 8) = true := decide_eq_true (by omega)
      have hk1 : IntKind.i64.wrap ((k : Int) + 1) = (k : Int) + 1 := IntWalk.i64_in _ ⟨by omega, by omega⟩
      have k1 : (0 : Int) ≤ (k : Int) := by omega
      have k2 : (k : Int) < 8 := by omega
      obtain ⟨nm, hnm⟩ : ∃ nm, sameNs[k]? = some nm := ⟨_, List.getElem?_eq_getElem (show k < sameNs.length from h1)⟩
      have hns := NM.out k nm hnm
      have hnv : (sameNs.map Value.string)[k]? = some (.string nm) := by rw [List.getElem?_map, hnm]; rfl
      have HV := Lib.hid hnv
      obtain ⟨r, v, is, hr, R1, R2⟩ := two_rt H.out nm (by unfold maxLen; omega)
      have R1 := Lib.hid R1
      have R2 := Lib.hid R2
      have CF := Lib.hid (fun L w' (h' : Hold w0 w' L (TwoS g q s)) => hold_cfg h' ((RfP.foot q s).sep Emp.foot) nm (by unfold maxLen; omega))
      have CR := Lib.hid (fun L w' (h' : Hold w0 w' L (TwoS g q s)) => hold_rfcfg h' (ShP.foot g s) Emp.foot nm)
      obtain ⟨cc, hcc⟩ : ∃ cc, s.cfgOf nm = cc := ⟨_, rfl⟩
      rw [hcc] at CF CR
      obtain ⟨⟨c0, c1, c2, c3, c4, c5⟩, cv, cg, ci⟩ := cc
      obtain ⟨rn, rc, ts, rl⟩ := r
      unfold RtTold rtV at R1 R2
      unfold Cfg.v at CF CR
      dsimp only at CF CR R1 R2 hr
      generalize hNV : sameNs.map Value.string = NV at *
      have hc0 : ∀ w', Blk w' w.heap.size NV.toArray 9 → w'.cell? ⟨w.heap.size, k, none⟩ = some (.string nm) := fun w' hb => by rw [hb.cell, List.getElem?_toArray]; exact hnv
      have HC := Lib.hid hc0
      have x0 := hc0 _ (H.out.mem.blk (i := 0) rfl)
      have HNV := Lib.hid hNV
      clear hnv hnm hcc hc0 hNV
      go_wp2_with fail
      refine (CF.out _ _ H.out).mono ?_
      rintro e w1 ⟨rfl, hst⟩
      replace H := Lib.hid hst
      clear hst x0 CF
      go_wp2_with ((refine Hold.storeAll 1 (t := 31) FT.out rfl rfl rfl rfl (n := 6) (by kernel_rfl) (Hold.alloc' H.out FT.out _ _ rfl) rfl rfl rfl rfl ?_; intro W1 HMm CW1))
      simp only [K0, K1, L1, L2, K2, K3, K4, K5, K6, K7, Nat.reduceAdd, Nat.reduceSub] at HMm
      replace H := Lib.hid HMm
      clear HMm
      refine Stay.go ?_
      have x0 := HC.out _ (H.out.mem.blk (i := 0) rfl)
      go_wp2_with fail
      refine (CR.out _ _ H.out).mono ?_
      rintro e w2 ⟨rfl, -, hst⟩
      replace H := Lib.hid hst
      clear hst x0 CR
      go_wp2_with ((refine Hold.storeAll 2 (t := 31) FT.out rfl rfl rfl rfl (n := 6) (by kernel_rfl) (Hold.alloc' H.out FT.out _ _ rfl) rfl rfl rfl rfl ?_; intro W2 HMm CW2))
      simp only [K0, K1, L1, L2, K2, K3, K4, K5, K6, K7, Nat.reduceAdd, Nat.reduceSub] at HMm
      replace H := Lib.hid HMm
      clear HMm
      refine Stay.go ?_
      have x0 := HC.out _ (H.out.mem.blk (i := 0) rfl)
      go_wp2_with fail
      refine (R1.out _ _ H.out).mono ?_
      rintro e w3 ⟨a1, d1, rfl, ht1, hb1, -, hst⟩
      replace H := Lib.hid hst
      have T1 := Lib.hid ht1
      have B1 := Lib.hid hb1
      clear hst x0 R1 ht1 hb1
      go_wp2_with ((refine Hold.storeAll 3 (t := 45) FT.out rfl rfl rfl rfl (n := 4) (by kernel_rfl) (Hold.alloc' H.out FT.out _ _ rfl) rfl rfl rfl rfl ?_; intro W3 HMm CW3))
      simp only [K0, K1, L1, L2, K2, K3, K4, K5, K6, K7, Nat.reduceAdd, Nat.reduceSub] at HMm
      replace H := Lib.hid HMm
      clear HMm
      refine Stay.go ?_
      have T1 := Lib.hid ((T1.out.later (Grow.G.alloc (Grow.G.refl _) _)).chg CW3 (fun b o e q => by have q : b = w3.heap.size := q; have := B1.out b o e; omega))
      have x0 := HC.out _ (H.out.mem.blk (i := 0) rfl)
      clear CW3 CW1 CW2 B1
      go_wp2_with fail
      refine (R2.out _ _ H.out).mono ?_
      rintro e w4 ⟨a2, d2, rfl, ht2, hb2, hg2, hst⟩
      replace H := Lib.hid hst
      have T1 := Lib.hid (T1.out.later hg2)
      have T2 := Lib.hid ht2
      have B2 := Lib.hid hb2
      have HB1 : Hid (∀ b o, a1 = some ⟨b, o, none⟩ → ts ≠ [] → b < w4.heap.size) := Lib.hid (fun b o e he => by
        rcases T1.out with q | ⟨b', o', e', hc⟩
        · exact absurd q he
        · rw [e] at e'; cases e'
          have h0 := (hc 0 (List.length_pos_iff.2 he)).c0
          rcases Nat.lt_or_ge b w4.heap.size with h | h
          · exact h
          · simp [World.cell?, Array.getElem?_eq_none h] at h0)
      clear hst x0 R2 ht2 hb2 hg2
      go_wp2_with ((refine Hold.storeAll 4 (t := 45) FT.out rfl rfl rfl rfl (n := 4) (by kernel_rfl) (Hold.alloc' H.out FT.out _ _ rfl) rfl rfl rfl rfl ?_; intro W4 HMm CW4))
      simp only [K0, K1, L1, L2, K2, K3, K4, K5, K6, K7, Nat.reduceAdd, Nat.reduceSub] at HMm
      replace H := Lib.hid HMm
      clear HMm
      refine Stay.go ?_
      have T2 := Lib.hid ((T2.out.later (Grow.G.alloc (Grow.G.refl _) _)).chg CW4 (fun b o e q => by have q : b = w4.heap.size := q; have := B2.out b o e; omega))
      have T1 : Hid (TgtSl W4 a1 ts) := Lib.hid (by
        by_cases he : ts = []
        · exact .inl he
        · exact (T1.out.later (Grow.G.alloc (Grow.G.refl _) _)).chg CW4 (fun b o e q => by have q : b = w4.heap.size := q; have := HB1.out b o e he; omega))
      have SR := Lib.hid (rsame_any rn rc a1 ts d1 rl rn rc a2 ts d2 rl W4 (by unfold maxLen; omega) T1.out T2.out)
      rw [sameR_self] at SR
      unfold rtV at SR
      clear CW4 B2 HB1 T1 T2
      go_wp2_with (first | (refine Mem.loadAll 1 (t := 31) rfl rfl rfl Tryz.underlying31 (n := 6) (by kernel_rfl) H.out.mem rfl rfl ?_) | (refine Mem.loadAll 2 (t := 31) rfl rfl rfl Tryz.underlying31 (n := 6) (by kernel_rfl) H.out.mem rfl rfl ?_) | (refine loadAllW 3 (t := 45) rfl rfl rfl Tryz.underlying45 (n := 4) (by kernel_rfl) H.out.mem rfl rfl ?_) | (refine loadAllW 4 (t := 45) rfl rfl rfl Tryz.underlying45 (n := 4) (by kernel_rfl) H.out.mem rfl rfl ?_))
      refine SR.out.mono ?_
      rintro e w5 ⟨rfl, hg⟩
      replace H := Lib.hid (H.out.grow FT.out hg)
      clear hg SR
      go_wp2_with fail
      go_roundw
      case rel => exact ⟨k + 1, by omega, by go_num, Lib.hid (H.out.take 1)⟩
      case measure => simp [intOf]; omega
    · have d0 : decide ((k : Int) < 8) = false := decide_eq_false (by omega)
      replace H : Hid (Hold w0 wr [] (TwoS g q s)) := Lib.hid (H.out.take 0)
      clear NM
      go_wp2_with fail
      go_loopw [21] (fun i wr => ∃ j : Nat, j ≤ 4 ∧ i = .int .i64 j ∧ Hid (Hold w0 wr [] (TwoS g q s))) (fun i _ => 4 - (intOf i).toNat)
      case atStart => exact ⟨0, by omega, rfl, H⟩
      case round =>
        clear H
        obtain ⟨j, hj, rfl, H⟩ := hrel
        by_cases h2 : j < 4
        · have d0 : decide ((j : Int) < 4) = true := decide_eq_true (by omega)
          have hk1 : IntKind.i64.wrap ((j : Int) + 1) = (j : Int) + 1 := IntWalk.i64_in _ ⟨by omega, by omega⟩
          go_wp2_with fail
          refine (hold_names H.out ((RfP.foot q s).sep Emp.foot) j (by omega)).mono ?_
          rintro e w1 ⟨a1, c1, L', rfl, hL, hl, ho1, hst⟩
          replace H := Lib.hid hst
          have O1 := Lib.hid ho1
          have HL := Lib.hid hL
          clear hst ho1 hL
          go_wp2_with fail
          refine (hold_rfnames_at H.out (ShP.foot g s) Emp.foot j L' (by omega) HL.out).mono ?_
          rintro e w2 ⟨a2, c2, rfl, ho2, hg2, hst⟩
          replace H := Lib.hid hst
          have S1 : Hid (StrAt w2 a1 L') := Lib.hid (by
            obtain ⟨a, c, hv, hc⟩ := own_sh (own_later O1.out hg2)
            cases hv
            exact hc)
          have S2 : Hid (StrAt w2 a2 L') := Lib.hid (by
            obtain ⟨a, c, hv, hc⟩ := own_sh ho2
            cases hv
            exact hc)
          clear hst ho2 hg2 O1 HL
          go_wp2_with fail
          refine (same4_any w2 a1 c1 a2 c2 L' S1.out S2.out hl).mono ?_
          rintro e w3 ⟨rfl, hg⟩
          replace H := Lib.hid (H.out.grow FT.out hg)
          clear hg S1 S2
          go_wp2_with fail
          go_roundw
          case rel => exact ⟨j + 1, by omega, by go_num, H⟩
          case measure => simp [intOf]; omega
        · have d0 : decide ((j : Int) < 4) = false := decide_eq_false (by omega)
          go_wp2_with fail
          go_ret
          exact ⟨rfl, H.out⟩
end Go.Proofs.YtlnffdkaleapbaaGreat
