/- My own texts Pd4, Pd6, laid in one file. -/
import Derived.Test.YtfnpghekkhnjkaaZ55
import Derived.Test.YtfnpghekkhnjkaaZ29
import Derived.Test.YtfnpghekkhnjkaaZ2
import Derived.Test.YtfnpghekkhnjkaaSorted

/- pod's Kill, Take, Give. -/
namespace Go.Proofs.Ytfnpghekkhnjkaa
set_option maxRecDepth 100000
set_option linter.unusedVariables false
set_option linter.unusedSimpArgs false
set_option linter.unnecessarySimpa false
open Go.RowKit Go.MapV Go.Maps

theorem keysZ_any (m : Option Nat) (w : World) : Calls Try.prog 76 #[.map m] w fun e w' => e = .returned (.func (.func 89) #[] #[pz w.heap.size]) ∧ w' = w.alloc (.cells #[.map m] 94) :=
  callsIn_wide.1 (Try.maps_KeysZ_76 m w)
theorem sortedZ_any (m : Option Nat) (l : List Int) (w : World) (hm : MapI w m l.length (setZ l)) (hl : l.Pairwise (· < ·)) (hn : l.length ≤ 1000000) :
    Calls Try.prog 61 #[.func (.func 89) #[] #[pz w.heap.size]] (w.alloc (.cells #[.map m] 94)) fun e w' =>
      ∃ (v : Value), e = .returned v ∧ w'.ownsRow w.heap.size 3 1 v l.length (intsV l) ∧ Grow.G w w' := by
  have hg0 : Grow.G w (w.alloc (.cells #[.map m] 94)) := Grow.G.alloc (Grow.G.refl _) _
  cases m with
  | none =>
    refine (callsIn_wide.1 (Try.slices_Sorted_keys_nilZ_61_76 w)).mono ?_
    rintro e w' ⟨rfl, hb⟩
    have : l = [] := List.eq_nil_iff_forall_not_mem.2 fun x hx => by
      have h1 := (setZ_mem l x).1 hx
      have h2 : setZ l (intK x) = none := hm (intK x)
      have h2 : (if x ∈ l then some (Value.agg #[]) else none) = none := h2
      dsimp only at h1
      rw [h2] at h1; cases h1
    subst this
    exact ⟨_, rfl, ⟨rfl, .inl ⟨rfl, rfl⟩⟩, hg0.trans hb⟩
  | some b =>
    obtain ⟨D, hown, ha⟩ := hm
    have hsz := hown.size_le
    refine (callsIn_wide.1 (Try.slices_Sorted_keysZ_61_76 b _ D RV w hown (by unfold maxLen; omega) (by omega))).mono ?_
    rintro e w' ⟨v, ss, rfl, hp, hrow, hnil, hb⟩
    have h1 : ss.Perm l := hp.trans (permZ hown ha Try.underlying3 (nodup_lt hl) (setZ_mem l)).symm
    have h2 := sortedZ hl h1
    refine ⟨v, rfl, ?_, hg0.trans hb⟩
    have := ownsRow_base_a hrow (base' := w.heap.size) (by simp)
    rw [show ss.mergeSort (fun x y => decide (x ≤ y)) = l from h2, h1.length_eq] at this
    exact this
def Pd.bare (s : Pd) : Pd := ⟨s.c, s.st, []⟩
theorem Pd.ok_bare {s : Pd} (h : s.ok) : s.bare.ok := ⟨List.Pairwise.nil, fun x hx => absurd hx List.not_mem_nil, h.c.1, h.c, h.st⟩
set_option maxHeartbeats 1000000 in
theorem hempty_any (g : Nat) (s : Pd) (m : Option Nat) (w : World) (h : PdIn w g s m) :
    Calls Try.prog 66 #[ph g] w fun e w' => ∃ v, e = .returned v ∧ w'.ownsRow w.heap.size 3 1 v s.l.length (intsV s.l) ∧ PdIn w' g s.bare none ∧ Chg (fun k => k = g) w w' := by
  have c2 := h.c2
  have f2 := h.hb.free 2
  have hl := h.hb.lt
  have KS := Lib.hid (keysZ_any m w)
  have SO := Lib.hid (sortedZ_any m s.l w h.hm h.ok.lt (by have h1 := h.ok.len; have h2 := h.ok.c; omega))
  have HI := Lib.hid h
  clear h
  go_enter Try.func66, Try.ntmps66
  go_wp2_with fail
  refine KS.out.mono ?_
  rintro e w1 ⟨rfl, rfl⟩
  go_wp2_with fail
  refine SO.out.mono ?_
  rintro e w2 ⟨v, rfl, ho, hg⟩
  have H2 := HI.out.grow hg
  have c2 := H2.c2
  have f2 := H2.hb.free 2
  have hl2 := H2.hb.lt
  have H2 := Lib.hid H2
  have HO := Lib.hid ho
  have HG := Lib.hid hg
  clear ho hg KS SO
  go_wp2_with fail
  go_ret
  have C : Chg (fun k => k = g) w2 (w2.setCell ⟨g, 2, none⟩ (.map none)) := Chg.setCell (G := fun k => k = g) (Chg.refl _ _) (fun _ => rfl) _ _
  refine ⟨v, rfl, C.own HO.out (fun k hk e => by have := (HO.out.lt k hk).1; have e : k = g := e; omega), ⟨H2.out.hb.set 2 _, fun kl => ?_, Pd.ok_bare H2.out.ok⟩, (Chg.grow HG.out).trans C⟩
  unfold setZ onZ Pd.bare
  split <;> rfl
set_option maxHeartbeats 1000000 in
theorem pkill_any (g : Nat) (s : Pd) (w : World) (F : Nat → Prop) (h : PdP g s w F) :
    Calls Try.prog 40 #[pz g] w fun e w' => ∃ v, e = .returned (.tuple #[v, .int .i64 s.kill]) ∧ w'.ownsRow w.heap.size 3 1 v s.lost.length (intsV s.lost) ∧ (∀ k, v.ownBlock = some k → w.heap.size ≤ k) ∧ EndS w w' F (PdP g s.aftKill) := by
  have HP := Lib.hid h
  obtain ⟨m, hI, he⟩ := h
  have c0 := hI.c0
  have f0 := hI.hb.free 0
  have hl := hI.hb.lt
  have HE := Lib.hid he
  obtain ⟨q1, q2⟩ := hI.setSt (t := 4) ⟨by decide, by decide⟩
  have RR := Lib.hid (hempty_any g _ m _ q1)
  have Q2 := Lib.hid q2
  clear hI he q1 q2
  unfold Pd.kill Pd.lost Pd.aftKill
  by_cases h1 : s.st = 4
  · rw [if_pos h1, if_pos h1, if_pos h1]
    have d0 : (s.st == 4) = true := by rw [h1]; rfl
    clear h1
    go_enter Try.func40, Try.ntmps40
    go_wp2_with fail
    go_returns
    exact ⟨_, rfl, ⟨rfl, .inl ⟨rfl, rfl⟩⟩, (fun k hk => by cases hk), PdP.same HP.out (Grow.G.refl _)⟩
  · rw [if_neg h1, if_neg h1, if_neg h1]
    have d0 : (s.st == 4) = false := by simpa using h1
    clear h1
    go_enter Try.func40, Try.ntmps40
    go_wp2_with fail
    refine RR.out.mono ?_
    rintro e w1 ⟨v, rfl, ho, hq1, hq2⟩
    have HO := Lib.hid ho
    have HQ := Lib.hid (PdP.fin HE.out hq1 ((Q2.out.trans hq2).mono fun k _ e => .inl e) (fun b e => by cases e))
    have hs := Q2.out.size
    clear ho hq1 hq2 Q2 RR
    go_wp2_with fail
    go_returns
    have hz := own_base HO.out hs
    exact ⟨v, rfl, hz, (fun k hk => (hz.lt k hk).1), HQ.out⟩
theorem Pd.take_eq {s : Pd} {x : Int} (h : s.st = 2) : s.take x = s.addE x := if_pos h
set_option maxHeartbeats 1000000 in
theorem ptake_any (g : Nat) (s : Pd) (x : Int) (w : World) (F : Nat → Prop) (h : PdP g s w F) (hx : wf64 x) :
    Calls Try.prog 39 #[pz g, .int .i64 x] w fun e w' => e = .returned (.int .i64 (s.take x)) ∧ EndS w w' F (PdP g (s.aftTake x)) := by
  have HP := Lib.hid h
  obtain ⟨m, hI, he⟩ := h
  have c0 := hI.c0
  have hl := hI.hb.lt
  have HE := Lib.hid he
  have HI := Lib.hid hI
  clear hI he
  unfold Pd.aftTake
  by_cases h1 : s.st = 2
  · rw [Pd.take_eq h1]
    unfold Pd.addE
    have d0 : (s.st == 2) = true := by rw [h1]; rfl
    clear h1
    have K : Hid (Calls Try.prog 65 #[ph g, .int .i64 x] w fun e w' => e = .returned (.int .i64 (if x ∈ s.l then 5 else if s.c ≤ s.l.length then 8 else 0)) ∧ EndS w w' F (PdP g (if (if x ∈ s.l then (5 : Int) else if s.c ≤ s.l.length then 8 else 0) = 0 then ⟨s.c, s.st, insZ s.l x⟩ else s))) := Lib.hid (by
      by_cases h2 : x ∈ s.l
      · rw [if_pos h2, if_neg (by decide)]
        exact (hadd_twice g s m x w HI.out hx h2).mono fun e w' ⟨q1, q2⟩ => ⟨q1, PdP.same HP.out q2⟩
      · rw [if_neg h2]
        by_cases h3 : s.c ≤ s.l.length
        · rw [if_pos h3, if_neg (by decide)]
          exact (hadd_full g s m x w HI.out hx h2 h3).mono fun e w' ⟨q1, q2⟩ => ⟨q1, PdP.same HP.out q2⟩
        · rw [if_neg h3, if_pos rfl]
          cases m with
          | none =>
            refine (hadd_none g s x w HI.out hx h2 (by omega)).mono ?_
            rintro e w' ⟨q1, b, q2, q3, q4⟩
            exact ⟨q1, PdP.fin HE.out q2 (q3.mono fun k _ e => .inl e) (fun b' e => by cases e; exact .inr q4)⟩
          | some b =>
            refine (hadd_some g s b x w HI.out hx h2 (by omega)).mono ?_
            rintro e w' ⟨q1, q2, q3⟩
            exact ⟨q1, PdP.fin HE.out q2 (q3.mono fun k _ e => .inr (by rw [e])) (fun b' e => .inl e)⟩)
    generalize (if x ∈ s.l then (5 : Int) else if s.c ≤ s.l.length then 8 else 0) = er at *
    generalize (if er = 0 then (⟨s.c, s.st, insZ s.l x⟩ : Pd) else s) = s' at *
    go_enter Try.func39, Try.ntmps39
    go_wp2_with fail
    refine K.out.mono ?_
    rintro e w1 ⟨rfl, hq⟩
    have HQ := Lib.hid hq
    clear hq K
    go_wp2_with fail
    go_returns
    exact ⟨rfl, HQ.out⟩
  · have e : s.take x = 9 := if_neg h1
    rw [e, if_neg (by decide)]
    have d0 : (s.st == 2) = false := by simpa using h1
    clear h1 e
    go_enter Try.func39, Try.ntmps39
    go_wp2_with fail
    go_returns
    exact ⟨rfl, PdP.same HP.out (Grow.G.refl _)⟩
theorem Pd.give_rest {s : Pd} {x : Int} (h : x ∈ s.l) : s.aftGive x = (s.cut x).rest := by
  unfold Pd.aftGive
  rw [if_pos h]
  unfold Pd.rest Pd.cut Pd.inSt
  dsimp only
  split <;> rfl
set_option maxHeartbeats 1000000 in
theorem pgive_any (g : Nat) (s : Pd) (x : Int) (w : World) (F : Nat → Prop) (h : PdP g s w F) (hx : wf64 x) :
    Calls Try.prog 37 #[pz g, .int .i64 x] w fun e w' => e = .returned (.int .i64 (s.give x)) ∧ EndS w w' F (PdP g (s.aftGive x)) := by
  have HP := Lib.hid h
  obtain ⟨m, hI, he⟩ := h
  have HE := Lib.hid he
  by_cases h1 : x ∈ s.l
  · rw [Pd.give_rest h1]
    have e : s.give x = 0 := if_pos h1
    rw [e]
    have DY := Lib.hid (hdrop_yes g s m x w hI hx h1)
    have RR := Lib.hid (fun w1 (h : PdIn w1 g (s.cut x) m) => prest_any g _ m w1 h)
    clear hI he h1 e
    go_enter Try.func37, Try.ntmps37
    go_wp2_with fail
    refine DY.out.mono ?_
    rintro e w1 ⟨rfl, q1, q2⟩
    have R2 := Lib.hid (RR.out w1 q1)
    have Q2 := Lib.hid q2
    clear q1 q2 RR DY
    go_wp2_with fail
    refine R2.out.mono ?_
    rintro e w2 ⟨⟨v, rfl⟩, q3, q4⟩
    have HQ := Lib.hid (PdP.fin HE.out q3 ((Q2.out.mono fun k _ e => .inr e).trans (q4.mono fun k _ e => .inl e)) (fun b e => .inl e))
    clear q3 q4 Q2 R2
    go_wp2_with fail
    go_returns
    exact ⟨rfl, HQ.out⟩
  · have e : s.give x = 6 := if_neg h1
    have e2 : s.aftGive x = s := if_neg h1
    rw [e, e2]
    have DN := Lib.hid (hdrop_no g s m x w hI hx h1)
    clear hI he h1 e e2
    go_enter Try.func37, Try.ntmps37
    go_wp2_with fail
    refine DN.out.mono ?_
    rintro e w1 ⟨rfl, q2⟩
    have HQ := Lib.hid (PdP.same HP.out q2)
    clear q2 DN
    go_wp2_with fail
    go_returns
    exact ⟨rfl, HQ.out⟩

/-- A row of numbers that was told. -/
abbrev IntF (v : Value) (l : List Int) : Hp := RowF 0 3 1 v l.length (intsV l)
theorem IntF.nil (w : World) : IntF (.slice none 0 0) [] w (fun _ => False) := ⟨⟨rfl, .inl ⟨rfl, rfl⟩⟩, fun k => ⟨False.elim, fun e => by cases e⟩⟩
theorem RpP.told {g : Nat} {s : Pd} {w w' : World} {F : Nat → Prop} (h : RpP g s w F) (c : Grow.G w w') : EndS w w' F (Sep (RpP g s) (IntF (.slice none 0 0) [])) :=
  ⟨F, ⟨F, fun _ => False, (RpP.foot g s).grow h c, IntF.nil w', (fun k _ q => q), fun k => by simp⟩, Chg.grow c, Fresh.refl _ _⟩
end Go.Proofs.Ytfnpghekkhnjkaa
