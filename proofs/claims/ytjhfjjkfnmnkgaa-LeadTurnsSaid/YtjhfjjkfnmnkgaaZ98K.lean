/- My own texts LpD, HoldN, laid in one file. -/
import Derived.Test.YtjhfjjkfnmnkgaaZ98J
import Derived.Test.YtjhfjjkfnmnkgaaZ98E
import Derived.Test.YtjhfjjkfnmnkgaaZ98F
import Derived.Test.YtjhfjjkfnmnkgaaZ91
import Derived.Test.YtjhfjjkfnmnkgaaZ83

/- The program's roller: Drop; Table, Turn at whatever is led. -/
namespace Go.Proofs.Ytjhfjjkfnmnkgaa
set_option maxRecDepth 100000
set_option linter.unusedVariables false
set_option linter.unusedSimpArgs false
set_option linter.unnecessarySimpa false
open Go.RowKit Go.Args Go.MapV Go.Maps

def cutW (f : ByteArray → Option WM) (s : ByteArray) : ByteArray → Option WM := fun x => if x = s then none else f x
theorem cutW_some {f : ByteArray → Option WM} {s x : ByteArray} {m : WM} (h : cutW f s x = some m) : f x = some m := by
  unfold cutW at h
  split at h
  · cases h
  · exact h
theorem PlS.cut {w w' : World} {F : Nat → Prop} {g n : Nat} {nw : Int} {mb : Option Nat} {f : ByteArray → Option WM} {s : ByteArray} (h : PlS g mb nw n f w F) (hm : MapN Try.prog 9 w' mb n (fW (cutW f s))) (c : Chg (fun j => some j = mb) w w') : EndS w w' F (PlS g mb nw n (cutW f s)) := by
  obtain ⟨Fg, Fx, ⟨hg, eg⟩, ⟨Fm, Fr, ⟨hm0, em⟩, ⟨hr, er⟩, apmr, cx⟩, apg, c1⟩ := h
  have inR : ∀ k s' m', f s' = some m' → WrK m' k → Fr k := fun k s' m' e q => (er k).2 ⟨s', m', e, q⟩
  refine ⟨fun k => Fg k ∨ (Fm k ∨ ∃ s' m', cutW f s s' = some m' ∧ WrK m' k), ⟨Fg, fun k => Fm k ∨ ∃ s' m', cutW f s s' = some m' ∧ WrK m' k, ⟨hg.chg c fun e => apg g ((eg g).2 rfl) ((cx g).2 (.inl ((em g).2 e.symm))), eg⟩, ⟨Fm, fun k => ∃ s' m', cutW f s s' = some m' ∧ WrK m' k, ⟨hm, em⟩, ⟨fun s' m' e => (hr s' m' (cutW_some e)).chg c fun k q z => apmr k ((em k).2 z.symm) (inR k s' m' (cutW_some e) q), fun k => Iff.rfl⟩, ?_, fun k => Iff.rfl⟩, ?_, fun k => Iff.rfl⟩, ?_, ?_⟩
  · rintro k q ⟨s', m', e, z⟩
    exact apmr k q (inR k s' m' (cutW_some e) z)
  · rintro k q (z | ⟨s', m', e, z⟩)
    · exact apg k q ((cx k).2 (.inl z))
    · exact apg k q ((cx k).2 (.inr (inR k s' m' (cutW_some e) z)))
  · exact c.sub fun k z => (c1 k).2 (.inr ((cx k).2 (.inl ((em k).2 z.symm))))
  · rintro k (q | q | ⟨s', m', e, z⟩)
    · exact .inl ((c1 k).2 (.inl q))
    · exact .inl ((c1 k).2 (.inr ((cx k).2 (.inl q))))
    · exact .inl ((c1 k).2 (.inr ((cx k).2 (.inr (inR k s' m' (cutW_some e) z)))))
theorem fW_cut (f : ByteArray → Option WM) (s : ByteArray) : fW (cutW f s) (strK s) = none ∧ ∀ x, x ≠ strK s → fW (cutW f s) x = fW f x := by
  refine ⟨?_, onS_ne fun x hx => ?_⟩
  · show (cutW f s s).map WM.val = _
    unfold cutW
    rw [if_pos rfl]; rfl
  · show (cutW f s x).map WM.val = _
    unfold cutW
    rw [if_neg hx]
section
variable {w0 w : World} {L : List MBox} {B : Hp} {g c : Nat} {nw : Int} {l : List Wa}
set_option maxHeartbeats 2000000 in
theorem hold_pldrop (h : Hold w0 w L (Sep (PlP g l nw c) B)) (hB : Foot B) (s : ByteArray) (hs : s.size ≤ maxLen) :
    Calls Try.prog 13 #[pz g, .string s] w fun e w' => e = .returned (.tuple #[]) ∧ Hold w0 w' L (Sep (PlP g (dropW l s) nw c) B) := by
  obtain ⟨mb, n, f, hnc, hf, HS⟩ := hold_plopen h
  obtain ⟨u1, u2⟩ := fW_cut f s
  obtain ⟨F, hp⟩ := hold_plS HS
  have y0 := Blk.at hp.hb (k := 0) rfl
  have hgl := hp.hb.lt
  have HM := Lib.hid hp.hm
  have HU := Lib.hid u1
  have HO := Lib.hid u2
  have H := Lib.hid HS
  have HF := Lib.hid (And.intro hnc hf)
  clear hp HS h u1 u2 hnc hf
  go_enter Try.func13, Try.ntmps13
  go_wp2_with (at_delete; refine MapV.del rfl rfl keyed13 Try.underlying62 rfl HM.out rfl (keyS Try.underlying9 hs) HU.out HO.out ?_; intro w9 M9 C9; have M9 := Lib.hid M9; have C9 := Lib.hid C9)
  clear y0
  (try go_wp2_with fail)
  go_end0
  refine ⟨rfl, hold_plclose (H.out.step (Sep.stepL hB fun F h => PlS.cut h M9.out C9.out)) HF.out.1 fun x => ?_⟩
  rw [dropW_find]
  unfold cutW
  by_cases e : x = s
  · rw [if_pos e, if_pos e]; rfl
  · rw [if_neg e, if_neg e]; exact HF.out.2 x
/-- Ways as they may be, all of them. -/
structure WInv (l : List Wa) (n : Nat) : Prop where
  sd : ∀ x, x ∈ l → WSd x
  si : ∀ x, x ∈ l → 0 ≤ x.si ∧ x.si ≤ 1000000
  tl : ∀ x, x ∈ l → x.tg.length ≤ 1000
  zt : ∀ x, x ∈ l → ∀ t, t ∈ x.tg → SzT t
  len : l.length ≤ n
theorem hold_pltable_no (h : Hold w0 w L (Sep (PlP g l nw c) B)) (hB : Foot B) (s : ByteArray) (hs : s.size ≤ maxLen) (h1 : findW l s = none) :
    Calls Try.prog 20 #[pz g, .string s] w fun e w' => ∃ va vb, e = .returned (.tuple #[.agg #[va, vb], .bool false]) ∧ Hold w0 w' L (Sep (PlP g l nw c) (Sep (TabF [] [] va vb) B)) := by
  obtain ⟨mb, n, f, hnc, hf, HS⟩ := hold_plopen h
  obtain ⟨F, hp⟩ := hold_plS HS
  have hm : f s = none := by
    have hfs := hf s
    rw [h1] at hfs
    cases q : f s with
    | none => rfl
    | some m => rw [q] at hfs; cases hfs
  refine (pltable_any g s hs mb nw n f false none 0 0 none 0 0 0 0 none [] 0 none [] 0 w hp.hb hp.hm (by rw [hm]; rfl) (by rw [hm]; rfl) (.inl rfl) (.inl rfl) (Nat.zero_le _) (Nat.zero_le _) (fun _ h => by cases h) (fun _ h => by cases h)).mono ?_
  rintro e w' ⟨va, vb, rfl, hc⟩
  exact ⟨va, vb, rfl, hold_tab h (PlP.foot _ _ _ _) hB hc⟩
theorem hold_pltable_yes (h : Hold w0 w L (Sep (PlP g l nw c) B)) (hB : Foot B) (s : ByteArray) (hs : s.size ≤ maxLen) {x : Wa} {k : Nat} (hi : WInv l k) (h1 : findW l s = some x) :
    Calls Try.prog 20 #[pz g, .string s] w fun e w' => ∃ va vb, e = .returned (.tuple #[.agg #[va, vb], .bool true]) ∧ Hold w0 w' L (Sep (PlP g l nw c) (Sep (TabF x.sh x.tg va vb) B)) := by
  obtain ⟨mb, n, f, hnc, hf, HS⟩ := hold_plopen h
  obtain ⟨F, hp⟩ := hold_plS HS
  obtain ⟨m, hm, rfl⟩ : ∃ m, f s = some m ∧ m.x = x := by
    have hfs := hf s
    rw [h1] at hfs
    cases q : f s with
    | none => rw [q] at hfs; cases hfs
    | some m => rw [q] at hfs; exact ⟨m, rfl, Option.some.inj hfs⟩
  have hx := (findW_mem h1).1
  have hrw := hp.hr hm
  have hsd := hi.sd _ hx
  have htl := hi.tl _ hx
  have hzt := hi.zt _ hx
  obtain ⟨mx, mp, mf, mt, ms, mg⟩ := m
  dsimp only at *
  have r1 : ShR w mf mx.fr := hrw.1
  have r2 : ShR w mt mx.to := hrw.2.1
  have r3 : ShR w ms mx.sh := hrw.2.2.1
  have r4 : TgR w mg mx.tg := hrw.2.2.2
  obtain ⟨fa, fc, rfl⟩ := own_shape r1
  obtain ⟨ta, tc, rfl⟩ := own_shape r2
  obtain ⟨sa, sc, rfl⟩ := own_shape r3
  obtain ⟨ga, gc, rfl⟩ := own_shape r4
  refine (pltable_any g s hs mb nw n f true fa mx.fr.length fc ta mx.to.length tc mx.si mx.wh sa mx.sh sc ga mx.tg gc w hp.hb hp.hm (by rw [hm]; rfl) (by rw [hm]; rfl) (ShR.sl r3) (SlOf.own (fun _ => rfl) r4) (by have := hsd.s.len; omega) htl (sd_szS hsd.s) hzt).mono ?_
  rintro e w' ⟨va, vb, rfl, hc⟩
  exact ⟨va, vb, rfl, hold_tab h (PlP.foot _ _ _ _) hB hc⟩
theorem hold_plturn (h : Hold w0 w L (Sep (PlP g l nw c) B)) (hB : Foot B) (s : ByteArray) (hs : s.size ≤ 100000) (a : Option Addr) (sh : List Shr) (ca : Nat) (b : Option Addr) (tg : List Tgo) (cb : Nat) (now wh : Int)
    (hc : c ≤ 1000) {k : Nat} (hi : WInv l k) (hin : PTurn w a sh b tg) (hn : 0 ≤ now ∧ now ≤ 1000000) (hnw : nw ≤ now) (hw : 0 ≤ wh ∧ wh ≤ 1000000) :
    Calls Try.prog 17 #[pz g, .string s, .agg #[.slice a sh.length ca, .slice b tg.length cb], .int .i64 now, .int .i64 wh] w fun e w' => ∃ va vb, e = .returned (.agg #[va, vb]) ∧ Hold w0 w' L (Sep (PlP g (turnW l s sh tg now wh) now (c + 1)) (Sep (TabF (stepW (findW l s) s sh tg now wh).sh tg va vb) B)) := by
  cases h1 : findW l s with
  | none => exact h1 ▸ hold_plturn_new h hB s hs a sh ca b tg cb now wh hc hi.sd hin hn hnw hw h1
  | some x =>
    cases hk : keepsW x sh wh with
    | true => exact h1 ▸ hold_plturn_keep h hB s hs a sh ca b tg cb now wh hc hi.sd hin hn hnw hw h1 hk (hi.si x (findW_mem h1).1)
    | false => exact h1 ▸ hold_plturn_go h hB s hs a sh ca b tg cb now wh hc hi.sd hin hn hnw hw h1 hk
theorem hold_rolturn (h : Hold w0 w L (Sep (RolP g l) B)) (hB : Foot B) (s : ByteArray) (a : Option Addr) (sh : List Shr) (ca : Nat) (b : Option Addr) (tg : List Tgo) (cb : Nat) (now wh : Int)
    {k : Nat} (hk : k ≤ 1000) (hi : WInv l k) (hin : TurnIn w a sh b tg) (hn : 0 ≤ now ∧ now ≤ 1000000) (hw : 0 ≤ wh ∧ wh ≤ 1000000) :
    Calls Try.prog 19 #[pz g, .string s, .agg #[.slice a sh.length ca, .slice b tg.length cb], .int .i64 now, .int .i64 wh] w fun e w' => ∃ va vb, e = .returned (.agg #[va, vb]) ∧ Hold w0 w' L (Sep (RolP g (turnW l s sh tg now wh)) (Sep (TabF (stepW (findW l s) s sh tg now wh).sh tg va vb) B)) := by
  have hl := hi.len
  cases h1 : findW l s with
  | none => exact hold_rolturn_new h hB s a sh ca b tg cb now wh (by omega) hin hn hw h1
  | some x =>
    cases hk : keepsW x sh wh with
    | true =>
      have e : stepW (some x) s sh tg now wh = oldW x tg now := by unfold stepW; dsimp only; rw [hk]; rfl
      rw [e]
      exact hold_rolturn_keep h hB s a sh ca b tg cb now wh (by omega) hi.sd hin hn hw hi.si h1 hk
    | false =>
      have e : stepW (some x) s sh tg now wh = newW s x.sh sh tg now wh := by unfold stepW; dsimp only; rw [hk]; rfl
      rw [e]
      exact hold_rolturn_go h hB s a sh ca b tg cb now wh (by omega) hi.sd hin hn hw h1 hk
end
theorem WInv.nil : WInv [] 0 := ⟨fun x h => (by cases h), fun x h => (by cases h), fun x h => (by cases h), fun x h => (by cases h), Nat.le_refl _⟩
theorem WInv.drop {l : List Wa} {n : Nat} (h : WInv l n) (s : ByteArray) : WInv (dropW l s) n :=
  ⟨fun x hx => h.sd x (List.mem_filter.1 hx).1, fun x hx => h.si x (List.mem_filter.1 hx).1, fun x hx => h.tl x (List.mem_filter.1 hx).1, fun x hx => h.zt x (List.mem_filter.1 hx).1, Nat.le_trans (List.length_filter_le _ _) h.len⟩
theorem stepW_si (o : Option Wa) {nm : ByteArray} {sh : List Shr} {tg : List Tgo} {now wh : Int} : (stepW o nm sh tg now wh).si = now ∨ ∃ x, o = some x ∧ (stepW o nm sh tg now wh).si = x.si := by
  cases o with
  | none => exact .inl rfl
  | some x =>
    unfold stepW
    dsimp only
    split
    · exact .inr ⟨x, rfl, rfl⟩
    · exact .inl rfl
theorem WInv.turn {l : List Wa} {n : Nat} (h : WInv l n) {s : ByteArray} {sh : List Shr} {tg : List Tgo} {now wh : Int} (hs : Sd sh) (htl : tg.length ≤ 1000) (hzt : ∀ t, t ∈ tg → SzT t) (hn : 0 ≤ now ∧ now ≤ 1000000) : WInv (turnW l s sh tg now wh) (n + 1) := by
  have key : ∀ x, x ∈ turnW l s sh tg now wh → x ∈ l ∨ ∃ o, x = stepW o s sh tg now wh ∧ ∀ y, o = some y → y ∈ l := by
    intro x hx
    unfold turnW at hx
    split at hx
    · rcases List.mem_append.1 hx with hx | hx
      · exact .inl hx
      · rw [List.mem_singleton] at hx
        exact .inr ⟨none, hx, fun y e => by cases e⟩
    · obtain ⟨y, hy, rfl⟩ := List.mem_map.1 hx
      split
      · exact .inr ⟨some y, rfl, fun z e => by cases e; exact hy⟩
      · exact .inl hy
  refine ⟨fun x hx => turnW_sd h.sd hs x hx, fun x hx => ?_, fun x hx => ?_, fun x hx => ?_, Nat.le_trans (turnW_len _ _ _ _ _ _) (Nat.add_le_add_right h.len 1)⟩
  · rcases key x hx with q | ⟨o, rfl, q⟩
    · exact h.si x q
    · rcases stepW_si (nm := s) (sh := sh) (tg := tg) (now := now) (wh := wh) o with e | ⟨y, e, e2⟩
      · rw [e]; exact hn
      · rw [e2]; exact h.si y (q y e)
  · rcases key x hx with q | ⟨o, rfl, q⟩
    · exact h.tl x q
    · rw [stepW_tg]; exact htl
  · rcases key x hx with q | ⟨o, rfl, q⟩
    · exact h.zt x q
    · rw [stepW_tg]; exact hzt
theorem PTurn.rol {w : World} {a : Option Addr} {sh : List Shr} {b : Option Addr} {tg : List Tgo} (h : PTurn w a sh b tg) : TurnIn w a sh b tg := ⟨SlOf.src (cells := Shr.cells) (n := 2) (fun x => rfl) h.x, SlOf.src (cells := Tgo.cells) (n := 2) (fun x => rfl) h.y, h.sd, h.tl⟩
end Go.Proofs.Ytjhfjjkfnmnkgaa

/- A call that is told among what a call holds, told by its named footprint, whatever it tells of. No program is named here. -/
namespace Go
set_option linter.unusedVariables false
open Go.RowKit
theorem ends_of_holdE {ι : Type} {P : Program} {f : FuncId} {args : Array Value} {A : Hp} {A' : ι → Hp} {R : ι → Ending → Prop} {w : World} {F : Nat → Prop} (hA : Foot A) (h : A w F)
    (hc : ∀ (w0 : World) (B : Hp), Foot B → Hold w0 w [] (Sep A B) → Calls P f args w fun e w' => ∃ i, R i e ∧ Hold w0 w' [] (Sep (A' i) B)) : Calls P f args w fun e w' => ∃ i, R i e ∧ EndS w w' F (A' i) := by
  have hw : Below (0 : Nat) { w with heap := #[] } w := ⟨rfl, rfl, rfl, Nat.zero_le _, fun k hk => absurd hk (Nat.not_lt_zero k)⟩
  have H : Hold { w with heap := #[] } w [] (Sep A (RestF w F)) := ⟨⟨hw, fun b hb => (by cases hb), List.Pairwise.nil⟩, fun k => k < w.heap.size, ⟨F, fun k => k < w.heap.size ∧ ¬ F k, h, ⟨fun k => Iff.rfl, Nat.le_refl _, fun _ _ _ => rfl⟩, fun k h1 h2 => h2.2 h1, fun k => ⟨fun hk => by
    by_cases q : F k
    · exact .inl q
    · exact .inr ⟨hk, q⟩, fun hk => hk.elim (hA.lt h k) And.left⟩⟩, fun k _ => Nat.zero_le _, fun b hb => (by cases hb)⟩
  refine (hc _ _ (RestF.foot w F) H).mono ?_
  rintro e w' ⟨i, hr, hh⟩
  obtain ⟨FF, ⟨F1, F2, h1, ⟨h2, h3, h4⟩, ap, e2⟩, _⟩ := hh.st
  have hb := hh.mem.below
  refine ⟨i, hr, F1, h1, ⟨hb.os, hb.tape, hb.output, h3, fun k hk hf => h4 k hk hf⟩, fun k hk => ?_⟩
  by_cases q : F k
  · exact .inl q
  · rcases Nat.lt_or_ge k w.heap.size with h5 | h5
    · exact absurd ((h2 k).2 ⟨h5, q⟩) (ap k hk)
    · exact .inr h5
theorem HoldF.callN {ι : Type} {P : Program} {f : FuncId} {args : Array Value} {A : Hp} {A' : ι → Hp} {R : ι → Ending → Prop} {w0 w : World} {L : List MBox} {F : Nat → Prop} (h : HoldF w0 w L A F) (hA : Foot A)
    (hc : ∀ (w0 : World) (B : Hp), Foot B → Hold w0 w [] (Sep A B) → Calls P f args w fun e w' => ∃ i, R i e ∧ Hold w0 w' [] (Sep (A' i) B)) : Calls P f args w fun e w' => ∃ i, R i e ∧ ∃ F', HoldF w0 w' L (A' i) F' ∧ Chg F w w' ∧ Fresh w F F' := by
  refine (ends_of_holdE hA h.st hc).mono ?_
  rintro e w' ⟨i, hr, F', q1, q2, q3⟩
  refine ⟨i, hr, F', ⟨h.mem.chg q2 (fun k hk hf => by have := h.lo k hf; omega) h.ap, q1, q3.base h.mem.size h.lo, fun b hb hf => ?_⟩, q2, q3⟩
  rcases q3 _ hf with q | q
  · exact h.ap b hb q
  · have := (h.mem.blks b hb).1.lt
    omega
end Go
