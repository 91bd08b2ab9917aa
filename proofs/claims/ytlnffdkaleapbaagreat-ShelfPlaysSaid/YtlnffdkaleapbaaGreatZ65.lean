/- My own texts RfPutR, RfNames, laid in one file. -/
import Derived.Test.YtlnffdkaleapbaaGreatZ64
import Derived.Test.YtlnffdkaleapbaaGreatZ3
import Derived.Test.YtlnffdkaleapbaaGreatZ32
import Derived.Test.YtlnffdkaleapbaaGreatZ51
import Derived.Test.YtlnffdkaleapbaaGreatZ29

/- The second form's PutRoute: what it refuses. -/
namespace Go.Proofs.YtlnffdkaleapbaaGreat
set_option maxRecDepth 100000
set_option linter.unusedVariables false
set_option linter.unusedSimpArgs false
set_option linter.unnecessarySimpa false
open Go.RowKit Go.MapV Go.Maps

theorem rputR_bad (g : Nat) (s : Sh) (r : Rt) (a : Option Addr) (cap : Nat) (v : Int) (w : World) (F : Nat → Prop) (h : RfP g s w F) (h1 : r.nm.size ≤ 140737488351232) (h2 : r.cf.size ≤ 140737488351232) (hl : r.ts.length ≤ maxLen) (ht : TgtSl w a r.ts) (hk : ∀ i, i < r.ts.length → (r.ts.getD i tg0).ok) (he : r.err ≠ 0) :
    Calls Tryz.prog 13 #[pt g, rtV r.nm r.cf (.slice a r.ts.length cap) r.rl, .int .i64 v] w fun e w' => e = .returned (.tuple #[.int .i64 (s.numOf (s.putR r v)), .int .i64 (s.putR r v)]) ∧ EndS w w' F (RfP g (s.aftR r v)) := by
  have HP := Lib.hid h
  have SC := Lib.hid (fun w h => rroute_any r.nm r.cf a r.ts cap r.rl w (by unfold maxLen; omega) (by unfold maxLen; omega) hl h hk)
  have HT := Lib.hid ht
  have e1 : s.putR r v = r.err := by unfold Sh.putR; rw [if_neg he]
  have e2 : s.aftR r v = s := by unfold Sh.aftR; rw [e1, if_neg he]
  have e3 : s.numOf r.err = 0 := by unfold Sh.numOf; rw [if_neg he]
  rw [e1, e2, e3]
  have d0 : (r.err != 0) = true := by simpa using he
  have SC : Hid (∀ w, TgtSl w a r.ts → Calls Tryz.prog 32 #[rtV r.nm r.cf (.slice a r.ts.length cap) r.rl] w fun x w' => x = .returned (.int .i64 r.err) ∧ Below w.heap.size w w') := SC
  generalize r.err = er at *
  obtain ⟨nm, cf, ts, rl⟩ := r
  unfold rtV at *
  dsimp only at *
  clear h e1 e2 e3 ht hk
  go_enter Tryz.func13, Tryz.ntmps13
  go_wp2_with fail
  refine (SC.out _ (HT.out.later (Grow.G.alloc (Grow.G.refl w) _))).mono ?_
  rintro e w1 ⟨rfl, hb⟩
  have G1 := Lib.hid (Grow.G.trans (Grow.G.alloc (Grow.G.refl w) _) hb)
  clear hb
  go_wp2_with fail
  go_returns
  exact ⟨rfl, RfP.same HP.out G1.out⟩
set_option maxHeartbeats 4000000 in
theorem rputR_no (g : Nat) (s : Sh) (r : Rt) (a : Option Addr) (cap : Nat) (v : Int) (w : World) (F : Nat → Prop) (h : RfP g s w F) (h1 : r.nm.size ≤ 140737488351232) (h2 : r.cf.size ≤ 140737488351232) (hl : r.ts.length ≤ maxLen) (ht : TgtSl w a r.ts) (hk : ∀ i, i < r.ts.length → (r.ts.getD i tg0).ok) (he : r.err = 0) (er : Int) (hr : mayP (verO (s.rt r.nm)) v = er) (h0 : er ≠ 0) :
    Calls Tryz.prog 13 #[pt g, rtV r.nm r.cf (.slice a r.ts.length cap) r.rl, .int .i64 v] w fun e w' => e = .returned (.tuple #[.int .i64 (s.numOf (s.putR r v)), .int .i64 (s.putR r v)]) ∧ EndS w w' F (RfP g (s.aftR r v)) := by
  have HP := Lib.hid h
  have SC : Hid (∀ w, TgtSl w a r.ts → Calls Tryz.prog 32 #[rtV r.nm r.cf (.slice a r.ts.length cap) r.rl] w fun x w' => x = .returned (.int .i64 r.err) ∧ Below w.heap.size w w') := Lib.hid (fun w h => rroute_any r.nm r.cf a r.ts cap r.rl w (by unfold maxLen; omega) (by unfold maxLen; omega) hl h hk)
  have HT := Lib.hid ht
  rw [he] at SC
  have e1 : s.putR r v = er := by unfold Sh.putR; rw [if_pos he, hr]
  have e2 : s.aftR r v = s := by unfold Sh.aftR; rw [e1, if_neg h0]
  have e3 : s.numOf er = 0 := by unfold Sh.numOf; rw [if_neg h0]
  rw [e1, e2, e3]
  have PN := Lib.hid (fun (w' : World) (hg : Grow.G w w') => (show Calls Tryz.prog 28 #[pt g, .int .i64 2, .string r.nm, .int .i64 v] w' fun e w'' => e = .returned (.tuple #[.pointer none, .int .i64 er]) ∧ w' = w'' from by
    obtain ⟨vv, lm, hO, hle, hok, hn2, hS⟩ := HP.out
    exact rput4_no g s.n vv lm 2 r.nm v w' F ((RfS.foot g s.n vv lm).grow hS hg) (by omega) er (by rw [hO.verR, hr]) h0))
  have d0 : (er != 0) = true := by simpa using h0
  obtain ⟨nm, cf, ts, rl⟩ := r
  unfold rtV at *
  dsimp only at *
  clear h e1 e2 e3 he hr ht hk
  go_enter Tryz.func13, Tryz.ntmps13
  go_wp2_with fail
  refine (SC.out _ (HT.out.later (Grow.G.alloc (Grow.G.refl w) _))).mono ?_
  rintro e w1 ⟨rfl, hb⟩
  have BX := (Blk.new w #[.string nm, .string cf, .slice a ts.length cap, .int .i64 rl] 45).grow hb
  have cx : w1.cell? ⟨w.heap.size, 0, none⟩ = some (.string nm) := (BX.cell 0).trans rfl
  have lx := BX.lt
  have G1 := Lib.hid (Grow.G.trans (Grow.G.alloc (Grow.G.refl w) _) hb)
  clear hb BX
  go_wp2_with fail
  refine (PN.out _ G1.out).mono ?_
  rintro e w2 ⟨rfl, rfl⟩
  go_wp2_with fail
  go_returns
  exact ⟨rfl, RfP.same HP.out G1.out⟩
theorem RfS.mem {g n : Nat} {v : Value} {lm : List OM} {w : World} {F : Nat → Prop} (h : RfS g n v lm w F) {i : Nat} {m : OM} (hi : lm[i]? = some m) : F m.b := by
  obtain ⟨F1, F2, ⟨a1, a2⟩, ⟨F3, F4, ⟨b1, b2⟩, so, ap2, e2⟩, ap, e⟩ := h
  obtain ⟨f, R, ⟨f1, f2, ⟨o1, o2⟩, ⟨t1, t2⟩, apo, eo⟩, apR, eR, put⟩ := SepL.open ObF.foot so hi
  have mb : f m.b := (eo m.b).2 (.inl ((o2 m.b).2 rfl))
  exact (e _).2 (.inr ((e2 _).2 (.inr ((eR _).2 (.inl mb)))))
set_option maxHeartbeats 8000000 in
theorem rputR_yes (g : Nat) (s : Sh) (r : Rt) (a : Option Addr) (cap : Nat) (v : Int) (w : World) (F : Nat → Prop) (h : RfP g s w F) (h1 : r.nm.size ≤ 140737488351232) (h2 : r.cf.size ≤ 140737488351232) (hl : r.ts.length ≤ 1000) (ht : TgtSl w a r.ts) (hk : ∀ i, i < r.ts.length → (r.ts.getD i tg0).ok) (ha : ∀ b o, a = some ⟨b, o, none⟩ → ¬ F b ∧ b < w.heap.size) (hn : s.n < 1000000) (he : r.err = 0) (hr : mayP (verO (s.rt r.nm)) v = 0) :
    Calls Tryz.prog 13 #[pt g, rtV r.nm r.cf (.slice a r.ts.length cap) r.rl, .int .i64 v] w fun e w' => e = .returned (.tuple #[.int .i64 (s.numOf (s.putR r v)), .int .i64 (s.putR r v)]) ∧ EndS w w' F (RfP g (s.aftR r v)) := by
  have HP := Lib.hid h
  have SC : Hid (∀ w, TgtSl w a r.ts → Calls Tryz.prog 32 #[rtV r.nm r.cf (.slice a r.ts.length cap) r.rl] w fun x w' => x = .returned (.int .i64 r.err) ∧ Below w.heap.size w w') := Lib.hid (fun w h => rroute_any r.nm r.cf a r.ts cap r.rl w (by unfold maxLen; omega) (by unfold maxLen; omega) (by unfold maxLen; omega) h hk)
  have HT := Lib.hid ht
  have HA := Lib.hid ha
  rw [he] at SC
  have e1 : s.putR r v = 0 := by unfold Sh.putR; rw [if_pos he, hr]
  have e2 : s.aftR r v = s.setR r := by unfold Sh.aftR; rw [if_pos e1]
  have e3 : s.numOf 0 = (s.n : Int) + 1 := by unfold Sh.numOf; rw [if_pos rfl]; rfl
  rw [e1, e2, e3]
  obtain ⟨vv, lm, hO, hle, hok, hn2, hS⟩ := h
  have PY := Lib.hid (fun (w' : World) (hg : Grow.G w w') => (show Calls Tryz.prog 28 #[pt g, .int .i64 2, .string r.nm, .int .i64 v] w' fun e w'' => Placed w' w'' F g s.n lm 2 r.nm e from by
    have hS' := (RfS.foot g s.n vv lm).grow hS hg
    cases hi : idxO (lm.map OM.o) 2 r.nm with
    | none => exact rput4_new g s.n vv lm 2 r.nm v w' F hS' (by omega) hn2 hi (by rw [← hi, hO.verR, hr])
    | some i => exact rput4_old g s.n vv lm 2 r.nm v w' F hS' (by omega) hn2 i hi (by rw [← hi, hO.verR, hr])))
  have HO := Lib.hid (hO.withO (.inr rfl) r.nm)
  have HL := Lib.hid (And.intro hle hok)
  have HF := Lib.hid (fun k hk => (RfS.foot g s.n vv lm).lt hS k hk)
  have hsn : (s.setR r).n = s.n + 1 := rfl
  have hoks := Lib.hid (Sh.ok_setR hok he)
  have CE : (Tryz.prog.info? 45).map (·.size) = some 4 := by kernel_rfl
  have CI : (Tryz.prog.info? 45).isSome = true ∧ Tryz.prog.cellsOf 45 = 4 := ⟨by kernel_rfl, by kernel_rfl⟩
  generalize hSS : s.setR r = S at *
  have HSS := Lib.hid hSS
  obtain ⟨c0, hc0⟩ : ∃ c0, c0 = r := ⟨_, rfl⟩
  rw [← hc0] at HSS
  have HC0 := Lib.hid hc0
  obtain ⟨nm, cf, ts, rl⟩ := r
  unfold rtV at *
  dsimp only at *
  clear hO hle hok hS e1 e2 e3 he hr hSS hc0 ht hk ha
  go_enter Tryz.func13, Tryz.ntmps13
  go_wp2_with fail
  refine (SC.out _ (HT.out.later (Grow.G.alloc (Grow.G.refl w) _))).mono ?_
  rintro e w1 ⟨rfl, hb⟩
  have BX := (Blk.new w #[.string nm, .string cf, .slice a ts.length cap, .int .i64 rl] 45).grow hb
  have cx : w1.cell? ⟨w.heap.size, 0, none⟩ = some (.string nm) := (BX.cell 0).trans rfl
  have lx := BX.lt
  have G1 := Lib.hid (Grow.G.trans (Grow.G.alloc (Grow.G.refl w) _) hb)
  have BX := Lib.hid BX
  clear hb SC
  go_wp2_with fail
  refine (PY.out _ G1.out).mono ?_
  rintro e w3 ⟨v', lm', i, m', o, rfl, hm', ho', hk, hnm, hmo, hmap, hlen, F3, hS3, hC3, hF3⟩
  have hB3 := hS3.hb
  have hO3 := (hS3.ob hm').1
  have BX3 : Blk w3 w.heap.size #[.string nm, .string cf, .slice a ts.length cap, .int .i64 rl] 45 := BX.out.chg hC3 (fun q => by have := HF.out _ q; omega)
  have nx := blk_ne BX3 hO3 (by decide)
  have ng := blk_ne hB3 hO3 (by decide)
  have HT3 : TgtSl w3 a ts := (HT.out.later G1.out).chg hC3 (fun b o e => (HA.out b o e).1)
  have hab : ∀ b o, a = some ⟨b, o, none⟩ → b ≠ m'.b := fun b o e q => by
    have h1 := HA.out b o e
    rcases hF3 _ (hS3.mem hm') with h | h
    · exact h1.1 (q ▸ h)
    · have := G1.out.size; omega
  obtain ⟨mo, mb, mtv⟩ := m'
  dsimp only at hmo hO3 nx ng hab
  subst hmo
  have PL : Hid (∀ w' tv', Blk w' g ([v', .int .i64 ((s.n + 1 : Nat) : Int)] : List Value).toArray rshT → Blk w' mb (⟨{ o with r := c0, v := s.n + 1, is := true }, mb, tv'⟩ : OM).cells.toArray objT → w'.ownsRow 0 84 3 tv' c0.ts.length (flatT c0.ts) → (∀ k, tv'.ownBlock = some k → w3.heap.size ≤ k) → Chg (fun k => k = g ∨ k = mb) w3 w' → EndS w w' F (RfP g S)) := Lib.hid (fun w' tv' q1 q2 q4 q5 q3 => by
    obtain ⟨F4, hS4, hC4, hF4⟩ := hS3.turned (m' := ⟨{ o with r := c0, v := s.n + 1, is := true }, mb, tv'⟩) hm' rfl q1 q2 q4 (fun k hk => .inr (q5 k hk)) q3
    have c1 : Chg F w w3 := (Chg.grow G1.out).trans hC3
    have f1 : Fresh w F F3 := fun k hk => (hF3 k hk).imp id (fun q => Nat.le_trans G1.out.size q)
    refine ⟨F4, ⟨v', lm'.set i ⟨{ o with r := c0, v := s.n + 1, is := true }, mb, tv'⟩, ?_, by rw [List.length_set, hsn]; exact Nat.le_trans hlen (Nat.succ_le_succ HL.out.1), hoks.out, by rw [hsn]; exact hn, by rw [hsn]; exact hS4⟩, c1.more f1 hC4, f1.trans hF4 c1.size⟩
    rw [List.map_set, hmap, List.set_set, ← HSS.out]
    exact HO.out.setR ho' hk c0 (hnm.trans (by rw [HC0.out])))
  have OB := Lib.hid hO3
  have GB := Lib.hid hB3
  have BX3 := Lib.hid BX3
  have HT3 := Lib.hid HT3
  have HAB := Lib.hid hab
  clear hS3 hC3 hF3 hB3 hO3 hm' ho' hk hnm hmap hlen PY HO HL HF BX cx hab
  obtain ⟨okd, onm, ⟨d0, d1, d2, d3, d4, d5⟩, ⟨r0, r1, rts, r2⟩, ov, og, ois⟩ := o
  unfold OM.cells at OB PL
  dsimp only at OB PL
  have HC1 := HC0.out
  rw [HC1] at PL
  dsimp only at PL
  clear HC1 HC0 HSS hoks hsn
  have nx' : mb ≠ w.heap.size := fun e => nx e.symm
  have ng' : mb ≠ g := fun e => ng e.symm
  have HO6 : Hid (∀ u ∈ (Value.agg #[.string nm, .string cf, .slice a ts.length cap, .int .i64 rl]).cells.toList, u.oneCell' = true) := Lib.hid (by
    intro u hu
    have hu : u ∈ [Value.string nm, .string cf, .slice a ts.length cap, .int .i64 rl] := hu
    simp only [List.mem_cons, List.not_mem_nil, or_false] at hu
    rcases hu with rfl | rfl | rfl | rfl <;> rfl)
  have nx := Lib.hid nx
  have ng := Lib.hid ng
  clear nx' ng'
  go_wp2_with (first
    | (refine Box.loadAll (t := 45) rfl rfl rfl Tryz.underlying45 CE BX3.out rfl ?_)
    | (refine Box.store (t := 45) rfl rfl rfl rfl OB.out CI (by show 8 + 4 ≤ 15; omega) HO6.out ?_; refine Stay.go ?_))
  intro W9 B9 C9
  have B9 : Blk W9 mb #[.int .i64 okd, .string onm, .string d0, .int .i64 d1, .int .i64 d2, .int .i64 d3, .int .i64 d4, .int .i64 d5, .string nm, .string cf, .slice a ts.length cap, .int .i64 rl, .int .i64 ((s.n + 1 : Nat) : Int), .int .i64 (og : Int), .bool ois] objT := B9
  have cI : W9.cell? ⟨mb, 14, none⟩ = some (.bool ois) := (B9.cell 14).trans rfl
  have fI := B9.free 14
  have lI := B9.lt
  have BX9 := BX3.out.chg C9 nx.out
  obtain ⟨W8, hW8⟩ : ∃ W8, W8 = W9.setCell ⟨mb, 14, none⟩ (.bool true) := ⟨_, rfl⟩
  have C8 : Chg (fun k => k = mb) W9 W8 := by rw [hW8]; exact Chg.setCell (Chg.refl (fun k => k = mb) W9) (fun _ => rfl) _ _
  have B8 := B9.set 14 (.bool true)
  rw [← hW8] at B8
  have hs9 := Lib.hid (And.intro C9.size lI)
  have C8 := C9.trans C8
  have BX8 := BX3.out.chg C8 nx.out
  have GB8 := Lib.hid (GB.out.chg C8 (fun e => ng.out e))
  have HT8 := Lib.hid (HT3.out.chg C8 (fun b o e => HAB.out b o e))
  have cT : W9.cell? ⟨w.heap.size, 2, none⟩ = some (.slice a ts.length cap) := (BX9.cell 2).trans rfl
  have lX := BX9.lt
  have nz : mb ≠ w.heap.size := fun e => nx.out e.symm
  have B8 := Lib.hid B8
  have C8 := Lib.hid C8
  have HW8 := Lib.hid hW8
  clear B9 BX9 BX8 C9 hW8
  go_wp2_with (at_builtin; refine wpList_copyt rfl _ _ rfl rfl (by first | rfl | simp) ts rfl rfl (by rw [← HW8.out]; exact HT8.out) hl ?_)
  rw [← HW8.out]
  intro sa c' w5 o5 g5
  have B5 := B8.out.grow g5
  have G5 := Lib.hid (GB8.out.grow g5)
  have cV : w5.cell? ⟨mb, 12, none⟩ = some (.int .i64 ((s.n + 1 : Nat) : Int)) := (B5.cell 12).trans rfl
  have cR : w5.cell? ⟨mb, 10, none⟩ = some (.slice a ts.length cap) := (B5.cell 10).trans rfl
  have fR := B5.free 10
  have lR := B5.lt
  have hmb8 := B8.out.lt
  have Q5 := Lib.hid (B5.set 10 (.slice sa ts.length c'))
  have O5 := Lib.hid o5
  have GG5 := Lib.hid g5
  have hlt8 := Lib.hid hmb8
  clear B5 o5 g5 hmb8
  go_wp2_with fail
  go_returns
  have o5 := O5.out
  unfold OwnTs at o5
  refine ⟨by first | rfl | (congr 3), PL.out _ (.slice sa ts.length c') ?_ ?_ ?_ ?_ ?_⟩
  · exact G5.out.other ng.out _ _
  · exact Q5.out
  · exact (Chg.setCell (G := fun k => k = mb) (Chg.refl (fun k => k = mb) w5) (fun _ => rfl) _ _).own (own_base o5 (Nat.zero_le _)) (fun k hk e => by have e : k = mb := e; have := (o5.lt k hk).1; have := hs9.out.2; omega)
  · exact fun k hk => Nat.le_trans hs9.out.1 (o5.lt k hk).1
  · exact (((C8.out.mono fun k _ e => .inr e)).trans (Chg.grow GG5.out)).trans (Chg.setCell (Chg.refl _ _) (fun _ => .inr rfl) _ _)

/-- The names of a kind's objects that are there, each laid where it stands. -/
def namesO (kd : Int) : List Ob → List ByteArray → List ByteArray
  | [], N => N
  | o :: l, N => namesO kd l (if o.kd = kd ∧ o.is = true then insN N o.nm else N)
theorem namesO_step (kd : Int) {o : Ob} : ∀ {l : List Ob} {N : List ByteArray} {k : Nat}, l[k]? = some o → namesO kd (l.take (k + 1)) N = (if o.kd = kd ∧ o.is = true then insN (namesO kd (l.take k) N) o.nm else namesO kd (l.take k) N)
  | [], _, _, h => by simp at h
  | p :: l, N, 0, h => by
    simp only [List.getElem?_cons_zero, Option.some.injEq] at h
    subst h
    rw [List.take_succ_cons, List.take_zero, List.take_zero]
    rfl
  | p :: l, N, k + 1, h => by
    rw [List.getElem?_cons_succ] at h
    rw [List.take_succ_cons, List.take_succ_cons, namesO, namesO]
    exact namesO_step kd h
theorem namesO_asc (kd : Int) : ∀ (l : List Ob) (N : List ByteArray), Asc N → Asc (namesO kd l N)
  | [], N, h => h
  | o :: l, N, h => by
    rw [namesO]
    refine namesO_asc kd l _ ?_
    split
    · exact insN_asc _ h
    · exact h
theorem namesO_mem (kd : Int) (x : ByteArray) : ∀ (l : List Ob) (N : List ByteArray), x ∈ namesO kd l N ↔ x ∈ N ∨ ∃ o, o ∈ l ∧ o.kd = kd ∧ o.is = true ∧ o.nm = x
  | [], N => by simp [namesO]
  | o :: l, N => by
    rw [namesO, namesO_mem kd x l]
    constructor
    · rintro (h | ⟨p, hp, q⟩)
      · by_cases e : o.kd = kd ∧ o.is = true
        · rw [if_pos e, insN_mem] at h
          rcases h with h | h
          · exact .inl h
          · exact .inr ⟨o, by simp, e.1, e.2, h.symm⟩
        · rw [if_neg e] at h; exact .inl h
      · exact .inr ⟨p, by simp [hp], q⟩
    · rintro (h | ⟨p, hp, h1, h2, h3⟩)
      · refine .inl ?_
        split
        · exact (insN_mem _ _ _).2 (.inl h)
        · exact h
      · rcases List.mem_cons.1 hp with rfl | hp
        · refine .inl ?_
          rw [if_pos ⟨h1, h2⟩]
          exact (insN_mem _ _ _).2 (.inr h3.symm)
        · exact .inr ⟨p, hp, h1, h2, h3⟩
theorem namesO_len (kd : Int) : ∀ (l : List Ob) (N : List ByteArray), (namesO kd l N).length ≤ N.length + l.length
  | [], N => Nat.le_refl _
  | o :: l, N => by
    rw [namesO]
    have := namesO_len kd l (if o.kd = kd ∧ o.is = true then insN N o.nm else N)
    have h2 : (if o.kd = kd ∧ o.is = true then insN N o.nm else N).length ≤ N.length + 1 := by
      split
      · exact insN_len _ _
      · omega
    rw [List.length_cons]
    omega
theorem OSh.names {l : List Ob} {s : Sh} (h : OSh l s) (k : Int) : NamesOf (s.names k) (namesO k l []) := by
  refine ⟨?_, fun x => ?_⟩
  · have := namesO_asc k l [] List.Pairwise.nil
    refine List.pairwise_map.2 (this.imp fun {a b} q => ?_)
    rw [ltS_eq] at q
    exact of_decide_eq_true q
  · rw [namesO_mem]
    unfold Sh.names
    by_cases k1 : k = 1
    · subst k1
      rw [if_pos rfl]
      constructor
      · rintro (q | ⟨o, ho, h1, h2, h3⟩)
        · cases q
        · have := (h.c o ho h1).1
          rw [h3, if_pos h2] at this
          rw [this]; rfl
      · intro q
        refine .inr ?_
        apply Classical.byContradiction
        intro hno
        by_cases he : ∃ o, o ∈ l ∧ o.kd = 1 ∧ o.nm = x
        · obtain ⟨o, ho, h1, h3⟩ := he
          have := (h.c o ho h1).1
          rw [h3] at this
          cases hi : o.is with
          | true => exact hno ⟨o, ho, h1, hi, h3⟩
          | false => rw [hi] at this; rw [this] at q; cases q
        · have := (h.cn x fun o ho r => he ⟨o, ho, r⟩).1
          rw [this] at q; cases q
    · rw [if_neg k1]
      by_cases k2 : k = 2
      · subst k2
        rw [if_pos rfl]
        constructor
        · rintro (q | ⟨o, ho, h1, h2, h3⟩)
          · cases q
          · have := h.r o ho h1
            rw [h3, if_pos h2] at this
            rw [this]; rfl
        · intro q
          refine .inr ?_
          apply Classical.byContradiction
          intro hno
          by_cases he : ∃ o, o ∈ l ∧ o.kd = 2 ∧ o.nm = x
          · obtain ⟨o, ho, h1, h3⟩ := he
            have := h.r o ho h1
            rw [h3] at this
            cases hi : o.is with
            | true => exact hno ⟨o, ho, h1, hi, h3⟩
            | false => rw [hi] at this; rw [this] at q; cases q
          · have := h.rn x fun o ho r => he ⟨o, ho, r⟩
            rw [this] at q; cases q
      · rw [if_neg k2]
        constructor
        · rintro (q | ⟨o, ho, h1, h2, h3⟩)
          · cases q
          · have := h.kd o ho; omega
        · intro q; cases q
set_option maxHeartbeats 4000000 in
theorem rnames_any (g : Nat) (s : Sh) (k : Int) (w : World) (F : Nat → Prop) (h : RfP g s w F) (hn : s.n ≤ 5000) :
    Calls Tryz.prog 38 #[pt g, .int .i64 k] w fun e w' => ∃ v L, e = .returned v ∧ NamesOf (s.names k) L ∧ L.length ≤ 1099511627776 ∧ w'.ownsRow w.heap.size 9 1 v L.length (L.map Value.string) ∧ Grow.G w w' := by
  obtain ⟨vv, lm, hO, hle, hok, hn2, hS⟩ := h
  have HN := Lib.hid (hO.names k)
  have HL := Lib.hid (fun l => namesO_len k l [])
  have hlm : lm.length ≤ 5000 := by omega
  have KK := Lib.hid (fun wr (hg : Grow.G w wr) => (RfS.foot g s.n vv lm).grow hS hg)
  obtain ⟨a, c, rfl⟩ := hS.sl
  clear hO hle hok hn2 hS
  generalize hll : lm.map OM.o = lo at *
  have HLO := Lib.hid hll
  clear hll
  go_enter Tryz.func38, Tryz.ntmps38
  go_wp2_with fail
  go_loopw [5, 6] (fun r i wr => ∃ (j : Nat) (sa : Option Addr) (sc : Nat), j ≤ lm.length ∧ i = .int .i64 j ∧ r = .slice sa (namesO k (lo.take j) []).length sc ∧ Hid (wr.ownsRow w.heap.size 9 1 (.slice sa (namesO k (lo.take j) []).length sc) (namesO k (lo.take j) []).length ((namesO k (lo.take j) []).map Value.string)) ∧ Hid (Grow.G w wr)) (fun _ i _ => lm.length - (intOf i).toNat)
  case atStart => exact ⟨0, none, 0, by omega, rfl, rfl, Lib.hid ⟨rfl, .inl ⟨rfl, rfl⟩⟩, Lib.hid (Grow.G.refl _)⟩
  case round =>
    obtain ⟨j, sa, sc, hj, rfl, rfl, OW, G⟩ := hrel
    have hS := KK.out wr G.out
    have c0 : wr.cell? ⟨g, 0, none⟩ = some (.slice a lm.length c) := (hS.hb.cell 0).trans rfl
    have hgl := hS.hb.lt
    by_cases hlt : j < lm.length
    · obtain ⟨m, hm⟩ : ∃ m, lm[j]? = some m := ⟨_, List.getElem?_eq_getElem hlt⟩
      obtain ⟨r, c', e, cr⟩ := hS.at hm
      cases e
      have hB := (hS.ob hm).1
      have ck : wr.cell? ⟨m.b, 0, none⟩ = some (.int .i64 m.o.kd) := (hB.cell 0).trans rfl
      have cn : wr.cell? ⟨m.b, 1, none⟩ = some (.string m.o.nm) := (hB.cell 1).trans rfl
      have ci : wr.cell? ⟨m.b, 14, none⟩ = some (.bool m.o.is) := (hB.cell 14).trans rfl
      have hmo : lo[j]? = some m.o := by rw [← HLO.out, List.getElem?_map, hm]; rfl
      have ST := Lib.hid (namesO_step k (N := []) hmo)
      have hlen := HL.out (lo.take j)
      have hlt2 := List.length_take_le j lo
      have d0 : decide ((j : Int) < (lm.length : Int)) = true := decide_eq_true (by omega)
      have hk1 : IntKind.i64.wrap ((j : Int) + 1) = (j : Int) + 1 := IntWalk.i64_in _ ⟨by omega, by omega⟩
      have k1 : (0 : Int) ≤ (j : Int) := by omega
      have k2 : (j : Int) < (lm.length : Int) := by omega
      have hlN : (namesO k (lo.take j) []).length ≤ 10000 := by
        have : ([] : List ByteArray).length = 0 := rfl
        omega
      have PU := Lib.hid (rput_any (.slice sa (namesO k (lo.take j) []).length sc) (namesO k (lo.take j) []) m.o.nm w.heap.size wr hlN G.out.size OW.out)
      clear hm hmo hB hS hlen hlt2 hlN
      generalize namesO k (lo.take j) [] = N at *
      by_cases e : m.o.kd = k ∧ m.o.is = true
      · have d1 : (m.o.kd == k) = true := by simpa using e.1
        rw [if_pos e] at ST
        rw [e.2] at ci
        clear e
        go_wp2_with fail
        refine PU.out.mono ?_
        rintro e w2 ⟨v', rfl, ho, hg⟩
        obtain ⟨sa', sc', rfl⟩ := own_shape ho
        have OW2 := Lib.hid ho
        have G2 := Lib.hid (G.out.trans hg)
        clear ho hg PU
        go_wp2_with fail
        go_roundw
        case rel => exact ⟨j + 1, sa', sc', by omega, by go_num, by rw [ST.out], by rw [ST.out]; exact OW2, G2⟩
        case measure => simp [intOf]; omega
      · rw [if_neg e] at ST
        by_cases e1 : m.o.kd = k
        · have d1 : (m.o.kd == k) = true := by simpa using e1
          have e2 : m.o.is = false := by
            cases hi : m.o.is with
            | false => rfl
            | true => exact absurd ⟨e1, hi⟩ e
          rw [e2] at ci
          clear e e1 e2 PU
          go_wp2_with fail
          go_roundw
          case rel => exact ⟨j + 1, sa, sc, by omega, by go_num, by rw [ST.out], by rw [ST.out]; exact OW, G⟩
          case measure => simp [intOf]; omega
        · have d1 : (m.o.kd == k) = false := by simpa using e1
          clear e e1 PU
          go_wp2_with fail
          go_roundw
          case rel => exact ⟨j + 1, sa, sc, by omega, by go_num, by rw [ST.out], by rw [ST.out]; exact OW, G⟩
          case measure => simp [intOf]; omega
    · obtain rfl : j = lm.length := by omega
      have d0 : decide ((lm.length : Int) < (lm.length : Int)) = false := decide_eq_false (by omega)
      have e0 : lo.take lm.length = lo := List.take_of_length_le (by rw [← HLO.out]; simp)
      rw [e0] at OW ⊢
      have hlen := HL.out lo
      have hlo : lo.length = lm.length := by rw [← HLO.out]; simp
      have hnil : ([] : List ByteArray).length = 0 := rfl
      clear e0 hS KK
      have hlL : (namesO k lo []).length ≤ 1099511627776 := by omega
      clear hlen hlo hnil
      generalize namesO k lo [] = N at *
      go_wp2_with fail
      go_ret
      exact ⟨_, N, rfl, HN.out, hlL, OW.out, G.out⟩
end Go.Proofs.YtlnffdkaleapbaaGreat
