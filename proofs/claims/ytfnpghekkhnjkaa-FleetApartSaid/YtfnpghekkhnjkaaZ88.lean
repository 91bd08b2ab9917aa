/- My own texts FpG, FpV, FpI, FpJ, laid in one file. -/
import Derived.Test.YtfnpghekkhnjkaaZ87
import Derived.Test.YtfnpghekkhnjkaaZ83

/- The program's fleet: Up, Give. -/
namespace Go.Proofs.Ytfnpghekkhnjkaa
set_option maxRecDepth 100000
set_option linter.unusedVariables false
set_option linter.unusedSimpArgs false
set_option linter.unnecessarySimpa false
open Go.RowKit Go.MapV Go.Maps

section
variable {w0 w : World} {L : List MBox} {A B : Hp} {g : Nat} {f f' : Fl} {r n : Int} {mp ma : Nat} {lm p q : List PM} {m : PM} {ks : List Int} {av : Int → Value} {er : Int} {st : ByteArray}
theorem find_none_of {lm : List PM} {l : List Po} {id : Int} (h1 : lm.map PM.h = l) (e : findM lm id = none) : findP l id = none := by
  rw [← h1, ← findM_map, e]; rfl
theorem find_some_of {lm : List PM} {l : List Po} {id : Int} {m : PM} (h1 : lm.map PM.h = l) (e : findM lm id = some m) : findP l id = some m.h := by
  rw [← h1, ← findM_map, e]; rfl
def atK (o : Option (Int × List Int)) : Value := match o with
  | none => .int .i64 0
  | some k => .int .i64 k.1
theorem reqs_key (l : List Po) : reqsP l = (l.map fun h => (h.id, h.p.l)).flatMap Prod.snd := by unfold reqsP; rw [List.flatMap_map]
theorem where_key (l : List Po) (x : Int) : whereV l x = atK ((l.map fun h => (h.id, h.p.l)).find? fun k => decide (x ∈ k.2)) := by
  rw [List.find?_map]
  show _ = atK (Option.map (fun h : Po => (h.id, h.p.l)) (List.find? (fun h : Po => decide (x ∈ h.p.l)) l))
  unfold whereV whereP
  cases List.find? (fun h : Po => decide (x ∈ h.p.l)) l <;> rfl
theorem reqs_same {l l' : List Po} (h : l'.map (fun h => (h.id, h.p.l)) = l.map (fun h => (h.id, h.p.l))) : reqsP l' = reqsP l ∧ whereV l' = whereV l :=
  ⟨by rw [reqs_key, reqs_key, h], funext fun x => by rw [where_key, where_key, h]⟩
set_option maxHeartbeats 4000000 in
theorem hold_fup (h : Hold w0 w L (Sep (FlP g f) B)) (hB : Foot B) (id : Int) (hi : wf64 id) (h1 : f.up id = er := by rfl) (h2 : f.aftUp id = f' := by rfl) :
    Calls Try.prog 18 #[pz g, .int .i64 id] w fun e w' => e = .returned (.int .i64 er) ∧ Hold w0 w' L (Sep (FlP g f') B) := by
  obtain ⟨mp, ma, lm, e1, ok, HS⟩ := hold_flopen h
  obtain ⟨F, hF⟩ := hold_FS HS
  have c2 := hF.c2
  have hl := hF.hb.lt
  have HM := Lib.hid hF.hm.mapN
  have HK := Lib.hid (keysI id hi)
  have FB := Lib.hid hB
  cases hf : findM lm id with
  | none =>
    have hn := find_none_of e1 hf
    have her : er = 6 := by rw [← h1]; unfold Fl.up; rw [hn]
    have hf' : f' = f := by
      rw [← h2]
      unfold Fl.aftUp
      rw [chgP_no ok.l (fun b hb => findP_none hn b hb)]
    subst her hf'
    have HA : Hid ((onZ (keysM (idsM lm) (ownV lm)) (intK id)).getD ownZ = .agg #[.string ⟨#[]⟩, .pointer none]) := Lib.hid (by rw [own_at]; unfold ownV; rw [hf]; rfl)
    have HI : Hid ((onZ (keysM (idsM lm) (ownV lm)) (intK id)).isSome = false) := Lib.hid (by rw [own_is, hf]; rfl)
    have H := Lib.hid h
    clear h hF HS hf hn h1 h2
    go_enter Try.func18, Try.ntmps18
    go_wp2_with (at_lookup; refine look2v (.agg #[.string ⟨#[]⟩, .pointer none]) false rfl rfl keyedZ Try.underlying59 zeroOwned rfl HM.out rfl HK.out HA.out HI.out ?_)
    go_ret
    exact ⟨rfl, H.out.grow ((FlP.foot _ _).sep FB.out) (Grow.G.alloc (Grow.G.refl _) _)⟩
  | some m =>
    obtain ⟨p, q, rfl, rfl⟩ := findM_split hf
    have hfp := find_some_of e1 hf
    have HA : Hid ((onZ (keysM (idsM (p ++ m :: q)) (ownV (p ++ m :: q))) (intK m.h.id)).getD ownZ = .agg #[.string m.h.rv, pz m.p]) := Lib.hid (by rw [own_at]; unfold ownV; rw [hf]; rfl)
    have HI : Hid ((onZ (keysM (idsM (p ++ m :: q)) (ownV (p ++ m :: q))) (intK m.h.id)).isSome = true) := Lib.hid (by rw [own_is, hf]; rfl)
    have hl2 : f.l = p.map PM.h ++ m.h :: q.map PM.h := by rw [← e1, List.map_append, List.map_cons]
    have hst := (ok.l.pod m.h (findP_mem hfp).1).2.1
    have her : m.h.p.up = er := by rw [← h1]; unfold Fl.up; rw [hfp]
    have ok' := ok.l
    rw [hl2] at ok'
    have HF : Hid ((p ++ m.to m.h.p.aftUp :: q).map PM.h = f'.l ∧ f'.room = f.room ∧ f'.n = f.n ∧ f'.ok ∧ reqsP f'.l = reqsP f.l ∧ whereV f'.l = whereV f.l) := by
      have e : (p ++ m.to m.h.p.aftUp :: q).map PM.h = f'.l := by
        rw [← h2]
        show _ = chgP f.l m.h.id Pd.aftUp
        rw [hl2, chgP_midP ok' (up_st _ hst)]
      refine Lib.hid ⟨e, by rw [← h2]; rfl, by rw [← h2]; rfl, by rw [← h2]; exact Fl.ok_up ok _, reqs_same ?_⟩
      rw [← e, hl2]
      simp [PM.to, Po.to, up_l]
    have HP := Lib.hid ((hold_pm HS).grow ((PdP.foot _ _).sep ((FlR.foot _ _ _ _ _ _ _ _ _ _).sep hB)) (Grow.G.alloc (Grow.G.refl _) (.cells #[.string m.h.rv, pz m.p] ownedT)))
    clear h hF HS hf hfp h1 h2 hl2 ok'
    go_enter Try.func18, Try.ntmps18
    go_wp2_with (at_lookup; refine look2v (.agg #[.string m.h.rv, pz m.p]) true rfl rfl keyedZ Try.underlying59 zeroOwned rfl HM.out rfl HK.out HA.out HI.out ?_)
    refine (hold_pup (er := er) HP.out ((FlR.foot _ _ _ _ _ _ _ _ _ _).sep FB.out) her rfl).mono ?_
    rintro e w2 ⟨rfl, hh⟩
    obtain ⟨z1, z2, z3, z4, z5, z6⟩ := HF.out
    have H2 := Lib.hid (hold_flclose (f := f') (by rw [z2, z3]; exact hold_pm' hh) z1 z4 (fun x => by rw [z5]) (fun x _ => by rw [z6]))
    clear hh HP
    go_wp2_with fail
    go_ret
    exact ⟨rfl, H2.out⟩
end
end Go.Proofs.Ytfnpghekkhnjkaa

/- Who has which request: what a turn changes of it (plain facts). -/
namespace Go.Proofs.Ytfnpghekkhnjkaa
set_option maxRecDepth 100000
set_option linter.unusedVariables false
set_option linter.unusedSimpArgs false
open Go.RowKit

/-- The pod of that number has that request. -/
def hasP (l : List Po) (id y : Int) : Prop := ∃ h, h ∈ l ∧ h.id = id ∧ y ∈ h.p.l
theorem reqs_has {l : List Po} {y : Int} : y ∈ reqsP l ↔ ∃ id, hasP l id y := by
  rw [mem_reqs]
  exact ⟨fun ⟨h, h1, h2⟩ => ⟨h.id, h, h1, rfl, h2⟩, fun ⟨id, h, h1, _, h2⟩ => ⟨h, h1, h2⟩⟩
theorem where_has {l : List Po} (ok : PosOk l) {id y : Int} (h : hasP l id y) : whereV l y = .int .i64 id := by
  obtain ⟨a, h1, rfl, h2⟩ := h
  unfold whereV
  cases e : whereP l y with
  | none => exact absurd h2 (whereP_none e a h1)
  | some b =>
    obtain ⟨h3, h4⟩ := whereP_mem e
    by_cases q : b = a
    · rw [q]
    · exfalso
      obtain ⟨i, hi⟩ := List.getElem?_of_mem h1
      obtain ⟨j, hj⟩ := List.getElem?_of_mem h3
      obtain ⟨hil, ei⟩ := List.getElem?_eq_some_iff.1 hi
      obtain ⟨hjl, ej⟩ := List.getElem?_eq_some_iff.1 hj
      rcases Nat.lt_trichotomy i j with r | r | r
      · have := List.pairwise_iff_getElem.1 ok.apart i j hil hjl r y
        rw [ei, ej] at this
        exact this h2 h4
      · subst r; exact q (ej.symm.trans ei)
      · have := List.pairwise_iff_getElem.1 ok.apart j i hjl hil r y
        rw [ei, ej] at this
        exact this h4 h2
theorem has_mid {p q : List PM} {m : PM} {id y : Int} : hasP ((p ++ m :: q).map PM.h) id y ↔ hasP ((p ++ q).map PM.h) id y ∨ (m.h.id = id ∧ y ∈ m.h.p.l) := by
  unfold hasP
  simp only [List.map_append, List.map_cons, List.mem_append, List.mem_cons]
  constructor
  · rintro ⟨h, (h1 | rfl | h1), h2, h3⟩
    · exact .inl ⟨h, .inl h1, h2, h3⟩
    · exact .inr ⟨h2, h3⟩
    · exact .inl ⟨h, .inr h1, h2, h3⟩
  · rintro (⟨h, (h1 | h1), h2, h3⟩ | ⟨h2, h3⟩)
    · exact ⟨h, .inl h1, h2, h3⟩
    · exact ⟨h, .inr (.inr h1), h2, h3⟩
    · exact ⟨m.h, .inr (.inl rfl), h2, h3⟩
/-- Others of the pods have none of one's requests. -/
theorem has_apart {p q : List PM} {m : PM} (ok : PosOk ((p ++ m :: q).map PM.h)) {id y : Int} (hy : y ∈ m.h.p.l) : ¬ hasP ((p ++ q).map PM.h) id y := by
  rintro ⟨h, h1, h2, h3⟩
  have e1 := where_has ok (id := h.id) (has_mid.2 (.inl ⟨h, h1, rfl, h3⟩))
  have e2 := where_has ok (id := m.h.id) (y := y) (has_mid.2 (.inr ⟨rfl, hy⟩))
  have e3 : h.id = m.h.id := by rw [e1] at e2; injection e2
  have hids := ok.ids
  rw [List.map_append, List.map_cons, List.pairwise_append, List.pairwise_cons] at hids
  rw [List.map_append] at h1
  rcases List.mem_append.1 h1 with h1 | h1
  · have := hids.2.2 h h1 m.h List.mem_cons_self; omega
  · have := hids.2.1.1 h h1; omega
/-- What bury leaves of them, told as chgP. -/
theorem bury_is {p q : List PM} {m : PM} (ok : PosOk ((p ++ m :: q).map PM.h)) {gg : Pd → Pd} : (buryM p q (m.to (gg m.h.p))).map PM.h = chgP ((p ++ m :: q).map PM.h) m.h.id gg := by
  rw [List.map_append, List.map_cons] at ok ⊢
  unfold buryM
  by_cases e : (gg m.h.p).st = 4
  · rw [if_pos (show (m.to (gg m.h.p)).h.p.st = 4 from e), chgP_outP ok e]
  · rw [if_neg (show ¬ (m.to (gg m.h.p)).h.p.st = 4 from e), chgP_midP ok e]
theorem has_bury {p q : List PM} {m : PM} {s : Pd} (hd : s.st = 4 → s.l = []) {id y : Int} : hasP ((buryM p q (m.to s)).map PM.h) id y ↔ hasP ((p ++ q).map PM.h) id y ∨ (m.h.id = id ∧ y ∈ s.l) := by
  unfold buryM
  by_cases e : s.st = 4
  · rw [if_pos (show (m.to s).h.p.st = 4 from e), hd e]; simp
  · rw [if_neg (show ¬ (m.to s).h.p.st = 4 from e), has_mid]
    exact Iff.rfl
theorem give_dead {s : Pd} (h4 : s.st ≠ 4) (x : Int) : (s.aftGive x).st = 4 → (s.aftGive x).l = [] := by
  unfold Pd.aftGive
  split
  · dsimp only
    split
    · rename_i h; exact fun _ => h.2
    · exact fun h => absurd h h4
  · exact fun h => absurd h h4
theorem kill_nil {s : Pd} (h4 : s.st ≠ 4) : s.aftKill = ⟨s.c, 4, []⟩ := by unfold Pd.aftKill; rw [if_neg h4]
theorem drain_dead {s : Pd} (h4 : s.st ≠ 4) : s.aftDrain.st = 4 → s.aftDrain.l = [] := by
  unfold Pd.aftDrain
  split
  · dsimp only
    split
    · rename_i h; exact fun _ => h
    · exact fun h => by simp at h
  · exact fun h => absurd h h4
end Go.Proofs.Ytfnpghekkhnjkaa

/- The program's fleet: Give. -/
namespace Go.Proofs.Ytfnpghekkhnjkaa
set_option maxRecDepth 100000
set_option linter.unusedVariables false
set_option linter.unusedSimpArgs false
set_option linter.unnecessarySimpa false
open Go.RowKit Go.MapV Go.Maps

theorem FlR.g {w : World} {F : Nat → Prop} {g : Nat} {r n : Int} {mp ma : Nat} {ids : List Int} {ov : Int → Value} {lm : List PM} {ks : List Int} {av : Int → Value} {B : Hp} (h : Sep (FlR g r n mp ma ids ov lm ks av) B w F) : F g ∧ F mp ∧ F ma := by
  obtain ⟨F1, F2, ⟨F3, F4, a, ⟨F5, F6, b, ⟨F7, F8, c, _, _, e4⟩, _, e3⟩, _, e2⟩, _, _, e⟩ := h
  exact ⟨(e _).2 (.inl ((e2 _).2 (.inl ((a.2 _).2 rfl)))), (e _).2 (.inl ((e2 _).2 (.inr ((e3 _).2 (.inl ((b.2 _).2 rfl)))))), (e _).2 (.inl ((e2 _).2 (.inr ((e3 _).2 (.inr ((e4 _).2 (.inl ((c.2 _).2 rfl))))))))⟩
theorem where_some {l : List Po} {x : Int} {h : Po} (e : whereP l x = some h) : whereV l x = .int .i64 h.id := by unfold whereV; rw [e]
theorem find_of_mem {lm : List PM} {l : List Po} (ok : PosOk l) (h1 : lm.map PM.h = l) {h : Po} (hh : h ∈ l) : ∃ m, findM lm h.id = some m ∧ m.h = h := by
  subst h1
  obtain ⟨m, hm, rfl⟩ := List.mem_map.1 hh
  exact ⟨m, findM_at (nodup_ids ok) hm, rfl⟩
theorem Fl.wf {f : Fl} (ok : f.ok) {h : Po} (hh : h ∈ f.l) : wf64 h.id := by
  have h1 := ok.rng h hh; have h2 := ok.n
  unfold wf64; omega
section
variable {w0 w : World} {L : List MBox} {A B : Hp} {g : Nat} {f f' : Fl} {r n : Int} {mp ma : Nat} {lm p q : List PM} {m : PM} {ks : List Int} {av : Int → Value} {er : Int} {st : ByteArray}
set_option maxHeartbeats 4000000 in
theorem hold_fgive (h : Hold w0 w L (Sep (FlP g f) B)) (hB : Foot B) (x : Int) (hx : wf64 x) (h1 : f.giveR x = st := by rfl) (h2 : f.give x = er := by rfl) (h3 : f.aftGive x = f' := by rfl) :
    Calls Try.prog 19 #[pz g, .int .i64 x] w fun e w' => e = .returned (.tuple #[.string st, .int .i64 er]) ∧ Hold w0 w' L (Sep (FlP g f') B) := by
  obtain ⟨mp, ma, lm, e1, ok, HS⟩ := hold_flopen h
  obtain ⟨F, hF⟩ := hold_FS HS
  have c3 := hF.c3
  have hl := hF.hb.lt
  have HMA := Lib.hid (hold_AS HS).mapN
  have HKX := Lib.hid (keysI x hx)
  have FB := Lib.hid hB
  cases hw : whereP f.l x with
  | none =>
    have hst : st = ⟨#[]⟩ := by rw [← h1]; unfold Fl.giveR; rw [hw]
    have her : er = 6 := by rw [← h2]; unfold Fl.give; rw [hw]
    have hf' : f' = f := by rw [← h3]; unfold Fl.aftGive; rw [hw]
    subst hst her hf'
    have HA : Hid ((onZ (keysM (reqsP f'.l) (whereV f'.l)) (intK x)).getD (.int .i64 0) = .int .i64 0) := Lib.hid (by rw [at_at]; unfold whereV; rw [hw])
    have HI : Hid ((onZ (keysM (reqsP f'.l) (whereV f'.l)) (intK x)).isSome = false) := Lib.hid (by rw [at_is, hw]; rfl)
    have H := Lib.hid h
    clear h hF HS hw h1 h2 h3
    go_enter Try.func19, Try.ntmps19
    go_wp2_with (at_lookup; refine look2v (.int .i64 0) false rfl rfl keyedZ Try.underlying60 zeroI rfl HMA.out rfl HKX.out HA.out HI.out ?_)
    go_returns
    exact ⟨rfl, H.out⟩
  | some h0 =>
    obtain ⟨hh0, hx0⟩ := whereP_mem hw
    obtain ⟨m, hfm, rfl⟩ := find_of_mem ok.l e1 hh0
    obtain ⟨p, q, rfl, -⟩ := findM_split hfm
    have hst : m.h.rv = st := by rw [← h1]; unfold Fl.giveR; rw [hw]
    have her : er = 0 := by rw [← h2]; unfold Fl.give; rw [hw]
    have hf' : f' = ⟨f.room, f.n, chgP f.l m.h.id (fun p => p.aftGive x)⟩ := by rw [← h3]; unfold Fl.aftGive; rw [hw]
    have okg := Fl.ok_give ok x
    rw [h3] at okg
    have HA : Hid ((onZ (keysM (reqsP f.l) (whereV f.l)) (intK x)).getD (.int .i64 0) = .int .i64 m.h.id) := Lib.hid (by rw [at_at]; exact where_some hw)
    have HI : Hid ((onZ (keysM (reqsP f.l) (whereV f.l)) (intK x)).isSome = true) := Lib.hid (by rw [at_is, hw]; rfl)
    have hwf := Fl.wf ok hh0
    have hst4 := (ok.l.pod m.h hh0).2.1
    have okm : PosOk ((p ++ m :: q).map PM.h) := by rw [e1]; exact ok.l
    have hnd := nodup_ids okm
    obtain ⟨F1, HL0⟩ := (hold_pm HS).namedL
    have HL := Lib.hid HL0
    have FR := Lib.hid ((FlR.foot g f.room f.n mp ma (idsM (p ++ m :: q)) (ownV (p ++ m :: q)) (p ++ q) (reqsP f.l) (whereV f.l)).sep hB)
    have ng : Hid (¬ F1 g) := Lib.hid (HL0.not fun F2 b => (FlR.g b).1)
    have nm : Hid (¬ F1 mp) := Lib.hid (HL0.not fun F2 b => (FlR.g b).2.1)
    have BG := Lib.hid hF.hb
    have BM := Lib.hid hF.hm
    have HK := Lib.hid (keysI m.h.id hwf)
    have HV : Hid ((onZ (keysM (idsM (p ++ m :: q)) (ownV (p ++ m :: q))) (intK m.h.id)).getD ownZ = .agg #[.string m.h.rv, pz m.p]) := Lib.hid (by rw [own_at]; unfold ownV; rw [hfm]; rfl)
    have X1 := fld1 m.h.rv (some ⟨m.p, 0, none⟩)
    have KC := Lib.hid (fun (w' : World) (h : Chg F1 w w') => (⟨h.cell hF.c2 ng.out, trivial⟩ : w'.cell? ⟨g, 2, none⟩ = some (.map (some mp)) ∧ True))
    have OF := Lib.hid (fun (w' : World) (h : Chg F1 w w') => quietO (fof_low g f.room f.n mp ma (p ++ m :: q) m.h.id w' (BG.out.chg h ng.out) (BM.out.chg h nm.out) hwf))
    rw [hfm] at OF
    dsimp only at OF
    have HG0 : Hid (m.h.p.give x = 0) := Lib.hid (if_pos hx0)
    have HWF := Lib.hid hwf
    have HREST := Lib.hid (And.intro e1 (And.intro okm (And.intro hnd (And.intro hst4 (And.intro hf' (And.intro okg hx0))))))
    have HB := Lib.hid hst
    subst her
    clear h HL0 hF HS hw h1 h2 h3 hfm hh0 hx0 hwf hst4 okm hnd hf' okg e1 hst
    go_enter Try.func19, Try.ntmps19
    go_wp2_with (at_lookup; refine look2v (.int .i64 m.h.id) true rfl rfl keyedZ Try.underlying60 zeroI rfl HMA.out rfl HKX.out HA.out HI.out ?_)
    refine Evo2.start' (ℓ := none) (S := Chg (F1)) (E := Grow.G) (by kernel_rfl) ⟨Chg.pre _, by decide +kernel, (by intro c a d v w h; cases d <;> exact h), by decide +kernel⟩ (fun ok => ?_)
    refine Evo2.va ok 0 _ _ ?_
    refine Evo2.va ok 1 _ _ ?_
    (refine Evo2.cal ok 2 ?_ 17 ?_ ?_ ?_ ?_; rotate_left 2; (focus (intro w'; go_simp <;> with_reducible rfl)); (focus (intro w' g'; with_reducible exact OF.out w' (Chg.trans (Chg.refl (F1) _) g'))); simp only [Act.put, L0, L1, L2])
    refine Evo2.va ok 3 _ _ ?_
    refine Evo2.va ok 4 _ _ ?_
    refine Evo2.va ok 5 _ _ ?_
    first | (refine Evo2.vl ok 6 KC.out (Chg.refl (F1) _) _ _ ?_) | (refine Evo2.va ok 6 _ _ ?_)
    refine Evo2.va ok 7 _ _ ?_
    first | (refine Evo2.val ok 8 ?_ ?_ ?_; rotate_left; (focus (intro w' hg; refine exec_look1v (.agg #[.string m.h.rv, pz m.p]) (.int .i64 m.h.id) ?_ keyedZ Try.underlying59 zeroOwned (BM.out.chg (Chg.trans (Chg.refl (F1) _) hg) nm.out).mapN HK.out HV.out; (all_goals exact ⟨rfl, rfl, rfl, rfl⟩))); simp only [Act.put, L0, L1, L2]) | (refine Evo2.va ok 8 _ _ ?_)
    refine Evo2.va ok 9 _ _ ?_
    refine Evo2.va ok 10 _ _ ?_
    refine Evo2.all [11] (by decide +kernel) rfl ?_
    intro wp1 gp1 iq hq
    simp only [List.mem_cons, List.mem_nil_iff, or_false] at hq
    have AP1 := Chg.trans (Chg.refl (F1) _) (Chg.grow gp1)
    subst hq
    refine Evo2.enters 37 _ (by rfl) (by rfl) (by go_simp; exact ⟨rfl, rfl⟩) ?_
    refine (((HL.out.grow (PdP.foot _ _) FR.out gp1).call FR.out (pgive_any m.p m.h.p x wp1 F1 (HL.out.grow (PdP.foot _ _) FR.out gp1).a hx))).mono ?_
    rintro e wc1 ⟨rfl, H2, CH1⟩; rw [HG0.out]
    refine ⟨_, rfl, .inr CH1, ?_⟩
    have AC1 := Chg.trans AP1 CH1
    simp only [Act.put, L0, L1, L2]
    refine Evo2.va ok 12 _ _ ?_
    refine Evo2.va ok 13 _ _ ?_
    refine Evo2.done (by decide +kernel) (fun wz gz => ?_)
    have AZ := Chg.trans AC1 (Chg.grow gz)
    have H3 := Lib.hid (hold_pm' (H2.grow ((PdP.foot _ _).sep FR.out) gz))
    have FM := Lib.hid ((BlkF.foot g (flC f.room f.n mp ma) fleetT).sep (((MapF.foot Try.prog 3 mp (idsM (p ++ m.to (m.h.p.aftGive x) :: q)) (ownV (p ++ m.to (m.h.p.aftGive x) :: q))).sep (SepL.foot PmF.foot (p ++ m.to (m.h.p.aftGive x) :: q))).sep FB.out))
    obtain ⟨F3, hF3⟩ := hold_FS H3.out
    have c3 := hF3.c3
    have hl := hF3.hb.lt
    have HN : Hid ((cutZ (reqsP f.l) x).Nodup) := Lib.hid ((reqs_nodup (by rw [← HREST.out.1]; exact HREST.out.2.1)).filter _)
    have HM2 := Lib.hid (hold_ma H3.out)
    clear H2 HL KC OF HMA HV HK X1 BG BM ng nm AZ gz gp1 CH1 HA HI hF3
    dsimp only [Exit.then]
    go_wp2_with (at_delete; refine Hold.delF FM.out rfl rfl Try.underlying60 undI rfl HM2.out rfl hx.1 hx.2 (cutZ (reqsP f.l) x) (whereV f.l) HN.out (fun z => cutZ_mem) (fun z _ => rfl) ?_; intro w9 H9)
    refine Stay.go ?_
    have H10 := Lib.hid (hold_ma' H9)
    clear H9 HM2
    have BU := Lib.hid (hold_bury (m := m.to (m.h.p.aftGive x)) H10.out FB.out (by rw [ids_to]; exact HREST.out.2.2.1) HWF.out)
    go_wp2_with fail
    refine BU.out.mono ?_
    rintro e w10 ⟨rfl, H11⟩
    obtain ⟨e1, okm, hnd, hst4, hf', okg, hx0⟩ := HREST.out
    have e2 : (buryM p q (m.to (m.h.p.aftGive x))).map PM.h = f'.l := (bury_is (gg := fun p => p.aftGive x) okm).trans (by rw [hf', e1])
    have ok' := okg.l
    have ok0 : PosOk f.l := by rw [← e1]; exact okm
    have hh : ∀ id y, hasP f'.l id y ↔ hasP f.l id y ∧ y ≠ x := fun id y => by
      rw [← e2, ← e1, has_bury (give_dead hst4 x), has_mid]
      unfold Pd.aftGive
      rw [if_pos hx0]
      dsimp only
      rw [cutZ_mem]
      constructor
      · rintro (q1 | ⟨q1, q2, q3⟩)
        · exact ⟨.inl q1, fun e => has_apart okm (y := y) (by rw [e]; exact hx0) q1⟩
        · exact ⟨.inr ⟨q1, q2⟩, q3⟩
      · rintro ⟨q1 | ⟨q1, q2⟩, q3⟩
        · exact .inl q1
        · exact .inr ⟨q1, q2, q3⟩
    have HC := Lib.hid (hold_flclose (f := f') (by rw [hf']; exact H11) e2 okg (fun y => by
        rw [cutZ_mem, reqs_has, reqs_has]
        exact ⟨fun ⟨id, q⟩ => ⟨⟨id, ((hh id y).1 q).1⟩, ((hh id y).1 q).2⟩, fun ⟨⟨id, q⟩, q2⟩ => ⟨id, (hh id y).2 ⟨q, q2⟩⟩⟩) (fun y hy => by
        rw [cutZ_mem, reqs_has] at hy
        obtain ⟨⟨id, q⟩, q2⟩ := hy
        rw [where_has ok' ((hh id y).2 ⟨q, q2⟩), where_has ok0 q]))
    clear H11 e1 okm hnd hst4 hf' okg hx0 e2 ok' ok0 hh BU H10 H3
    go_wp2_with fail
    go_returns
    refine ⟨?_, HC.out⟩
    have hb := HB.out
    subst hb
    rfl
end
end Go.Proofs.Ytfnpghekkhnjkaa

/- The program's fleet: Kill. -/
namespace Go.Proofs.Ytfnpghekkhnjkaa
set_option maxRecDepth 100000
set_option linter.unusedVariables false
set_option linter.unusedSimpArgs false
set_option linter.unnecessarySimpa false
open Go.RowKit Go.MapV Go.Maps

section
variable {w0 w : World} {L : List MBox} {A B : Hp} {g : Nat} {f f' : Fl} {r n : Int} {mp ma : Nat} {lm p q : List PM} {m : PM} {ks : List Int} {av : Int → Value} {er : Int} {tl : List Int} {v : Value} {l : List Int}
theorem hold_rowK (h : Hold w0 w L (Sep A (Sep (IntO v l) B))) : ∃ a c, v = .slice a l.length c ∧ IntR w a l := by
  have ho := hold_reads8 h
  obtain ⟨a, c, rfl⟩ := ho.shape
  exact ⟨a, c, rfl, off_intR ho⟩
theorem hold_nilK (h : Hold w0 w L (Sep A B)) (hA : Foot A) (hB : Foot B) : Hold w0 w L (Sep A (Sep (IntO (.slice none 0 0) []) B)) := h.beside2 hA hB (Grow.G.refl _) (IntO.nil w) (fun k hk => hk.elim)
/-- The keys that are left when the first k of some are gone. -/
def lessK (ks tl : List Int) (k : Nat) : List Int := ks.filter fun y => decide (y ∉ tl.take k)
theorem lessK_mem {ks tl : List Int} {k : Nat} {y : Int} : y ∈ lessK ks tl k ↔ y ∈ ks ∧ y ∉ tl.take k := by unfold lessK; rw [List.mem_filter, decide_eq_true_eq]
theorem lessK_step {ks tl : List Int} {k : Nat} {x : Int} (hx : tl[k]? = some x) (y : Int) : y ∈ lessK ks tl (k + 1) ↔ y ∈ lessK ks tl k ∧ y ≠ x := by
  rw [lessK_mem, lessK_mem, List.take_add_one, hx]
  simp only [List.mem_append, Option.toList_some, List.mem_singleton, not_or, and_assoc]
set_option maxHeartbeats 8000000 in
theorem hold_fkill (h : Hold w0 w L (Sep (FlP g f) B)) (hB : Foot B) (id : Int) (hi : wf64 id) (h1 : f.kill id = er := by rfl) (h2 : f.lost id = tl := by rfl) (h3 : f.aftKill id = f' := by rfl) :
    Calls Try.prog 21 #[pz g, .int .i64 id] w fun e w' => ∃ v, e = .returned (.tuple #[v, .int .i64 er]) ∧ Hold w0 w' L (Sep (FlP g f') (Sep (IntO v tl) B)) := by
  obtain ⟨mp, ma, lm, e1, ok, HS⟩ := hold_flopen h
  obtain ⟨F, hF⟩ := hold_FS HS
  have c2 := hF.c2
  have hl := hF.hb.lt
  have HM := Lib.hid hF.hm.mapN
  have HK := Lib.hid (keysI id hi)
  have FB := Lib.hid hB
  cases hf : findM lm id with
  | none =>
    have hn := find_none_of e1 hf
    have her : er = 6 := by rw [← h1]; unfold Fl.kill; rw [hn]
    have htl : tl = [] := by rw [← h2]; unfold Fl.lost; rw [hn]
    have hf' : f' = f := by
      rw [← h3]
      unfold Fl.aftKill
      rw [chgP_no ok.l (fun b hb => findP_none hn b hb)]
    subst her hf' htl
    have HA : Hid ((onZ (keysM (idsM lm) (ownV lm)) (intK id)).getD ownZ = .agg #[.string ⟨#[]⟩, .pointer none]) := Lib.hid (by rw [own_at]; unfold ownV; rw [hf]; rfl)
    have HI : Hid ((onZ (keysM (idsM lm) (ownV lm)) (intK id)).isSome = false) := Lib.hid (by rw [own_is, hf]; rfl)
    have H := Lib.hid (hold_nilK h (FlP.foot _ _) hB)
    clear h hF HS hf hn h1 h2 h3
    go_enter Try.func21, Try.ntmps21
    go_wp2_with (at_lookup; refine look2v (.agg #[.string ⟨#[]⟩, .pointer none]) false rfl rfl keyedZ Try.underlying59 zeroOwned rfl HM.out rfl HK.out HA.out HI.out ?_)
    go_returns
    exact ⟨_, rfl, H.out.grow ((FlP.foot _ _).sep ((IntO.foot _ _).sep FB.out)) (Grow.G.alloc (Grow.G.refl _) _)⟩
  | some m =>
    obtain ⟨p, q, rfl, rfl⟩ := findM_split hf
    have hfp := find_some_of e1 hf
    have HA : Hid ((onZ (keysM (idsM (p ++ m :: q)) (ownV (p ++ m :: q))) (intK m.h.id)).getD ownZ = .agg #[.string m.h.rv, pz m.p]) := Lib.hid (by rw [own_at]; unfold ownV; rw [hf]; rfl)
    have HI : Hid ((onZ (keysM (idsM (p ++ m :: q)) (ownV (p ++ m :: q))) (intK m.h.id)).isSome = true) := Lib.hid (by rw [own_is, hf]; rfl)
    have okm : PosOk ((p ++ m :: q).map PM.h) := by rw [e1]; exact ok.l
    have hpd := ok.l.pod m.h (findP_mem hfp).1
    have her : er = 0 := by rw [← h1]; unfold Fl.kill; rw [hfp]; exact if_neg hpd.2.1
    have htl : tl = m.h.p.l := by rw [← h2]; unfold Fl.lost; rw [hfp]; exact if_neg hpd.2.1
    have hf' : f' = ⟨f.room, f.n, chgP f.l m.h.id Pd.aftKill⟩ := h3.symm
    have okk := Fl.ok_kill ok m.h.id
    rw [h3] at okk
    subst her htl
    have HP := Lib.hid ((hold_pm HS).grow ((PdP.foot _ _).sep ((FlR.foot _ _ _ _ _ _ _ _ _ _).sep hB)) (Grow.G.alloc (Grow.G.refl _) (.cells #[.string m.h.rv, pz m.p] ownedT)))
    have HREST := Lib.hid (And.intro e1 (And.intro okm (And.intro (nodup_ids okm) (And.intro hpd (And.intro hf' okk)))))
    have hlen : m.h.p.l.length ≤ 1000 := by have h1 := hpd.1.len; have h2 := hpd.1.c; omega
    have HKL : Hid (m.h.p.kill = 0) := Lib.hid (if_neg hpd.2.1)
    have HLO : Hid (m.h.p.lost = m.h.p.l) := Lib.hid (if_neg hpd.2.1)
    have HWF := Lib.hid (fun x (hx : x ∈ m.h.p.l) => hpd.1.wf x hx)
    have HND := Lib.hid (reqs_nodup ok.l)
    clear h hF HS hf hfp h1 h2 h3 e1 okm hpd hf' okk
    go_enter Try.func21, Try.ntmps21
    go_wp2_with (at_lookup; refine look2v (.agg #[.string m.h.rv, pz m.p]) true rfl rfl keyedZ Try.underlying59 zeroOwned rfl HM.out rfl HK.out HA.out HI.out ?_)
    refine (hold_pkill (er := 0) HP.out ((FlR.foot _ _ _ _ _ _ _ _ _ _).sep FB.out) HKL.out rfl).mono ?_
    rintro e w2 ⟨v, rfl, hh⟩
    rw [HLO.out] at hh
    have H2 : Hold w0 w2 L (Sep (FlS g f.room f.n mp ma (p ++ m.to m.h.p.aftKill :: q) (lessK (reqsP f.l) m.h.p.l 0) (whereV f.l)) (Sep (IntO v m.h.p.l) B)) := by
      have h5 : Hold w0 w2 L (Sep (PdP m.p m.h.p.aftKill) (Sep (FlR g f.room f.n mp ma (idsM (p ++ m :: q)) (ownV (p ++ m :: q)) (p ++ q) (reqsP f.l) (whereV f.l)) (Sep (IntO v m.h.p.l) B))) := (hh.map fun F h => h.under fun F h => (h.over fun F hv => show IntO v m.h.p.l _ F from ⟨(hv.1).off, hv.2⟩)).map fun F h => h.under fun F h => h.rot
      have h6 := hold_pm' h5
      have e0 : lessK (reqsP f.l) m.h.p.l 0 = reqsP f.l := by unfold lessK; rw [List.take_zero]; exact List.filter_eq_self.2 fun a _ => by simp
      rw [e0]; exact h6
    obtain ⟨va, vc, rfl, -⟩ := hold_rowK H2
    have H3 := Lib.hid H2
    clear hh H2 HP HM HK HA HI
    go_wp2_with fail
    go_loopw [29] (fun i wr => ∃ k : Nat, k ≤ m.h.p.l.length ∧ i = .int .i64 k ∧ Hid (Hold w0 wr L (Sep (FlS g f.room f.n mp ma (p ++ m.to m.h.p.aftKill :: q) (lessK (reqsP f.l) m.h.p.l k) (whereV f.l)) (Sep (IntO (.slice va m.h.p.l.length vc) m.h.p.l) B)))) (fun i _ => m.h.p.l.length - (_root_.Go.RowKit.intOf i).toNat)
    case atStart => exact ⟨0, by omega, rfl, H3⟩
    case round =>
      clear H3
      obtain ⟨k, hk, rfl, H⟩ := hrel
      obtain ⟨F3, hF3⟩ := hold_FS H.out
      have c3 := hF3.c3
      have hl := hF3.hb.lt
      obtain ⟨_, _, e0, hr⟩ := hold_rowK H.out
      cases e0
      by_cases hlt : k < m.h.p.l.length
      · obtain ⟨x, hx⟩ : ∃ x, m.h.p.l[k]? = some x := ⟨_, List.getElem?_eq_getElem hlt⟩
        obtain ⟨b, off, rfl, hc⟩ := hr.resolve_left (fun e => by rw [e] at hlt; simp at hlt)
        have ck := hc k x hx
        have hbl : b < wr.heap.size := by
          rcases Nat.lt_or_ge b wr.heap.size with h' | h'
          · exact h'
          · simp [World.cell?, Array.getElem?_eq_none h'] at ck
        have wx := HWF.out x (List.mem_of_getElem? hx)
        have d0 : decide ((k : Int) < (m.h.p.l.length : Int)) = true := decide_eq_true (by omega)
        have hk1 : IntKind.i64.wrap ((k : Int) + 1) = (k : Int) + 1 := IntWalk.i64_in _ ⟨by omega, by omega⟩
        have k1 : (0 : Int) ≤ (k : Int) := by omega
        have k2 : (k : Int) < (m.h.p.l.length : Int) := by omega
        have HM2 := Lib.hid (hold_ma H.out)
        have FM := Lib.hid ((BlkF.foot g (flC f.room f.n mp ma) fleetT).sep (((MapF.foot Try.prog 3 mp (idsM (p ++ m.to m.h.p.aftKill :: q)) (ownV (p ++ m.to m.h.p.aftKill :: q))).sep (SepL.foot PmF.foot (p ++ m.to m.h.p.aftKill :: q))).sep ((IntO.foot (.slice (some ⟨b, off, none⟩) m.h.p.l.length vc) m.h.p.l).sep FB.out)))
        have HN : Hid ((lessK (reqsP f.l) m.h.p.l (k + 1)).Nodup) := Lib.hid (HND.out.filter _)
        have HST := Lib.hid (lessK_step (ks := reqsP f.l) hx)
        clear H hF3 hr hc hx
        go_wp2_with (at_delete; refine Hold.delF FM.out rfl rfl Try.underlying60 undI rfl HM2.out rfl wx.1 wx.2 (lessK (reqsP f.l) m.h.p.l (k + 1)) (whereV f.l) HN.out HST.out (fun z _ => rfl) ?_; intro w9 H9)
        refine Stay.go ?_
        have H10 := Lib.hid (hold_ma' H9)
        clear H9 HM2 HN HST
        go_wp2_with fail
        go_roundw
        case rel => exact ⟨k + 1, by omega, by go_num, H10⟩
        case measure => simp [_root_.Go.RowKit.intOf]; omega
      · have hkl : k = m.h.p.l.length := by omega
        have d0 : decide ((k : Int) < (m.h.p.l.length : Int)) = false := decide_eq_false (by omega)
        have nk : ¬ ((k : Int) < (m.h.p.l.length : Int)) := by omega
        have BU := Lib.hid (hold_bury (m := m.to m.h.p.aftKill) H.out ((IntO.foot _ _).sep FB.out) (by rw [ids_to]; exact HREST.out.2.2.1) hi)
        have HKL2 := Lib.hid hkl
        clear H hF3 hr c3 hkl
        go_wp2_with fail
        refine BU.out.mono ?_
        rintro e w10 ⟨rfl, H11⟩
        obtain ⟨e1, okm, hnd, hpd, hf', okk⟩ := HREST.out
        have e2 : (buryM p q (m.to m.h.p.aftKill)).map PM.h = f'.l := (bury_is (gg := Pd.aftKill) okm).trans (by rw [hf', e1])
        have ok' := okk.l
        have ok0 : PosOk f.l := by rw [← e1]; exact okm
        have hh : ∀ id y, hasP f'.l id y ↔ hasP f.l id y ∧ y ∉ m.h.p.l := fun id y => by
          rw [← e2, ← e1, has_bury (fun _ => by rw [kill_nil hpd.2.1]), has_mid, kill_nil hpd.2.1]
          constructor
          · rintro (q1 | ⟨_, q2⟩)
            · exact ⟨.inl q1, fun e => has_apart okm e q1⟩
            · cases q2
          · rintro ⟨q1 | ⟨q1, q2⟩, q3⟩
            · exact .inl q1
            · exact absurd q2 q3
        have hm2 : ∀ y, y ∈ lessK (reqsP f.l) m.h.p.l k ↔ y ∈ reqsP f.l ∧ y ∉ m.h.p.l := fun y => by rw [lessK_mem, List.take_of_length_le (by have := HKL2.out; omega)]
        have HC := Lib.hid (hold_flclose (f := f') (by rw [hf']; exact H11) e2 okk (fun y => by
            rw [hm2, reqs_has, reqs_has]
            exact ⟨fun ⟨id, q⟩ => ⟨⟨id, ((hh id y).1 q).1⟩, ((hh id y).1 q).2⟩, fun ⟨⟨id, q⟩, q2⟩ => ⟨id, (hh id y).2 ⟨q, q2⟩⟩⟩) (fun y hy => by
            rw [hm2, reqs_has] at hy
            obtain ⟨⟨id, q⟩, q2⟩ := hy
            rw [where_has ok' ((hh id y).2 ⟨q, q2⟩), where_has ok0 q]))
        clear H11 e1 okm hnd hpd hf' okk e2 ok' ok0 hh BU hm2
        go_wp2_with fail
        go_returns
        exact ⟨_, rfl, HC.out⟩
end
end Go.Proofs.Ytfnpghekkhnjkaa
