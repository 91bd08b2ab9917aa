/- My own texts RowR1, RowR2, RowR3, RowR4, laid in one file. -/
import Derived.Test.YtlnffdkaleapbaaGreatZ30
import Derived.Test.YtlnffdkaleapbaaGreatZ29
import Derived.Test.YtlnffdkaleapbaaGreatSorted

/- shelf's rows: asked, written, struck. -/
namespace Go.Proofs.YtlnffdkaleapbaaGreat
set_option maxRecDepth 100000
set_option linter.unusedVariables false
set_option linter.unusedSimpArgs false
set_option linter.unnecessarySimpa false
open Go.RowKit Go.MapV Go.Maps

theorem at_noneR {f : ByteArray → Option ObR} {nm : ByteArray} (h : f nm = none) : (fR f (strK nm)).getD zR = zR ∧ (fR f (strK nm)).isSome = false := by
  have e : fR f (strK nm) = none := by show (f nm).map ObR.val = _; rw [h]; rfl
  rw [e]; exact ⟨rfl, rfl⟩
theorem at_someR {f : ByteArray → Option ObR} {nm : ByteArray} {o : ObR} (h : f nm = some o) : (fR f (strK nm)).getD zR = o.val ∧ (fR f (strK nm)).isSome = true := by
  have e : fR f (strK nm) = some o.val := by show (f nm).map ObR.val = _; rw [h]; rfl
  rw [e]; exact ⟨rfl, rfl⟩
set_option maxHeartbeats 1000000 in
theorem getR_any (g off : Nat) (m : Option Nat) (n : Nat) (f : ByteArray → Option ObR) (nm : ByteArray) (w : World) (hc : w.cell? ⟨g, off, none⟩ = some (.map m)) (hg : g < w.heap.size) (hm : MapS w m n (fR f)) (hs : nm.size ≤ maxLen) :
    Calls Tryz.prog 58 #[.pointer (some ⟨g, off, none⟩), .string nm] w fun e w' => e = .returned (.tuple #[((f nm).map ObR.val).getD zR, .bool (f nm).isSome]) ∧ Grow.G w w' := by
  have hM := Lib.hid hm
  clear hm
  cases hf : f nm with
  | none =>
    obtain ⟨hv, hb⟩ := at_noneR hf
    have HV := Lib.hid hv
    have HB := Lib.hid hb
    clear hf hv hb
    go_enter Tryz.func58, Tryz.ntmps58
    go_wp2_with (at_lookup; refine look2v zR false rfl rfl keyedS Tryz.underlying60 zeroR rfl (hM.out.grow (Grow.G.alloc (Grow.G.refl _) _)) rfl (keyS Tryz.underlying9 hs) HV.out HB.out ?_)
    go_returns
    exact ⟨rfl, by (repeat (first | with_reducible exact Grow.G.refl _ | with_reducible exact Below.refl _ _ | with_reducible refine Grow.G.alloc ?_ _ | with_reducible refine Grow.G.trans ?_ hb1 | ((with_reducible refine Below.setCell ?_ ?_ _); rotate_left; (focus (first | omega | (simp; done) | (simp; omega)))) | with_reducible assumption | with_reducible refine Grow.G.trans ?_ (by with_reducible assumption)))⟩
  | some o =>
    obtain ⟨hv, hb⟩ := at_someR hf
    clear hf
    obtain ⟨⟨n1, n2, n3, n4⟩, b1, c1, v1⟩ := o
    unfold ObR.val at hv
    dsimp only at hv
    have HV := Lib.hid hv
    have HB := Lib.hid hb
    clear hv hb
    go_enter Tryz.func58, Tryz.ntmps58
    go_wp2_with (at_lookup; refine look2v _ true rfl rfl keyedS Tryz.underlying60 zeroR rfl (hM.out.grow (Grow.G.alloc (Grow.G.refl _) _)) rfl (keyS Tryz.underlying9 hs) HV.out HB.out ?_)
    go_returns
    exact ⟨rfl, by (repeat (first | with_reducible exact Grow.G.refl _ | with_reducible exact Below.refl _ _ | with_reducible refine Grow.G.alloc ?_ _ | with_reducible refine Grow.G.trans ?_ hb1 | ((with_reducible refine Below.setCell ?_ ?_ _); rotate_left; (focus (first | omega | (simp; done) | (simp; omega)))) | with_reducible assumption | with_reducible refine Grow.G.trans ?_ (by with_reducible assumption)))⟩
set_option maxHeartbeats 1000000 in
theorem heldR_any (g off : Nat) (m : Option Nat) (n : Nat) (f : ByteArray → Option ObR) (nm : ByteArray) (v : Int) (w : World) (hc : w.cell? ⟨g, off, none⟩ = some (.map m)) (hg : g < w.heap.size) (hm : MapS w m n (fR f)) (hs : nm.size ≤ maxLen) :
    Calls Tryz.prog 69 #[.pointer (some ⟨g, off, none⟩), .string nm, .int .i64 v] w fun e w' => e = .returned (.int .i64 (heldP ((f nm).map ObR.v) v)) ∧ Grow.G w w' := by
  have hM := Lib.hid hm
  clear hm
  cases hf : f nm with
  | none =>
    obtain ⟨hv, hb⟩ := at_noneR hf
    have HV := Lib.hid hv
    have HB := Lib.hid hb
    clear hf hv hb
    go_enter Tryz.func69, Tryz.ntmps69
    go_wp2_with (at_lookup; refine look2v zR false rfl rfl keyedS Tryz.underlying60 zeroR rfl hM.out rfl (keyS Tryz.underlying9 hs) HV.out HB.out ?_)
    go_ret
    exact ⟨rfl, by (repeat (first | with_reducible exact Grow.G.refl _ | with_reducible exact Below.refl _ _ | with_reducible refine Grow.G.alloc ?_ _ | with_reducible refine Grow.G.trans ?_ hb1 | ((with_reducible refine Below.setCell ?_ ?_ _); rotate_left; (focus (first | omega | (simp; done) | (simp; omega)))) | with_reducible assumption | with_reducible refine Grow.G.trans ?_ (by with_reducible assumption)))⟩
  | some o =>
    obtain ⟨hv, hb⟩ := at_someR hf
    clear hf
    obtain ⟨e, he⟩ : ∃ e, heldP ((some o).map ObR.v) v = e := ⟨_, rfl⟩
    rw [he]
    have hE : (((o.v : Int) != v) = true ∧ e = 7) ∨ (((o.v : Int) != v) = false ∧ e = 0) := by
      subst he
      unfold heldP
      by_cases h : (o.v : Int) = v
      · exact .inr ⟨by simpa using h, if_pos h⟩
      · exact .inl ⟨by simpa using h, if_neg h⟩
    clear he
    obtain ⟨⟨n1, n2, n3, n4⟩, b1, c1, v1⟩ := o
    unfold ObR.val at hv
    dsimp only at hv hE
    have HV := Lib.hid hv
    have HB := Lib.hid hb
    clear hv hb
    rcases hE with ⟨hne, rfl⟩ | ⟨hne, rfl⟩
    all_goals
      go_enter Tryz.func69, Tryz.ntmps69
      go_wp2_with (at_lookup; refine look2v _ true rfl rfl keyedS Tryz.underlying60 zeroR rfl hM.out rfl (keyS Tryz.underlying9 hs) HV.out HB.out ?_)
      go_ret
      exact ⟨rfl, by (repeat (first | with_reducible exact Grow.G.refl _ | with_reducible exact Below.refl _ _ | with_reducible refine Grow.G.alloc ?_ _ | with_reducible refine Grow.G.trans ?_ hb1 | ((with_reducible refine Below.setCell ?_ ?_ _); rotate_left; (focus (first | omega | (simp; done) | (simp; omega)))) | with_reducible assumption | with_reducible refine Grow.G.trans ?_ (by with_reducible assumption)))⟩
set_option maxHeartbeats 1000000 in
theorem freeR_any (g off : Nat) (m : Option Nat) (n : Nat) (f : ByteArray → Option ObR) (nm : ByteArray) (v : Int) (w : World) (hc : w.cell? ⟨g, off, none⟩ = some (.map m)) (hg : g < w.heap.size) (hm : MapS w m n (fR f)) (hs : nm.size ≤ maxLen) :
    Calls Tryz.prog 54 #[.pointer (some ⟨g, off, none⟩), .string nm, .int .i64 v] w fun e w' => e = .returned (.int .i64 (mayP ((f nm).map ObR.v) v)) ∧ Grow.G w w' := by
  have HL := Lib.hid (heldR_any g off m n f nm v w hc hg hm hs)
  have hM := Lib.hid hm
  clear hm
  unfold mayP
  by_cases h0 : v = 0
  · subst h0
    rw [if_pos rfl]
    cases hf : f nm with
    | none =>
      obtain ⟨hv, hb⟩ := at_noneR hf
      have HV := Lib.hid hv
      have HB := Lib.hid hb
      clear hf hv hb
      go_enter Tryz.func54, Tryz.ntmps54
      go_wp2_with (at_lookup; refine look2v zR false rfl rfl keyedS Tryz.underlying60 zeroR rfl hM.out rfl (keyS Tryz.underlying9 hs) HV.out HB.out ?_)
      go_ret
      exact ⟨rfl, by (repeat (first | with_reducible exact Grow.G.refl _ | with_reducible exact Below.refl _ _ | with_reducible refine Grow.G.alloc ?_ _ | with_reducible refine Grow.G.trans ?_ hb1 | ((with_reducible refine Below.setCell ?_ ?_ _); rotate_left; (focus (first | omega | (simp; done) | (simp; omega)))) | with_reducible assumption | with_reducible refine Grow.G.trans ?_ (by with_reducible assumption)))⟩
    | some o =>
      obtain ⟨hv, hb⟩ := at_someR hf
      clear hf
      obtain ⟨⟨n1, n2, n3, n4⟩, b1, c1, v1⟩ := o
      unfold ObR.val at hv
      dsimp only at hv
      have HV := Lib.hid hv
      have HB := Lib.hid hb
      clear hv hb
      go_enter Tryz.func54, Tryz.ntmps54
      go_wp2_with (at_lookup; refine look2v _ true rfl rfl keyedS Tryz.underlying60 zeroR rfl hM.out rfl (keyS Tryz.underlying9 hs) HV.out HB.out ?_)
      go_ret
      exact ⟨rfl, by (repeat (first | with_reducible exact Grow.G.refl _ | with_reducible exact Below.refl _ _ | with_reducible refine Grow.G.alloc ?_ _ | with_reducible refine Grow.G.trans ?_ hb1 | ((with_reducible refine Below.setCell ?_ ?_ _); rotate_left; (focus (first | omega | (simp; done) | (simp; omega)))) | with_reducible assumption | with_reducible refine Grow.G.trans ?_ (by with_reducible assumption)))⟩
  · rw [if_neg h0]
    have hn : (v != 0) = true := by simpa using h0
    clear h0
    go_enter Tryz.func54, Tryz.ntmps54
    go_wp2_with fail
    refine HL.out.mono ?_
    rintro e wn1 ⟨rfl, hb1⟩
    go_wp2_with fail
    go_ret
    exact ⟨rfl, hb1⟩
/-- What a row is behind a store into it. -/
def PutR (w w' : World) (g n : Nat) (mc mr mg : Option Nat) (k : Nat) (f : ByteArray → Option ObR) (nm : ByteArray) (ob : ObR) : Prop :=
  ∃ b, Blk w' g (shC n mc (some b) mg).toArray shT ∧ MapS w' (some b) (k + 1) (fR (upd f nm (some ob))) ∧ Chg (fun j => j = g ∨ some j = mr) w w' ∧ (mr = some b ∨ w.heap.size ≤ b)
theorem upd_keyR (f : ByteArray → Option ObR) (nm : ByteArray) (o : Option ObR) : fR (upd f nm o) (strK nm) = o.map ObR.val := by show (upd f nm o nm).map ObR.val = _; rw [upd_at]
theorem upd_otherR (f : ByteArray → Option ObR) (nm : ByteArray) (o : Option ObR) : ∀ x, x ≠ strK nm → fR (upd f nm o) x = fR f x := onS_ne fun x hx => by rw [upd_ne _ _ hx]
set_option maxHeartbeats 1000000 in
theorem setR_any (g n : Nat) (mc mr mg : Option Nat) (k : Nat) (f : ByteArray → Option ObR) (nm : ByteArray) (ob : ObR) (w : World) (hb : Blk w g (shC n mc mr mg).toArray shT) (hm : MapS w mr k (fR f)) (hk : k < maxLen) (hs : nm.size ≤ maxLen) :
    Calls Tryz.prog 55 #[.pointer (some ⟨g, 2, none⟩), .string nm, ob.val] w fun e w' => (∃ v, e = .returned v) ∧ PutR w w' g n mc mr mg k f nm ob := by
  have CE : (Tryz.prog.info? 114).map (·.size) = some 5 := by kernel_rfl
  have HU := Lib.hid (upd_keyR f nm (some ob))
  have HO := Lib.hid (upd_otherR f nm (some ob))
  have hM := Lib.hid hm
  have hB := Lib.hid hb
  have hg := hb.lt
  have c0 : w.cell? ⟨g, 2, none⟩ = some (.map mr) := (hb.cell 2).trans rfl
  have f0 := hb.free 2
  clear hm hb
  cases hmc : mr with
  | none =>
    subst hmc
    obtain ⟨wa, hwa⟩ : ∃ wa, wa = w.setCell ⟨g, 2, none⟩ (.map (some (w.heap.size + 1))) := ⟨_, rfl⟩
    obtain ⟨w1, hw1⟩ : ∃ w1, w1 = (wa.alloc (.cells ob.val.cells 114)).alloc (.map #[] 0) := ⟨_, rfl⟩
    have hsa : wa.heap.size = w.heap.size := by rw [hwa]; simp
    have hgg : Grow.G wa w1 := by rw [hw1]; exact Grow.G.alloc (Grow.G.alloc (Grow.G.refl _) _) _
    have OB : Blk w1 w.heap.size ob.val.cells 114 := by rw [hw1, ← hsa]; exact (Blk.new wa _ _).alloc _
    have MB : MapB Tryz.prog 9 w1 (w.heap.size + 1) 0 (fun _ => none) := by
      have := MapB.made (wa.alloc (.cells ob.val.cells 114)) Tryz.prog 9
      rw [World.size_alloc, hsa, ← hw1] at this; exact this
    have GB := (hB.out.set 2 (.map (some (w.heap.size + 1))))
    rw [← hwa] at GB
    have GB := GB.grow hgg
    have CH : Chg (fun j => j = g) w w1 := (show Chg (fun j => j = g) w wa from by rw [hwa]; exact Chg.setCell (G := fun j => j = g) (Chg.refl _ _) (fun _ => rfl) _ _).trans (Chg.grow hgg)
    have FN : ∀ kl, fR f kl = none := hM.out
    have hs1 : w1.heap.size = w.heap.size + 2 := by rw [hw1]; simp [hsa]
    rw [hwa] at hw1
    clear hwa hgg hsa
    have OB := Lib.hid OB
    have MB := Lib.hid (MB.same (f' := fR f) FN)
    have GB := Lib.hid GB
    have CH := Lib.hid CH
    have hW := Lib.hid hw1
    have hs1 := Lib.hid hs1
    clear hw1 FN
    obtain ⟨⟨n1, n2, n3, n4⟩, b1, c1, v1⟩ := ob
    unfold ObR.val at *
    simp only [Value.cells] at *
    have hmm := @run_makeMap Tryz.prog
    have HN := run_nilR none
    simp only [Option.isNone_none] at HN
    go_enter Tryz.func55, Tryz.ntmps55
    go_wp2_with fail
    rw [← hW.out]
    have q0 : w1.cell? ⟨g, 2, none⟩ = some (.map (some (w.heap.size + 1))) := (GB.out.cell 2).trans rfl
    have KC := Lib.hid (fun (w' : World) (h : Chg (fun _ => False) w1 w') => (⟨h.cell q0 id, trivial⟩ : w'.cell? ⟨g, 2, none⟩ = some (.map (some (w.heap.size + 1))) ∧ True))
    clear q0 c0 f0
    refine Evo2.start' (ℓ := some 6) (S := Chg (fun _ => False)) (E := Grow.G) (by kernel_rfl) ⟨Chg.pre _, by decide +kernel, (by intro c a d v w h; cases d <;> exact h), by decide +kernel⟩ (fun ok => ?_)
    refine Evo2.va ok 0 _ _ ?_
    refine Evo2.va ok 1 _ _ ?_
    refine Evo2.va ok 2 _ _ ?_
    first | (refine Evo2.val ok 3 ?_ ?_ ?_; rotate_left; (focus (intro w' hg; refine Box.exec_loadAll ?_ Tryz.underlying114 CE (OB.out.chg (Chg.trans (Chg.refl (fun _ => False) _) hg) id) ?_; (all_goals (first | exact ⟨rfl, rfl⟩ | rfl)))); simp only [Act.put, L0, L1, L2]) | (refine Evo2.vl ok 3 KC.out (Chg.refl (fun _ => False) _) _ _ ?_) | (refine Evo2.va ok 3 _ _ ?_)
    refine Evo2.va ok 4 _ _ ?_
    first | (refine Evo2.val ok 5 ?_ ?_ ?_; rotate_left; (focus (intro w' hg; refine Box.exec_loadAll ?_ Tryz.underlying114 CE (OB.out.chg (Chg.trans (Chg.refl (fun _ => False) _) hg) id) ?_; (all_goals (first | exact ⟨rfl, rfl⟩ | rfl)))); simp only [Act.put, L0, L1, L2]) | (refine Evo2.vl ok 5 KC.out (Chg.refl (fun _ => False) _) _ _ ?_) | (refine Evo2.va ok 5 _ _ ?_)
    refine Evo2.all [6] (by decide +kernel) rfl ?_
    intro wp1 gp1 iq hq
    simp only [List.mem_cons, List.mem_nil_iff, or_false] at hq
    have AP1 := Chg.trans (Chg.refl (fun _ => False) _) (Chg.grow gp1)
    subst hq
    refine MapV.up (by rfl) (by rfl) rfl (key := .string nm) keyedS Tryz.underlying60 rfl (MB.out.chg AP1 id) (by unfold maxLen; omega) rfl rfl (keyS Tryz.underlying9 hs) HU.out HO.out ?_
    intro wm OM CM
    refine ⟨.inl (by first | rfl | trivial), ?_⟩
    simp only [Act.put, L0, L1, L2]
    refine Evo2.done (by decide +kernel) (fun wz gz => ?_)
    have AZ := AP1
    go_wp2_with fail
    go_returns
    have hs1 := hs1.out
    refine ⟨⟨_, rfl⟩, w.heap.size + 1, ((GB.out.chg AZ id).chg CM (by omega)).grow gz, (MapB.mono OM (by omega)).chg (Chg.grow (G := fun _ => False) gz) id, ?_, .inr (by omega)⟩
    refine ((CH.out.mono fun j _ h => .inl h).trans (AZ.mono fun _ _ h => h.elim)).join (CM.trans (Chg.grow gz)) fun j hj e => by have e : j = w.heap.size + 1 := e; omega
  | some b =>
    rw [hmc] at c0 hM
    have MB := Lib.hid (show MapB Tryz.prog 9 w b k (fR f) from hM.out)
    have hbl := MB.out.lt
    have hbg := MB.out.ne hB.out
    have C1 := Lib.hid c0
    have OB := Lib.hid (Blk.new w ob.val.cells 114)
    have hgg : Grow.G w (w.alloc (.cells ob.val.cells 114)) := Grow.G.alloc (Grow.G.refl _) _
    obtain ⟨w1, hw1⟩ : ∃ w1, w1 = w.alloc (.cells ob.val.cells 114) := ⟨_, rfl⟩
    rw [← hw1] at OB hgg
    have HG := Lib.hid hgg
    have hW := Lib.hid hw1
    clear hw1 hgg hM
    obtain ⟨⟨n1, n2, n3, n4⟩, b1, c1, v1⟩ := ob
    unfold ObR.val at *
    simp only [Value.cells] at *
    have HN := run_nilR (some b)
    simp only [Option.isNone_some] at HN
    go_enter Tryz.func55, Tryz.ntmps55
    go_wp2_with fail
    rw [← hW.out]
    have KC := Lib.hid (fun (w' : World) (h : Chg (fun _ => False) w1 w') => (⟨h.cell (cell_later HG.out C1.out) id, trivial⟩ : w'.cell? ⟨g, 2, none⟩ = some (.map (some b)) ∧ True))
    clear c0 f0
    refine Evo2.start' (ℓ := some 6) (S := Chg (fun _ => False)) (E := Grow.G) (by kernel_rfl) ⟨Chg.pre _, by decide +kernel, (by intro c a d v w h; cases d <;> exact h), by decide +kernel⟩ (fun ok => ?_)
    refine Evo2.va ok 0 _ _ ?_
    refine Evo2.va ok 1 _ _ ?_
    refine Evo2.va ok 2 _ _ ?_
    first | (refine Evo2.val ok 3 ?_ ?_ ?_; rotate_left; (focus (intro w' hg; refine Box.exec_loadAll ?_ Tryz.underlying114 CE (OB.out.chg (Chg.trans (Chg.refl (fun _ => False) _) hg) id) ?_; (all_goals (first | exact ⟨rfl, rfl⟩ | rfl)))); simp only [Act.put, L0, L1, L2]) | (refine Evo2.vl ok 3 KC.out (Chg.refl (fun _ => False) _) _ _ ?_) | (refine Evo2.va ok 3 _ _ ?_)
    refine Evo2.va ok 4 _ _ ?_
    first | (refine Evo2.val ok 5 ?_ ?_ ?_; rotate_left; (focus (intro w' hg; refine Box.exec_loadAll ?_ Tryz.underlying114 CE (OB.out.chg (Chg.trans (Chg.refl (fun _ => False) _) hg) id) ?_; (all_goals (first | exact ⟨rfl, rfl⟩ | rfl)))); simp only [Act.put, L0, L1, L2]) | (refine Evo2.vl ok 5 KC.out (Chg.refl (fun _ => False) _) _ _ ?_) | (refine Evo2.va ok 5 _ _ ?_)
    refine Evo2.all [6] (by decide +kernel) rfl ?_
    intro wp1 gp1 iq hq
    simp only [List.mem_cons, List.mem_nil_iff, or_false] at hq
    have AP1 := Chg.trans (Chg.refl (fun _ => False) _) (Chg.grow gp1)
    subst hq
    refine MapV.up (by rfl) (by rfl) rfl (key := .string nm) keyedS Tryz.underlying60 rfl ((MB.out.chg (Chg.grow (G := fun _ => False) HG.out) id).chg AP1 id) hk rfl rfl (keyS Tryz.underlying9 hs) HU.out HO.out ?_
    intro wm OM CM
    refine ⟨.inl (by first | rfl | trivial), ?_⟩
    simp only [Act.put, L0, L1, L2]
    refine Evo2.done (by decide +kernel) (fun wz gz => ?_)
    have AZ := AP1
    go_wp2_with fail
    go_returns
    refine ⟨⟨_, rfl⟩, b, (((hB.out.grow HG.out).chg AZ id).chg CM (by omega)).grow gz |> fun h => (by rw [hmc] at h; exact h), OM.chg (Chg.grow (G := fun _ => False) gz) id, ?_, .inl rfl⟩
    exact ((Chg.grow HG.out).trans (AZ.mono fun _ _ h => h.elim)).join (CM.trans (Chg.grow gz)) fun j hj e => .inr (congrArg some e)

def ObR.base (o : ObR) : Value := .agg #[.string o.r.nm, .string o.r.cf, .slice (some ⟨o.b, 0, none⟩) o.r.ts.length o.cap, .int .i64 o.r.rl]
def ObR.at (o : ObR) (n : Nat) : ObR := { o with v := n }
set_option maxHeartbeats 1000000 in
theorem putR_no (g n : Nat) (mc mr mg : Option Nat) (k : Nat) (f : ByteArray → Option ObR) (nm : ByteArray) (ob : ObR) (v : Int) (w : World) (hb : Blk w g (shC n mc mr mg).toArray shT) (hm : MapS w mr k (fR f)) (hs : nm.size ≤ maxLen) (er : Int) (he : mayP ((f nm).map ObR.v) v = er) (h0 : er ≠ 0) :
    Calls Tryz.prog 31 #[.pointer (some ⟨g, 0, none⟩), .pointer (some ⟨g, 2, none⟩), .string nm, ob.base, .int .i64 v] w fun e w' => e = .returned (.tuple #[.int .i64 0, .int .i64 er]) ∧ Grow.G w w' := by
  have FR := Lib.hid (fun w' (h : Grow.G w w') => he ▸ freeR_any g 2 mr k f nm v w' (cell_later h ((hb.cell 2).trans rfl)) (by have := hb.lt; have := h.size; omega) (hm.grow h) hs)
  have hne : (er != 0) = true := by simpa using h0
  clear hb hm he h0
  obtain ⟨⟨n1, n2, n3, n4⟩, b1, c1, v1⟩ := ob
  unfold ObR.base
  go_enter Tryz.func31, Tryz.ntmps31
  go_wp2_with fail
  refine (FR.out _ (Grow.G.alloc (Grow.G.refl _) _)).mono ?_
  rintro e wn1 ⟨rfl, hb1⟩
  have HG := Lib.hid ((Grow.G.alloc (Grow.G.refl _) _).trans hb1)
  clear hb1
  go_wp2_with fail
  go_returns
  exact ⟨rfl, HG.out⟩
set_option maxHeartbeats 1000000 in
theorem putR_yes (g n : Nat) (mc mr mg : Option Nat) (k : Nat) (f : ByteArray → Option ObR) (nm : ByteArray) (ob : ObR) (v : Int) (w : World) (hb : Blk w g (shC n mc mr mg).toArray shT) (hm : MapS w mr k (fR f)) (hs : nm.size ≤ maxLen) (he : mayP ((f nm).map ObR.v) v = 0) (hk : k < maxLen) (hn : n < 4611686018427387904) :
    Calls Tryz.prog 31 #[.pointer (some ⟨g, 0, none⟩), .pointer (some ⟨g, 2, none⟩), .string nm, ob.base, .int .i64 v] w fun e w' => e = .returned (.tuple #[.int .i64 ((n + 1 : Nat) : Int), .int .i64 0]) ∧ PutR w w' g (n + 1) mc mr mg k f nm (ob.at (n + 1)) := by
  have FR := Lib.hid (fun w' (h : Grow.G w w') => he ▸ freeR_any g 2 mr k f nm v w' (cell_later h ((hb.cell 2).trans rfl)) (by have := hb.lt; have := h.size; omega) (hm.grow h) hs)
  have SE := Lib.hid (fun w' (h : Blk w' g (shC (n + 1) mc mr mg).toArray shT) (h2 : MapS w' mr k (fR f)) => setR_any g (n + 1) mc mr mg k f nm (ob.at (n + 1)) w' h h2 hk hs)
  have CE : (Tryz.prog.info? 45).map (·.size) = some 4 := by kernel_rfl
  have HB := Lib.hid hb
  have HM := Lib.hid hm
  have hlt := hb.lt
  have hwr : IntKind.i64.wrap ((n : Int) + 1) = ((n + 1 : Nat) : Int) := by rw [IntWalk.i64_in _ ⟨by omega, by omega⟩]; omega
  clear hb hm he
  obtain ⟨⟨n1, n2, n3, n4⟩, b1, c1, v1⟩ := ob
  unfold ObR.base
  unfold ObR.at ObR.val at SE
  dsimp only at SE
  go_enter Tryz.func31, Tryz.ntmps31
  go_wp2_with fail
  refine (FR.out _ (Grow.G.alloc (Grow.G.refl _) _)).mono ?_
  rintro e wn1 ⟨rfl, hb1⟩
  have HG := Lib.hid ((Grow.G.alloc (Grow.G.refl w) _).trans hb1)
  have OB := Lib.hid ((Blk.new w _ _).grow hb1)
  have q0 := ((HB.out.grow HG.out).cell 0).trans (show _ = some (.int .i64 (n : Int)) from rfl)
  have f0 := (HB.out.grow HG.out).free 0
  have hl1 : g < wn1.heap.size := by have := HG.out.size; omega
  clear hb1
  go_wp2_with fail
  obtain ⟨w2, hw2⟩ : ∃ w2, w2 = wn1.setCell ⟨g, 0, none⟩ (.int .i64 ((n : Int) + 1)) := ⟨_, rfl⟩
  have C2 : Chg (fun j => j = g) w w2 := (Chg.grow HG.out).trans (by rw [hw2]; exact Chg.setCell (G := fun j => j = g) (Chg.refl _ _) (fun _ => rfl) _ _)
  have G2 := (HB.out.grow HG.out).set 0 (.int .i64 ((n : Int) + 1))
  have O2 := OB.out.other (b := g) (by omega) 0 (.int .i64 ((n : Int) + 1))
  have M2 : MapS w2 mr k (fR f) := HM.out.chg C2 (fun b e q => by
    subst q
    have hm := HM.out
    rw [e] at hm
    exact MapB.ne hm HB.out rfl)
  rw [← hw2] at G2 O2
  have C2 := Lib.hid C2
  have G2 := Lib.hid (show Blk w2 g (shC (n + 1) mc mr mg).toArray shT from G2)
  have O2 := Lib.hid O2
  have M2 := Lib.hid M2
  have HW := Lib.hid hw2
  clear q0 f0 OB
  rw [← hw2]
  clear hw2
  have KC := Lib.hid (fun (w' : World) (h : Chg (fun _ => False) w2 w') => (⟨h.cell ((G2.out.cell 0).trans rfl) id, trivial⟩ : w'.cell? ⟨g, 0, none⟩ = some (.int .i64 ((n : Int) + 1)) ∧ True))
  refine Evo2.start' (ℓ := some 8) (S := Chg (fun _ => False)) (E := Grow.G) (by kernel_rfl) ⟨Chg.pre _, by decide +kernel, (by intro c a d v w h; cases d <;> exact h), by decide +kernel⟩ (fun ok => ?_)
  refine Evo2.va ok 0 _ _ ?_
  refine Evo2.va ok 1 _ _ ?_
  first | (refine Evo2.val ok 2 ?_ ?_ ?_; rotate_left; (focus (intro w' hg; refine Box.exec_loadAll ?_ Tryz.underlying45 CE (O2.out.chg (Chg.trans (Chg.refl (fun _ => False) _) hg) id) ?_; (all_goals (first | exact ⟨rfl, rfl⟩ | rfl)))); simp only [Act.put, L0, L1, L2]) | (refine Evo2.vl ok 2 KC.out (Chg.refl (fun _ => False) _) _ _ ?_) | (refine Evo2.va ok 2 _ _ ?_)
  refine Evo2.va ok 3 _ _ ?_
  refine Evo2.va ok 4 _ _ ?_
  refine Evo2.va ok 5 _ _ ?_
  first | (refine Evo2.val ok 6 ?_ ?_ ?_; rotate_left; (focus (intro w' hg; refine Box.exec_loadAll ?_ Tryz.underlying45 CE (O2.out.chg (Chg.trans (Chg.refl (fun _ => False) _) hg) id) ?_; (all_goals (first | exact ⟨rfl, rfl⟩ | rfl)))); simp only [Act.put, L0, L1, L2]) | (refine Evo2.vl ok 6 KC.out (Chg.refl (fun _ => False) _) _ _ ?_) | (refine Evo2.va ok 6 _ _ ?_)
  refine Evo2.va ok 7 _ _ ?_
  refine Evo2.all [8] (by decide +kernel) rfl ?_
  intro wp1 gp1 iq hq
  simp only [List.mem_cons, List.mem_nil_iff, or_false] at hq
  have AP1 := Chg.trans (Chg.refl (fun _ => False) _) (Chg.grow gp1)
  subst hq
  refine Evo2.enters 55 _ (by rfl) (by rfl) (by go_simp; exact ⟨rfl, rfl⟩) ?_
  refine (SE.out _ (G2.out.chg AP1 id) (M2.out.chg AP1 (fun _ _ => id))).mono ?_
  rintro e wc1 ⟨⟨v9, rfl⟩, b, B9, M9, C9, o9⟩
  refine ⟨_, rfl, .inl (by first | rfl | trivial), ?_⟩
  simp only [Act.put, L0, L1, L2]
  refine Evo2.done (by decide +kernel) (fun wz gz => ?_)
  have AZ := AP1
  have q0 := ((B9.grow gz).cell 0).trans (show _ = some (.int .i64 ((n + 1 : Nat) : Int)) from rfl)
  have B9 := Lib.hid B9
  have M9 := Lib.hid M9
  go_wp2_with fail
  go_returns
  refine ⟨rfl, b, B9.out.grow gz, M9.out.chg (Chg.grow (G := fun _ => False) gz) (fun _ _ => id), ?_, ?_⟩
  · refine ((C2.out.mono fun j _ h => .inl h).trans (AZ.mono fun _ _ h => h.elim)).trans (C9.trans (Chg.grow gz))
  · refine o9.imp id fun h => ?_
    have h1 := C2.out.size
    have h2 := AZ.size
    omega

set_option maxHeartbeats 1000000 in
theorem dropR_no (g : Nat) (m : Option Nat) (k : Nat) (f : ByteArray → Option ObR) (nm : ByteArray) (v : Int) (w : World) (hc : w.cell? ⟨g, 2, none⟩ = some (.map m)) (hg : g < w.heap.size) (hm : MapS w m k (fR f)) (hs : nm.size ≤ maxLen) (er : Int) (he : heldP ((f nm).map ObR.v) v = er) (h0 : er ≠ 0) :
    Calls Tryz.prog 130 #[.pointer (some ⟨g, 2, none⟩), .string nm, .int .i64 v] w fun e w' => e = .returned (.int .i64 er) ∧ Grow.G w w' := by
  have HL := Lib.hid (he ▸ heldR_any g 2 m k f nm v w hc hg hm hs)
  have hne : (er == 0) = false := by simpa using h0
  clear hm he h0
  go_enter Tryz.func130, Tryz.ntmps130
  go_wp2_with fail
  refine HL.out.mono ?_
  rintro e wn1 ⟨rfl, hb1⟩
  go_wp2_with fail
  go_ret
  exact ⟨rfl, hb1⟩
set_option maxHeartbeats 1000000 in
theorem dropR_yes (g : Nat) (m : Option Nat) (k : Nat) (f : ByteArray → Option ObR) (nm : ByteArray) (v : Int) (w : World) (hc : w.cell? ⟨g, 2, none⟩ = some (.map m)) (hg : g < w.heap.size) (hm : MapS w m k (fR f)) (hs : nm.size ≤ maxLen) (he : heldP ((f nm).map ObR.v) v = 0) :
    Calls Tryz.prog 130 #[.pointer (some ⟨g, 2, none⟩), .string nm, .int .i64 v] w fun e w' => e = .returned (.int .i64 0) ∧ MapS w' m k (fR (upd f nm none)) ∧ Chg (fun j => some j = m) w w' := by
  have HL := Lib.hid (he ▸ heldR_any g 2 m k f nm v w hc hg hm hs)
  have HU := Lib.hid (upd_keyR f nm none)
  have HO := Lib.hid (upd_otherR f nm none)
  have HM := Lib.hid hm
  have HC := Lib.hid hc
  clear hm he hc
  go_enter Tryz.func130, Tryz.ntmps130
  go_wp2_with fail
  refine HL.out.mono ?_
  rintro e wn1 ⟨rfl, hb1⟩
  have q0 := cell_later hb1 HC.out
  have HG := Lib.hid hb1
  have hl : g < wn1.heap.size := by have := hb1.size; omega
  clear hb1
  go_wp2_with (at_delete; refine MapV.del rfl rfl keyedS Tryz.underlying60 rfl (HM.out.grow HG.out) rfl (keyS Tryz.underlying9 hs) HU.out HO.out ?_; intro w9 M9 C9; have M9 := Lib.hid M9; have C9 := Lib.hid C9)
  go_ret
  exact ⟨rfl, M9.out, (Chg.grow HG.out).trans C9.out⟩
end Go.Proofs.YtlnffdkaleapbaaGreat

/- shelf's rows: their names. -/

namespace Go.Proofs.YtlnffdkaleapbaaGreat
set_option maxRecDepth 100000
set_option linter.unusedVariables false
set_option linter.unusedSimpArgs false
set_option linter.unnecessarySimpa false
open Go.RowKit Go.MapV Go.Maps

def isOR (f : ByteArray → Option ObR) (x : ByteArray) : Bool := (f x).isSome
theorem keysR_any (m : Option Nat) (w : World) : Calls Tryz.prog 133 #[.map m] w fun e w' => e = .returned (.func (.func 134) #[] #[pt w.heap.size]) ∧ w' = w.alloc (.cells #[.map m] 60) :=
  callsIn_wide.1 (Tryz.maps_Keys_133 m w)
theorem sortedR_any (m : Option Nat) (n : Nat) (f : ByteArray → Option ObR) (w : World) (hm : MapS w m n (fR f)) (hn : n ≤ 1099511627776) :
    Calls Tryz.prog 104 #[.func (.func 134) #[] #[pt w.heap.size]] (w.alloc (.cells #[.map m] 60)) fun e w' =>
      ∃ (v : Value) (L : List ByteArray), e = .returned v ∧ NamesOf (isOR f) L ∧ L.length ≤ 1099511627776 ∧ w'.ownsRow w.heap.size 9 1 v L.length (L.map Value.string) ∧ Grow.G w w' := by
  have hg0 : Grow.G w (w.alloc (.cells #[.map m] 60)) := Grow.G.alloc (Grow.G.refl _) _
  cases m with
  | none =>
    refine (callsIn_wide.1 (Tryz.slices_Sorted_keys_nil_104_133 w)).mono ?_
    rintro e w' ⟨v, ss, rfl, rfl, hrow, hnil, hb⟩
    refine ⟨v, [], rfl, NamesOf.nil fun x => ?_, by simp, ?_, hg0.trans hb⟩
    · have h := hm (strK x)
      have h : (f x).map ObR.val = none := h
      unfold isOR
      cases hx : f x with
      | none => rfl
      | some o => rw [hx] at h; cases h
    · have := ownsRow_base_a hrow (base' := w.heap.size) (by simp)
      simpa using this
  | some b =>
    obtain ⟨D, hown, ha⟩ := hm
    have hsz := hown.size_le
    refine (callsIn_wide.1 (Tryz.slices_Sorted_keys_104_133 b n D RV w hown (by unfold maxLen; omega) (by omega))).mono ?_
    rintro e w' ⟨v, ss, rfl, hp, hrow, hnil, hb⟩
    have HN := names_of hown ha keyedS Tryz.underlying9 hp
    have hl : ss.length = Maps.size D := by
      rw [hp.length_eq]
      cases D <;> first | rfl | simp [strKeys, Maps.size]
    refine ⟨v, (ss.mergeSort leB).map toB, rfl, ?_, ?_, ?_, hg0.trans hb⟩
    · refine ⟨HN.1, fun x => (HN.2 x).trans ?_⟩
      unfold isOR
      dsimp only
      rw [Option.isSome_map]
    · rw [List.length_map, List.length_mergeSort]; omega
    · have := ownsRow_base_a hrow (base' := w.heap.size) (by simp)
      rw [List.length_map, List.length_mergeSort, List.map_map]
      exact this
set_option maxHeartbeats 1000000 in
/-- The iterator over a row's names. -/
theorem namesR_seq (kb g : Nat) (m : Option Nat) (n : Nat) (f : ByteArray → Option ObR) (w : World) (hk : Blk w kb #[.pointer (some ⟨g, 2, none⟩)] 89) (hc : w.cell? ⟨g, 2, none⟩ = some (.map m)) (hm : MapS w m n (fR f)) (hn : n ≤ 1099511627776) :
    Iter.SeqP Tryz.prog 132 #[pt kb] (fun x : ByteArray => #[.string x]) (fun pre x _ => isOR f x = true ∧ pre.length < 1099511627776) (fun xs => NamesOf (isOR f) xs) w := by
  intro ln J Jx W hG hJ hJx hY h0
  have b0 : W.cell? ⟨kb, 0, none⟩ = some (.pointer (some ⟨g, 2, none⟩)) := ((hk.grow hG).cell 0).trans rfl
  have b1 := cell_later hG hc
  have hkb := (hk.grow hG).lt
  have hgb : g < W.heap.size := by
    rcases Nat.lt_or_ge g W.heap.size with h | h
    · exact h
    · simp [World.cell?, Array.getElem?_eq_none h] at b1
  have SO := Lib.hid (sortedR_any m n f W (hm.grow hG) hn)
  have HJ := Lib.hid hJ
  have HY := Lib.hid hY
  have H0 := Lib.hid h0
  clear hk hc hm hG hJ hJx hY h0
  refine (callsIn_wide (n := 0)).1 ?_
  refine callsIn_of_wp Tryz.func132 rfl trivial ?_
  simp only [Tryz.ntmps132, List.size_toArray, List.length_cons, List.length_nil, Nat.reduceAdd, Nat.reduceSub, Array.replicate_succ, Array.replicate_zero, List.push_toArray, List.append_toArray, List.nil_append, List.cons_append]
  gi_wp2_with fail
  refine ⟨trivial, rfl, (callsIn_wide.2 (keysR_any m W)).mono ?_⟩
  rintro e w' ⟨rfl, rfl⟩
  gi_wp2_with fail
  refine ⟨trivial, rfl, (callsIn_wide.2 SO.out).mono ?_⟩
  rintro e w1 ⟨v, L, rfl, hNL, hLl, hrow, hg1⟩
  have J1 := Lib.hid (H0.out (fun k => v.ownBlock = some k) w1 hg1 (own_prv hrow))
  have HN := Lib.hid hNL
  have HR := Lib.hid hrow
  clear b0 b1 hNL
  obtain ⟨a, c, rfl, -⟩ := own_sh hrow
  clear hrow
  gi_wp2_with fail
  gi_loopw [12] (fun i wr => ∃ k : Nat, k ≤ L.length ∧ i = .int .i64 k ∧ Hid (wr.ownsRow W.heap.size 9 1 (.slice a L.length c) L.length (L.map Value.string)) ∧ Hid (J (fun k => (Value.slice a L.length c).ownBlock = some k) (L.take k) wr)) (fun i _ => L.length - (intOf i).toNat)
  case atStart => exact ⟨0, Nat.zero_le _, rfl, HR, J1⟩
  case round =>
    obtain ⟨k, hk, rfl, R, JJ⟩ := hrel
    by_cases hlt : k < L.length
    · obtain ⟨_, _, he, hcell⟩ := own_sh R.out
      cases he
      obtain ⟨r, rfl, hc⟩ := hcell k hlt
      have hmem := (HN.out.2 (L.getD k ⟨#[]⟩)).1 (by simp [List.getD, hlt])
      have htk : L.take (k + 1) = L.take k ++ [L.getD k ⟨#[]⟩] := by rw [List.take_add_one]; simp [List.getD, hlt]
      obtain ⟨x, hx⟩ : ∃ x, L.getD k ⟨#[]⟩ = x := ⟨_, rfl⟩
      rw [hx] at hc hmem htk
      have HT := Lib.hid htk
      clear hx htk
      obtain ⟨fn, tmps, assign, body, hy, hR⟩ := HY.out _ (L.take k) x wr JJ.out ⟨hmem, by rw [List.length_take]; omega⟩
      have k1 : (k : Int) < (L.length : Int) := by omega
      have k0 : (0 : Int) ≤ (k : Int) := by omega
      gi_wp2_with fail
      refine ⟨rfl, hR.mono ?_⟩
      rintro e w3 (⟨rfl, hj3, hk3⟩ | ⟨rfl, hx3⟩)
      · have R3 := Lib.hid (own_keep R.out hk3)
        have J3 := Lib.hid (HT.out ▸ hj3)
        clear hj3 hk3 hR hy hc
        gi_wp2_with fail
        go_roundw
        case rel => exact ⟨k + 1, by omega, by go_num, R3, J3⟩
        case measure => simp [intOf]; omega
      · have HX := Lib.hid hx3
        clear hx3 hR hy hc
        gi_wp2_with fail
        refine bodyPost_ret (results_none rfl _ _ _) rfl ?_
        exact ⟨⟨_, rfl⟩, _, .inr ⟨_, HX.out⟩⟩
    · obtain rfl : k = L.length := by omega
      have J2 := Lib.hid (show J (fun k => (Value.slice a L.length c).ownBlock = some k) L wr from by have := JJ.out; rwa [List.take_length] at this)
      gi_wp2_with fail
      go_end0
      exact ⟨⟨_, rfl⟩, _, .inl ⟨L, HN.out, J2.out⟩⟩
end Go.Proofs.YtlnffdkaleapbaaGreat
