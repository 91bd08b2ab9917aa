/- My own texts Hd2, Hd3, Hd4, laid in one file. -/
import Derived.Test.YtfnpghekkhnjkaaZ79
import Derived.Test.YtfnpghekkhnjkaaZ83
import Derived.Test.YtfnpghekkhnjkaaZ29
import Derived.Test.YtfnpghekkhnjkaaZ2

/- The second form's fleet: one pod taken out; Up, Of, Live; the dead go. -/
namespace Go.Proofs.Ytfnpghekkhnjkaa
set_option maxRecDepth 100000
set_option linter.unusedVariables false
set_option linter.unusedSimpArgs false
set_option linter.unnecessarySimpa false
open Go.RowKit

/-- A fleet but for one pod's own state. -/
def RflR (g : Nat) (r n : Int) (v : Value) (p : List HM) (m : HM) (q : List HM) : Hp := Sep (BlkF g [.int .i64 r, .int .i64 n, v] rflT) (Sep (RowF 0 heldPT 1 v (p ++ m :: q).length (hptrs (p ++ m :: q))) (Sep (BlkF m.b m.cells heldT) (SepL HdF (p ++ q))))
theorem RflR.foot (g : Nat) (r n : Int) (v : Value) (p : List HM) (m : HM) (q : List HM) : Foot (RflR g r n v p m q) := (BlkF.foot _ _ _).sep ((RowF.foot _ _ _ _ _ _).sep ((BlkF.foot _ _ _).sep (SepL.foot HdF.foot _)))
section
variable {w w' w0 : World} {L : List MBox} {A B : Hp} {F : Nat → Prop} {g : Nat} {r n : Int} {v : Value} {p q lm : List HM} {m : HM}
theorem RflS.out (h : RflS g r n v (p ++ m :: q) w F) : Sep (RpP m.p m.h.p) (RflR g r n v p m q) w F := by
  have h1 : Sep (BlkF g [.int .i64 r, .int .i64 n, v] rflT) (Sep (RowF 0 heldPT 1 v (p ++ m :: q).length (hptrs (p ++ m :: q))) (Sep (RpP m.p m.h.p) (Sep (BlkF m.b m.cells heldT) (SepL HdF (p ++ q))))) w F :=
    Sep.under h fun F h => h.under fun F h => (Sep.assoc h.out).rot
  exact (h1.under fun F h => h.rot).rot
theorem RflS.inn {s : Pd} (h : Sep (RpP m.p s) (RflR g r n v p m q) w F) : RflS g r n v (p ++ m.to s :: q) w F := by
  have e1 : hptrs (p ++ m.to s :: q) = hptrs (p ++ m :: q) := by unfold hptrs; rw [List.map_append, List.map_append, List.map_cons, List.map_cons]; rfl
  have e2 : (p ++ m.to s :: q).length = (p ++ m :: q).length := by rw [List.length_append, List.length_append, List.length_cons, List.length_cons]
  unfold RflS
  rw [e1, e2]
  have h1 : Sep (BlkF g [.int .i64 r, .int .i64 n, v] rflT) (Sep (RowF 0 heldPT 1 v (p ++ m :: q).length (hptrs (p ++ m :: q))) (Sep (RpP m.p s) (Sep (BlkF m.b m.cells heldT) (SepL HdF (p ++ q))))) w F := (Sep.rot h).under fun F h => h.rot
  exact h1.under fun F h => h.under fun F h => SepL.inn (x := m.to s) (Sep.assoc' h.rot)
theorem hold_pod (h : Hold w0 w L (Sep A (Sep (RflS g r n v (p ++ m :: q)) B))) : Hold w0 w L (Sep A (Sep (RpP m.p m.h.p) (Sep (RflR g r n v p m q) B))) :=
  h.map fun F h => h.under fun F h => Sep.assoc (h.over fun F h => RflS.out h)
theorem hold_pod' {s : Pd} (h : Hold w0 w L (Sep A (Sep (RpP m.p s) (Sep (RflR g r n v p m q) B)))) : Hold w0 w L (Sep A (Sep (RflS g r n v (p ++ m.to s :: q)) B)) :=
  h.map fun F h => h.under fun F h => (Sep.assoc' h).over fun F h => RflS.inn h
theorem hold_S (h : Hold w0 w L (Sep A (Sep (RflS g r n v lm) B))) : ∃ F, RflS g r n v lm w F := by
  obtain ⟨F, ⟨F1, F2, _, ⟨F3, F4, hs, _⟩, _⟩, _⟩ := h.st
  exact ⟨F3, hs⟩
theorem hold_rlopen {f : Fl} (h : Hold w0 w L (Sep A (Sep (RflP g f) B))) : ∃ v lm, lm.map HM.h = f.l ∧ f.ok ∧ Hold w0 w L (Sep A (Sep (RflS g f.room f.n v lm) B)) := by
  obtain ⟨F, ⟨F1, F2, a, ⟨F3, F4, ⟨v, lm, h1, h2, hs⟩, b, ap2, e2⟩, ap, e⟩, k1, k2⟩ := h.st
  exact ⟨v, lm, h1, h2, h.mem, F, ⟨F1, F2, a, ⟨F3, F4, hs, b, ap2, e2⟩, ap, e⟩, k1, k2⟩
theorem hold_rlclose {f : Fl} (h : Hold w0 w L (Sep A (Sep (RflS g f.room f.n v lm) B))) (h1 : lm.map HM.h = f.l) (h2 : f.ok) : Hold w0 w L (Sep A (Sep (RflP g f) B)) :=
  h.map fun F h => h.under fun F h => h.over fun F h => ⟨v, lm, h1, h2, h⟩
theorem findH_split {id : Int} (e : findH lm id = some m) : ∃ p q, lm = p ++ m :: q ∧ m.h.id = id := by
  obtain ⟨i, hi⟩ := List.getElem?_of_mem (List.mem_of_find?_eq_some e)
  have hid := List.find?_some e
  obtain ⟨h1, h2⟩ := List.getElem?_eq_some_iff.1 hi
  exact ⟨lm.take i, lm.drop (i + 1), by rw [← h2, ← List.drop_eq_getElem_cons h1, List.take_append_drop], by simpa using hid⟩
theorem split_at {i : Nat} (hi : lm[i]? = some m) : ∃ p q, lm = p ++ m :: q ∧ p.length = i := by
  obtain ⟨h1, h2⟩ := List.getElem?_eq_some_iff.1 hi
  exact ⟨lm.take i, lm.drop (i + 1), by rw [← h2, ← List.drop_eq_getElem_cons h1, List.take_append_drop], by rw [List.length_take]; omega⟩
end
theorem chgP_mid {p q : List Po} {h : Po} {f : Pd → Pd} (ok : PosOk (p ++ h :: q)) (hg : (f h.p).st ≠ 4) : chgP (p ++ h :: q) h.id f = p ++ h.to (f h.p) :: q := by
  have hi : (p ++ h :: q)[p.length]? = some h := by simp
  rw [chgP_at ok hi hg]
  simp
set_option maxHeartbeats 4000000 in
theorem hold_rlup {w0 w : World} {L : List MBox} {A B : Hp} {g : Nat} {f f' : Fl} {er : Int} (h : Hold w0 w L (Sep A (Sep (RflP g f) B))) (hA : Foot A) (hB : Foot B) (id : Int) (hi : wf64 id) (h1 : f.up id = er := by rfl) (h2 : f.aftUp id = f' := by rfl) :
    Calls Try.prog 25 #[pz g, .int .i64 id] w fun e w' => e = .returned (.int .i64 er) ∧ Hold w0 w' L (Sep A (Sep (RflP g f') B)) := by
  obtain ⟨v, lm, e1, ok, HS⟩ := hold_rlopen h
  obtain ⟨F, hS⟩ := hold_S HS
  have hlen : lm.length ≤ 1000 := by
    have := ok.len; have := ok.room
    rw [← e1, List.length_map] at *
    omega
  have FD := Lib.hid (rlfind_any g f.room f.n v lm id w F hS hlen)
  have hmap := findH_map lm id
  rw [e1] at hmap
  cases hf : findH lm id with
  | none =>
    rw [hf] at FD hmap
    have hn : findP f.l id = none := hmap.symm
    have her : er = 6 := by rw [← h1]; unfold Fl.up; rw [hn]
    have hf' : f' = f := by
      rw [← h2]
      unfold Fl.aftUp
      rw [chgP_no ok.l (fun b hb => findP_none hn b hb)]
    subst her hf'
    have H := Lib.hid h
    clear h HS hS hmap hn hf h1 h2
    dsimp only [ptrO] at FD
    go_enter Try.func25, Try.ntmps25
    go_wp2_with fail
    refine FD.out.mono ?_
    rintro e w1 ⟨rfl, rfl⟩
    go_wp2_with fail
    go_ret
    exact ⟨rfl, H.out⟩
  | some m =>
    rw [hf] at FD hmap
    obtain ⟨p, q, rfl, hid⟩ := findH_split hf
    have hfp : findP f.l id = some m.h := hmap.symm
    have hl : f.l = p.map HM.h ++ m.h :: q.map HM.h := by rw [← e1, List.map_append, List.map_cons]
    obtain ⟨hB2, u, hP⟩ := hS.ob (i := p.length) (m := m) (by simp)
    have c2 : w.cell? ⟨m.b, 2, none⟩ = some (pz m.p) := (hB2.cell 2).trans rfl
    have hbl := hB2.lt
    have hst := (ok.l.pod m.h (findP_mem hfp).1).2.1
    have her : m.h.p.up = er := by rw [← h1]; unfold Fl.up; rw [hfp]
    have hf' : (p ++ m.to m.h.p.aftUp :: q).map HM.h = f'.l ∧ f'.room = f.room ∧ f'.n = f.n ∧ f'.ok := by
      refine ⟨?_, by rw [← h2]; rfl, by rw [← h2]; rfl, by rw [← h2]; exact Fl.ok_up ok id⟩
      rw [← h2]
      show _ = chgP f.l id Pd.aftUp
      have ok' := ok.l
      rw [hl] at ok' ⊢
      rw [← hid, chgP_mid ok' (up_st _ hst), List.map_append, List.map_cons]
      rfl
    have HF := Lib.hid hf'
    have HP := Lib.hid (hold_pod HS)
    clear h HS hS hmap hfp hf h1 h2 hf' hl hP hB2
    dsimp only [ptrO] at FD
    go_enter Try.func25, Try.ntmps25
    go_wp2_with fail
    refine FD.out.mono ?_
    rintro e w1 ⟨rfl, rfl⟩
    go_wp2_with fail
    refine (hold_rpup (er := er) HP.out hA ((RflR.foot _ _ _ _ _ _ _).sep hB) her rfl).mono ?_
    rintro e w2 ⟨rfl, hh⟩
    have H2 := Lib.hid (hold_rlclose (f := f') (by rw [HF.out.2.1, HF.out.2.2.1]; exact hold_pod' hh) HF.out.1 HF.out.2.2.2)
    clear hh
    go_wp2_with fail
    go_ret
    exact ⟨rfl, H2.out⟩
end Go.Proofs.Ytfnpghekkhnjkaa

/- The second form's fleet: the dead go. -/
namespace Go.Proofs.Ytfnpghekkhnjkaa
set_option maxRecDepth 100000
set_option linter.unusedVariables false
set_option linter.unusedSimpArgs false
set_option linter.unnecessarySimpa false
open Go.RowKit Go.Args

theorem infoHeld : (Try.prog.info? heldPT).map (fun i => (i.zero, i.size, i.bytes)) = some (some (.pointer none), 1, 8) := by kernel_rfl
theorem hold_rowFr {w0 w w' : World} {L : List MBox} {A B : Hp} {e : TypeId} {v v' : Value} {n n' : Nat} {xs xs' : List Value} (h : Hold w0 w L (Sep A (Sep (RowF 0 e 1 v n xs) B))) (hA : Foot A) (hB : Foot B) (ho : w'.ownsRow 0 e 1 v' n' xs') (f : Fr.Fr w w' v v') : Hold w0 w' L (Sep A (Sep (RowF 0 e 1 v' n' xs') B)) := by
  refine (h.rot.step (Sep.stepL (hA.sep hB) fun F ⟨hv, eF⟩ => ?_)).rot
  refine ⟨fun k => v'.ownBlock = some k, ⟨ho, fun k => Iff.rfl⟩, (Chg.ofFr f).sub (fun k hk => (eF k).2 hk), fun k hk => ?_⟩
  rcases f.o with q | ⟨g, q, hg⟩
  · exact .inl ((eF k).2 (q ▸ hk))
  · have e2 : g = k := Option.some.inj (q.symm.trans hk)
    exact .inr (by omega)
theorem hold_rowR {w0 w : World} {L : List MBox} {A B : Hp} {e : TypeId} {v : Value} {n : Nat} {xs : List Value} (h : Hold w0 w L (Sep A (Sep (RowF 0 e 1 v n xs) B))) : w.ownsRow 0 e 1 v n xs := by
  obtain ⟨F, ⟨F1, F2, _, ⟨F3, F4, ho, _⟩, _⟩, _⟩ := h.st
  exact ho.1
theorem wpList_appH {w0 w : World} {L : List MBox} {A B : Hp} {v : Value} {ls : List HM} {m : HM} {ops : Array Oper} {rest : List Oper} {o : Oper} {a : Act} {Q : Exit → Act → World → Prop} (hgd : o.guard = none) (s x : Operand)
    (ho : o.op = .call { callee := .builtin .append, args := #[s, x], argTypes := #[77, 77] })
    (h : Hold w0 w L (Sep A (Sep (RowF 0 heldPT 1 v ls.length (hptrs ls)) B))) (hA : Foot A) (hB : Foot B) (hs : a.eval s = v) {ad : Option Addr} {c : Nat} (hx : a.eval x = .slice ad 1 c) (hsrc : Fr.Src w ad [pz m.b]) (hl : ls.length ≤ 100000)
    (k : ∀ a' c' w', Hold w0 w' L (Sep A (Sep (RowF 0 heldPT 1 (.slice a' (ls ++ [m]).length c') (ls ++ [m]).length (hptrs (ls ++ [m]))) B)) → Stay (wpList Try.prog ops Q rest (a.put o.dst (.slice a' (ls ++ [m]).length c')) w')) : wpList Try.prog ops Q (o :: rest) a w := by
  obtain ⟨i0, hi, hz0, hz1, hz2⟩ := info_parts infoHeld
  refine Fr.wpList_append_src w hgd s x 77 ho 0 heldPT i0 (.pointer none) 1 8 Try.underlying77 hi hz0 hz1 hz2 rfl (by decide) v _ _ hs (hold_rowR h) ad 1 c [pz m.b] hx rfl hsrc (by simp [Value.oneCell']) ?_ ?_ (Nat.zero_le _) ?_
  · unfold maxLen; omega
  · omega
  · intro v' w' hown hfr
    have H := hold_rowFr h hA hB hown hfr
    obtain ⟨a', c', rfl⟩ := own_shape hown
    have e1 : hptrs ls ++ [pz m.b] = hptrs (ls ++ [m]) := by unfold hptrs; rw [List.map_append]; rfl
    have e2 : ls.length + 1 = (ls ++ [m]).length := by rw [List.length_append]; rfl
    rw [e1, e2] at H
    rw [e2]
    exact k a' c' w' H
theorem blk_srcP {w : World} {g b : Nat} {T : TypeId} (h : Blk w g #[pz b] T) : Fr.Src w (some ⟨g, 0, none⟩) [pz b] :=
  .inr ⟨_, rfl, fun j u hj => by
    have e : (⟨g, 0, none⟩ : Addr).add j = ⟨g, 0 + j, none⟩ := by unfold Addr.add; split <;> simp_all
    rw [e, Nat.zero_add, h.cell j]
    simpa using hj⟩
/-- The row that is told, and what stands in it, in the old one's place; the others beside. -/
theorem hold_swept {w0 w : World} {L : List MBox} {A B : Hp} {g : Nat} {r n : Int} {v u : Value} {lm ls ds : List HM} (f : HM → Bool) (hs : lm.filter f = ls) (hd : (lm.filter fun m => !f m) = ds)
    (h : Hold w0 w L (Sep (BlkF g [.int .i64 r, .int .i64 n, u] rflT) (Sep (Sep (RowF 0 heldPT 1 v lm.length (hptrs lm)) (SepL HdF lm)) (Sep (RowF 0 heldPT 1 u ls.length (hptrs ls)) (Sep A B))))) : Hold w0 w L (Sep A (Sep (RflS g r n u ls) (Sep (SepL HdF ds) B))) := by
  subst hs hd
  have h1 : Hold w0 w L (Sep (BlkF g [.int .i64 r, .int .i64 n, u] rflT) (Sep (Sep (SepL HdF (lm.filter f)) (SepL HdF (lm.filter fun m => !f m))) (Sep (RowF 0 heldPT 1 u (lm.filter f).length (hptrs (lm.filter f))) (Sep A B)))) := h.weak fun F h => h.weakR fun F h => h.weakL fun F h => by
    obtain ⟨F1, hl, q1⟩ := h.dropL
    exact ⟨F1, SepL.part f hl, q1⟩
  have h2 : Hold w0 w L (Sep (BlkF g [.int .i64 r, .int .i64 n, u] rflT) (Sep (SepL HdF (lm.filter f)) (Sep (RowF 0 heldPT 1 u (lm.filter f).length (hptrs (lm.filter f))) (Sep (SepL HdF (lm.filter fun m => !f m)) (Sep A B))))) := h1.map fun F h => h.under fun F h => (Sep.assoc h).under fun F h => h.rot
  have h3 : Hold w0 w L (Sep (RflS g r n u (lm.filter f)) (Sep (SepL HdF (lm.filter fun m => !f m)) (Sep A B))) := h2.map fun F h => Sep.assoc' (h.under fun F h => Sep.assoc' h.rot)
  exact (h3.map fun F h => h.under fun F h => h.rot).rot
set_option maxHeartbeats 4000000 in
theorem hold_rlsweep2 {w0 w : World} {L : List MBox} {A B : Hp} {g : Nat} {r n : Int} {v : Value} {lm : List HM} (h : Hold w0 w L (Sep A (Sep (RflS g r n v lm) B))) (hA : Foot A) (hB : Foot B) (hl : lm.length ≤ 1000) :
    Calls Try.prog 45 #[pz g] w fun e w' => ∃ u, e = .returned (.tuple #[]) ∧ Hold w0 w' L (Sep A (Sep (RflS g r n u (lm.filter fun m => m.h.alive)) (Sep (SepL HdF (lm.filter fun m => !m.h.alive)) B))) := by
  have FA := Lib.hid (hA.sep hB)
  have FS := Lib.hid (RflS.foot g r n v lm)
  obtain ⟨F, hS⟩ := hold_S h
  obtain ⟨a, c, rfl⟩ := hS.sl
  have hnil : ∀ w, RowF 0 heldPT 1 (.slice none 0 0) 0 [] w (fun _ => False) := fun w => ⟨⟨rfl, .inl ⟨rfl, rfl⟩⟩, fun k => ⟨False.elim, fun q => by cases q⟩⟩
  have H : Hid (Hold w0 w L (Sep (RflS g r n (.slice a lm.length c) lm) (Sep (RowF 0 heldPT 1 (.slice none 0 0) ([] : List HM).length (hptrs [])) (Sep A B)))) := Lib.hid (h.rot.beside2 FS.out FA.out (Grow.G.refl _) (hnil w) (fun k hk => hk.elim))
  clear h hS
  go_enter Try.func45, Try.ntmps45
  go_wp2_with fail
  go_loopw [2, 3] (fun u i wr => ∃ (k : Nat) (a2 : Option Addr) (c2 : Nat), k ≤ lm.length ∧ u = .slice a2 ((lm.take k).filter fun m => m.h.alive).length c2 ∧ i = .int .i64 k ∧ Hid (Hold w0 wr L (Sep (RflS g r n (.slice a lm.length c) lm) (Sep (RowF 0 heldPT 1 (.slice a2 ((lm.take k).filter fun m => m.h.alive).length c2) ((lm.take k).filter fun m => m.h.alive).length (hptrs ((lm.take k).filter fun m => m.h.alive))) (Sep A B))))) (fun _ i _ => lm.length - (_root_.Go.RowKit.intOf i).toNat)
  case atStart => exact ⟨0, none, 0, by omega, rfl, rfl, H⟩
  case round =>
    clear H
    obtain ⟨k, a2, c2, hk, rfl, rfl, H⟩ := hrel
    obtain ⟨F2, hS⟩ := (hold_S (A := RowF 0 heldPT 1 (.slice a2 ((lm.take k).filter fun m => m.h.alive).length c2) ((lm.take k).filter fun m => m.h.alive).length (hptrs ((lm.take k).filter fun m => m.h.alive))) H.out.rot)
    have cg : wr.cell? ⟨g, 2, none⟩ = some (.slice a lm.length c) := (hS.hb.cell 2).trans rfl
    have hgl := hS.hb.lt
    by_cases hlt : k < lm.length
    · obtain ⟨m, hm⟩ : ∃ m, lm[k]? = some m := ⟨_, List.getElem?_eq_getElem hlt⟩
      obtain ⟨q, c', e, cr, hql⟩ := hS.at hm
      cases e
      obtain ⟨hB2, u, hP⟩ := hS.ob hm
      have cb : wr.cell? ⟨m.b, 2, none⟩ = some (pz m.p) := (hB2.cell 2).trans rfl
      have hbl := hB2.lt
      have SM := Lib.hid (rpstate_any m.p m.h.p u wr hP)
      have d0 : decide ((k : Int) < (lm.length : Int)) = true := decide_eq_true (by omega)
      have hk1 : IntKind.i64.wrap ((k : Int) + 1) = (k : Int) + 1 := IntWalk.i64_in _ ⟨by omega, by omega⟩
      have k1 : (0 : Int) ≤ (k : Int) := by omega
      have k2 : (k : Int) < (lm.length : Int) := by omega
      have hll : ((lm.take k).filter fun m => m.h.alive).length ≤ lm.length := Nat.le_trans (List.length_filter_le _ _) (by rw [List.length_take]; omega)
      have hsn : (lm.take (k + 1)).filter (fun m => m.h.alive) = (lm.take k).filter (fun m => m.h.alive) ++ if m.h.alive = true then [m] else [] := by
        rw [List.take_add_one, hm, List.filter_append]
        congr 1
        show List.filter _ [m] = _
        rw [List.filter_cons, List.filter_nil]
      by_cases e : m.h.p.st = 4
      · have e1 : (m.h.p.st != 4) = false := by simp [e]
        have HN : Hid ((lm.take (k + 1)).filter (fun m => m.h.alive) = (lm.take k).filter (fun m => m.h.alive)) := Lib.hid (by rw [hsn, if_neg (fun q => absurd e (alive_iff.1 q)), List.append_nil])
        obtain ⟨st, hst⟩ : ∃ st, m.h.p.st = st := ⟨_, rfl⟩
        rw [hst] at SM e1
        have ne := e
        rw [hst] at ne
        clear hm hB2 hP hS hsn hst e
        go_wp2_with fail
        refine SM.out.mono ?_
        rintro e w1 ⟨rfl, rfl⟩
        go_wp2_with fail
        go_roundw
        case rel => exact ⟨k + 1, a2, c2, by omega, by rw [HN.out], by go_num, by rw [HN.out]; exact H⟩
        case measure => simp [_root_.Go.RowKit.intOf]; omega
      · have e1 : (m.h.p.st != 4) = true := by simpa using e
        have HN : Hid ((lm.take (k + 1)).filter (fun m => m.h.alive) = (lm.take k).filter (fun m => m.h.alive) ++ [m]) := Lib.hid (by rw [hsn, if_pos (alive_iff.2 e)])
        obtain ⟨st, hst⟩ : ∃ st, m.h.p.st = st := ⟨_, rfl⟩
        rw [hst] at SM e1
        have ne := e
        rw [hst] at ne
        obtain ⟨ls, hls⟩ : ∃ ls, (lm.take k).filter (fun m => m.h.alive) = ls := ⟨_, rfl⟩
        rw [hls] at H HN hll ⊢
        have HA := Lib.hid (H.out.grow (FS.out.sep ((RowF.foot _ _ _ _ _ _).sep FA.out)) (Grow.G.alloc (Grow.G.refl _) (.cells #[pz m.b] 81)))
        have SR := Lib.hid (blk_srcP (Blk.new wr #[pz m.b] 81))
        clear hm hB2 hP hS hsn hst e hls
        go_wp2_with fail
        refine SM.out.mono ?_
        rintro e w1 ⟨rfl, rfl⟩
        go_wp2_with (refine wpList_appH (m := m) rfl (.tmp 25) (.tmp 33) rfl HA.out FS.out FA.out rfl rfl SR.out (by omega) ?_; intro a10 c10 w10 H10)
        refine Stay.go ?_
        have H11 := Lib.hid H10
        clear H10 HA SR
        go_wp2_with fail
        go_roundw
        case rel => exact ⟨k + 1, a10, c10, by omega, by rw [HN.out, List.length_append, List.length_singleton], by go_num, by rw [HN.out]; exact H11⟩
        case measure => simp [_root_.Go.RowKit.intOf]; omega
    · have hkl : k = lm.length := by omega
      have d0 : decide ((k : Int) < (lm.length : Int)) = false := decide_eq_false (by omega)
      have nk : ¬ ((k : Int) < (lm.length : Int)) := by omega
      have e1 : lm.take k = lm := by rw [hkl]; exact List.take_length
      rw [e1] at H ⊢
      obtain ⟨ls, hls⟩ : ∃ ls, lm.filter (fun m => m.h.alive) = ls := ⟨_, rfl⟩
      rw [hls] at H ⊢
      have HLS := Lib.hid hls
      have HB : Hid (Hold w0 wr L (Sep (BlkF g [.int .i64 r, .int .i64 n, .slice a lm.length c] rflT) (Sep (Sep (RowF 0 heldPT 1 (.slice a lm.length c) lm.length (hptrs lm)) (SepL HdF lm)) (Sep (RowF 0 heldPT 1 (.slice a2 ls.length c2) ls.length (hptrs ls)) (Sep A B))))) := Lib.hid (H.out.map fun F h => Sep.assoc h)
      have FX := Lib.hid (((RowF.foot 0 heldPT 1 (.slice a lm.length c) lm.length (hptrs lm)).sep (SepL.foot HdF.foot lm)).sep ((RowF.foot 0 heldPT 1 (.slice a2 ls.length c2) ls.length (hptrs ls)).sep FA.out))
      clear H hS hkl e1 hls
      go_wp2_with (refine Hold.setB (t := 77) FX.out rfl rfl rfl rfl (vs := [.slice a2 ls.length c2]) rfl (n := 1) (by kernel_rfl) HB.out rfl (by simp) rfl ?_; intro W8 H8)
      refine Stay.go ?_
      have H9 := Lib.hid (hold_swept (fun m => m.h.alive) HLS.out rfl (u := .slice a2 ls.length c2) (by simpa using H8))
      clear H8 HB
      go_wp2_with fail
      go_returns
      exact ⟨_, rfl, by rw [HLS.out]; exact H9.out⟩
theorem hold_rlsweep {w0 w : World} {L : List MBox} {A B : Hp} {g : Nat} {r n : Int} {v : Value} {lm : List HM} (h : Hold w0 w L (Sep A (Sep (RflS g r n v lm) B))) (hA : Foot A) (hB : Foot B) (hl : lm.length ≤ 1000) :
    Calls Try.prog 45 #[pz g] w fun e w' => ∃ u, e = .returned (.tuple #[]) ∧ Hold w0 w' L (Sep A (Sep (RflS g r n u (lm.filter fun m => m.h.alive)) B)) :=
  (hold_rlsweep2 h hA hB hl).mono fun e w' ⟨u, q1, q2⟩ => ⟨u, q1, q2.rot2.drop1⟩

set_option maxHeartbeats 2000000 in
theorem hold_rlnew {w0 w : World} {L : List MBox} {A B : Hp} (h : Hold w0 w L (Sep A B)) (hA : Foot A) (hB : Foot B) (room : Int) (hr : 1 ≤ room ∧ room ≤ 30) : Calls Try.prog 23 #[.int .i64 room] w fun e w' => ∃ g, e = .returned (pz g) ∧ Hold w0 w' L (Sep A (Sep (RflP g (Fl.new room)) B)) := by
  have H := Lib.hid h
  clear h
  go_enter Try.func23, Try.ntmps23
  go_wp2_with fail
  go_ret
  refine ⟨_, rfl, H.out.beside2 hA hB (F₁ := fun k => k = w.heap.size) (Grow.G.alloc (Grow.G.refl _) _) ?_ (fun k hk => by have hk : k = w.heap.size := hk; omega)⟩
  refine ⟨.slice none 0 0, [], rfl, Fl.ok_new hr, fun k => k = w.heap.size, fun _ => False, ⟨Blk.new _ _ _, fun k => Iff.rfl⟩, ⟨fun _ => False, fun _ => False, ⟨⟨rfl, .inl ⟨rfl, rfl⟩⟩, fun k => ⟨False.elim, fun q => by cases q⟩⟩, SepL.nil _, fun k q _ => q, fun k => by simp⟩, fun k _ q => q, fun k => by simp⟩
theorem src_blk {w : World} {g : Nat} {cs : List Value} {T : TypeId} (h : Blk w g cs.toArray T) : Fr.Src w (some ⟨g, 0, none⟩) cs :=
  .inr ⟨_, rfl, fun j u hj => by
    have e : (⟨g, 0, none⟩ : Addr).add j = ⟨g, 0 + j, none⟩ := by unfold Addr.add; split <;> simp_all
    rw [e, Nat.zero_add, h.cell j, List.getElem?_toArray]
    exact hj⟩
abbrev rlookT : TypeId := 57
theorem infoLk : (Try.prog.info? rlookT).map (fun i => (i.zero, i.size, i.bytes)) = some (some (.agg #[.int .i64 0, .int .i64 0, .int .i64 0]), 3, 24) := by kernel_rfl
theorem looks_snoc (l : List Po) (a : Po) : looks (l ++ [a]) = looks l ++ a.look := by unfold looks; rw [List.flatMap_append]; simp
def ofRv (rv : ByteArray) (lm : List HM) : List Po := (lm.map HM.h).filter fun h => decide (h.rv = rv)
set_option maxHeartbeats 8000000 in
theorem rlpods_any (g : Nat) (r n : Int) (v : Value) (lm : List HM) (rv : ByteArray) (w : World) (F : Nat → Prop) (h : RflS g r n v lm w F) (hl : lm.length ≤ 1000) :
    Calls Try.prog 27 #[pz g, .string rv] w fun e w' => ∃ u, e = .returned u ∧ w'.ownsRow w.heap.size rlookT 3 u (ofRv rv lm).length (looks (ofRv rv lm)) ∧ Grow.G w w' := by
  obtain ⟨a, c, rfl⟩ := h.sl
  have HS0 := Lib.hid h
  have hlt0 : ∀ k, F k → k < w.heap.size := fun k hk => (RflS.foot g r n _ lm).lt h k hk
  obtain ⟨i0, hi, hz0, hz1, hz2⟩ := info_parts infoLk
  have HI := Lib.hid hi; have HZ0 := Lib.hid hz0; have HZ1 := Lib.hid hz1; have HZ2 := Lib.hid hz2
  clear h hi hz0 hz1 hz2
  go_enter Try.func27, Try.ntmps27
  go_wp2_with fail
  go_loopw [5, 6] (fun u i wr => ∃ (k : Nat), k ≤ lm.length ∧ i = .int .i64 k ∧ Hid (wr.ownsRow w.heap.size rlookT 3 u (ofRv rv (lm.take k)).length (looks (ofRv rv (lm.take k)))) ∧ Hid (Grow.G w wr)) (fun _ i _ => lm.length - (_root_.Go.RowKit.intOf i).toNat)
  case atStart => exact ⟨0, by omega, rfl, Lib.hid ⟨rfl, .inl ⟨rfl, rfl⟩⟩, Lib.hid (Grow.G.refl _)⟩
  case round =>
    obtain ⟨k, hk, rfl, HO, HG⟩ := hrel
    obtain ⟨ua, uc, rfl⟩ := own_shape HO.out
    have hsz := HG.out.size
    have HS := Lib.hid (HS0.out.grow HG.out)
    have cg : wr.cell? ⟨g, 2, none⟩ = some (.slice a lm.length c) := (HS.out.hb.cell 2).trans rfl
    have hgl := HS.out.hb.lt
    by_cases hlt : k < lm.length
    · obtain ⟨m, hm⟩ : ∃ m, lm[k]? = some m := ⟨_, List.getElem?_eq_getElem hlt⟩
      obtain ⟨q, c', e, cr, hql⟩ := HS.out.at hm
      obtain ⟨q', c2', e', -, hql0⟩ := HS0.out.at hm
      rw [e] at e'
      cases e'
      cases e
      obtain ⟨hB2, u2, hP⟩ := HS.out.ob hm
      obtain ⟨hB0, u0, hP0⟩ := HS0.out.ob hm
      have hg0 := HS0.out.hb.lt
      have hb0 := hB0.lt
      have c1 : wr.cell? ⟨m.b, 1, none⟩ = some (.string m.h.rv) := (hB2.cell 1).trans rfl
      have cI : wr.cell? ⟨m.b, 0, none⟩ = some (.int .i64 m.h.id) := (hB2.cell 0).trans rfl
      have cP : wr.cell? ⟨m.b, 2, none⟩ = some (pz m.p) := (hB2.cell 2).trans rfl
      have hbl := hB2.lt
      have d0 : decide ((k : Int) < (lm.length : Int)) = true := decide_eq_true (by omega)
      have hk1 : IntKind.i64.wrap ((k : Int) + 1) = (k : Int) + 1 := IntWalk.i64_in _ ⟨by omega, by omega⟩
      have k1 : (0 : Int) ≤ (k : Int) := by omega
      have k2 : (k : Int) < (lm.length : Int) := by omega
      have hsn : ofRv rv (lm.take (k + 1)) = ofRv rv (lm.take k) ++ if m.h.rv = rv then [m.h] else [] := by
        unfold ofRv
        rw [List.take_add_one, hm, List.map_append, List.filter_append]
        congr 1
        show List.filter _ [m.h] = _
        rw [List.filter_cons, List.filter_nil]
        by_cases q : m.h.rv = rv <;> simp [q]
      have hll : (ofRv rv (lm.take k)).length ≤ 1000 := by
        unfold ofRv
        refine Nat.le_trans (List.length_filter_le _ _) ?_
        rw [List.length_map, List.length_take]; omega
      by_cases hrv : m.h.rv = rv
      · have d1 : (m.h.rv.toList == rv.toList) = true := eqS_iff.2 hrv
        rw [if_pos hrv] at hsn
        have HN := Lib.hid hsn
        have HGN : Hid (∀ j, j < w.heap.size → ¬ ((Value.slice ua (ofRv rv (lm.take k)).length uc).ownBlock = some j)) := Lib.hid (fun j hj q => by have := (HO.out.lt j q).1; omega)
        have SM := Lib.hid (fun (w' : World) (h : Chg (fun j => (Value.slice ua (ofRv rv (lm.take k)).length uc).ownBlock = some j) wr w') => quietG (rpstate_any m.p m.h.p u0 w' ((hP0.grow HG.out).chg h (fun j hj => HGN.out j (hP0.lt j hj)))))
        have LM := Lib.hid (fun (w' : World) (h : Chg (fun j => (Value.slice ua (ofRv rv (lm.take k)).length uc).ownBlock = some j) wr w') => quietG (rpload_any m.p m.h.p u0 w' ((hP0.grow HG.out).chg h (fun j hj => HGN.out j (hP0.lt j hj)))))
        have KC := Lib.hid (fun (w' : World) (h : Chg (fun j => (Value.slice ua (ofRv rv (lm.take k)).length uc).ownBlock = some j) wr w') => (⟨h.cell cg (HGN.out _ hg0), h.cell cr (HGN.out _ hql0), h.cell cI (HGN.out _ hb0), h.cell cP (HGN.out _ hb0), trivial⟩ : w'.cell? ⟨g, 2, none⟩ = some (.slice (some ⟨q, 0, none⟩) lm.length c) ∧ w'.cell? ⟨q, k, none⟩ = some (pz m.b) ∧ w'.cell? ⟨m.b, 0, none⟩ = some (.int .i64 m.h.id) ∧ w'.cell? ⟨m.b, 2, none⟩ = some (pz m.p) ∧ True))
        have HR := HO
        clear hm hB2 hB0 hP hP0 hsn
        go_wp2_with fail
        refine Evo2.start' (ℓ := none) (S := Chg (fun j => (Value.slice ua (ofRv rv (lm.take k)).length uc).ownBlock = some j)) (E := Grow.G) (by kernel_rfl) ⟨Chg.pre _, by decide +kernel, (by intro c a d v w h; cases d <;> exact h), by decide +kernel⟩ (fun ok => ?_)
        refine Evo2.va ok 0 _ _ ?_
        refine Evo2.va ok 1 _ _ ?_
        refine Evo2.va ok 2 _ _ ?_
        refine Evo2.va ok 3 _ _ ?_
        first | (refine Evo2.vl ok 4 KC.out (Chg.refl (fun j => (Value.slice ua (ofRv rv (lm.take k)).length uc).ownBlock = some j) _) _ _ ?_) | (refine Evo2.va ok 4 _ _ ?_)
        refine Evo2.va ok 5 _ _ ?_
        refine Evo2.va ok 6 _ _ ?_
        first | (refine Evo2.vl ok 7 KC.out (Chg.refl (fun j => (Value.slice ua (ofRv rv (lm.take k)).length uc).ownBlock = some j) _) _ _ ?_) | (refine Evo2.va ok 7 _ _ ?_)
        refine Evo2.va ok 8 _ _ ?_
        refine Evo2.va ok 9 _ _ ?_
        first | (refine Evo2.vl ok 10 KC.out (Chg.refl (fun j => (Value.slice ua (ofRv rv (lm.take k)).length uc).ownBlock = some j) _) _ _ ?_) | (refine Evo2.va ok 10 _ _ ?_)
        refine Evo2.va ok 11 _ _ ?_
        refine Evo2.va ok 12 _ _ ?_
        refine Evo2.va ok 13 _ _ ?_
        first | (refine Evo2.vl ok 14 KC.out (Chg.refl (fun j => (Value.slice ua (ofRv rv (lm.take k)).length uc).ownBlock = some j) _) _ _ ?_) | (refine Evo2.va ok 14 _ _ ?_)
        refine Evo2.va ok 15 _ _ ?_
        refine Evo2.va ok 16 _ _ ?_
        first | (refine Evo2.vl ok 17 KC.out (Chg.refl (fun j => (Value.slice ua (ofRv rv (lm.take k)).length uc).ownBlock = some j) _) _ _ ?_) | (refine Evo2.va ok 17 _ _ ?_)
        refine Evo2.va ok 18 _ _ ?_
        refine Evo2.va ok 19 _ _ ?_
        first | (refine Evo2.vl ok 20 KC.out (Chg.refl (fun j => (Value.slice ua (ofRv rv (lm.take k)).length uc).ownBlock = some j) _) _ _ ?_) | (refine Evo2.va ok 20 _ _ ?_)
        (refine Evo2.cal ok 21 ?_ 49 ?_ ?_ ?_ ?_; rotate_left 2; (focus (intro w'; go_simp <;> with_reducible rfl)); (focus (intro w' g'; with_reducible exact SM.out w' (Chg.trans (Chg.refl (fun j => (Value.slice ua (ofRv rv (lm.take k)).length uc).ownBlock = some j) _) g'))); simp only [Act.put, L0, L1, L2])
        refine Evo2.va ok 22 _ _ ?_
        refine Evo2.va ok 23 _ _ ?_
        refine Evo2.va ok 24 _ _ ?_
        first | (refine Evo2.vl ok 25 KC.out (Chg.refl (fun j => (Value.slice ua (ofRv rv (lm.take k)).length uc).ownBlock = some j) _) _ _ ?_) | (refine Evo2.va ok 25 _ _ ?_)
        refine Evo2.va ok 26 _ _ ?_
        refine Evo2.va ok 27 _ _ ?_
        first | (refine Evo2.vl ok 28 KC.out (Chg.refl (fun j => (Value.slice ua (ofRv rv (lm.take k)).length uc).ownBlock = some j) _) _ _ ?_) | (refine Evo2.va ok 28 _ _ ?_)
        refine Evo2.va ok 29 _ _ ?_
        refine Evo2.va ok 30 _ _ ?_
        first | (refine Evo2.vl ok 31 KC.out (Chg.refl (fun j => (Value.slice ua (ofRv rv (lm.take k)).length uc).ownBlock = some j) _) _ _ ?_) | (refine Evo2.va ok 31 _ _ ?_)
        (refine Evo2.cal ok 32 ?_ 50 ?_ ?_ ?_ ?_; rotate_left 2; (focus (intro w'; go_simp <;> with_reducible rfl)); (focus (intro w' g'; with_reducible exact LM.out w' (Chg.trans (Chg.refl (fun j => (Value.slice ua (ofRv rv (lm.take k)).length uc).ownBlock = some j) _) g'))); simp only [Act.put, L0, L1, L2])
        refine Evo2.va ok 33 _ _ ?_
        refine Evo2.all [34] (by decide +kernel) rfl ?_
        intro wp1 gp1 iq hq
        simp only [List.mem_cons, List.mem_nil_iff, or_false] at hq
        have AP1 := Chg.trans (Chg.refl (fun j => (Value.slice ua (ofRv rv (lm.take k)).length uc).ownBlock = some j) _) (Chg.grow gp1)
        (try replace HR := Lib.hid (own_later HR.out gp1))
        subst hq
        refine Evo2.runs (by rfl) (by rfl) (fun K' hK' => ?_)
        (try obtain ⟨q1, q2, q3, q4⟩ := KC.out wp1 AP1)
        go_simp
        (try (simp only [Evo.after_value, Evo.after_skip]))
        refine hK'.out _ _ ?_
        clear hK'
        simp only [Act.put, L0, L1, L2]
        (try clear q1 q2 q3 q4)
        refine ⟨.inr (Chg.alloc (Chg.refl _ _) _), ?_⟩
        generalize hG1 : World.alloc wp1 _ = wg1
        have GG1 : Grow.G wp1 wg1 := hG1 ▸ Grow.G.alloc (Grow.G.refl _) _
        have NC1 := (congrArg (fun W : World => W.heap[wp1.heap.size]?) hG1).symm.trans (MapKept.heap_alloc wp1 _).1
        have NL1 : wp1.heap.size < wg1.heap.size := by rw [← hG1]; simp
        clear hG1
        replace HR := Lib.hid (own_later HR.out GG1)
        refine Evo2.all [35] (by decide +kernel) rfl ?_
        intro wp2 gp2 iq hq
        simp only [List.mem_cons, List.mem_nil_iff, or_false] at hq
        have AP2 := Chg.trans (Chg.trans AP1 (Chg.grow GG1)) (Chg.grow gp2)
        (try replace HR := Lib.hid (own_later HR.out gp2))
        have NC1 := (gp2.block _ NL1).trans NC1
        have NL1 := Nat.lt_of_lt_of_le NL1 gp2.size
        subst hq
        refine Fr.own_src (by rfl) (by rfl) (Operand.tmp 28) (Operand.tmp 62) 55 (by rfl) w.heap.size rlookT i0 (.agg #[.int .i64 0, .int .i64 0, .int .i64 0]) 3 24 Try.underlying55 HI.out HZ0.out HZ1.out HZ2.out rfl (by decide) _ _ _ (by rfl) HR.out _ 1 _ [.int .i64 m.h.id, .int .i64 m.h.p.st, .int .i64 m.h.p.l.length] (by rfl) (by rfl) (src_blk (cs := [.int .i64 m.h.id, .int .i64 m.h.p.st, .int .i64 m.h.p.l.length]) NC1) (by simp [Value.oneCell']) (by unfold maxLen; omega) (by omega) (by have := AP2.size; omega) ?_
        intro vw2 wc2 OW2 fr2
        have HW := Lib.hid OW2; have CH2 : Chg (fun j => (Value.slice ua (ofRv rv (lm.take k)).length uc).ownBlock = some j) _ _ := Chg.ofFr fr2
        refine ⟨.inr CH2, ?_⟩
        have AC2 := Chg.trans AP2 CH2
        simp only [Act.put, L0, L1, L2]
        refine Evo2.va ok 36 _ _ ?_
        refine Evo2.done (by decide +kernel) (fun wz gz => ?_)
        have AZ := Chg.trans AC2 (Chg.grow gz)
        (try replace HR := Lib.hid (own_later HR.out gz))
        have HO2 := Lib.hid (own_later HW.out gz)
        have HG2 : Hid (Grow.G w wz) := Lib.hid (Below.trans HG.out (AZ.below (B := w.heap.size) hsz HGN.out))
        obtain ⟨va, vc, rfl⟩ := own_shape HW.out
        clear AZ gz KC HW HR
        go_wp2_with fail
        go_roundw
        case rel => exact ⟨k + 1, by omega, by go_num, by rw [HN.out, looks_snoc, List.length_append]; exact HO2, HG2⟩
        case measure => simp [_root_.Go.RowKit.intOf]; omega
      · have d1 : (m.h.rv.toList == rv.toList) = false := neS_iff.2 hrv
        rw [if_neg hrv, List.append_nil] at hsn
        have HN := Lib.hid hsn
        clear hm hB2 hB0 hP hP0 hsn
        go_wp2_with fail
        go_roundw
        case rel => exact ⟨k + 1, by omega, by go_num, by rw [HN.out]; exact HO, HG⟩
        case measure => simp [_root_.Go.RowKit.intOf]; omega
    · have d0 : decide ((k : Int) < (lm.length : Int)) = false := decide_eq_false (by omega)
      have nk : ¬ ((k : Int) < (lm.length : Int)) := by omega
      have RES : Hid (lm.take k = lm) := Lib.hid (List.take_of_length_le (by omega))
      go_wp2_with fail
      go_ret
      exact ⟨.slice ua (ofRv rv (lm.take k)).length uc, rfl, by have := HO.out; rw [RES.out] at this ⊢; exact this, HG.out⟩
theorem own_lk {w : World} {base c : Nat} {a : Option Addr} {l : List Po} (h : w.ownsRow base rlookT 3 (.slice a l.length c) l.length (looks l)) : l = [] ∨ ∃ q, a = some ⟨q, 0, none⟩ ∧ q < w.heap.size ∧ ∀ k x, l[k]? = some x → w.cell? ⟨q, k * 3, none⟩ = some (.int .i64 x.id) ∧ w.cell? ⟨q, k * 3 + 1, none⟩ = some (.int .i64 x.p.st) ∧ w.cell? ⟨q, k * 3 + 2, none⟩ = some (.int .i64 x.load) := by
  have hat : ∀ (l : List Po) k x, l[k]? = some x → (looks l)[k * 3]? = some (.int .i64 x.id) ∧ (looks l)[k * 3 + 1]? = some (.int .i64 x.p.st) ∧ (looks l)[k * 3 + 2]? = some (.int .i64 x.load) := by
    intro l
    induction l with
    | nil => intro k x hk; simp at hk
    | cons y l ih =>
      intro k x hk
      have e : looks (y :: l) = y.look ++ looks l := rfl
      cases k with
      | zero =>
        simp only [List.getElem?_cons_zero, Option.some.injEq] at hk
        subst hk
        exact ⟨rfl, rfl, rfl⟩
      | succ k =>
        rw [List.getElem?_cons_succ] at hk
        have := ih k x hk
        rw [e, show (k + 1) * 3 = k * 3 + 3 by omega]
        refine ⟨?_, ?_, ?_⟩
        · rw [List.getElem?_append_right (by show 3 ≤ _; omega)]; exact this.1
        · rw [List.getElem?_append_right (by show 3 ≤ _; omega), show k * 3 + 3 + 1 - y.look.length = k * 3 + 1 by show _ - 3 = _; omega]; exact this.2.1
        · rw [List.getElem?_append_right (by show 3 ≤ _; omega), show k * 3 + 3 + 2 - y.look.length = k * 3 + 2 by show _ - 3 = _; omega]; exact this.2.2
  rcases h.2 with ⟨_, h2⟩ | ⟨q, cap, cur, hv, _, hq, _⟩
  · exact .inl (List.eq_nil_of_length_eq_zero h2)
  · injection hv with e1 e2 e3
    subst e1 e3
    exact .inr ⟨q, rfl, Chg.lt_of hq, fun k x hk => ⟨own_cell h (hat l k x hk).1, own_cell h (hat l k x hk).2.1, own_cell h (hat l k x hk).2.2⟩⟩
set_option maxHeartbeats 4000000 in
theorem rlcount_any (g : Nat) (r n : Int) (v : Value) (lm : List HM) (rv : ByteArray) (w : World) (F : Nat → Prop) (h : RflS g r n v lm w F) (hl : lm.length ≤ 1000) :
    Calls Try.prog 41 #[pz g, .string rv, .int .i64 1, .int .i64 2] w fun e w' => e = .returned (.int .i64 (countP (lm.map HM.h) rv)) ∧ Grow.G w w' := by
  have PD := Lib.hid (rlpods_any g r n v lm rv w F h hl)
  have hlen : (ofRv rv lm).length ≤ 1000 := by
    unfold ofRv
    refine Nat.le_trans (List.length_filter_le _ _) ?_
    rw [List.length_map]; exact hl
  have hC : Hid (countP (lm.map HM.h) rv = ((ofRv rv lm).filter Po.act).length) := Lib.hid (by
    unfold countP ofRv
    rw [List.filter_filter]
    congr 1
    exact List.filter_congr fun x _ => Bool.and_comm _ _)
  generalize ofRv rv lm = l at *
  clear h
  go_enter Try.func41, Try.ntmps41
  go_wp2_with fail
  refine PD.out.mono ?_
  rintro e w1 ⟨u, rfl, ho, hg⟩
  obtain ⟨ua, uc, rfl⟩ := own_shape ho
  have HL := Lib.hid (own_lk ho)
  have HG := Lib.hid hg
  clear ho hg PD
  go_wp2_with fail
  go_loopw [9, 11] (fun cnt i wr => ∃ k : Nat, k ≤ l.length ∧ cnt = .int .i64 ((l.take k).filter Po.act).length ∧ i = .int .i64 k ∧ wr = w1) (fun _ i _ => l.length - (_root_.Go.RowKit.intOf i).toNat)
  case atStart => exact ⟨0, by omega, rfl, rfl, rfl⟩
  case round =>
    obtain ⟨k, hk, rfl, rfl, rfl⟩ := hrel
    have hk1 : IntKind.i64.wrap ((k : Int) + 1) = (k : Int) + 1 := IntWalk.i64_in _ ⟨by omega, by omega⟩
    by_cases hlt : k < l.length
    · obtain ⟨x, hx⟩ : ∃ x, l[k]? = some x := ⟨_, List.getElem?_eq_getElem hlt⟩
      obtain ⟨q, rfl, hql, hcl⟩ := HL.out.resolve_left (fun e => by rw [e] at hlt; exact absurd hlt (Nat.not_lt_zero _))
      have c1 := (hcl k x hx).2.1
      have d0 : decide ((k : Int) < (l.length : Int)) = true := decide_eq_true (by omega)
      have k1 : (0 : Int) ≤ (k : Int) := by omega
      have k2 : (k : Int) < (l.length : Int) := by omega
      have hsn : (l.take (k + 1)).filter Po.act = (l.take k).filter Po.act ++ if x.act = true then [x] else [] := by
        rw [List.take_add_one, hx, List.filter_append]
        congr 1
        show List.filter _ [x] = _
        rw [List.filter_cons, List.filter_nil]
      have hll : ((l.take k).filter Po.act).length ≤ 1000 := Nat.le_trans (List.length_filter_le _ _) (by rw [List.length_take]; omega)
      obtain ⟨st, hst⟩ : ∃ st, x.p.st = st := ⟨_, rfl⟩
      rw [hst] at c1
      have hact : x.act = true ↔ st = 1 ∨ st = 2 := by rw [← hst]; exact act_iff
      have h3 : ((st == 1) = true ∧ x.act = true) ∨ ((st == 1) = false ∧ (st == 2) = true ∧ x.act = true) ∨ ((st == 1) = false ∧ (st == 2) = false ∧ ¬ x.act = true) := by
        by_cases q1 : st = 1
        · exact .inl ⟨by simpa using q1, hact.2 (.inl q1)⟩
        · by_cases q2 : st = 2
          · exact .inr (.inl ⟨by simpa using q1, by simpa using q2, hact.2 (.inr q2)⟩)
          · exact .inr (.inr ⟨by simpa using q1, by simpa using q2, fun q => (hact.1 q).elim q1 q2⟩)
      have hmul : k * 3 + 1 = k * 3 + 1 := rfl
      rcases h3 with ⟨e1, ha⟩ | ⟨e1, e2, ha⟩ | ⟨e1, e2, ha⟩
      case' inl =>
        rw [if_pos ha] at hsn
        have HN : Hid (((l.take (k + 1)).filter Po.act).length = ((l.take k).filter Po.act).length + 1) := Lib.hid (by rw [hsn, List.length_append]; rfl)
      case' inr.inl =>
        rw [if_pos ha] at hsn
        have HN : Hid (((l.take (k + 1)).filter Po.act).length = ((l.take k).filter Po.act).length + 1) := Lib.hid (by rw [hsn, List.length_append]; rfl)
      case inr.inr =>
        rw [if_neg ha, List.append_nil] at hsn
        have HN := Lib.hid hsn
        clear hsn ha hact hst hx hcl
        go_wp2_with fail
        go_roundw
        case rel => exact ⟨k + 1, by omega, by rw [HN.out], by go_num, trivial⟩
        case measure => simp [_root_.Go.RowKit.intOf]; omega
      all_goals
        clear hsn ha hact hst hx hcl
        obtain ⟨cn, hcn⟩ : ∃ cn : Nat, ((l.take k).filter Po.act).length = cn := ⟨_, rfl⟩
        rw [hcn] at HN hll ⊢
        have hw1 : IntKind.i64.wrap ((cn : Int) + 1) = (cn : Int) + 1 := IntWalk.i64_in _ ⟨by omega, by omega⟩
        clear hcn
        go_wp2_with fail
        go_roundw
        case rel => exact ⟨k + 1, by omega, by rw [HN.out]; go_num, by go_num, trivial⟩
        case measure => simp [_root_.Go.RowKit.intOf]; omega
    · have d0 : decide ((k : Int) < (l.length : Int)) = false := decide_eq_false (by omega)
      have nk : ¬ ((k : Int) < (l.length : Int)) := by omega
      have RES : Hid (l.take k = l) := Lib.hid (List.take_of_length_le (by omega))
      go_wp2_with fail
      go_ret
      rw [hC.out, RES.out]
      exact ⟨rfl, HG.out⟩
end Go.Proofs.Ytfnpghekkhnjkaa
