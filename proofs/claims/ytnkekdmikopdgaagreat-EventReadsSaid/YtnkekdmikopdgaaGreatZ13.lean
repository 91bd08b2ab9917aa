/- My own texts ERead, ERead2, EParse, laid in one file. -/
import Derived.Test.YtnkekdmikopdgaaGreatZ11

/- What event's read reads. -/
namespace Go.Proofs.YtnkekdmikopdgaaGreat
set_option maxRecDepth 100000
set_option linter.unusedVariables false
set_option linter.unusedSimpArgs false
set_option linter.unnecessarySimpa false
open Go.RowKit
attribute [local go_sem] Oper.semAt_some

def NoPan (Q : Exit → Act → World → Prop) : Exit → Act → World → Prop
 | .panic _, _, _ => False
 | e, a, w => Q e a w
theorem wp_nopan {P : Program} {c : Code} {Q : Exit → Act → World → Prop} {a : Act} {w : World} (h : c.wp P (NoPan Q) a w) : c.wp P Q a w :=
 wp_mono h fun e a w h => by cases e <;> first | exact h | exact h.elim
theorem TgtSl.book {w w' : World} {a : Option Addr} {ts : List Tgt} {n : Nat} (h : TgtSl w a ts) (k : Iter.Book n w w') : TgtSl w' a ts :=
 h.imp id fun ⟨b, off, ha, hc⟩ => ⟨b, off, ha, fun i hi => ⟨k.cell (hc i hi).c0, k.cell (hc i hi).c1, k.cell (hc i hi).c2⟩⟩
theorem EvR.book {w w' : World} {g rb : Nat} {e : EvD} {n : Nat} (h : EvR w g rb e) (k : Iter.Book n w w') : EvR w' g rb e := by
 obtain ⟨a, c, hb, ht, hn⟩ := h
 exact ⟨a, c, hb.book k, ht.book k, hn⟩
theorem EvR.grow {w w' : World} {g rb : Nat} {e : EvD} (h : EvR w g rb e) (k : Grow.G w w') : EvR w' g rb e := h.book (Iter.Book.grow (n := 0) k)
def runN (k : Int) (r : List Int) (i : Nat) : EvD × LS := runL ((PT.specs k).take i) ({ ev0 with k := k }, (r, false))
theorem runN_succ {k : Int} {r : List Int} {i : Nat} {p : PT} (h : (PT.specs k)[i]? = some p) : runN k r (i + 1) = p.lr (runN k r i).1 (runN k r i).2 := by
 unfold runN runL
 rw [List.take_add_one, h, List.foldl_append]; rfl
theorem runN_all (k : Int) (r : List Int) : runN k r (PT.specs k).length = evLax k r := by unfold runN evLax; rw [List.take_length]
theorem runN_bts {k : Int} {r : List Int} (h : Bts r) (i : Nat) : Bts (runN k r i).2.1 := by
 unfold runN
 have gen : ∀ (l : List PT) (s : EvD × LS), Bts s.2.1 → Bts (runL l s).2.1 := by
  intro l
  induction l with
  | nil => intro s hs; exact hs
  | cons p l ih => intro s hs; exact ih _ (lr_bts hs)
 exact gen _ _ h
/-- What read tells of bytes. -/
def RdR (zs : List Int) (e : EvD) (no : Int) : Prop :=
 match zs with
 | [] => no = 10
 | k :: r => if k < 1 ∨ 13 < k then no = 12 else e = (evLax k r).1 ∧ no = endE (evLax k r).2
theorem eread_nil (a : Option Addr) (c : Nat) (w : World) :
  Calls Tryz.prog 44 #[.slice a 0 c] w fun x w' => x = .returned (.tuple #[.agg (ev0.cells none 0), .int .i64 10]) ∧ Grow.G w w' := by
 refine (callsIn_wide (n := 0)).1 ?_
 refine callsIn_of_wp_marks Tryz.func44 rfl trivial ?_
 simp only [Tryz.ntmps44, List.size_toArray, List.length_cons, List.length_nil, Nat.reduceAdd, Nat.reduceSub, Array.replicate_succ, Array.replicate_zero, List.push_toArray, List.append_toArray, List.nil_append, List.cons_append]
 gi_wp2_with fail
 refine ⟨.tuple #[.agg (ev0.cells none 0), .int .i64 10], by simp [results, Tryz.results44, go_sem]; rfl, rfl, by (repeat (first | with_reducible exact Grow.G.refl _ | with_reducible exact Below.refl _ _ | with_reducible refine Grow.G.alloc ?_ _ | with_reducible refine Grow.G.trans ?_ hb1 | ((with_reducible refine Below.setCell ?_ ?_ _); rotate_left; (focus (first | omega | (simp; done) | (simp; omega)))) | with_reducible assumption | with_reducible refine Grow.G.trans ?_ (by with_reducible assumption)))⟩
theorem boxes4 {w w1 : World} {A B C D : Array Value} {TA TB TC TD : TypeId} (h : Grow.G ((((w.alloc (.cells A TA)).alloc (.cells B TB)).alloc (.cells C TC)).alloc (.cells D TD)) w1) :
  Blk w1 w.heap.size A TA ∧ Blk w1 (w.heap.size + 1) B TB ∧ Blk w1 (w.heap.size + 2) C TC ∧ Blk w1 (w.heap.size + 3) D TD ∧ Grow.G w w1 := by
 have b1 := Blk.new (w.alloc (.cells A TA)) B TB
 have b2 := Blk.new ((w.alloc (.cells A TA)).alloc (.cells B TB)) C TC
 have b3 := Blk.new (((w.alloc (.cells A TA)).alloc (.cells B TB)).alloc (.cells C TC)) D TD
 simp only [World.size_alloc] at b1 b2 b3
 exact ⟨((((Blk.new w A TA).alloc _).alloc _).alloc _).grow h, ((b1.alloc _).alloc _).grow h, (b2.alloc _).grow h, b3.grow h, (Grow.G.alloc (Grow.G.alloc (Grow.G.alloc (Grow.G.alloc (Grow.G.refl _) _) _) _) _).trans h⟩
theorem grow_cell {w w' : World} (g : Grow.G w w') {a : Addr} {v : Value} (h : w.cell? a = some v) : w'.cell? a = some v := (Iter.Book.grow (n := 0) g).cell h
set_option maxHeartbeats 4000000 in
theorem eread_two (sb off c : Nat) (k : Int) (r : List Int) (w : World) (hc : r.length + 1 ≤ c) (hz : ∀ i, i < r.length + 1 → w.cell? ⟨sb, off + i, none⟩ = some (.int .u8 ((k :: r).getD i 0))) (hbt : Bts (k :: r)) (hsb : sb < w.heap.size) (h0 : kindB k = true) (hcn : ¬ c = 1) :
  Calls Tryz.prog 44 #[.slice (some ⟨sb, off, none⟩) (r.length + 1) c] w fun x w' => ∃ e' a' c' no, x = .returned (.tuple #[.agg (e'.cells a' c'), .int .i64 no]) ∧ RdR (k :: r) e' no ∧ TgtSl w' a' e'.ts ∧ (∀ b off, a' = some ⟨b, off, none⟩ → w.heap.size ≤ b) ∧ Grow.G w w' := by
 have z0 := hz 0 (by omega)
 have kb0 := hbt k (by simp)
 have k0 := kb0.1
 have k1 := kb0.2
 simp at z0
 have HZ := Lib.hid hz
 have HBT := Lib.hid hbt
 clear hz hbt kb0
 refine (callsIn_wide (n := 0)).1 ?_
 refine callsIn_of_wp_marks Tryz.func44 rfl trivial ?_
 simp only [Tryz.ntmps44, List.size_toArray, List.length_cons, List.length_nil, Nat.reduceAdd, Nat.reduceSub, Array.replicate_succ, Array.replicate_zero, List.push_toArray, List.append_toArray, List.nil_append, List.cons_append]
 gi_wp2_with fail
 refine ⟨trivial, rfl, (callsIn_wide.2 (eknown_any _ _)).mono ?_⟩
 rintro x wx ⟨rfl, rfl⟩
 have hk0 : ¬ (k < 1 ∨ 13 < k) := by have := of_decide_eq_true h0; omega
 rw [h0]
 gi_wp2_with fail
 refine ⟨trivial, rfl, (callsIn_wide.2 (parts_new _ _)).mono ?_⟩
 rintro x w1 ⟨kb, rfl, hkb, hk, hg1⟩
 obtain ⟨R0, B0, L0, V0, GA⟩ := boxes4 hg1
 replace B0 : Blk w1 (w.heap.size + 1) (({ ev0 with k := k } : EvD).cells none 0) 28 := B0
 replace R0 : Blk w1 w.heap.size (ev0.cells none 0) 28 := R0
 have RD0 : RdAt w1 (w.heap.size + 2) sb (r, false) := by
  refine ⟨some ⟨sb, off + 1, none⟩, c - 1, L0, .inr ⟨off + 1, rfl, by dsimp only; omega, fun i hi => ?_⟩⟩
  have := HZ.out (i + 1) (by dsimp only at hi; omega)
  rw [show off + 1 + i = off + (i + 1) by omega]
  exact grow_cell GA this
 have hw1 : w.heap.size + 4 ≤ w1.heap.size := by have := V0.lt; omega
 have HK0 := Lib.hid hk0
 clear hg1 L0 hk0 h0 z0
 gi_wp2_with fail
 refine Iter.range (gf := 55) (lb := #[ptr kb]) (encs := fun v => #[v]) (Ok := PartOk k) (Kp := fun _ _ => True) (S := fun xs => xs.length = (PT.specs k).length) rfl (enters_of Tryz.func55 (by kernel_rfl) rfl) (parts_seq k kb w1 _ hk) (Grow.G.refl _) (fun _ => rfl) (fun s x A B h b => partOk_book h b) (fun _ _ => trivial) (fun _ => trivial)
  (fun pre W => EvR W (w.heap.size + 1) (w.heap.size + 2) (runN k r pre.length).1 ∧ RdAt W (w.heap.size + 2) sb (runN k r pre.length).2 ∧ Blk W (w.heap.size + 3) #[ptr (w.heap.size + 2)] 129 ∧ Blk W w.heap.size (ev0.cells none 0) 28 ∧ Below w.heap.size w W)
  (fun _ _ _ => False) ?hI (fun _ _ _ _ h _ => h) ?h0 ?round ?done (fun _ _ _ h => h.elim)
 case hI =>
  rintro s A B ⟨hE, hR, hV, hZ, hB⟩ hbk
  exact ⟨hE.book hbk, hR.book hbk, hV.book hbk, hZ.book hbk, hB.trans (hbk.below.mono (by have := hB.size; omega))⟩
 case h0 => exact ⟨⟨none, 0, B0, .inl rfl, fun b off h => by cases h⟩, RD0, V0, R0, GA⟩
 case round =>
  rintro l pre x W hl ⟨hE, hR, hV, hZ, hB⟩ ⟨p, hp, hpt⟩
  obtain ⟨F1, F2, F3, F4, pa, pb, rfl, fs⟩ := part_fs hpt
  have n1 := fs.e4
  unfold Ent at n1
  have RS := runN_succ (r := r) hp
  have hbt2 : Bts (runN k r pre.length).2.1 := runN_bts (fun y hy => HBT.out y (by simp [hy])) _
  generalize runN k r pre.length = y at *
  obtain ⟨ey, sy⟩ := y
  dsimp only at *
  simp only [zip_one, List.setIfInBounds_toArray, List.set_cons_zero, List.set_cons_succ]
  gi_wp2_with fail
  refine ⟨Grow.G.alloc (Grow.G.refl _) _, fun W₂ hbk hok => ?_⟩
  have hgW := (Grow.G.alloc (Grow.G.refl W) (.cells #[.func (.func F1) #[] #[ptr pa], .func (.func F2) #[] #[ptr pb, ptr pa], .func (.func F3) #[] #[ptr pb, ptr pa], .func (.func F4) #[] #[ptr pb, ptr pa]] 73))
  have q0 := ((Blk.new W #[.func (.func F1) #[] #[ptr pa], .func (.func F2) #[] #[ptr pb, ptr pa], .func (.func F3) #[] #[ptr pb, ptr pa], .func (.func F4) #[] #[ptr pb, ptr pa]] 73).book hbk).cell 3
  simp at q0
  have P2 := (hpt.book (Iter.Book.grow (n := 0) hgW)).book hbk
  have E2 := (hE.grow hgW).book hbk
  have R2 := (hR.grow hgW).book hbk
  have V2 := (hV.grow hgW).book hbk
  have Z2 := (hZ.grow hgW).book hbk
  have BW := ((hB.trans (Below.mono hgW hB.size)).trans (hbk.below.mono (by have := hB.size; have := hgW.size; omega)))
  have CALL := fs.rd (w.heap.size + 2) sb sy ey (w.heap.size + 1) W₂ P2 E2 R2 (by omega) (by have := BW.size; omega) (by omega) hbt2
  have v0 := evcell V2 (i := 0) rfl
  have H := Lib.hid (And.intro V2 (And.intro Z2 BW))
  have HRS := Lib.hid RS
  clear P2 E2 R2 V2 Z2 BW hgW hbk hok hE hR hV hZ hB RS hbt2
  gi_wp2_with fail
  refine ⟨trivial, rfl, (CallsIn.inRound l (callsIn_wide.2 CALL)).mono ?_⟩
  rintro y W₃ ⟨⟨v3, rfl⟩, E3, R3, ch3⟩
  have H2 := Lib.hid (And.intro E3 (And.intro R3 ch3))
  clear E3 R3 ch3 CALL n1 q0 v0
  gi_wp2_with fail
  obtain ⟨E3, R3, ch3⟩ := H2.out
  obtain ⟨V2, Z2, BW⟩ := H.out
  refine ⟨Chg.rest ch3 (fun k hk q => by
   have q : k = w.heap.size + 2 ∨ k = w.heap.size + 1 := q
   omega), trivial, ?_, ?_, V2.chg ch3 (fun q => by have q : w.heap.size + 3 = w.heap.size + 2 ∨ w.heap.size + 3 = w.heap.size + 1 := q; omega), Z2.chg ch3 (fun q => by have q : w.heap.size = w.heap.size + 2 ∨ w.heap.size = w.heap.size + 1 := q; omega), BW.trans (ch3.below BW.size (fun k hk q => by have q : k = w.heap.size + 2 ∨ k = w.heap.size + 1 := q; omega))⟩
  ·
   rw [List.length_append, List.length_singleton, HRS.out]; exact E3
  ·
   rw [List.length_append, List.length_singleton, HRS.out]; exact R3
 case done =>
  rintro xs W hS ⟨hE, hR, hV, hZ, hB⟩ hD
  replace hS : xs.length = (PT.specs k).length := hS
  rw [hS, runN_all] at hE hR
  obtain ⟨a', c', hb, ht, hn⟩ := hE
  have RR : RdR (k :: r) (evLax k r).1 (endE (evLax k r).2) := by
   unfold RdR
   show if k < 1 ∨ 13 < k then _ else _
   rw [if_neg HK0.out]
   exact ⟨rfl, rfl⟩
  generalize evLax k r = y at *
  obtain ⟨er, sr⟩ := y
  have HRR := Lib.hid RR
  have HTT := Lib.hid (And.intro ht hn)
  have hEC : Hid (∀ a c, er.cells a c = er.cells a c) := Lib.hid (fun _ _ => rfl)
  obtain ⟨k', nm', tg', n', dr', ⟨cn', im', co', mn', mx', gr'⟩, rn', rc', ts', rr'⟩ := er
  dsimp only at *
  have NG : ¬ (w.heap.size + 1 = w.heap.size) := by omega
  have NV : ¬ (w.heap.size + 3 = w.heap.size) := by omega
  have KC := Lib.hid (fun (w' : World) (h : Chg (fun k => k = w.heap.size) W w') => (⟨h.cell (evcell hb (i := 0) rfl) NG, h.cell (evcell hb (i := 1) rfl) NG, h.cell (evcell hb (i := 2) rfl) NG, h.cell (evcell hb (i := 3) rfl) NG, h.cell (evcell hb (i := 4) rfl) NG, h.cell (evcell hb (i := 5) rfl) NG, h.cell (evcell hb (i := 6) rfl) NG, h.cell (evcell hb (i := 7) rfl) NG, h.cell (evcell hb (i := 8) rfl) NG, h.cell (evcell hb (i := 9) rfl) NG, h.cell (evcell hb (i := 10) rfl) NG, h.cell (evcell hb (i := 11) rfl) NG, h.cell (evcell hb (i := 12) rfl) NG, h.cell (evcell hb (i := 13) rfl) NG, h.cell (evcell hb (i := 14) rfl) NG, h.cell (evcell hV (i := 0) rfl) NV⟩ : w'.cell? ⟨w.heap.size + 1, 0, none⟩ = some (.int .i64 k') ∧ w'.cell? ⟨w.heap.size + 1, 1, none⟩ = some (.string nm') ∧ w'.cell? ⟨w.heap.size + 1, 2, none⟩ = some (.string tg') ∧ w'.cell? ⟨w.heap.size + 1, 3, none⟩ = some (.int .i64 n') ∧ w'.cell? ⟨w.heap.size + 1, 4, none⟩ = some (.int .i64 dr') ∧ w'.cell? ⟨w.heap.size + 1, 5, none⟩ = some (.string cn') ∧ w'.cell? ⟨w.heap.size + 1, 6, none⟩ = some (.int .i64 im') ∧ w'.cell? ⟨w.heap.size + 1, 7, none⟩ = some (.int .i64 co') ∧ w'.cell? ⟨w.heap.size + 1, 8, none⟩ = some (.int .i64 mn') ∧ w'.cell? ⟨w.heap.size + 1, 9, none⟩ = some (.int .i64 mx') ∧ w'.cell? ⟨w.heap.size + 1, 10, none⟩ = some (.int .i64 gr') ∧ w'.cell? ⟨w.heap.size + 1, 11, none⟩ = some (.string rn') ∧ w'.cell? ⟨w.heap.size + 1, 12, none⟩ = some (.string rc') ∧ w'.cell? ⟨w.heap.size + 1, 13, none⟩ = some (.slice a' ts'.length c') ∧ w'.cell? ⟨w.heap.size + 1, 14, none⟩ = some (.int .i64 rr') ∧ w'.cell? ⟨w.heap.size + 3, 0, none⟩ = some (ptr (w.heap.size + 2))))
  have HZ0 : Blk W w.heap.size #[.int .i64 0, .string ε, .string ε, .int .i64 0, .int .i64 0, .string ε, .int .i64 0, .int .i64 0, .int .i64 0, .int .i64 0, .int .i64 0, .string ε, .string ε, .slice none 0 0, .int .i64 0] 28 := hZ
  have HZB := Lib.hid (fun (w' : World) (h : Grow.G W w') => HZ0.grow h)
  have HRD := Lib.hid hR
  have HB := Lib.hid hB
  have HDD := Lib.hid hD
  have ENDQ := Lib.hid (fun (w' : World) (h : Chg (fun k => k = w.heap.size) W w') => quietG (rdend_any (w.heap.size + 2) sb sr w' (HRD.out.chg h (by omega) (by omega))))
  generalize endE sr = no at *
  have sW := hB.size
  have HLT : w.heap.size < W.heap.size := HZ0.lt
  clear hb ht hn hV hZ hR hB hD RR hS HZ0 NG NV
  gi_wp2_with fail
  refine wpIn_wide.2 (wp_nopan ?_)
  refine Evo2.start' (ℓ := none) (S := Chg (fun k => k = w.heap.size)) (E := Grow.G) (by kernel_rfl) ⟨Chg.pre _, by decide +kernel, (by intro c a d v w h; cases d <;> exact h), by decide +kernel⟩ (fun ok => ?_)
  first | (refine Evo2.vl ok 0 KC.out (Chg.refl (fun k => k = w.heap.size) _) _ _ ?_) | (refine Evo2.va ok 0 _ _ ?_)
  first | (refine Evo2.vl ok 1 KC.out (Chg.refl (fun k => k = w.heap.size) _) _ _ ?_) | (refine Evo2.va ok 1 _ _ ?_)
  (refine Evo2.cal ok 2 ?_ 76 ?_ ?_ ?_ ?_; rotate_left 2; (focus (intro w'; go_simp <;> with_reducible rfl)); (focus (intro w' g'; with_reducible exact ENDQ.out w' (Chg.trans (Chg.refl (fun k => k = w.heap.size) _) g'))); simp only [Act.put, L0, L1, L2])
  refine Evo2.all [3] (by decide +kernel) rfl ?_
  intro wp1 gp1 iq hq
  simp only [List.mem_cons, List.mem_nil_iff, or_false] at hq
  have AP1 := Chg.trans (Chg.refl (fun k => k = w.heap.size) _) (Chg.grow gp1)
  subst hq
  refine Evo2.runs (by rfl) (by rfl) (fun K' hK' => ?_)
  (try obtain ⟨q1, q2, q3, q4, q5, q6, q7, q8, q9, q10, q11, q12, q13, q14, q15, q16⟩ := KC.out wp1 AP1)
  have BQ := HZB.out _ gp1; have gl2 := BQ.lt; have e0 := evcell BQ (i := 0) rfl; have f0 := BQ.free 0; have e1 := evcell BQ (i := 1) rfl; have f1 := BQ.free 1; have e2 := evcell BQ (i := 2) rfl; have f2 := BQ.free 2; have e3 := evcell BQ (i := 3) rfl; have f3 := BQ.free 3; have e4 := evcell BQ (i := 4) rfl; have f4 := BQ.free 4; have e5 := evcell BQ (i := 5) rfl; have f5 := BQ.free 5; have e6 := evcell BQ (i := 6) rfl; have f6 := BQ.free 6; have e7 := evcell BQ (i := 7) rfl; have f7 := BQ.free 7; have e8 := evcell BQ (i := 8) rfl; have f8 := BQ.free 8; have e9 := evcell BQ (i := 9) rfl; have f9 := BQ.free 9; have e10 := evcell BQ (i := 10) rfl; have f10 := BQ.free 10; have e11 := evcell BQ (i := 11) rfl; have f11 := BQ.free 11; have e12 := evcell BQ (i := 12) rfl; have f12 := BQ.free 12; have e13 := evcell BQ (i := 13) rfl; have f13 := BQ.free 13; have e14 := evcell BQ (i := 14) rfl; have f14 := BQ.free 14; clear BQ
  go_simp
  (try (simp only [Evo.after_value, Evo.after_skip]))
  refine hK'.out _ _ ?_
  clear hK'
  simp only [Act.put, L0, L1, L2]
  (try clear gl2 e0 f0 e1 f1 e2 f2 e3 f3 e4 f4 e5 f5 e6 f6 e7 f7 e8 f8 e9 f9 e10 f10 e11 f11 e12 f12 e13 f13 e14 f14)
  (try clear q1 q2 q3 q4 q5 q6 q7 q8 q9 q10 q11 q12 q13 q14 q15 q16)
  refine ⟨.inr (by (repeat refine Chg.setCell ?_ (fun _ => by first | rfl | (simp; done) | (simp; omega)) _ _); exact Chg.refl _ _), ?_⟩
  refine Evo2.va ok 4 _ _ ?_
  refine Evo2.done (by decide +kernel) (fun wz gz => ?_)
  have AZ := Chg.trans (Chg.trans AP1 (by (repeat refine Chg.setCell ?_ (fun _ => by first | rfl | (simp; done) | (simp; omega)) _ _); exact Chg.refl _ _)) (Chg.grow gz)
  have BZ := ((((((((((((((((HZB.out _ gp1).set 0 (.int .i64 k')).set 1 (.string nm')).set 2 (.string tg')).set 3 (.int .i64 n')).set 4 (.int .i64 dr')).set 5 (.string cn')).set 6 (.int .i64 im')).set 7 (.int .i64 co')).set 8 (.int .i64 mn')).set 9 (.int .i64 mx')).set 10 (.int .i64 gr')).set 11 (.string rn')).set 12 (.string rc')).set 13 (.slice a' ts'.length c')).set 14 (.int .i64 rr'))
  simp only [List.setIfInBounds_toArray, List.set_cons_zero, List.set_cons_succ] at BZ
  replace BZ := BZ.grow gz
  have HBZ := Lib.hid BZ
  have HAZ := Lib.hid AZ
  clear BZ AZ gz gp1 AP1 ok
  dsimp only [NoPan]
  gi_wp2_with fail
  have CS := HAZ.out
  have hK := CS.blk HDD.out (fun q => by have q : w1.heap.size = w.heap.size := q; omega)
  refine ⟨by simp, .inl ⟨_, _, rfl, run_takeDeferred hK, ?_⟩⟩
  have BG := HBZ.out.book (Iter.Book.putObj (n := 0) (.deferred none) hK rfl (Nat.zero_le _))
  have BK : Iter.Book w.heap.size wz (wz.putObj w1.heap.size (.deferred none)) := Iter.Book.putObj _ hK rfl (by omega)
  have hX := HB.out.trans (CS.below (B := w.heap.size) sW (fun k hk q => by have q : k = w.heap.size := q; omega))
  refine ⟨.tuple #[.agg #[.int .i64 k', .string nm', .string tg', .int .i64 n', .int .i64 dr', .string cn', .int .i64 im', .int .i64 co', .int .i64 mn', .int .i64 mx', .int .i64 gr', .string rn', .string rc', .slice a' ts'.length c', .int .i64 rr'], .int .i64 no], by simp [results, Tryz.results44, go_sem, BG.cell], ⟨k', nm', tg', n', dr', ⟨cn', im', co', mn', mx', gr'⟩, rn', rc', ts', rr'⟩, a', c', no, rfl, HRR.out, ?_, ?_, ?_⟩
  ·
   exact (HTT.out.1.chg CS (fun b off hb q => by have q : b = w.heap.size := q; have := (HTT.out.2 b off hb).1; omega)).book BK
  ·
   exact fun b off hb => by have := (HTT.out.2 b off hb).1; omega
  ·
   exact hX.trans (BK.below.mono (by have := hX.size; omega))

set_option maxHeartbeats 4000000 in
theorem eread_one (sb off c : Nat) (k : Int) (r : List Int) (w : World) (hc : r.length + 1 ≤ c) (hz : ∀ i, i < r.length + 1 → w.cell? ⟨sb, off + i, none⟩ = some (.int .u8 ((k :: r).getD i 0))) (hbt : Bts (k :: r)) (hsb : sb < w.heap.size) (h0 : kindB k = true) (hcn : c = 1) :
  Calls Tryz.prog 44 #[.slice (some ⟨sb, off, none⟩) (r.length + 1) c] w fun x w' => ∃ e' a' c' no, x = .returned (.tuple #[.agg (e'.cells a' c'), .int .i64 no]) ∧ RdR (k :: r) e' no ∧ TgtSl w' a' e'.ts ∧ (∀ b off, a' = some ⟨b, off, none⟩ → w.heap.size ≤ b) ∧ Grow.G w w' := by
 have z0 := hz 0 (by omega)
 have kb0 := hbt k (by simp)
 have k0 := kb0.1
 have k1 := kb0.2
 simp at z0
 have HZ := Lib.hid hz
 have HBT := Lib.hid hbt
 clear hz hbt kb0
 refine (callsIn_wide (n := 0)).1 ?_
 refine callsIn_of_wp_marks Tryz.func44 rfl trivial ?_
 simp only [Tryz.ntmps44, List.size_toArray, List.length_cons, List.length_nil, Nat.reduceAdd, Nat.reduceSub, Array.replicate_succ, Array.replicate_zero, List.push_toArray, List.append_toArray, List.nil_append, List.cons_append]
 gi_wp2_with fail
 refine ⟨trivial, rfl, (callsIn_wide.2 (eknown_any _ _)).mono ?_⟩
 rintro x wx ⟨rfl, rfl⟩
 have hk0 : ¬ (k < 1 ∨ 13 < k) := by have := of_decide_eq_true h0; omega
 rw [h0]
 subst hcn
 gi_wp2_with fail
 refine ⟨trivial, rfl, (callsIn_wide.2 (parts_new _ _)).mono ?_⟩
 rintro x w1 ⟨kb, rfl, hkb, hk, hg1⟩
 obtain ⟨R0, B0, L0, V0, GA⟩ := boxes4 hg1
 replace B0 : Blk w1 (w.heap.size + 1) (({ ev0 with k := k } : EvD).cells none 0) 28 := B0
 replace R0 : Blk w1 w.heap.size (ev0.cells none 0) 28 := R0
 have RD0 : RdAt w1 (w.heap.size + 2) sb (r, false) := by
  have hr0 : r = [] := List.eq_nil_of_length_eq_zero (by omega)
  subst hr0
  exact ⟨some ⟨sb, off, none⟩, 0, L0, .inr ⟨off, rfl, Nat.le_refl _, fun i hi => absurd hi (Nat.not_lt_zero _)⟩⟩
 have hw1 : w.heap.size + 4 ≤ w1.heap.size := by have := V0.lt; omega
 have HK0 := Lib.hid hk0
 clear hg1 L0 hk0 h0 z0
 gi_wp2_with fail
 refine Iter.range (gf := 55) (lb := #[ptr kb]) (encs := fun v => #[v]) (Ok := PartOk k) (Kp := fun _ _ => True) (S := fun xs => xs.length = (PT.specs k).length) rfl (enters_of Tryz.func55 (by kernel_rfl) rfl) (parts_seq k kb w1 _ hk) (Grow.G.refl _) (fun _ => rfl) (fun s x A B h b => partOk_book h b) (fun _ _ => trivial) (fun _ => trivial)
  (fun pre W => EvR W (w.heap.size + 1) (w.heap.size + 2) (runN k r pre.length).1 ∧ RdAt W (w.heap.size + 2) sb (runN k r pre.length).2 ∧ Blk W (w.heap.size + 3) #[ptr (w.heap.size + 2)] 129 ∧ Blk W w.heap.size (ev0.cells none 0) 28 ∧ Below w.heap.size w W)
  (fun _ _ _ => False) ?hI (fun _ _ _ _ h _ => h) ?h0 ?round ?done (fun _ _ _ h => h.elim)
 case hI =>
  rintro s A B ⟨hE, hR, hV, hZ, hB⟩ hbk
  exact ⟨hE.book hbk, hR.book hbk, hV.book hbk, hZ.book hbk, hB.trans (hbk.below.mono (by have := hB.size; omega))⟩
 case h0 => exact ⟨⟨none, 0, B0, .inl rfl, fun b off h => by cases h⟩, RD0, V0, R0, GA⟩
 case round =>
  rintro l pre x W hl ⟨hE, hR, hV, hZ, hB⟩ ⟨p, hp, hpt⟩
  obtain ⟨F1, F2, F3, F4, pa, pb, rfl, fs⟩ := part_fs hpt
  have n1 := fs.e4
  unfold Ent at n1
  have RS := runN_succ (r := r) hp
  have hbt2 : Bts (runN k r pre.length).2.1 := runN_bts (fun y hy => HBT.out y (by simp [hy])) _
  generalize runN k r pre.length = y at *
  obtain ⟨ey, sy⟩ := y
  dsimp only at *
  simp only [zip_one, List.setIfInBounds_toArray, List.set_cons_zero, List.set_cons_succ]
  gi_wp2_with fail
  refine ⟨Grow.G.alloc (Grow.G.refl _) _, fun W₂ hbk hok => ?_⟩
  have hgW := (Grow.G.alloc (Grow.G.refl W) (.cells #[.func (.func F1) #[] #[ptr pa], .func (.func F2) #[] #[ptr pb, ptr pa], .func (.func F3) #[] #[ptr pb, ptr pa], .func (.func F4) #[] #[ptr pb, ptr pa]] 73))
  have q0 := ((Blk.new W #[.func (.func F1) #[] #[ptr pa], .func (.func F2) #[] #[ptr pb, ptr pa], .func (.func F3) #[] #[ptr pb, ptr pa], .func (.func F4) #[] #[ptr pb, ptr pa]] 73).book hbk).cell 3
  simp at q0
  have P2 := (hpt.book (Iter.Book.grow (n := 0) hgW)).book hbk
  have E2 := (hE.grow hgW).book hbk
  have R2 := (hR.grow hgW).book hbk
  have V2 := (hV.grow hgW).book hbk
  have Z2 := (hZ.grow hgW).book hbk
  have BW := ((hB.trans (Below.mono hgW hB.size)).trans (hbk.below.mono (by have := hB.size; have := hgW.size; omega)))
  have CALL := fs.rd (w.heap.size + 2) sb sy ey (w.heap.size + 1) W₂ P2 E2 R2 (by omega) (by have := BW.size; omega) (by omega) hbt2
  have v0 := evcell V2 (i := 0) rfl
  have H := Lib.hid (And.intro V2 (And.intro Z2 BW))
  have HRS := Lib.hid RS
  clear P2 E2 R2 V2 Z2 BW hgW hbk hok hE hR hV hZ hB RS hbt2
  gi_wp2_with fail
  refine ⟨trivial, rfl, (CallsIn.inRound l (callsIn_wide.2 CALL)).mono ?_⟩
  rintro y W₃ ⟨⟨v3, rfl⟩, E3, R3, ch3⟩
  have H2 := Lib.hid (And.intro E3 (And.intro R3 ch3))
  clear E3 R3 ch3 CALL n1 q0 v0
  gi_wp2_with fail
  obtain ⟨E3, R3, ch3⟩ := H2.out
  obtain ⟨V2, Z2, BW⟩ := H.out
  refine ⟨Chg.rest ch3 (fun k hk q => by
   have q : k = w.heap.size + 2 ∨ k = w.heap.size + 1 := q
   omega), trivial, ?_, ?_, V2.chg ch3 (fun q => by have q : w.heap.size + 3 = w.heap.size + 2 ∨ w.heap.size + 3 = w.heap.size + 1 := q; omega), Z2.chg ch3 (fun q => by have q : w.heap.size = w.heap.size + 2 ∨ w.heap.size = w.heap.size + 1 := q; omega), BW.trans (ch3.below BW.size (fun k hk q => by have q : k = w.heap.size + 2 ∨ k = w.heap.size + 1 := q; omega))⟩
  ·
   rw [List.length_append, List.length_singleton, HRS.out]; exact E3
  ·
   rw [List.length_append, List.length_singleton, HRS.out]; exact R3
 case done =>
  rintro xs W hS ⟨hE, hR, hV, hZ, hB⟩ hD
  replace hS : xs.length = (PT.specs k).length := hS
  rw [hS, runN_all] at hE hR
  obtain ⟨a', c', hb, ht, hn⟩ := hE
  have RR : RdR (k :: r) (evLax k r).1 (endE (evLax k r).2) := by
   unfold RdR
   show if k < 1 ∨ 13 < k then _ else _
   rw [if_neg HK0.out]
   exact ⟨rfl, rfl⟩
  generalize evLax k r = y at *
  obtain ⟨er, sr⟩ := y
  have HRR := Lib.hid RR
  have HTT := Lib.hid (And.intro ht hn)
  have hEC : Hid (∀ a c, er.cells a c = er.cells a c) := Lib.hid (fun _ _ => rfl)
  obtain ⟨k', nm', tg', n', dr', ⟨cn', im', co', mn', mx', gr'⟩, rn', rc', ts', rr'⟩ := er
  dsimp only at *
  have NG : ¬ (w.heap.size + 1 = w.heap.size) := by omega
  have NV : ¬ (w.heap.size + 3 = w.heap.size) := by omega
  have KC := Lib.hid (fun (w' : World) (h : Chg (fun k => k = w.heap.size) W w') => (⟨h.cell (evcell hb (i := 0) rfl) NG, h.cell (evcell hb (i := 1) rfl) NG, h.cell (evcell hb (i := 2) rfl) NG, h.cell (evcell hb (i := 3) rfl) NG, h.cell (evcell hb (i := 4) rfl) NG, h.cell (evcell hb (i := 5) rfl) NG, h.cell (evcell hb (i := 6) rfl) NG, h.cell (evcell hb (i := 7) rfl) NG, h.cell (evcell hb (i := 8) rfl) NG, h.cell (evcell hb (i := 9) rfl) NG, h.cell (evcell hb (i := 10) rfl) NG, h.cell (evcell hb (i := 11) rfl) NG, h.cell (evcell hb (i := 12) rfl) NG, h.cell (evcell hb (i := 13) rfl) NG, h.cell (evcell hb (i := 14) rfl) NG, h.cell (evcell hV (i := 0) rfl) NV⟩ : w'.cell? ⟨w.heap.size + 1, 0, none⟩ = some (.int .i64 k') ∧ w'.cell? ⟨w.heap.size + 1, 1, none⟩ = some (.string nm') ∧ w'.cell? ⟨w.heap.size + 1, 2, none⟩ = some (.string tg') ∧ w'.cell? ⟨w.heap.size + 1, 3, none⟩ = some (.int .i64 n') ∧ w'.cell? ⟨w.heap.size + 1, 4, none⟩ = some (.int .i64 dr') ∧ w'.cell? ⟨w.heap.size + 1, 5, none⟩ = some (.string cn') ∧ w'.cell? ⟨w.heap.size + 1, 6, none⟩ = some (.int .i64 im') ∧ w'.cell? ⟨w.heap.size + 1, 7, none⟩ = some (.int .i64 co') ∧ w'.cell? ⟨w.heap.size + 1, 8, none⟩ = some (.int .i64 mn') ∧ w'.cell? ⟨w.heap.size + 1, 9, none⟩ = some (.int .i64 mx') ∧ w'.cell? ⟨w.heap.size + 1, 10, none⟩ = some (.int .i64 gr') ∧ w'.cell? ⟨w.heap.size + 1, 11, none⟩ = some (.string rn') ∧ w'.cell? ⟨w.heap.size + 1, 12, none⟩ = some (.string rc') ∧ w'.cell? ⟨w.heap.size + 1, 13, none⟩ = some (.slice a' ts'.length c') ∧ w'.cell? ⟨w.heap.size + 1, 14, none⟩ = some (.int .i64 rr') ∧ w'.cell? ⟨w.heap.size + 3, 0, none⟩ = some (ptr (w.heap.size + 2))))
  have HZ0 : Blk W w.heap.size #[.int .i64 0, .string ε, .string ε, .int .i64 0, .int .i64 0, .string ε, .int .i64 0, .int .i64 0, .int .i64 0, .int .i64 0, .int .i64 0, .string ε, .string ε, .slice none 0 0, .int .i64 0] 28 := hZ
  have HZB := Lib.hid (fun (w' : World) (h : Grow.G W w') => HZ0.grow h)
  have HRD := Lib.hid hR
  have HB := Lib.hid hB
  have HDD := Lib.hid hD
  have ENDQ := Lib.hid (fun (w' : World) (h : Chg (fun k => k = w.heap.size) W w') => quietG (rdend_any (w.heap.size + 2) sb sr w' (HRD.out.chg h (by omega) (by omega))))
  generalize endE sr = no at *
  have sW := hB.size
  have HLT : w.heap.size < W.heap.size := HZ0.lt
  clear hb ht hn hV hZ hR hB hD RR hS HZ0 NG NV
  gi_wp2_with fail
  refine wpIn_wide.2 (wp_nopan ?_)
  refine Evo2.start' (ℓ := none) (S := Chg (fun k => k = w.heap.size)) (E := Grow.G) (by kernel_rfl) ⟨Chg.pre _, by decide +kernel, (by intro c a d v w h; cases d <;> exact h), by decide +kernel⟩ (fun ok => ?_)
  first | (refine Evo2.vl ok 0 KC.out (Chg.refl (fun k => k = w.heap.size) _) _ _ ?_) | (refine Evo2.va ok 0 _ _ ?_)
  first | (refine Evo2.vl ok 1 KC.out (Chg.refl (fun k => k = w.heap.size) _) _ _ ?_) | (refine Evo2.va ok 1 _ _ ?_)
  (refine Evo2.cal ok 2 ?_ 76 ?_ ?_ ?_ ?_; rotate_left 2; (focus (intro w'; go_simp <;> with_reducible rfl)); (focus (intro w' g'; with_reducible exact ENDQ.out w' (Chg.trans (Chg.refl (fun k => k = w.heap.size) _) g'))); simp only [Act.put, L0, L1, L2])
  refine Evo2.all [3] (by decide +kernel) rfl ?_
  intro wp1 gp1 iq hq
  simp only [List.mem_cons, List.mem_nil_iff, or_false] at hq
  have AP1 := Chg.trans (Chg.refl (fun k => k = w.heap.size) _) (Chg.grow gp1)
  subst hq
  refine Evo2.runs (by rfl) (by rfl) (fun K' hK' => ?_)
  (try obtain ⟨q1, q2, q3, q4, q5, q6, q7, q8, q9, q10, q11, q12, q13, q14, q15, q16⟩ := KC.out wp1 AP1)
  have BQ := HZB.out _ gp1; have gl2 := BQ.lt; have e0 := evcell BQ (i := 0) rfl; have f0 := BQ.free 0; have e1 := evcell BQ (i := 1) rfl; have f1 := BQ.free 1; have e2 := evcell BQ (i := 2) rfl; have f2 := BQ.free 2; have e3 := evcell BQ (i := 3) rfl; have f3 := BQ.free 3; have e4 := evcell BQ (i := 4) rfl; have f4 := BQ.free 4; have e5 := evcell BQ (i := 5) rfl; have f5 := BQ.free 5; have e6 := evcell BQ (i := 6) rfl; have f6 := BQ.free 6; have e7 := evcell BQ (i := 7) rfl; have f7 := BQ.free 7; have e8 := evcell BQ (i := 8) rfl; have f8 := BQ.free 8; have e9 := evcell BQ (i := 9) rfl; have f9 := BQ.free 9; have e10 := evcell BQ (i := 10) rfl; have f10 := BQ.free 10; have e11 := evcell BQ (i := 11) rfl; have f11 := BQ.free 11; have e12 := evcell BQ (i := 12) rfl; have f12 := BQ.free 12; have e13 := evcell BQ (i := 13) rfl; have f13 := BQ.free 13; have e14 := evcell BQ (i := 14) rfl; have f14 := BQ.free 14; clear BQ
  go_simp
  (try (simp only [Evo.after_value, Evo.after_skip]))
  refine hK'.out _ _ ?_
  clear hK'
  simp only [Act.put, L0, L1, L2]
  (try clear gl2 e0 f0 e1 f1 e2 f2 e3 f3 e4 f4 e5 f5 e6 f6 e7 f7 e8 f8 e9 f9 e10 f10 e11 f11 e12 f12 e13 f13 e14 f14)
  (try clear q1 q2 q3 q4 q5 q6 q7 q8 q9 q10 q11 q12 q13 q14 q15 q16)
  refine ⟨.inr (by (repeat refine Chg.setCell ?_ (fun _ => by first | rfl | (simp; done) | (simp; omega)) _ _); exact Chg.refl _ _), ?_⟩
  refine Evo2.va ok 4 _ _ ?_
  refine Evo2.done (by decide +kernel) (fun wz gz => ?_)
  have AZ := Chg.trans (Chg.trans AP1 (by (repeat refine Chg.setCell ?_ (fun _ => by first | rfl | (simp; done) | (simp; omega)) _ _); exact Chg.refl _ _)) (Chg.grow gz)
  have BZ := ((((((((((((((((HZB.out _ gp1).set 0 (.int .i64 k')).set 1 (.string nm')).set 2 (.string tg')).set 3 (.int .i64 n')).set 4 (.int .i64 dr')).set 5 (.string cn')).set 6 (.int .i64 im')).set 7 (.int .i64 co')).set 8 (.int .i64 mn')).set 9 (.int .i64 mx')).set 10 (.int .i64 gr')).set 11 (.string rn')).set 12 (.string rc')).set 13 (.slice a' ts'.length c')).set 14 (.int .i64 rr'))
  simp only [List.setIfInBounds_toArray, List.set_cons_zero, List.set_cons_succ] at BZ
  replace BZ := BZ.grow gz
  have HBZ := Lib.hid BZ
  have HAZ := Lib.hid AZ
  clear BZ AZ gz gp1 AP1 ok
  dsimp only [NoPan]
  gi_wp2_with fail
  have CS := HAZ.out
  have hK := CS.blk HDD.out (fun q => by have q : w1.heap.size = w.heap.size := q; omega)
  refine ⟨by simp, .inl ⟨_, _, rfl, run_takeDeferred hK, ?_⟩⟩
  have BG := HBZ.out.book (Iter.Book.putObj (n := 0) (.deferred none) hK rfl (Nat.zero_le _))
  have BK : Iter.Book w.heap.size wz (wz.putObj w1.heap.size (.deferred none)) := Iter.Book.putObj _ hK rfl (by omega)
  have hX := HB.out.trans (CS.below (B := w.heap.size) sW (fun k hk q => by have q : k = w.heap.size := q; omega))
  refine ⟨.tuple #[.agg #[.int .i64 k', .string nm', .string tg', .int .i64 n', .int .i64 dr', .string cn', .int .i64 im', .int .i64 co', .int .i64 mn', .int .i64 mx', .int .i64 gr', .string rn', .string rc', .slice a' ts'.length c', .int .i64 rr'], .int .i64 no], by simp [results, Tryz.results44, go_sem, BG.cell], ⟨k', nm', tg', n', dr', ⟨cn', im', co', mn', mx', gr'⟩, rn', rc', ts', rr'⟩, a', c', no, rfl, HRR.out, ?_, ?_, ?_⟩
  ·
   exact (HTT.out.1.chg CS (fun b off hb q => by have q : b = w.heap.size := q; have := (HTT.out.2 b off hb).1; omega)).book BK
  ·
   exact fun b off hb => by have := (HTT.out.2 b off hb).1; omega
  ·
   exact hX.trans (BK.below.mono (by have := hX.size; omega))
set_option maxHeartbeats 4000000 in
theorem eread_bad (sb off c : Nat) (k : Int) (r : List Int) (w : World) (hc : r.length + 1 ≤ c) (hz : ∀ i, i < r.length + 1 → w.cell? ⟨sb, off + i, none⟩ = some (.int .u8 ((k :: r).getD i 0))) (hbt : Bts (k :: r)) (hsb : sb < w.heap.size) (h0 : kindB k = false) :
  Calls Tryz.prog 44 #[.slice (some ⟨sb, off, none⟩) (r.length + 1) c] w fun x w' => ∃ e' a' c' no, x = .returned (.tuple #[.agg (e'.cells a' c'), .int .i64 no]) ∧ RdR (k :: r) e' no ∧ TgtSl w' a' e'.ts ∧ (∀ b off, a' = some ⟨b, off, none⟩ → w.heap.size ≤ b) ∧ Grow.G w w' := by
 have z0 := hz 0 (by omega)
 have kb0 := hbt k (by simp)
 have k0 := kb0.1
 have k1 := kb0.2
 simp at z0
 have HZ := Lib.hid hz
 have HBT := Lib.hid hbt
 clear hz hbt kb0
 refine (callsIn_wide (n := 0)).1 ?_
 refine callsIn_of_wp_marks Tryz.func44 rfl trivial ?_
 simp only [Tryz.ntmps44, List.size_toArray, List.length_cons, List.length_nil, Nat.reduceAdd, Nat.reduceSub, Array.replicate_succ, Array.replicate_zero, List.push_toArray, List.append_toArray, List.nil_append, List.cons_append]
 gi_wp2_with fail
 refine ⟨trivial, rfl, (callsIn_wide.2 (eknown_any _ _)).mono ?_⟩
 rintro x wx ⟨rfl, rfl⟩
 rw [h0]
 gi_wp2_with fail
 have hr : RdR (k :: r) ev0 12 := by
  show if k < 1 ∨ 13 < k then _ else _
  rw [if_pos (by
   have : ¬ (1 ≤ k ∧ k ≤ 13) := fun h => by unfold kindB at h0; simp [h] at h0
   omega)]
 refine ⟨.tuple #[.agg (({ ev0 with k := k } : EvD).cells none 0), .int .i64 12], by simp [results, Tryz.results44, go_sem]; rfl, { ev0 with k := k }, none, 0, 12, rfl, ?_, .inl rfl, fun b off h => (by cases h), by (repeat (first | with_reducible exact Grow.G.refl _ | with_reducible exact Below.refl _ _ | with_reducible refine Grow.G.alloc ?_ _ | with_reducible refine Grow.G.trans ?_ hb1 | ((with_reducible refine Below.setCell ?_ ?_ _); rotate_left; (focus (first | omega | (simp; done) | (simp; omega)))) | with_reducible assumption | with_reducible refine Grow.G.trans ?_ (by with_reducible assumption)))⟩
 show if k < 1 ∨ 13 < k then _ else _
 rw [if_pos (by
  have : ¬ (1 ≤ k ∧ k ≤ 13) := fun h => by unfold kindB at h0; simp [h] at h0
  omega)]
theorem eread_any (sb : Nat) (a : Option Addr) (c : Nat) (zs : List Int) (w : World) (h : zs = [] ∨ ∃ off, a = some ⟨sb, off, none⟩ ∧ zs.length ≤ c ∧ sb < w.heap.size ∧ ∀ i, i < zs.length → w.cell? ⟨sb, off + i, none⟩ = some (.int .u8 (zs.getD i 0))) (hbt : Bts zs) :
  Calls Tryz.prog 44 #[.slice a zs.length c] w fun x w' => ∃ e' a' c' no, x = .returned (.tuple #[.agg (e'.cells a' c'), .int .i64 no]) ∧ RdR zs e' no ∧ TgtSl w' a' e'.ts ∧ (∀ b off, a' = some ⟨b, off, none⟩ → w.heap.size ≤ b) ∧ Grow.G w w' := by
 cases zs with
 | nil => exact (eread_nil a c w).mono fun x w' ⟨hx, hg⟩ => ⟨ev0, none, 0, 10, hx, rfl, .inl rfl, fun b off h => (by cases h), hg⟩
 | cons k r =>
  rcases h with h | ⟨off, rfl, hc, hsb, hz⟩
  ·
   cases h
  ·
   cases h0 : kindB k with
   | false => exact eread_bad sb off c k r w hc hz hbt hsb h0
   | true =>
    by_cases hcn : c = 1
    ·
     exact eread_one sb off c k r w hc hz hbt hsb h0 hcn
    ·
     exact eread_two sb off c k r w hc hz hbt hsb h0 hcn
end Go.Proofs.YtnkekdmikopdgaaGreat

/- What event's Parse reads. -/
namespace Go.Proofs.YtnkekdmikopdgaaGreat
set_option maxRecDepth 100000
set_option linter.unusedVariables false
set_option linter.unusedSimpArgs false
set_option linter.unnecessarySimpa false
open Go.RowKit

/-- What is read is not much. -/
structure EvSm (e : EvD) : Prop where
 nm : e.nm.size ≤ 255
 tg : e.tg.size ≤ 255
 cn : e.c.nm.size ≤ 255
 rn : e.rn.size ≤ 255
 rc : e.rc.size ≤ 255
 tl : e.ts.length ≤ 255
 ok : ∀ t ∈ e.ts, t.ok
theorem ltgt_ok {s : LS} (h : Bts s.1) : (Ltgt s).1.ok := by
 have h1 := Ltxt_size h
 have h2 := Ltxt_size (Ltxt_bts h)
 have h3 := Lnum_bd (k := 1) (Ltxt_bts (Ltxt_bts h))
 refine ⟨?_, ?_, ?_⟩
 ·
  show (Ltxt s).1.size ≤ _; omega
 ·
  show (Ltxt (Ltxt s).2).1.size ≤ _; omega
 ·
  show wf64 (Lnum 1 (Ltxt (Ltxt s).2).2).1
  unfold wf64
  omega
theorem ltgts_ok {s : LS} (h : Bts s.1) : ∀ n, ∀ t ∈ (Ltgts n s).1, t.ok
 | 0, t, ht => by cases ht
 | n + 1, t, ht => by
  rcases List.mem_append.1 ht with h1 | h1
  ·
   exact ltgts_ok h n t h1
  ·
   rw [List.mem_singleton.1 h1]; exact ltgt_ok (Ltgts_bts h n)
theorem lr_sm {e : EvD} {p : PT} {s : LS} (he : EvSm e) (h : Bts s.1) : EvSm (p.lr e s).1 := by
 cases p with
 | n lo hi => exact ⟨he.nm, he.tg, he.cn, he.rn, he.rc, he.tl, he.ok⟩
 | d lo hi => exact ⟨he.nm, he.tg, he.cn, he.rn, he.rc, he.tl, he.ok⟩
 | nm b => exact ⟨Ltxt_size h, he.tg, he.cn, he.rn, he.rc, he.tl, he.ok⟩
 | tg => exact ⟨he.nm, Ltxt_size h, he.cn, he.rn, he.rc, he.tl, he.ok⟩
 | c => exact ⟨he.nm, he.tg, Ltxt_size h, he.rn, he.rc, he.tl, he.ok⟩
 | r =>
  have b1 := Ltxt_bts h
  have b2 := Ltxt_bts b1
  have b3 := Lnum_bts (k := 1) b2
  have nb := Lnum_bd (k := 1) b3
  refine ⟨he.nm, he.tg, he.cn, Ltxt_size h, Ltxt_size b1, ?_, ltgts_ok (Lnum_bts b3) _⟩
  show (Ltgts _ _).1.length ≤ 255
  rw [Ltgts_len]
  omega
theorem runL_sm : ∀ (ps : List PT) (s : EvD × LS), EvSm s.1 → Bts s.2.1 → EvSm (runL ps s).1
 | [], s, h, _ => h
 | p :: ps, s, h, hb => runL_sm ps (p.lr s.1 s.2) (lr_sm h hb) (lr_bts hb)
theorem evLax_sm {k : Int} {r : List Int} (h : Bts r) : EvSm (evLax k r).1 :=
 runL_sm _ _ ⟨Nat.zero_le _, Nat.zero_le _, Nat.zero_le _, Nat.zero_le _, Nat.zero_le _, Nat.zero_le _, fun t ht => by cases ht⟩ h
theorem rd_sm {zs : List Int} {e : EvD} (hz : Bts zs) (h : RdR zs e 0) : EvSm e := by
 unfold RdR at h
 match zs, h with
 | [], h => cases h
 | k :: r, h =>
  dsimp only at h
  split at h
  ·
   cases h
  ·
   rw [h.1]; exact evLax_sm fun y hy => hz y (by simp [hy])
theorem endE_cases (s : LS) : (endE s = 10 ∧ s.2 = true) ∨ (endE s = 0 ∧ s.2 = false ∧ s.1 = []) ∨ (endE s = 11 ∧ s.2 = false ∧ s.1 ≠ []) := by
 unfold endE
 cases h : s.2
 ·
  by_cases h1 : s.1 = []
  ·
   exact .inr (.inl ⟨by simp [h1], rfl, h1⟩)
  ·
   exact .inr (.inr ⟨by simp [h1], rfl, h1⟩)
 ·
  exact .inl ⟨by simp, rfl⟩
theorem parse_bad_rd {zs : List Int} {e : EvD} {no : Int} (h : RdR zs e no) (hn : no ≠ 0) : evParse zs = (ev0, no) := by
 rw [parse_lax]
 unfold RdR at h
 match zs, h with
 | [], h => dsimp only at h; rw [h]
 | k :: r, h =>
  dsimp only at h ⊢
  split at h
  ·
   rename_i hk; rw [if_pos hk, h]
  ·
   rename_i hk
   rw [if_neg hk]
   rcases endE_cases (evLax k r).2 with ⟨h1, h2⟩ | ⟨h1, _⟩ | ⟨h1, h2, h3⟩
   ·
    rw [if_pos h2, h.2, h1]
   ·
    exact absurd (h.2.trans h1) hn
   ·
    rw [if_neg (by simp [h2]), if_pos h3, h.2, h1]
theorem parse_ok_rd {zs : List Int} {e : EvD} (h : RdR zs e 0) : evParse zs = if e.chk ≠ 0 then (ev0, e.chk) else (e, 0) := by
 rw [parse_lax]
 unfold RdR at h
 match zs, h with
 | [], h => cases h
 | k :: r, h =>
  dsimp only at h ⊢
  split at h
  ·
   cases h
  ·
   rename_i hk
   rw [if_neg hk]
   rcases endE_cases (evLax k r).2 with ⟨h1, h2⟩ | ⟨h1, h2, h3⟩ | ⟨h1, h2, h3⟩
   ·
    exact absurd (h.2.trans h1) (by decide)
   ·
    rw [if_neg (by simp [h2]), if_neg (by simp [h3]), h.1]
   ·
    exact absurd (h.2.trans h1) (by decide)
def ParseR (zs : List Int) (w : World) (x : Ending) (w' : World) : Prop :=
 ∃ a' c', x = .returned (.tuple #[.agg ((evParse zs).1.cells a' c'), .int .i64 (evParse zs).2]) ∧ TgtSl w' a' (evParse zs).1.ts ∧ Grow.G w w'
set_option maxHeartbeats 4000000 in
theorem eparse_any (sb : Nat) (a : Option Addr) (c : Nat) (zs : List Int) (w : World) (h : zs = [] ∨ ∃ off, a = some ⟨sb, off, none⟩ ∧ zs.length ≤ c ∧ sb < w.heap.size ∧ ∀ i, i < zs.length → w.cell? ⟨sb, off + i, none⟩ = some (.int .u8 (zs.getD i 0))) (hbt : Bts zs) :
  Calls Tryz.prog 19 #[.slice a zs.length c] w fun x w' => ParseR zs w x w' := by
 have RD := Lib.hid (fun w h => eread_any sb a c zs w h hbt)
 have HH := Lib.hid h
 have HB := Lib.hid hbt
 clear h hbt
 go_enter Tryz.func19, Tryz.ntmps19
 go_wp2_with fail
 have G0 := Grow.G.alloc (Grow.G.refl w) (.cells (ev0.cells none 0) 28)
 have Z0 := Blk.new w (ev0.cells none 0) 28
 refine (RD.out _ ?_).mono ?_
 ·
  rcases HH.out with h | ⟨off, h1, h2, h3, h4⟩
  ·
   exact .inl h
  ·
   exact .inr ⟨off, h1, h2, Nat.lt_of_lt_of_le h3 G0.size, fun i hi => cell_later G0 (h4 i hi)⟩
 rintro x w1 ⟨e', a', c', no, rfl, hrd, ht, htb, hg1⟩
 have GA := G0.trans hg1
 have Z1 := Z0.grow hg1
 have hEC : e'.cells a' c' = e'.cells a' c' := rfl
 have HRD := Lib.hid hrd
 have HT := Lib.hid ht
 have HTB := Lib.hid htb
 clear htb
 have HE : Hid (∃ E, e' = E) := Lib.hid ⟨_, rfl⟩
 have HCH := Lib.hid (fun w h => echk_any e' a' c' w h)
 have Z2 : Blk w1 w.heap.size #[.int .i64 0, .string ⟨#[]⟩, .string ⟨#[]⟩, .int .i64 0, .int .i64 0, .string ⟨#[]⟩, .int .i64 0, .int .i64 0, .int .i64 0, .int .i64 0, .int .i64 0, .string ⟨#[]⟩, .string ⟨#[]⟩, .slice none 0 0, .int .i64 0] 28 := Z1
 have z0 := evcell Z2 (i := 0) rfl; have y0 := Z2.free 0; have z1 := evcell Z2 (i := 1) rfl; have y1 := Z2.free 1; have z2 := evcell Z2 (i := 2) rfl; have y2 := Z2.free 2; have z3 := evcell Z2 (i := 3) rfl; have y3 := Z2.free 3; have z4 := evcell Z2 (i := 4) rfl; have y4 := Z2.free 4; have z5 := evcell Z2 (i := 5) rfl; have y5 := Z2.free 5; have z6 := evcell Z2 (i := 6) rfl; have y6 := Z2.free 6; have z7 := evcell Z2 (i := 7) rfl; have y7 := Z2.free 7; have z8 := evcell Z2 (i := 8) rfl; have y8 := Z2.free 8; have z9 := evcell Z2 (i := 9) rfl; have y9 := Z2.free 9; have z10 := evcell Z2 (i := 10) rfl; have y10 := Z2.free 10; have z11 := evcell Z2 (i := 11) rfl; have y11 := Z2.free 11; have z12 := evcell Z2 (i := 12) rfl; have y12 := Z2.free 12; have z13 := evcell Z2 (i := 13) rfl; have y13 := Z2.free 13; have z14 := evcell Z2 (i := 14) rfl; have y14 := Z2.free 14
 have HZ2 := Lib.hid Z2
 clear Z0 Z1 Z2 G0
 have hw1 : w.heap.size < w1.heap.size := HZ2.out.lt
 by_cases hn : no = 0
 ·
  subst hn
  have SM := rd_sm HB.out HRD.out
  have BD : ∀ w', Grow.G w1 w' → EvBd w' e' a' := fun w' g => ⟨by have := SM.nm; omega, by have := SM.tg; omega, by have := SM.cn; omega, by have := SM.rn; omega, by have := SM.rc; omega, by have := SM.tl; omega, HT.out.later g, fun i hi => by simpa [List.getD, hi] using SM.ok (e'.ts.getD i tg0) (by simp [List.getD, hi])⟩
  have HBD := Lib.hid BD
  have PO := Lib.hid (parse_ok_rd HRD.out)
  generalize hck : e'.chk = ck at *
  clear hck
  obtain ⟨k', nm', tg', n', dr', ⟨cn', im', co', mn', mx', gr'⟩, rn', rc', ts', rr'⟩ := e'
  simp only [EvD.cells] at *
  go_wp2_with fail
  refine (HCH.out _ (HBD.out _ (Grow.G.alloc (Grow.G.refl w1) (.cells #[.int .i64 k', .string nm', .string tg', .int .i64 n', .int .i64 dr', .string cn', .int .i64 im', .int .i64 co', .int .i64 mn', .int .i64 mx', .int .i64 gr', .string rn', .string rc', .slice a' ts'.length c', .int .i64 rr'] 28)))).mono ?_
  rintro x w2 ⟨rfl, hg2⟩
  clear z0 y0 z1 y1 z2 y2 z3 y3 z4 y4 z5 y5 z6 y6 z7 y7 z8 y8 z9 y9 z10 y10 z11 y11 z12 y12 z13 y13 z14 y14
  have G3 := (Grow.G.alloc (Grow.G.refl w1) (.cells #[.int .i64 k', .string nm', .string tg', .int .i64 n', .int .i64 dr', .string cn', .int .i64 im', .int .i64 co', .int .i64 mn', .int .i64 mx', .int .i64 gr', .string rn', .string rc', .slice a' ts'.length c', .int .i64 rr'] 28)).trans hg2
  have E3 := (Blk.new w1 #[.int .i64 k', .string nm', .string tg', .int .i64 n', .int .i64 dr', .string cn', .int .i64 im', .int .i64 co', .int .i64 mn', .int .i64 mx', .int .i64 gr', .string rn', .string rc', .slice a' ts'.length c', .int .i64 rr'] 28).grow hg2
  have Z3 := HZ2.out.grow G3
  have GB := GA.trans G3
  have z0 := evcell Z3 (i := 0) rfl; have y0 := Z3.free 0; have z1 := evcell Z3 (i := 1) rfl; have y1 := Z3.free 1; have z2 := evcell Z3 (i := 2) rfl; have y2 := Z3.free 2; have z3 := evcell Z3 (i := 3) rfl; have y3 := Z3.free 3; have z4 := evcell Z3 (i := 4) rfl; have y4 := Z3.free 4; have z5 := evcell Z3 (i := 5) rfl; have y5 := Z3.free 5; have z6 := evcell Z3 (i := 6) rfl; have y6 := Z3.free 6; have z7 := evcell Z3 (i := 7) rfl; have y7 := Z3.free 7; have z8 := evcell Z3 (i := 8) rfl; have y8 := Z3.free 8; have z9 := evcell Z3 (i := 9) rfl; have y9 := Z3.free 9; have z10 := evcell Z3 (i := 10) rfl; have y10 := Z3.free 10; have z11 := evcell Z3 (i := 11) rfl; have y11 := Z3.free 11; have z12 := evcell Z3 (i := 12) rfl; have y12 := Z3.free 12; have z13 := evcell Z3 (i := 13) rfl; have y13 := Z3.free 13; have z14 := evcell Z3 (i := 14) rfl; have y14 := Z3.free 14
  have x0 := evcell E3 (i := 0) rfl; have x1 := evcell E3 (i := 1) rfl; have x2 := evcell E3 (i := 2) rfl; have x3 := evcell E3 (i := 3) rfl; have x4 := evcell E3 (i := 4) rfl; have x5 := evcell E3 (i := 5) rfl; have x6 := evcell E3 (i := 6) rfl; have x7 := evcell E3 (i := 7) rfl; have x8 := evcell E3 (i := 8) rfl; have x9 := evcell E3 (i := 9) rfl; have x10 := evcell E3 (i := 10) rfl; have x11 := evcell E3 (i := 11) rfl; have x12 := evcell E3 (i := 12) rfl; have x13 := evcell E3 (i := 13) rfl; have x14 := evcell E3 (i := 14) rfl
  have HZ3 := Lib.hid Z3
  have hw2 : w.heap.size < w2.heap.size := Z3.lt
  have TG := Lib.hid (HT.out.later G3)
  clear Z3 E3 hg2 G3
  by_cases hc : ck = 0
  ·
   subst hc
   have PZ : Hid (evParse zs = (⟨k', nm', tg', n', dr', ⟨cn', im', co', mn', mx', gr'⟩, rn', rc', ts', rr'⟩, 0)) := Lib.hid (by rw [PO.out, if_neg (by simp)])
   go_wp2_with fail
   have BF := (((((((((((((((HZ3.out.set 0 (.int .i64 k')).set 1 (.string nm')).set 2 (.string tg')).set 3 (.int .i64 n')).set 4 (.int .i64 dr')).set 5 (.string cn')).set 6 (.int .i64 im')).set 7 (.int .i64 co')).set 8 (.int .i64 mn')).set 9 (.int .i64 mx')).set 10 (.int .i64 gr')).set 11 (.string rn')).set 12 (.string rc')).set 13 (.slice a' ts'.length c')).set 14 (.int .i64 rr'))
   simp only [List.setIfInBounds_toArray, List.set_cons_zero, List.set_cons_succ] at BF
   have CS := (Chg.setCell (G := fun k => k = w.heap.size) (Chg.setCell (G := fun k => k = w.heap.size) (Chg.setCell (G := fun k => k = w.heap.size) (Chg.setCell (G := fun k => k = w.heap.size) (Chg.setCell (G := fun k => k = w.heap.size) (Chg.setCell (G := fun k => k = w.heap.size) (Chg.setCell (G := fun k => k = w.heap.size) (Chg.setCell (G := fun k => k = w.heap.size) (Chg.setCell (G := fun k => k = w.heap.size) (Chg.setCell (G := fun k => k = w.heap.size) (Chg.setCell (G := fun k => k = w.heap.size) (Chg.setCell (G := fun k => k = w.heap.size) (Chg.setCell (G := fun k => k = w.heap.size) (Chg.setCell (G := fun k => k = w.heap.size) (Chg.setCell (G := fun k => k = w.heap.size) (Chg.refl (fun k => k = w.heap.size) w2) (fun _ => rfl) 0 (.int .i64 k')) (fun _ => rfl) 1 (.string nm')) (fun _ => rfl) 2 (.string tg')) (fun _ => rfl) 3 (.int .i64 n')) (fun _ => rfl) 4 (.int .i64 dr')) (fun _ => rfl) 5 (.string cn')) (fun _ => rfl) 6 (.int .i64 im')) (fun _ => rfl) 7 (.int .i64 co')) (fun _ => rfl) 8 (.int .i64 mn')) (fun _ => rfl) 9 (.int .i64 mx')) (fun _ => rfl) 10 (.int .i64 gr')) (fun _ => rfl) 11 (.string rn')) (fun _ => rfl) 12 (.string rc')) (fun _ => rfl) 13 (.slice a' ts'.length c')) (fun _ => rfl) 14 (.int .i64 rr'))
   refine bodyPost_ret (v := .tuple #[.agg #[.int .i64 k', .string nm', .string tg', .int .i64 n', .int .i64 dr', .string cn', .int .i64 im', .int .i64 co', .int .i64 mn', .int .i64 mx', .int .i64 gr', .string rn', .string rc', .slice a' ts'.length c', .int .i64 rr'], .int .i64 0]) (by simp [results, Tryz.results19, go_sem, BF.cell]) rfl ⟨a', c', ?_, ?_, ?_⟩
   ·
    rw [PZ.out]; rfl
   ·
    rw [PZ.out]; exact TG.out.chg CS (fun b off hb q => by have q : b = w.heap.size := q; have := HTB.out b off hb; simp at this; omega)
   ·
    exact Below.trans GB (CS.below (B := w.heap.size) (by omega) (fun k hk q => by have q : k = w.heap.size := q; omega))
  ·
   have hc1 : (ck == 0) = false := by simpa using hc
   have hc2 : (ck != 0) = true := by simpa using hc
   have PZ : Hid (evParse zs = (ev0, ck)) := Lib.hid (by rw [PO.out, if_pos hc])
   go_wp2_with fail
   have BF := (((((((((((((((HZ3.out.set 0 (.int .i64 0)).set 1 (.string ⟨#[]⟩)).set 2 (.string ⟨#[]⟩)).set 3 (.int .i64 0)).set 4 (.int .i64 0)).set 5 (.string ⟨#[]⟩)).set 6 (.int .i64 0)).set 7 (.int .i64 0)).set 8 (.int .i64 0)).set 9 (.int .i64 0)).set 10 (.int .i64 0)).set 11 (.string ⟨#[]⟩)).set 12 (.string ⟨#[]⟩)).set 13 (.slice none 0 0)).set 14 (.int .i64 0))
   simp only [List.setIfInBounds_toArray, List.set_cons_zero, List.set_cons_succ] at BF
   have CS := (Chg.setCell (G := fun k => k = w.heap.size) (Chg.setCell (G := fun k => k = w.heap.size) (Chg.setCell (G := fun k => k = w.heap.size) (Chg.setCell (G := fun k => k = w.heap.size) (Chg.setCell (G := fun k => k = w.heap.size) (Chg.setCell (G := fun k => k = w.heap.size) (Chg.setCell (G := fun k => k = w.heap.size) (Chg.setCell (G := fun k => k = w.heap.size) (Chg.setCell (G := fun k => k = w.heap.size) (Chg.setCell (G := fun k => k = w.heap.size) (Chg.setCell (G := fun k => k = w.heap.size) (Chg.setCell (G := fun k => k = w.heap.size) (Chg.setCell (G := fun k => k = w.heap.size) (Chg.setCell (G := fun k => k = w.heap.size) (Chg.setCell (G := fun k => k = w.heap.size) (Chg.refl (fun k => k = w.heap.size) w2) (fun _ => rfl) 0 (.int .i64 0)) (fun _ => rfl) 1 (.string ⟨#[]⟩)) (fun _ => rfl) 2 (.string ⟨#[]⟩)) (fun _ => rfl) 3 (.int .i64 0)) (fun _ => rfl) 4 (.int .i64 0)) (fun _ => rfl) 5 (.string ⟨#[]⟩)) (fun _ => rfl) 6 (.int .i64 0)) (fun _ => rfl) 7 (.int .i64 0)) (fun _ => rfl) 8 (.int .i64 0)) (fun _ => rfl) 9 (.int .i64 0)) (fun _ => rfl) 10 (.int .i64 0)) (fun _ => rfl) 11 (.string ⟨#[]⟩)) (fun _ => rfl) 12 (.string ⟨#[]⟩)) (fun _ => rfl) 13 (.slice none 0 0)) (fun _ => rfl) 14 (.int .i64 0))
   refine bodyPost_ret (v := .tuple #[.agg #[.int .i64 0, .string ⟨#[]⟩, .string ⟨#[]⟩, .int .i64 0, .int .i64 0, .string ⟨#[]⟩, .int .i64 0, .int .i64 0, .int .i64 0, .int .i64 0, .int .i64 0, .string ⟨#[]⟩, .string ⟨#[]⟩, .slice none 0 0, .int .i64 0], .int .i64 ck]) (by simp [results, Tryz.results19, go_sem, BF.cell]) rfl ⟨none, 0, ?_, ?_, ?_⟩
   ·
    rw [PZ.out]; rfl
   ·
    rw [PZ.out]; exact .inl rfl
   ·
    exact Below.trans GB (CS.below (B := w.heap.size) (by omega) (fun k hk q => by have q : k = w.heap.size := q; omega))
 ·
  have PB := Lib.hid (parse_bad_rd HRD.out hn)
  have hn1 : (no == 0) = false := by simpa using hn
  have hn2 : (no != 0) = true := by simpa using hn
  obtain ⟨k', nm', tg', n', dr', ⟨cn', im', co', mn', mx', gr'⟩, rn', rc', ts', rr'⟩ := e'
  simp only [EvD.cells] at *
  go_wp2_with fail
  have BF := (((((((((((((((HZ2.out.set 0 (.int .i64 0)).set 1 (.string ⟨#[]⟩)).set 2 (.string ⟨#[]⟩)).set 3 (.int .i64 0)).set 4 (.int .i64 0)).set 5 (.string ⟨#[]⟩)).set 6 (.int .i64 0)).set 7 (.int .i64 0)).set 8 (.int .i64 0)).set 9 (.int .i64 0)).set 10 (.int .i64 0)).set 11 (.string ⟨#[]⟩)).set 12 (.string ⟨#[]⟩)).set 13 (.slice none 0 0)).set 14 (.int .i64 0))
  simp only [List.setIfInBounds_toArray, List.set_cons_zero, List.set_cons_succ] at BF
  replace BF := BF.alloc (.cells #[.int .i64 k', .string nm', .string tg', .int .i64 n', .int .i64 dr', .string cn', .int .i64 im', .int .i64 co', .int .i64 mn', .int .i64 mx', .int .i64 gr', .string rn', .string rc', .slice a' ts'.length c', .int .i64 rr'] 28)
  have CS := (Chg.setCell (G := fun k => k = w.heap.size) (Chg.setCell (G := fun k => k = w.heap.size) (Chg.setCell (G := fun k => k = w.heap.size) (Chg.setCell (G := fun k => k = w.heap.size) (Chg.setCell (G := fun k => k = w.heap.size) (Chg.setCell (G := fun k => k = w.heap.size) (Chg.setCell (G := fun k => k = w.heap.size) (Chg.setCell (G := fun k => k = w.heap.size) (Chg.setCell (G := fun k => k = w.heap.size) (Chg.setCell (G := fun k => k = w.heap.size) (Chg.setCell (G := fun k => k = w.heap.size) (Chg.setCell (G := fun k => k = w.heap.size) (Chg.setCell (G := fun k => k = w.heap.size) (Chg.setCell (G := fun k => k = w.heap.size) (Chg.setCell (G := fun k => k = w.heap.size) (Chg.refl (fun k => k = w.heap.size) w1) (fun _ => rfl) 0 (.int .i64 0)) (fun _ => rfl) 1 (.string ⟨#[]⟩)) (fun _ => rfl) 2 (.string ⟨#[]⟩)) (fun _ => rfl) 3 (.int .i64 0)) (fun _ => rfl) 4 (.int .i64 0)) (fun _ => rfl) 5 (.string ⟨#[]⟩)) (fun _ => rfl) 6 (.int .i64 0)) (fun _ => rfl) 7 (.int .i64 0)) (fun _ => rfl) 8 (.int .i64 0)) (fun _ => rfl) 9 (.int .i64 0)) (fun _ => rfl) 10 (.int .i64 0)) (fun _ => rfl) 11 (.string ⟨#[]⟩)) (fun _ => rfl) 12 (.string ⟨#[]⟩)) (fun _ => rfl) 13 (.slice none 0 0)) (fun _ => rfl) 14 (.int .i64 0))
  refine bodyPost_ret (v := .tuple #[.agg #[.int .i64 0, .string ⟨#[]⟩, .string ⟨#[]⟩, .int .i64 0, .int .i64 0, .string ⟨#[]⟩, .int .i64 0, .int .i64 0, .int .i64 0, .int .i64 0, .int .i64 0, .string ⟨#[]⟩, .string ⟨#[]⟩, .slice none 0 0, .int .i64 0], .int .i64 no]) (by simp [results, Tryz.results19, go_sem, BF.cell]) rfl ⟨none, 0, ?_, ?_, ?_⟩
  ·
   rw [PB.out]; rfl
  ·
   rw [PB.out]; exact .inl rfl
  ·
   exact Below.alloc (Below.trans GA (CS.below (B := w.heap.size) (by omega) (fun k hk q => by have q : k = w.heap.size := q; omega))) (by have := CS.size; omega) _
end Go.Proofs.YtnkekdmikopdgaaGreat
