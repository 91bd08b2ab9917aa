/- My own texts Sm4, RvE, laid in one file. -/
import Derived.Test.YtjcdmnogmpjkkaaDoorZ92D
import Derived.Test.YtjcdmnogmpjkkaaDoorZ2
import Derived.Test.YtjcdmnogmpjkkaaDoorZ29
import Derived.Test.YtjcdmnogmpjkkaaDoorZ91
import Derived.Test.YtjcdmnogmpjkkaaDoorZ4

/- Two rows of strings that are the same (damperref4.Same); the book lies apart from rows of strings; a stamp that tells what it changes. -/
namespace Go.Proofs.YtjcdmnogmpjkkaaDoor
set_option maxRecDepth 100000
set_option linter.unusedVariables false
set_option linter.unusedSimpArgs false
set_option linter.unnecessarySimpa false
open Go.RowKit Go.MapV Go.Maps

def StrAt12 (w : World) (a : Option Addr) (L : List ByteArray) : Prop := ∀ k, k < L.length → ∃ r, a = some ⟨r, 0, none⟩ ∧ w.cell? ⟨r, k, none⟩ = some (.string (L.getD k ⟨#[]⟩))
theorem own_strAt {w : World} {base : Nat} {a : Option Addr} {c : Nat} {N : List ByteArray} (h : w.ownsRow base 9 1 (.slice a N.length c) N.length (N.map Value.string)) : StrAt12 w a N := by
  intro k hk
  rcases h.2 with ⟨h1, h2⟩ | ⟨g, cap, cur, hv, hb, hg, hn, hm, hs, ht⟩
  · omega
  · injection hv with e1 e2 e3
    refine ⟨g, e1, ?_⟩
    subst e1 e3
    exact own_cell h (by rw [List.getElem?_map, List.getElem?_eq_getElem hk, List.getD_eq_getElem?_getD, List.getElem?_eq_getElem hk]; rfl)
set_option maxHeartbeats 2000000 in
theorem same12s_any (w : World) (a : Option Addr) (c : Nat) (b : Option Addr) (d : Nat) (L : List ByteArray) (ha : StrAt12 w a L) (hb : StrAt12 w b L) (hl : L.length ≤ 1099511627776) :
    Calls Tryd.prog 26 #[.slice a L.length c, .slice b L.length d] w fun e w' => e = .returned (.bool true) ∧ Grow.G w w' := by
  have HA := Lib.hid ha
  have HB := Lib.hid hb
  clear ha hb
  go_enter Tryd.func26, Tryd.ntmps26
  go_wp2
  go_loopw [5] (fun i wr => ∃ k : Nat, k ≤ L.length ∧ i = .int .i64 k ∧ Grow.G w wr) (fun i _ => L.length - (_root_.Go.RowKit.intOf i).toNat)
  case atStart => exact ⟨0, by omega, rfl, Grow.G.refl _⟩
  case round =>
    obtain ⟨k, hk, rfl, hG⟩ := hrel
    have hk1 : IntKind.i64.wrap ((k : Int) + 1) = (k : Int) + 1 := IntWalk.i64_in _ ⟨by omega, by omega⟩
    by_cases hlt : k < L.length
    · obtain ⟨ra, rfl, ca⟩ := HA.out k hlt
      obtain ⟨rb, rfl, cb⟩ := HB.out k hlt
      generalize L.getD k ⟨#[]⟩ = x at *
      have t0 : decide ((k : Int) < (L.length : Int)) = true := decide_eq_true (by omega)
      have da : ∀ w', Grow.G wr w' → w'.cell? ⟨ra, k, none⟩ = some (.string x) := fun w' g => cell_later (hG.trans g) ca
      have db : ∀ w', Grow.G wr w' → w'.cell? ⟨rb, k, none⟩ = some (.string x) := fun w' g => cell_later (hG.trans g) cb
      clear ca cb
      go_wp2_with fail
      refine Grow.region_seqT (by kernel_rfl) (by kernel_rfl) (by intro c a d v w h; cases d <;> exact h) (by kernel_rfl) ?_
      repeat (first
        | (refine Grow.seqT.value ?_ (by rfl) ?_ ?_; rotate_left; (intro w' hg; go_simp <;> with_reducible rfl); simp only [Act.put, L0, L1, L2])
        | (refine Grow.seqT.value ?_ (by rfl) ?_ ?_; rotate_left; (intro w' hg; have ⟨hgc, hgf, hgz⟩ := bcell hg; go_simp <;> with_reducible rfl); simp only [Act.put, L0, L1, L2])
        | (refine Grow.seqT.value ?_ (by rfl) ?_ ?_; rotate_left; (intro w' hg; go_simp; rw [if_neg (by omega)]); simp only [Act.put, L0, L1, L2])
        | (refine Grow.seqT.idle (by rfl) ?_; simp only [Act.put, L0, L1, L2])
        )
      refine Grow.seqT.done (fun w4 g4 => ?_)
      go_wp2_with fail
      exact ⟨⟨k + 1, by omega, rfl, hG.trans g4⟩, by simp [_root_.Go.RowKit.intOf]; omega⟩
    · have t0 : decide ((k : Int) < (L.length : Int)) = false := decide_eq_false (by omega)
      go_wp2
      go_ret
      exact ⟨rfl, hG⟩
/-- A row of strings lies apart from a book. -/
theorem book_apart {g : Nat} {l : List Rv} {w : World} {F : Nat → Prop} {base n : Nat} {v : Value} {xs : List Value} (h : Sep (BkB g l) Emp w F) (ho : w.ownsRow base 9 1 v n xs) : ∀ k, v.ownBlock = some k → ¬ F k := by
  intro k hk hF
  obtain ⟨F1, F2, ⟨ma, mt, pa, pt, hI, e⟩, hE, _, eF⟩ := h
  have h1 := (e k).1 (((eF k).1 hF).resolve_right (hE k))
  have hb : ∀ {p : Type} {b : Nat} {f : Lit → Option Value} {n : Nat} {t : TypeId}, MapB Tryd.prog t w b n f → v.ownBlock = some b → False := by
    intro _ b f n t hm hv
    rcases ho.2 with ⟨h1, _⟩ | ⟨g', cap, cur, hv', _, hb, _⟩
    · rw [h1] at hv; cases hv
    · rw [hv'] at hv
      have hv : g' = b := Option.some.inj hv
      subst hv
      exact hm.notCells hb
  have m1 := hI.m1; have m2 := hI.m2; have m3 := hI.m3; have m4 := hI.m4
  rcases h1 with rfl | (rfl | rfl) | (rfl | rfl)
  · exact own_blk_types ho hI.hb (by decide) hk
  · exact hb (p := Nat) m1 hk
  · exact hb (p := Nat) m2 hk
  · exact hb (p := Nat) m3 hk
  · exact hb (p := Nat) m4 hk
/-- A stamp that tells what it changed. -/
theorem hold_bkstampF {w0 w : World} {L : List MBox} {g : Nat} {l l' : List Rv} {F : Nat → Prop} {bo : Bool} {st : ByteArray} (h : HoldF w0 w L (Sep (BkB g l) Emp) F) (ht : Tab w) (c : Cfg) (n : Int) (hc : c.err = 0) (hn : 1 ≤ n ∧ n ≤ 999999) (hl : l.length ≤ 900) (h1 : revS c.nm n = st := by rfl) (h2 : newK l c n = bo := by rfl) (h3 : putK l c n = l' := by rfl) :
    Calls Tryd.prog 15 #[pz g, c.v, .int .i64 n] w fun e w' => e = .returned (.tuple #[.string st, .bool bo]) ∧ Hold w0 w' L (Sep (BkB g l') Emp) ∧ Chg F w w' := by
  subst h1 h2 h3
  refine h.call (Sep.callL (R := fun e _ => e = .returned (.tuple #[.string (revS c.nm n), .bool (newK l c n)])) Emp.foot fun F ⟨ma, mt, pa, pt, hI, e⟩ => (bstamp_any g l ma mt pa pt c n w hI (by omega) hc hn ht).mono ?_)
  rintro e' w' ⟨q1, q2⟩
  exact ⟨q1, q2.ends e⟩
/-- What a name laid into all names gives. -/
theorem allK_put {l : List Rv} {c : Cfg} {g : Int} : allK (putK l c g) = insN (allK l) (revS c.nm g) := by
  cases e : hasK l (revS c.nm g) with
  | false => rw [putK_new e, allK_app]; rfl
  | true =>
    rw [putK_has e]
    refine Asc.uniq (allK_asc l) (insN_asc _ (allK_asc l)) fun x => ?_
    rw [insN_mem]
    constructor
    · exact .inl
    · rintro (h | rfl)
      · exact h
      · exact allK_mem.2 (hasK_iff.1 e)
end Go.Proofs.YtjcdmnogmpjkkaaDoor

/- Two revisions that are the same; what damperlaw2.Config makes of a configuration, told by its parts. -/
namespace Go.Proofs.YtjcdmnogmpjkkaaDoor
set_option maxRecDepth 100000
set_option linter.unusedVariables false
set_option linter.unusedSimpArgs false
set_option linter.unnecessarySimpa false
open Go.RowKit
theorem eql_self_rv (s t : ByteArray) (n a b c d e : Int) (w : World) : (binOp .eql 46 (.agg #[.string s, .int .i64 n, .string t, .int .i64 a, .int .i64 b, .int .i64 c, .int .i64 d, .int .i64 e]) (.agg #[.string s, .int .i64 n, .string t, .int .i64 a, .int .i64 b, .int .i64 c, .int .i64 d, .int .i64 e])).run Tryd.prog w = .ok (.bool true) w := by
  go_simp
theorem neq_self_rv (s t : ByteArray) (n a b c d e : Int) (w : World) : (binOp .neq 46 (.agg #[.string s, .int .i64 n, .string t, .int .i64 a, .int .i64 b, .int .i64 c, .int .i64 d, .int .i64 e]) (.agg #[.string s, .int .i64 n, .string t, .int .i64 a, .int .i64 b, .int .i64 c, .int .i64 d, .int .i64 e])).run Tryd.prog w = .ok (.bool false) w := by
  go_simp
theorem gcfg_web (c : Cfg) (hc : c.wf) : ∃ i1 i2 i3 i4 i5, gCfg c 0 = ⟨⟨#[119, 101, 98]⟩, i1, i2, i3, i4, i5⟩ ∧ (⟨⟨#[119, 101, 98]⟩, i1, i2, i3, i4, i5⟩ : Cfg).err = 0 ∧
    ∀ w, Calls Tryd.prog 14 #[c.v, .int .i64 0] w fun x w' => x = .returned (.agg #[.string ⟨#[119, 101, 98]⟩, .int .i64 i1, .int .i64 i2, .int .i64 i3, .int .i64 i4, .int .i64 i5]) ∧ Grow.G w w' := by
  have e : name3 0 = ⟨#[119, 101, 98]⟩ := by decide +kernel
  have e2 : gCfg c 0 = ⟨⟨#[119, 101, 98]⟩, withinI c.im 256, 1 + withinI c.co 8, withinI c.mn (1 + withinI c.mx 10 + 1), 1 + withinI c.mx 10, withinI c.gr 31⟩ := by unfold gCfg; rw [e]
  refine ⟨_, _, _, _, _, e2, e2 ▸ gCfg_ok c 0, fun w => ?_⟩
  have := gcfg_any c 0 w hc (by unfold wf64; omega)
  rw [e2] at this
  exact this
theorem gcfg_some (c : Cfg) (n : Int) (hc : c.wf) (hn : wf64 n) : ∃ s i1 i2 i3 i4 i5, gCfg c n = ⟨s, i1, i2, i3, i4, i5⟩ ∧ (⟨s, i1, i2, i3, i4, i5⟩ : Cfg).err = 0 ∧
    ∀ w, Calls Tryd.prog 14 #[.agg #[.string c.nm, .int .i64 c.im, .int .i64 c.co, .int .i64 c.mn, .int .i64 c.mx, .int .i64 c.gr], .int .i64 n] w fun x w' => x = .returned (.agg #[.string s, .int .i64 i1, .int .i64 i2, .int .i64 i3, .int .i64 i4, .int .i64 i5]) ∧ Grow.G w w' := by
  refine ⟨_, _, _, _, _, _, rfl, gCfg_ok c n, fun w => gcfg_any c n w hc hn⟩
theorem stamp_new {C : Cfg} {G : Int} : newK [] C G = true ∧ putK [] C G = [newR C G] := by
  have h : hasK [] (revS C.nm G) = false := hasK_no.2 fun r h => by cases h
  exact ⟨by unfold newK; rw [h]; rfl, by rw [putK_new h]; rfl⟩
theorem find_one (C : Cfg) (G : Int) : findK [newR C G] (revS C.nm G) = some (newR C G) := by
  unfold findK
  rw [List.find?_cons_of_pos (by exact decide_eq_true rfl)]
theorem stamp_again {l : List Rv} {C D : Cfg} {G : Int} {R : Rv} (e : D.nm = C.nm) (h : findK l (revS C.nm G) = some R) : newK l D G = false ∧ putK l D G = l := by
  have h : hasK l (revS D.nm G) = true := by rw [e]; unfold hasK; rw [h]; rfl
  exact ⟨by unfold newK; rw [h]; rfl, putK_has h⟩
theorem find_stays {l : List Rv} {E : Cfg} {G : Int} {s : ByteArray} {R : Rv} (h : findK l s = some R) : findK (putK l E G) s = some R := by
  rw [findK_put, show hasK l s = true from by unfold hasK; rw [h]; rfl, if_pos rfl, h]
end Go.Proofs.YtjcdmnogmpjkkaaDoor
