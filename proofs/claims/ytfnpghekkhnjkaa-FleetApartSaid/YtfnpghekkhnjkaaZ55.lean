/- My own texts Pd3, Pd5, laid in one file. -/
import Derived.Test.YtfnpghekkhnjkaaZ54
import Derived.Handy
import Derived.Test.YtfnpghekkhnjkaaZ48
import Derived.Test.YtfnpghekkhnjkaaZ2
import Derived.Test.YtfnpghekkhnjkaaZ29

/- pod's methods but Kill. -/
namespace Go.Proofs.Ytfnpghekkhnjkaa
set_option maxRecDepth 100000
set_option linter.unusedVariables false
set_option linter.unusedSimpArgs false
set_option linter.unnecessarySimpa false
open Go.RowKit Go.MapV Go.Maps

theorem pnew_any (c : Int) (w : World) (hc : 0 ≤ c ∧ c ≤ 1000) : Calls Try.prog 56 #[.int .i64 c] w fun e w' => e = .returned (pz w.heap.size) ∧ PdP w.heap.size (Pd.new c) w' (fun k => k = w.heap.size) ∧ Grow.G w w' := by
  go_enter Try.func56, Try.ntmps56
  go_wp2_with fail
  go_ret
  refine ⟨rfl, ⟨none, ⟨Blk.new w _ _, fun kl => ?_, Pd.ok_new hc⟩, fun k => ?_⟩, Grow.G.alloc (Grow.G.refl _) _⟩
  · unfold setZ onZ Pd.new
    split <;> rfl
  · unfold PdF; simp
theorem pstate_any (g : Nat) (s : Pd) (m : Option Nat) (w : World) (h : PdIn w g s m) :
    Calls Try.prog 58 #[pz g] w fun e w' => e = .returned (.int .i64 s.st) ∧ w = w' := by
  have c0 := h.c0
  have hl := h.hb.lt
  clear h
  go_enter Try.func58, Try.ntmps58
  go_wp2_with fail
  go_ret
  exact ⟨rfl, rfl⟩
theorem pload_any (g : Nat) (s : Pd) (m : Option Nat) (w : World) (h : PdIn w g s m) :
    Calls Try.prog 63 #[pz g] w fun e w' => e = .returned (.int .i64 s.l.length) ∧ w = w' := by
  have HC := Lib.hid (hcount_any g s m w h)
  clear h
  go_enter Try.func63, Try.ntmps63
  go_wp2_with fail
  refine HC.out.mono ?_
  rintro e w1 ⟨rfl, rfl⟩
  go_wp2_with fail
  go_ret
  exact ⟨rfl, rfl⟩
def Pd.inSt (s : Pd) (t : Int) : Pd := ⟨s.c, t, s.l⟩
theorem PdIn.setSt {w : World} {g : Nat} {s : Pd} {m : Option Nat} (h : PdIn w g s m) {t : Int} (ht : 1 ≤ t ∧ t ≤ 4) : PdIn (w.setCell ⟨g, 0, none⟩ (.int .i64 t)) g (s.inSt t) m ∧ Chg (fun k => k = g) w (w.setCell ⟨g, 0, none⟩ (.int .i64 t)) := by
  have C : Chg (fun k => k = g) w (w.setCell ⟨g, 0, none⟩ (.int .i64 t)) := Chg.setCell (G := fun k => k = g) (Chg.refl _ _) (fun _ => rfl) _ _
  exact ⟨⟨h.hb.set 0 _, h.hm.chg C (fun b e q => h.ne (by rw [e, q])), ⟨h.ok.lt, h.ok.wf, h.ok.len, h.ok.c, ht⟩⟩, C⟩
/-- What Up leaves. -/
theorem pup_any (g : Nat) (s : Pd) (w : World) (F : Nat → Prop) (h : PdP g s w F) :
    Calls Try.prog 36 #[pz g] w fun e w' => e = .returned (.int .i64 s.up) ∧ EndS w w' F (PdP g s.aftUp) := by
  have HP := Lib.hid h
  obtain ⟨m, hI, he⟩ := h
  have c0 := hI.c0
  have f0 := hI.hb.free 0
  have hl := hI.hb.lt
  have HI := Lib.hid hI
  have HE := Lib.hid he
  clear hI he
  by_cases h1 : s.st = 1
  · have hU : s.up = 0 := if_pos h1
    have hA : s.aftUp = s.inSt 2 := if_pos h1
    rw [hU, hA]
    have d0 : (s.st == 1) = true := by rw [h1]; rfl
    clear h1 hU hA
    go_enter Try.func36, Try.ntmps36
    go_wp2_with fail
    go_ret
    obtain ⟨q1, q2⟩ := HI.out.setSt (t := 2) ⟨by decide, by decide⟩
    exact ⟨rfl, PdP.fin HE.out q1 (q2.mono fun k _ e => .inl e) (fun b e => .inl e)⟩
  · have hU : s.up = 9 := if_neg h1
    have hA : s.aftUp = s := if_neg h1
    rw [hU, hA]
    have d0 : (s.st == 1) = false := by simpa using h1
    clear h1 hU hA
    go_enter Try.func36, Try.ntmps36
    go_wp2_with fail
    go_ret
    exact ⟨rfl, PdP.same HP.out (Grow.G.refl _)⟩
/-- rest. -/
def Pd.rest (s : Pd) : Pd := if s.st = 3 ∧ s.l = [] then s.inSt 4 else s
set_option maxHeartbeats 1000000 in
theorem prest_any (g : Nat) (s : Pd) (m : Option Nat) (w : World) (h : PdIn w g s m) :
    Calls Try.prog 57 #[pz g] w fun e w' => (∃ v, e = .returned v) ∧ PdIn w' g s.rest m ∧ Chg (fun k => k = g) w w' := by
  have HC := Lib.hid (pload_any g s m w h)
  have HI := Lib.hid h
  have c0 := h.c0
  have f0 := h.hb.free 0
  have hl := h.hb.lt
  clear h
  by_cases h1 : s.st = 3
  · by_cases h2 : s.l = []
    · have hR : Hid (s.rest = s.inSt 4) := Lib.hid (if_pos ⟨h1, h2⟩)
      have hn : s.l.length = 0 := by rw [h2]; rfl
      rw [hn] at HC
      have d0 : (s.st == 3) = true := by rw [h1]; rfl
      clear h1 h2 hn
      go_enter Try.func57, Try.ntmps57
      go_wp2_with fail
      refine HC.out.mono ?_
      rintro e w1 ⟨rfl, rfl⟩
      go_wp2_with fail
      go_returns
      rw [hR.out]
      exact ⟨⟨_, rfl⟩, HI.out.setSt ⟨by decide, by decide⟩⟩
    · have hR : Hid (s.rest = s) := Lib.hid (if_neg (fun e => h2 e.2))
      have hn : s.l.length ≠ 0 := fun e => h2 (List.eq_nil_of_length_eq_zero e)
      have d0 : (s.st == 3) = true := by rw [h1]; rfl
      have d1 : ((s.l.length : Int) == 0) = false := by
        have : (s.l.length : Int) ≠ 0 := by omega
        simpa using this
      clear h1 h2
      go_enter Try.func57, Try.ntmps57
      go_wp2_with fail
      refine HC.out.mono ?_
      rintro e w1 ⟨rfl, rfl⟩
      go_wp2_with fail
      go_returns
      rw [hR.out]
      exact ⟨⟨_, rfl⟩, HI.out, Chg.refl _ _⟩
  · have hR : Hid (s.rest = s) := Lib.hid (if_neg (fun e => h1 e.1))
    have d0 : (s.st == 3) = false := by simpa using h1
    clear h1
    go_enter Try.func57, Try.ntmps57
    go_wp2_with fail
    go_returns
    rw [hR.out]
    exact ⟨⟨_, rfl⟩, HI.out, Chg.refl _ _⟩
theorem Pd.drain_rest {s : Pd} : s.aftDrain = if s.st = 1 ∨ s.st = 2 then (s.inSt 3).rest else s := by
  unfold Pd.aftDrain
  split
  · unfold Pd.rest Pd.inSt
    dsimp only
    split <;> rename_i h
    · rw [if_pos ⟨rfl, h⟩]
    · rw [if_neg (fun e => h e.2)]
  · rfl
set_option maxHeartbeats 1000000 in
theorem pdrain_any (g : Nat) (s : Pd) (w : World) (F : Nat → Prop) (h : PdP g s w F) :
    Calls Try.prog 32 #[pz g] w fun e w' => e = .returned (.int .i64 s.drain) ∧ EndS w w' F (PdP g s.aftDrain) := by
  have HP := Lib.hid h
  obtain ⟨m, hI, he⟩ := h
  have c0 := hI.c0
  have f0 := hI.hb.free 0
  have hl := hI.hb.lt
  have HE := Lib.hid he
  obtain ⟨q1, q2⟩ := hI.setSt (t := 3) ⟨by decide, by decide⟩
  have RR := Lib.hid (prest_any g _ m _ q1)
  have Q2 := Lib.hid q2
  clear hI he q1 q2
  rw [Pd.drain_rest]
  unfold Pd.drain
  have fin : Hid (∀ w', PdIn w' g (s.inSt 3).rest m → Chg (fun k => k = g) (w.setCell ⟨g, 0, none⟩ (.int .i64 3)) w' → EndS w w' F (PdP g (s.inSt 3).rest)) :=
    Lib.hid (fun w' h c => PdP.fin HE.out h ((Q2.out.trans c).mono fun k _ e => .inl e) (fun b e => .inl e))
  by_cases h1 : s.st = 1
  · rw [if_pos (.inl h1), if_pos (.inl h1)]
    have d0 : (s.st != 1 && s.st != 2) = false := by rw [h1]; rfl
    have d1 : (s.st != 1) = false := by rw [h1]; rfl
    clear h1
    go_enter Try.func32, Try.ntmps32
    go_wp2_with fail
    refine RR.out.mono ?_
    rintro e w1 ⟨⟨v, rfl⟩, hq1, hq2⟩
    have hq := Lib.hid (fin.out _ hq1 hq2)
    clear hq1 hq2 RR fin Q2
    go_wp2_with fail
    go_returns
    exact ⟨rfl, hq.out⟩
  · by_cases h2 : s.st = 2
    · rw [if_pos (.inr h2), if_pos (.inr h2)]
      have d0 : (s.st != 1 && s.st != 2) = false := by rw [h2]; rfl
      have d1 : (s.st != 1) = true := by rw [h2]; rfl
      have d2 : (s.st != 2) = false := by rw [h2]; rfl
      clear h1 h2
      go_enter Try.func32, Try.ntmps32
      go_wp2_with fail
      refine RR.out.mono ?_
      rintro e w1 ⟨⟨v, rfl⟩, hq1, hq2⟩
      have hq := Lib.hid (fin.out _ hq1 hq2)
      clear hq1 hq2 RR fin Q2
      go_wp2_with fail
      go_returns
      exact ⟨rfl, hq.out⟩
    · rw [if_neg (fun e => e.elim h1 h2), if_neg (fun e => e.elim h1 h2)]
      have d0 : (s.st != 1 && s.st != 2) = true := by simp [h1, h2]
      have d1 : (s.st != 1) = true := by simpa using h1
      have d2 : (s.st != 2) = true := by simpa using h2
      clear h1 h2 RR Q2 fin
      go_enter Try.func32, Try.ntmps32
      go_wp2_with fail
      go_returns
      exact ⟨rfl, PdP.same HP.out (Grow.G.refl _)⟩

theorem infoInt7 : (Try.prog.info? 3).map (fun i => (i.zero, i.size, i.bytes)) = some (some (.int .i64 0), 1, 8) := by kernel_rfl
/-- How a row of numbers of a call's own stands. -/
theorem own_ints {w : World} {base c : Nat} {a : Option Addr} {l : List Int} (h : w.ownsRow base 3 1 (.slice a l.length c) l.length (intsV l)) :
    (a = none ∧ c = 0 ∧ l = []) ∨ ∃ g, a = some ⟨g, 0, none⟩ ∧ l.length ≤ c ∧ g < w.heap.size ∧ ∀ k x, l[k]? = some x → w.cell? ⟨g, k, none⟩ = some (.int .i64 x) := by
  rcases h.2 with ⟨h1, h2⟩ | ⟨g, cap, cur, hv, hb, hg, hn, hm, hs, ht⟩
  · injection h1 with e1 e2 e3
    exact .inl ⟨e1, e3, List.eq_nil_of_length_eq_zero h2⟩
  · injection hv with e1 e2 e3
    subst e1 e3
    exact .inr ⟨g, rfl, hn, Chg.lt_of hg, fun k s hk => own_cell h (by rw [List.getElem?_map, hk]; rfl)⟩
section
variable {w : World} {g : Nat} {s : Pd} {v : Value}
theorem RpIn.c0 (h : RpIn w g s v) : w.cell? ⟨g, 0, none⟩ = some (.int .i64 s.c) := (h.hb.cell 0).trans rfl
theorem RpIn.c1 (h : RpIn w g s v) : w.cell? ⟨g, 1, none⟩ = some (.int .i64 s.st) := (h.hb.cell 1).trans rfl
theorem RpIn.c2 (h : RpIn w g s v) : w.cell? ⟨g, 2, none⟩ = some v := (h.hb.cell 2).trans rfl
theorem RpIn.ne (h : RpIn w g s v) : v.ownBlock ≠ some g := own_blk_types h.ho h.hb (by decide)
theorem RpIn.grow {w' : World} (h : RpIn w g s v) (c : Grow.G w w') : RpIn w' g s v := h.chg (Chg.grow (G := fun _ => False) c) (fun _ _ => id)
theorem RpIn.sl (h : RpIn w g s v) : ∃ a c, v = .slice a s.l.length c := own_shape h.ho
/-- Another state. -/
theorem RpIn.setSt (h : RpIn w g s v) {t : Int} (ht : 1 ≤ t ∧ t ≤ 4) : RpIn (w.setCell ⟨g, 1, none⟩ (.int .i64 t)) g ⟨s.c, t, s.l⟩ v ∧ Chg (fun k => k = g) w (w.setCell ⟨g, 1, none⟩ (.int .i64 t)) := by
  have C : Chg (fun k => k = g) w (w.setCell ⟨g, 1, none⟩ (.int .i64 t)) := Chg.setCell (G := fun k => k = g) (Chg.refl _ _) (fun _ => rfl) _ _
  exact ⟨⟨h.hb.set 1 _, C.own h.ho (fun k hk e => h.ne (by rw [hk, show k = g from e])), ⟨h.ok.lt, h.ok.wf, h.ok.len, h.ok.c, ht⟩⟩, C⟩
/-- Another row. -/
theorem RpIn.setL (h : RpIn w g s v) {u : Value} {l : List Int} (ho : w.ownsRow 0 3 1 u l.length (intsV l)) (hk : Pd.ok ⟨s.c, s.st, l⟩) : RpIn (w.setCell ⟨g, 2, none⟩ u) g ⟨s.c, s.st, l⟩ u ∧ Chg (fun k => k = g) w (w.setCell ⟨g, 2, none⟩ u) := by
  have C : Chg (fun k => k = g) w (w.setCell ⟨g, 2, none⟩ u) := Chg.setCell (G := fun k => k = g) (Chg.refl _ _) (fun _ => rfl) _ _
  have hne : u.ownBlock ≠ some g := own_blk_types ho h.hb (by decide)
  exact ⟨⟨h.hb.set 2 _, C.own ho (fun k hk e => hne (by rw [hk, show k = g from e])), hk⟩, C⟩
end
theorem rpnew_any (c : Int) (w : World) (hc : 0 ≤ c ∧ c ≤ 1000) : Calls Try.prog 42 #[.int .i64 c] w fun e w' => e = .returned (pz w.heap.size) ∧ RpP w.heap.size (Pd.new c) w' (fun k => k = w.heap.size) ∧ Grow.G w w' := by
  go_enter Try.func42, Try.ntmps42
  go_wp2_with fail
  go_ret
  refine ⟨rfl, ⟨.slice none 0 0, ⟨Blk.new w _ _, ⟨rfl, .inl ⟨rfl, rfl⟩⟩, Pd.ok_new hc⟩, fun k => ?_⟩, Grow.G.alloc (Grow.G.refl _) _⟩
  unfold RpF
  exact ⟨.inl, fun h => h.elim id (fun q => by cases q)⟩
theorem rpstate_any (g : Nat) (s : Pd) (v : Value) (w : World) (h : RpIn w g s v) :
    Calls Try.prog 49 #[pz g] w fun e w' => e = .returned (.int .i64 s.st) ∧ w = w' := by
  have c0 := h.c1
  have hl := h.hb.lt
  clear h
  go_enter Try.func49, Try.ntmps49
  go_wp2_with fail
  go_ret
  exact ⟨rfl, rfl⟩
theorem rpload_any (g : Nat) (s : Pd) (v : Value) (w : World) (h : RpIn w g s v) :
    Calls Try.prog 50 #[pz g] w fun e w' => e = .returned (.int .i64 s.l.length) ∧ w = w' := by
  obtain ⟨a, c, rfl⟩ := h.sl
  have c0 := h.c2
  have hl := h.hb.lt
  clear h
  go_enter Try.func50, Try.ntmps50
  go_wp2_with fail
  go_ret
  exact ⟨rfl, rfl⟩
theorem rpup_any (g : Nat) (s : Pd) (w : World) (F : Nat → Prop) (h : RpP g s w F) :
    Calls Try.prog 47 #[pz g] w fun e w' => e = .returned (.int .i64 s.up) ∧ EndS w w' F (RpP g s.aftUp) := by
  have HP := Lib.hid h
  obtain ⟨v, hI, he⟩ := h
  have c0 := hI.c1
  have f0 := hI.hb.free 1
  have hl := hI.hb.lt
  have HI := Lib.hid hI
  have HE := Lib.hid he
  clear hI he
  by_cases h1 : s.st = 1
  · have hU : s.up = 0 := if_pos h1
    have hA : s.aftUp = ⟨s.c, 2, s.l⟩ := if_pos h1
    rw [hU, hA]
    have d0 : (s.st != 1) = false := by rw [h1]; rfl
    clear h1 hU hA
    go_enter Try.func47, Try.ntmps47
    go_wp2_with fail
    go_returns
    obtain ⟨q1, q2⟩ := HI.out.setSt (t := 2) ⟨by decide, by decide⟩
    exact ⟨rfl, RpP.fin HE.out q1 (q2.mono fun k _ e => .inl e) (fun b e => .inl e)⟩
  · have hU : s.up = 9 := if_neg h1
    have hA : s.aftUp = s := if_neg h1
    rw [hU, hA]
    have d0 : (s.st != 1) = true := by simpa using h1
    clear h1 hU hA
    go_enter Try.func47, Try.ntmps47
    go_wp2_with fail
    go_returns
    exact ⟨rfl, RpP.same HP.out (Grow.G.refl _)⟩
set_option maxHeartbeats 1000000 in
theorem rphas_any (g : Nat) (s : Pd) (v : Value) (x : Int) (w : World) (h : RpIn w g s v) :
    Calls Try.prog 67 #[pz g, .int .i64 x] w fun e w' => e = .returned (.bool (decide (x ∈ s.l))) ∧ w = w' := by
  obtain ⟨a, c, rfl⟩ := h.sl
  have c2 := h.c2
  have hl := h.hb.lt
  have HR := Lib.hid (own_ints h.ho)
  have hN : s.l.length ≤ 1000 := by have h1 := h.ok.len; have h2 := h.ok.c; omega
  clear h
  generalize s.l = l at *
  go_enter Try.func67, Try.ntmps67
  go_wp2_with fail
  go_loopw [5] (fun i wr => ∃ k : Nat, k ≤ l.length ∧ i = .int .i64 k ∧ wr = w ∧ Hid (x ∉ l.take k)) (fun i _ => l.length - (_root_.Go.RowKit.intOf i).toNat)
  case atStart => exact ⟨0, by omega, rfl, rfl, Lib.hid (by simp)⟩
  case round =>
    obtain ⟨k, hk, rfl, rfl, HX⟩ := hrel
    by_cases hlt : k < l.length
    · obtain ⟨y, hy⟩ : ∃ y, l[k]? = some y := ⟨_, List.getElem?_eq_getElem hlt⟩
      obtain ⟨g2, rfl, hc, hg2, hcl⟩ := HR.out.resolve_left (fun e => by rw [e.2.2] at hlt; simp at hlt)
      have cy := hcl k y hy
      have d0 : decide ((k : Int) < (l.length : Int)) = true := decide_eq_true (by omega)
      have hk1 : IntKind.i64.wrap ((k : Int) + 1) = (k : Int) + 1 := IntWalk.i64_in _ ⟨by omega, by omega⟩
      have k1 : (0 : Int) ≤ (k : Int) := by omega
      have k2 : (k : Int) < (l.length : Int) := by omega
      by_cases e : y = x
      · have d1 : (y == x) = true := by simpa using e
        have HM : Hid (decide (x ∈ l) = true) := Lib.hid (decide_eq_true (e ▸ List.mem_of_getElem? hy))
        clear hcl hy e
        go_wp2_with fail
        go_ret
        rw [HM.out]
        exact ⟨rfl, rfl⟩
      · have d1 : (y == x) = false := by simpa using e
        have HX2 : Hid (x ∉ l.take (k + 1)) := Lib.hid (by
          rw [List.take_add_one, hy]
          intro q
          rcases List.mem_append.1 q with q | q
          · exact HX.out q
          · have q : x = y := by simpa using q
            exact e q.symm)
        clear hcl hy e HX
        go_wp2_with fail
        go_roundw
        case rel => exact ⟨k + 1, by omega, by go_num, trivial, HX2⟩
        case measure => simp [_root_.Go.RowKit.intOf]; omega
    · obtain rfl : k = l.length := by omega
      have d0 : decide ((l.length : Int) < (l.length : Int)) = false := decide_eq_false (by omega)
      have HM : Hid (decide (x ∈ l) = false) := Lib.hid (decide_eq_false (by have := HX.out; rwa [List.take_length] at this))
      clear HX
      go_wp2_with fail
      go_ret
      rw [HM.out]
      exact ⟨rfl, rfl⟩
end Go.Proofs.Ytfnpghekkhnjkaa
