/- My own texts Ln8, Ln9, LnL, laid in one file. -/
import Derived.Test.YtlnffdkaleapbaaZ61
import Derived.Test.YtlnffdkaleapbaaZ29
import Derived.Test.YtlnffdkaleapbaaZ2

/- damperref8's All, Late. -/
namespace Go.Proofs.Ytlnffdkaleapbaa
set_option maxRecDepth 100000
set_option linter.unusedVariables false
set_option linter.unusedSimpArgs false
set_option linter.unnecessarySimpa false
open Go.RowKit Go.Args

theorem ids_snoc {l : List (Int × Int)} {k : Nat} {p : Int × Int} (h : l[k]? = some p) : intsV ((l.take (k + 1)).map Prod.fst) = intsV ((l.take k).map Prod.fst) ++ [.int .i64 p.1] := by
  unfold intsV
  rw [List.take_add_one, h, List.map_append, List.map_append]; rfl
set_option maxHeartbeats 2000000 in
theorem rlall_any (g : Nat) (s : Ln) (v : Value) (w : World) (h : RlIn w g s v) :
    Calls Try.prog 23 #[pz g] w fun e w' => ∃ u, e = .returned u ∧ w'.ownsRow w.heap.size 3 1 u s.ids.length (intsV s.ids) ∧ Grow.G w w' := by
  have hll := h.ok.l
  obtain ⟨a, c, rfl⟩ := h.sl
  have HI := Lib.hid h
  have hgl := h.hb.lt
  obtain ⟨i0, hi, hz0, hz1, hz2⟩ := info_parts infoInt8
  have HII := Lib.hid hi; have HZ0 := Lib.hid hz0; have HZ1 := Lib.hid hz1; have HZ2 := Lib.hid hz2
  have KK := Lib.hid (fun wr (g : Grow.G w wr) => h.grow g)
  have IDS : Hid (s.ids = s.l.map Prod.fst) := Lib.hid rfl
  clear h hi hz0 hz1 hz2
  rw [IDS.out]
  generalize hsl : s.l = l at *
  have HSL := Lib.hid hsl
  clear hsl
  go_enter Try.func23, Try.ntmps23
  go_wp2_with fail
  go_loopw [3, 4] (fun o i wr => ∃ k : Nat, k ≤ l.length ∧ i = .int .i64 k ∧ Hid (wr.ownsRow w.heap.size 3 1 o k (intsV ((l.take k).map Prod.fst))) ∧ Hid (Grow.G w wr)) (fun _ i _ => l.length - (intOf i).toNat)
  case atStart => exact ⟨0, by omega, rfl, Lib.hid (by rw [List.take_zero]; exact World.ownsRow_nil _ _ _ _), Lib.hid (Grow.G.refl _)⟩
  case round =>
    obtain ⟨k, hk, rfl, O, G⟩ := hrel
    have c1 := (KK.out _ G.out).c1
    have hgl' := (KK.out _ G.out).hb.lt
    by_cases hlt : k < l.length
    · obtain ⟨⟨y, t⟩, hy⟩ : ∃ y, l[k]? = some y := ⟨_, List.getElem?_eq_getElem hlt⟩
      have hO := (KK.out _ G.out).ho
      rw [HSL.out] at hO
      obtain ⟨g2, off, rfl, hc, hg2, hcl⟩ := (off_plcs hO).resolve_left (fun e => by rw [e.2.2] at hlt; simp at hlt)
      have cy := (hcl k _ hy).1
      dsimp only at cy
      have SN := Lib.hid (ids_snoc hy)
      have d0 : decide ((k : Int) < (l.length : Int)) = true := decide_eq_true (by omega)
      have hk1 : IntKind.i64.wrap ((k : Int) + 1) = (k : Int) + 1 := IntWalk.i64_in _ ⟨by omega, by omega⟩
      have k1 : (0 : Int) ≤ (k : Int) := by omega
      have k2 : (k : Int) < (l.length : Int) := by omega
      have gsz := G.out.size
      clear hcl hy hO
      go_wp2_with (at_builtin; refine Fr.wpList_append_fr _ rfl _ _ 22 rfl w.heap.size 3 i0 (.int .i64 0) 1 8 Try.underlying22 HII.out HZ0.out HZ1.out HZ2.out rfl (by decide) _ _ _ rfl (own_later O.out (Grow.G.alloc (Grow.G.refl _) _)) ⟨wr.heap.size, 0, none⟩ 1 1 [.int .i64 y] rfl rfl (news_new _ _ _ _ rfl) (one1 rfl) (by unfold maxLen; omega) (by omega) (by simp; omega) ?_; intro v' w' hown hfr; have AP := own_grow (w0 := w) (G.out.trans (Grow.G.alloc (Grow.G.refl _) _)) (own_later O.out (Grow.G.alloc (Grow.G.refl _) _)) (Nat.le_refl _) hfr.g; have HW := Lib.hid (And.intro AP hown); clear AP hown hfr)
      go_roundw
      case rel => exact ⟨k + 1, by omega, by go_num, Lib.hid (by rw [SN.out]; exact HW.out.2), Lib.hid HW.out.1⟩
      case measure => simp [intOf]; omega
    · obtain rfl : k = l.length := by omega
      have d0 : decide ((l.length : Int) < (l.length : Int)) = false := decide_eq_false (by omega)
      go_wp2_with fail
      go_returns
      have hO := O.out
      rw [List.take_length] at hO
      exact ⟨_, rfl, by rw [List.length_map]; exact hO, G.out⟩
theorem over_len (l : List (Int × Int)) (n : Int) : (Ln.overL l n).length ≤ l.length := List.length_filter_le _ _
theorem left_len (l : List (Int × Int)) (n : Int) : (Ln.leftL l n).length ≤ l.length := List.length_filter_le _ _
set_option maxHeartbeats 4000000 in
theorem rllate_any (g : Nat) (s : Ln) (v : Value) (n : Int) (w : World) (h : RlIn w g s v) :
    Calls Try.prog 17 #[pz g, .int .i64 n] w fun e w' => ∃ u z, e = .returned u ∧ w'.ownsRow w.heap.size 3 1 u (s.late n).length (intsV (s.late n)) ∧ RlIn w' g (s.aftLate n) z ∧ (∀ b, z.ownBlock = some b → w.heap.size ≤ b) ∧ Chg (fun k => k = g) w w' := by
  have hll := h.ok.l
  obtain ⟨a, c, rfl⟩ := h.sl
  have HI := Lib.hid h
  have hgl := h.hb.lt
  obtain ⟨i0, hi, hz0, hz1, hz2⟩ := info_parts infoInt8
  have HII := Lib.hid hi; have HZ0 := Lib.hid hz0; have HZ1 := Lib.hid hz1; have HZ2 := Lib.hid hz2
  obtain ⟨i1, hi, hz0, hz1, hz2⟩ := info_parts infoOne
  have HIJ := Lib.hid hi; have HY0 := Lib.hid hz0; have HY1 := Lib.hid hz1; have HY2 := Lib.hid hz2
  have KK := Lib.hid (fun wr (g : Grow.G w wr) => h.grow g)
  have HK := Lib.hid (Ln.ok_late h.ok n)
  clear h hi hz0 hz1 hz2
  have LA : Hid (s.late n = (Ln.overL s.l n).map Prod.fst ∧ (s.aftLate n).l = Ln.leftL s.l n) := Lib.hid ⟨rfl, rfl⟩
  generalize hsl : s.l = l at *
  have HSL := Lib.hid hsl
  clear hsl
  go_enter Try.func17, Try.ntmps17
  go_wp2_with fail
  go_loopw [5, 6, 7] (fun o z i wr => ∃ k : Nat, k ≤ l.length ∧ i = .int .i64 k ∧ Hid (wr.ownsRow w.heap.size 3 1 o (Ln.overL (l.take k) n).length (intsV ((Ln.overL (l.take k) n).map Prod.fst)) ∧ wr.ownsRow w.heap.size oneT 2 z (Ln.leftL (l.take k) n).length (plcs (Ln.leftL (l.take k) n)) ∧ Grow.G w wr)) (fun _ _ i _ => l.length - (intOf i).toNat)
  case atStart => exact ⟨0, by omega, rfl, Lib.hid ⟨World.ownsRow_nil _ _ _ _, World.ownsRow_nil _ _ _ _, Grow.G.refl _⟩⟩
  case round =>
    obtain ⟨k, hk, rfl, O⟩ := hrel
    obtain ⟨O1, O2, G⟩ := id O.out
    have c1 := (KK.out _ G).c1
    have hgl' := (KK.out _ G).hb.lt
    have gsz := G.size
    by_cases hlt : k < l.length
    · obtain ⟨⟨y, t⟩, hy⟩ : ∃ y, l[k]? = some y := ⟨_, List.getElem?_eq_getElem hlt⟩
      have hO := (KK.out _ G).ho
      rw [HSL.out] at hO
      obtain ⟨g2, off, rfl, hc, hg2, hcl⟩ := (off_plcs hO).resolve_left (fun e => by rw [e.2.2] at hlt; simp at hlt)
      obtain ⟨cy, ct⟩ := hcl k _ hy
      dsimp only at cy ct
      have OS := Ln.over_snoc hy n
      have LS := Ln.left_snoc hy n
      have l1 := over_len (l.take k) n
      have l2 := left_len (l.take k) n
      rw [List.length_take] at l1 l2
      have l3 : (Ln.overL (l.take k) n).length ≤ 1000 := by omega
      have l4 : (Ln.leftL (l.take k) n).length ≤ 1000 := by omega
      have d0 : decide ((k : Int) < (l.length : Int)) = true := decide_eq_true (by omega)
      have hk1 : IntKind.i64.wrap ((k : Int) + 1) = (k : Int) + 1 := IntWalk.i64_in _ ⟨by omega, by omega⟩
      have k1 : (0 : Int) ≤ (k : Int) := by omega
      have k2 : (k : Int) < (l.length : Int) := by omega
      generalize Ln.overL (l.take k) n = ov at *
      generalize Ln.leftL (l.take k) n = lv at *
      obtain ⟨oa, oc, rfl⟩ := own_shape O1
      obtain ⟨za, zc, rfl⟩ := own_shape O2
      clear hcl hy hO l1 l2 G O1 O2
      by_cases hle : t ≤ n
      · have d1 : decide (t ≤ n) = true := decide_eq_true hle
        dsimp only at OS LS
        rw [if_pos hle] at OS LS
        have OS := Lib.hid OS
        have LS := Lib.hid LS
        clear hle
        go_wp2_with (at_builtin; refine Fr.wpList_append_fr _ rfl _ _ 22 rfl w.heap.size 3 i0 (.int .i64 0) 1 8 Try.underlying22 HII.out HZ0.out HZ1.out HZ2.out rfl (by decide) _ _ _ rfl (own_later O.out.1 (Grow.G.alloc (Grow.G.refl _) _)) ⟨wr.heap.size, 0, none⟩ 1 1 [.int .i64 y] rfl rfl (news_new _ _ _ _ rfl) (one1 rfl) (by unfold maxLen; omega) (by omega) (by simp; omega) ?_; intro v' w' hown hfr; have AP := own_grow (w0 := w) (O.out.2.2.trans (Grow.G.alloc (Grow.G.refl _) _)) (own_later O.out.1 (Grow.G.alloc (Grow.G.refl _) _)) (Nat.le_refl _) hfr.g; have OZ := (Chg.ofFr hfr).own (own_later O.out.2.1 (Grow.G.alloc (Grow.G.refl _) _)) (fun k hk q => own_types O.out.2.1 O.out.1 (by decide) hk q); have HW := Lib.hid (And.intro AP (And.intro hown OZ)); clear AP hown hfr OZ)
        go_roundw
        case rel => exact ⟨k + 1, by omega, by go_num, Lib.hid ⟨by rw [OS.out, List.length_append, List.length_singleton, List.map_append]; show World.ownsRow _ _ _ _ _ _ (List.map _ (_ ++ _)); rw [List.map_append]; exact HW.out.2.1, by rw [LS.out]; exact HW.out.2.2, HW.out.1⟩⟩
        case measure => simp [intOf]; omega
      · have d1 : decide (t ≤ n) = false := decide_eq_false hle
        dsimp only at OS LS
        rw [if_neg hle] at OS LS
        have OS := Lib.hid OS
        have LS := Lib.hid LS
        have CE : (Try.prog.info? oneT).map (·.size) = some 2 := by kernel_rfl
        clear hle
        go_wp2_with (at_builtin; refine Fr.wpList_append_fr _ rfl _ _ 45 rfl w.heap.size oneT i1 (.agg #[.int .i64 0, .int .i64 0]) 2 16 Try.underlying45 HIJ.out HY0.out HY1.out HY2.out rfl (by decide) _ _ _ rfl (own_later O.out.2.1 (Grow.G.alloc (Grow.G.refl _) _)) ⟨wr.heap.size, 0, none⟩ 1 1 [.int .i64 y, .int .i64 t] rfl rfl (news_new _ _ _ _ rfl) (by intro u hu; simp at hu; rcases hu with rfl | rfl <;> rfl) (by unfold maxLen; omega) (by omega) (by simp; omega) ?_; intro v' w' hown hfr; have AP := own_grow (w0 := w) (O.out.2.2.trans (Grow.G.alloc (Grow.G.refl _) _)) (own_later O.out.2.1 (Grow.G.alloc (Grow.G.refl _) _)) (Nat.le_refl _) hfr.g; have OZ := (Chg.ofFr hfr).own (own_later O.out.1 (Grow.G.alloc (Grow.G.refl _) _)) (fun k hk q => own_types O.out.1 O.out.2.1 (by decide) hk q); have HW := Lib.hid (And.intro AP (And.intro hown OZ)); clear AP hown hfr OZ)
        go_roundw
        case rel => exact ⟨k + 1, by omega, by go_num, Lib.hid ⟨by rw [OS.out]; exact HW.out.2.2, by rw [LS.out, List.length_append, List.length_singleton]; show World.ownsRow _ _ _ _ _ _ (List.flatMap _ (_ ++ _)); rw [List.flatMap_append]; exact HW.out.2.1, HW.out.1⟩⟩
        case measure => simp [intOf]; omega
    · obtain rfl : k = l.length := by omega
      have d0 : decide ((l.length : Int) < (l.length : Int)) = false := decide_eq_false (by omega)
      obtain ⟨za, zc, rfl⟩ := own_shape O2
      obtain ⟨oa, oc, rfl⟩ := own_shape O1
      have f1 := (KK.out _ G).hb.free 1
      rw [List.take_length] at *
      have HG := Lib.hid (And.intro O1 (And.intro O2 G))
      clear O O1 O2 G
      go_wp2_with fail
      go_returns
      obtain ⟨O1, O2, G⟩ := HG.out
      have hB := (KK.out _ G).hb
      have CS : Chg (fun k => k = g) wr (wr.setCell ⟨g, 1, none⟩ (.slice za (Ln.leftL l n).length zc)) := Chg.setCell (G := fun k => k = g) (Chg.refl _ _) (fun _ => rfl) _ _
      have NZ := own_blk_types O2 hB (by decide)
      have NU := own_blk_types O1 hB (by decide)
      refine ⟨.slice oa (Ln.overL l n).length oc, .slice za (Ln.leftL l n).length zc, rfl, ?_, ⟨hB.set 1 _, ?_, HK.out⟩, fun b hb => (O2.lt b hb).1, (Chg.grow G).trans CS⟩
      · rw [LA.out.1, List.length_map]
        exact CS.own O1 (fun k hk q => NU (by rw [hk, show k = g from q]))
      · rw [LA.out.2]
        exact (own_base (CS.own O2 (fun k hk q => NZ (by rw [hk, show k = g from q]))) (Nat.zero_le _)).off

/-- A row of numbers, wherever it begins. -/
def IntO (v : Value) (l : List Int) : Hp := fun w F => w.offRow 0 3 1 v l.length (intsV l) ∧ ∀ k, F k ↔ v.ownBlock = some k
theorem IntO.foot (v : Value) (l : List Int) : Foot (IntO v l) where
  lt := fun ⟨h, q⟩ k hk => (h.lt k ((q k).1 hk)).2
  frame := fun ⟨h, q⟩ c hs => ⟨c.offRow h fun k hk => hs k ((q k).2 hk), q⟩
theorem IntO.nil (w : World) : IntO (.slice none 0 0) [] w (fun _ => False) := ⟨offRow_nil _ _ _ _, fun k => ⟨False.elim, fun e => by cases e⟩⟩
/-- How a row of numbers reads. -/
def IntR (w : World) (a : Option Addr) (l : List Int) : Prop := l = [] ∨ ∃ g off, a = some ⟨g, off, none⟩ ∧ ∀ k x, l[k]? = some x → w.cell? ⟨g, off + k, none⟩ = some (.int .i64 x)
theorem IntR.grow {w w' : World} {a : Option Addr} {l : List Int} (h : IntR w a l) (g : Grow.G w w') : IntR w' a l := h.imp id fun ⟨b, off, e, hc⟩ => ⟨b, off, e, fun k x hk => cell_later g (hc k x hk)⟩
theorem off_intR {w : World} {base c : Nat} {a : Option Addr} {l : List Int} (h : w.offRow base 3 1 (.slice a l.length c) l.length (intsV l)) : IntR w a l := by
  rcases h.at with ⟨_, _, h3⟩ | ⟨g, off, c', hv, hn, hb, hg, hc⟩
  · exact .inl (by simpa using h3)
  · cases hv
    exact .inr ⟨g, off, rfl, fun k x hk => hc k _ (by rw [List.getElem?_map, hk]; rfl)⟩
set_option maxHeartbeats 1000000 in
/-- Two rows of the same numbers. -/
theorem ints8_same (a1 a2 : Option Addr) (c1 c2 : Nat) (l : List Int) (w : World) (hl : l.length ≤ 100000) (h1 : IntR w a1 l) (h2 : IntR w a2 l) :
    Calls Try.prog 15 #[.slice a1 l.length c1, .slice a2 l.length c2] w fun e w' => e = .returned (.bool true) ∧ Grow.G w w' := by
  have H1 := Lib.hid h1
  have H2 := Lib.hid h2
  clear h1 h2
  go_enter Try.func15, Try.ntmps15
  go_wp2_with fail
  go_loopw [5] (fun i wr => ∃ k : Nat, k ≤ l.length ∧ i = .int .i64 k ∧ Hid (Grow.G w wr)) (fun i _ => l.length - (intOf i).toNat)
  case atStart => exact ⟨0, by omega, rfl, Lib.hid (Grow.G.refl _)⟩
  case round =>
    obtain ⟨k, hk, rfl, G⟩ := hrel
    by_cases hlt : k < l.length
    · obtain ⟨y, hy⟩ : ∃ y, l[k]? = some y := ⟨_, List.getElem?_eq_getElem hlt⟩
      obtain ⟨g1, off1, rfl, hcl⟩ := H1.out.resolve_left (fun e => by rw [e] at hlt; simp at hlt)
      obtain ⟨g2, off2, rfl, hcl2⟩ := H2.out.resolve_left (fun e => by rw [e] at hlt; simp at hlt)
      have cy := cell_later G.out (hcl k y hy)
      have cz := cell_later G.out (hcl2 k y hy)
      have KC := Lib.hid (fun (w' : World) (h : Chg (fun _ => False) wr w') => (⟨h.cell cy id, h.cell cz id, trivial⟩ : w'.cell? ⟨g1, off1 + k, none⟩ = some (.int .i64 y) ∧ w'.cell? ⟨g2, off2 + k, none⟩ = some (.int .i64 y) ∧ True))
      have d0 : decide ((k : Int) < (l.length : Int)) = true := decide_eq_true (by omega)
      have hk1 : IntKind.i64.wrap ((k : Int) + 1) = (k : Int) + 1 := IntWalk.i64_in _ ⟨by omega, by omega⟩
      have k1 : (0 : Int) ≤ (k : Int) := by omega
      have k2 : (k : Int) < (l.length : Int) := by omega
      clear hcl hcl2 hy cy cz
      go_wp2_with fail
      refine wp_spec (fun a0 A W => ∃ x17 x18 x19 x20 x21 x22 x23 x24 : Value, A = (((((((((a0.put (some 17) x17).put (some 18) x18).put (some 19) x19).put (some 20) x20).put (some 21) x21).put (some 22) x22).put (some 23) x23).put (some 24) x24).put (some 25) (.bool false)) ∧ Hid (Grow.G wr W)) ?_ ?_
      all_goals simp only [Act.put, L0, L1, L2]
      ·
        refine Evo2.start' (ℓ := none) (S := Chg (fun _ => False)) (E := Grow.G) (by kernel_rfl) ⟨Chg.pre _, by decide +kernel, (by intro c a d v w h; cases d <;> exact h), by decide +kernel⟩ (fun ok => ?_)
        refine Evo2.va ok 0 _ _ ?_
        refine Evo2.va ok 1 _ _ ?_
        refine Evo2.va ok 2 _ _ ?_
        first | (refine Evo2.vl ok 3 KC.out (Chg.refl (fun _ => False) _) _ _ ?_) | (refine Evo2.va ok 3 _ _ ?_)
        refine Evo2.va ok 4 _ _ ?_
        refine Evo2.va ok 5 _ _ ?_
        refine Evo2.va ok 6 _ _ ?_
        first | (refine Evo2.vl ok 7 KC.out (Chg.refl (fun _ => False) _) _ _ ?_) | (refine Evo2.va ok 7 _ _ ?_)
        refine Evo2.va ok 8 _ _ ?_
        refine Evo2.done (by decide +kernel) (fun wz gz => ?_)
        have AZ := Chg.trans (Chg.refl (fun _ => False) _) (Chg.grow gz)
        dsimp only [PostN] 
        (repeat apply Exists.intro) 
        exact ⟨rfl, Lib.hid (AZ.toGrow (fun _ _ => id))⟩
      ·
        rintro A W2 ⟨x17, x18, x19, x20, x21, x22, x23, x24, rfl, g2⟩
        have G2 := Lib.hid (G.out.trans g2.out)
        go_wp2_with fail
        go_roundw
        case rel => exact ⟨k + 1, by omega, by go_num, G2⟩
        case measure => simp [intOf]; omega
    · obtain rfl : k = l.length := by omega
      have d0 : decide ((l.length : Int) < (l.length : Int)) = false := decide_eq_false (by omega)
      go_wp2_with fail
      go_ret
      exact ⟨rfl, G.out⟩
/-- Rows of a call's own, whatever their values. -/
theorem ints8_own {u v : Value} {base base' : Nat} {l : List Int} {w : World} (hl : l.length ≤ 100000) (h1 : w.offRow base 3 1 u l.length (intsV l)) (h2 : w.offRow base' 3 1 v l.length (intsV l)) :
    Calls Try.prog 15 #[u, v] w fun e w' => e = .returned (.bool true) ∧ Grow.G w w' := by
  obtain ⟨a1, c1, rfl⟩ := h1.shape
  obtain ⟨a2, c2, rfl⟩ := h2.shape
  exact ints8_same a1 a2 c1 c2 l w hl (off_intR h1) (off_intR h2)
section
variable {w0 w : World} {L : List MBox} {A B : Hp} {g : Nat} {s s' : Ln} {er : Int} {bo : Bool} {tl : List Int}
theorem hold_lnew (h : Hold w0 w L A) (hA : Foot A) (c : Int) (hc : 0 ≤ c ∧ c ≤ 1000) : Calls Try.prog 11 #[.int .i64 c] w fun e w' => ∃ g, e = .returned (pz g) ∧ Hold w0 w' L (Sep (LnP g (Ln.new c)) A) := by
  refine (lnew_any c w hc).mono ?_
  rintro e w' ⟨rfl, h1, hg⟩
  exact ⟨_, rfl, h.beside hA hg h1 (fun k hk => by have hk : k = w.heap.size := hk; omega)⟩
theorem hold_lpush (h : Hold w0 w L (Sep (LnP g s) B)) (hB : Foot B) (x u : Int) (he : s.push x = er := by rfl) (hs : s.aftPush x u = s' := by rfl) : Calls Try.prog 18 #[pz g, .int .i64 x, .int .i64 u] w fun e w' => e = .returned (.int .i64 er) ∧ Hold w0 w' L (Sep (LnP g s') B) := by
  subst he hs
  exact h.call ((LnP.foot _ _).sep hB) (Sep.callL hB fun F hS => lpush_any g s x u w F hS)
theorem hold_lpop (h : Hold w0 w L (Sep (LnP g s) B)) (hB : Foot B) (he : s.pop = er := by rfl) (hb : s.popB = bo := by rfl) (hs : s.aftPop = s' := by rfl) : Calls Try.prog 13 #[pz g] w fun e w' => e = .returned (.tuple #[.int .i64 er, .bool bo]) ∧ Hold w0 w' L (Sep (LnP g s') B) := by
  subst he hb hs
  exact h.call ((LnP.foot _ _).sep hB) (Sep.callL hB fun F hS => lpop_any g s w F hS)
theorem hold_llen (h : Hold w0 w L (Sep (LnP g s) B)) (he : (s.l.length : Int) = er := by rfl) : Calls Try.prog 20 #[pz g] w fun e w' => e = .returned (.int .i64 er) ∧ Hold w0 w' L (Sep (LnP g s) B) := by
  subst he
  obtain ⟨F, ⟨F1, F2, ⟨m, hI, _⟩, _⟩, _⟩ := id h.st
  refine (llen_any g s m w hI).mono ?_
  rintro e w' ⟨rfl, rfl⟩
  exact ⟨rfl, h⟩
/-- What All tells: a row of its own. -/
theorem hold_lall (h : Hold w0 w L (Sep (LnP g s) B)) (hB : Foot B) (he : s.ids = tl := by rfl) : Calls Try.prog 22 #[pz g] w fun e w' => ∃ u, e = .returned u ∧ w'.offRow 0 3 1 u tl.length (intsV tl) ∧ Hold w0 w' L (Sep (LnP g s) B) := by
  subst he
  obtain ⟨F, ⟨F1, F2, ⟨m, hI, _⟩, _⟩, _⟩ := id h.st
  refine (lall_any g s m w hI).mono ?_
  rintro e w' ⟨u, rfl, ho, hg⟩
  exact ⟨u, rfl, (own_base ho (Nat.zero_le _)).off, h.grow ((LnP.foot _ _).sep hB) hg⟩
theorem LnIn.noRow {w : World} {g : Nat} {s : Ln} {z : Value} {base : Nat} {u : Value} {l : List Int} (h : LnIn w g s z) (ho : w.ownsRow base 3 1 u l.length (intsV l)) : ∀ k, LnF g z k → u.ownBlock ≠ some k := by
  rintro k (rfl | hk) e
  · exact own_blk_types ho h.hb (by decide) e
  · exact own_types h.ho ho (by decide) hk e
theorem hold_llate (h : Hold w0 w L (Sep (LnP g s) B)) (hB : Foot B) (n : Int) (he : s.late n = tl := by rfl) (hs : s.aftLate n = s' := by rfl) : Calls Try.prog 16 #[pz g, .int .i64 n] w fun e w' => ∃ u, e = .returned u ∧ Hold w0 w' L (Sep (LnP g s') (Sep (IntO u tl) B)) := by
  subst he hs
  refine (Hold.callE (R := fun u e _ => e = .returned u) (A' := fun u => Sep (Sep (LnP g (s.aftLate n)) (IntO u (s.late n))) B) h (Sep.callLE hB fun F hS => ?_)).mono ?_
  · obtain ⟨v, hI, he⟩ := hS
    refine (llate_any g s v n w hI).mono ?_
    rintro e w' ⟨u, z, rfl, ho, hI', hz, hc⟩
    have hg : F g := (he g).2 (.inl rfl)
    refine ⟨u, rfl, fun k => LnF g z k ∨ u.ownBlock = some k, ⟨LnF g z, fun k => u.ownBlock = some k, ⟨z, hI', fun k => Iff.rfl⟩, ⟨(own_base ho (Nat.zero_le _)).off, fun k => Iff.rfl⟩, fun k q1 q2 => hI'.noRow ho k q1 q2, fun k => Iff.rfl⟩, hc.sub (fun k e => by have e : k = g := e; rw [e]; exact hg), fun k hk => ?_⟩
    rcases hk with (rfl | hk) | hk
    · exact .inl hg
    · exact .inr (hz k hk)
    · exact .inr (ho.lt k hk).1
  · rintro e w' ⟨u, rfl, hh⟩
    exact ⟨u, rfl, hh.map fun F q => q.assoc⟩
/-! ### the second form's, behind another state -/
theorem hold_rlnew (h : Hold w0 w L (Sep A B)) (hA : Foot A) (hB : Foot B) (c : Int) (hc : 0 ≤ c ∧ c ≤ 1000) : Calls Try.prog 12 #[.int .i64 c] w fun e w' => ∃ g, e = .returned (pz g) ∧ Hold w0 w' L (Sep A (Sep (RlP g (Ln.new c)) B)) := by
  refine (rlnew_any c w hc).mono ?_
  rintro e w' ⟨rfl, h1, hg⟩
  exact ⟨_, rfl, h.beside2 hA hB hg h1 (fun k hk => by have hk : k = w.heap.size := hk; omega)⟩
theorem hold_rlpush (h : Hold w0 w L (Sep A (Sep (RlP g s) B))) (hA : Foot A) (hB : Foot B) (x u : Int) (he : s.push x = er := by rfl) (hs : s.aftPush x u = s' := by rfl) : Calls Try.prog 19 #[pz g, .int .i64 x, .int .i64 u] w fun e w' => e = .returned (.int .i64 er) ∧ Hold w0 w' L (Sep A (Sep (RlP g s') B)) := by
  subst he hs
  exact (h.rot.call ((RlP.foot _ _).sep (hA.sep hB)) (Sep.callL (hA.sep hB) fun F hS => rlpush_any g s x u w F hS)).mono fun e w' ⟨q1, q2⟩ => ⟨q1, q2.rot⟩
theorem hold_rlpop (h : Hold w0 w L (Sep A (Sep (RlP g s) B))) (hA : Foot A) (hB : Foot B) (he : s.pop = er := by rfl) (hb : s.popB = bo := by rfl) (hs : s.aftPop = s' := by rfl) : Calls Try.prog 14 #[pz g] w fun e w' => e = .returned (.tuple #[.int .i64 er, .bool bo]) ∧ Hold w0 w' L (Sep A (Sep (RlP g s') B)) := by
  subst he hb hs
  exact (h.rot.call ((RlP.foot _ _).sep (hA.sep hB)) (Sep.callL (hA.sep hB) fun F hS => rlpop_any g s w F hS)).mono fun e w' ⟨q1, q2⟩ => ⟨q1, q2.rot⟩
theorem hold_rllen (h : Hold w0 w L (Sep A (Sep (RlP g s) B))) (he : (s.l.length : Int) = er := by rfl) : Calls Try.prog 21 #[pz g] w fun e w' => e = .returned (.int .i64 er) ∧ Hold w0 w' L (Sep A (Sep (RlP g s) B)) := by
  subst he
  obtain ⟨F, ⟨F1, F2, ⟨m, hI, _⟩, _⟩, _⟩ := h.rot.st
  refine (rllen_any g s m w hI).mono ?_
  rintro e w' ⟨rfl, rfl⟩
  exact ⟨rfl, h⟩
theorem hold_rlall (h : Hold w0 w L (Sep A (Sep (RlP g s) B))) (hA : Foot A) (hB : Foot B) (he : s.ids = tl := by rfl) : Calls Try.prog 23 #[pz g] w fun e w' => ∃ u, e = .returned u ∧ w'.offRow 0 3 1 u tl.length (intsV tl) ∧ Grow.G w w' ∧ Hold w0 w' L (Sep A (Sep (RlP g s) B)) := by
  subst he
  obtain ⟨F, ⟨F1, F2, ⟨m, hI, _⟩, _⟩, _⟩ := h.rot.st
  refine (rlall_any g s m w hI).mono ?_
  rintro e w' ⟨u, rfl, ho, hg⟩
  exact ⟨u, rfl, (own_base ho (Nat.zero_le _)).off, hg, h.grow (hA.sep ((RlP.foot _ _).sep hB)) hg⟩
theorem RlIn.noRow {w : World} {g : Nat} {s : Ln} {z : Value} {base : Nat} {u : Value} {l : List Int} (h : RlIn w g s z) (ho : w.ownsRow base 3 1 u l.length (intsV l)) : ∀ k, LnF g z k → u.ownBlock ≠ some k := by
  rintro k (rfl | hk) e
  · exact own_blk_types ho h.hb (by decide) e
  · rcases h.ho.2 with ⟨q, _⟩ | ⟨b, off, cap, cur, hv, _, hh, _⟩
    · rw [q] at hk; cases hk
    · rw [hv] at hk
      have hk : b = k := Option.some.inj hk
      subst hk
      exact own_blk_types ho hh (by decide) e
theorem hold_rllate (h : Hold w0 w L (Sep A (Sep (RlP g s) B))) (hA : Foot A) (hB : Foot B) (n : Int) (he : s.late n = tl := by rfl) (hs : s.aftLate n = s' := by rfl) : Calls Try.prog 17 #[pz g, .int .i64 n] w fun e w' => ∃ u, e = .returned u ∧ Hold w0 w' L (Sep A (Sep (RlP g s') (Sep (IntO u tl) B))) := by
  subst he hs
  refine (Hold.callE (R := fun u e _ => e = .returned u) (A' := fun u => Sep (Sep (RlP g (s.aftLate n)) (IntO u (s.late n))) (Sep A B)) h.rot (Sep.callLE (hA.sep hB) fun F hS => ?_)).mono ?_
  · obtain ⟨v, hI, he⟩ := hS
    refine (rllate_any g s v n w hI).mono ?_
    rintro e w' ⟨u, z, rfl, ho, hI', hz, hc⟩
    have hg : F g := (he g).2 (.inl rfl)
    refine ⟨u, rfl, fun k => LnF g z k ∨ u.ownBlock = some k, ⟨LnF g z, fun k => u.ownBlock = some k, ⟨z, hI', fun k => Iff.rfl⟩, ⟨(own_base ho (Nat.zero_le _)).off, fun k => Iff.rfl⟩, fun k q1 q2 => hI'.noRow ho k q1 q2, fun k => Iff.rfl⟩, hc.sub (fun k e => by have e : k = g := e; rw [e]; exact hg), fun k hk => ?_⟩
    rcases hk with (rfl | hk) | hk
    · exact .inl hg
    · exact .inr (hz k hk)
    · exact .inr (ho.lt k hk).1
  · rintro e w' ⟨u, rfl, hh⟩
    have h1 : Hold w0 w' L (Sep (RlP g (s.aftLate n)) (Sep (IntO u (s.late n)) (Sep A B))) := hh.map fun F q => q.assoc
    have h2 : Hold w0 w' L (Sep (RlP g (s.aftLate n)) (Sep A (Sep (IntO u (s.late n)) B))) := h1.map fun F q => q.under fun F q => q.rot
    exact ⟨u, rfl, h2.rot⟩
/-- What was told by both is the same. -/
theorem told8_same {A B C : Hp} {u v : Value} {l : List Int} (h : Hold w0 w L (Sep A (Sep B (Sep (IntO u l) (Sep (IntO v l) C))))) (hl : l.length ≤ 100000) (hA : Foot A) (hB : Foot B) (hC : Foot C) :
    Calls Try.prog 15 #[v, u] w fun e w' => e = .returned (.bool true) ∧ Hold w0 w' L (Sep A (Sep B C)) := by
  obtain ⟨F, ⟨F1, F2, a, ⟨F3, F4, b, ⟨F5, F6, hu, ⟨F7, F8, hv, c, _⟩, _⟩, _⟩, _⟩, _⟩ := id h.st
  refine (ints8_own hl hv.1 hu.1).mono ?_
  rintro e w' ⟨rfl, hg⟩
  have h2 : Hold w0 w L (Sep A (Sep B C)) := h.weak fun F q => q.weakR fun F q => q.weakR fun F q => q.dropL2
  exact ⟨rfl, h2.grow (hA.sep (hB.sep hC)) hg⟩
end
set_option maxHeartbeats 1000000 in
theorem known8_any (w : World) : Calls Try.prog 9 #[] w fun e w' => e = .returned (.bool true) ∧ Below w.heap.size w w' := by
  go_enter Try.func9, Try.ntmps9
  go_wp2_with fail
  refine (hold_lnew (Hold.nil w) Emp.foot 1 (by decide)).mono ?_
  rintro e w1 ⟨g, rfl, hst⟩
  have H := Lib.hid hst
  clear hst
  go_wp2_with fail
  refine (hold_lpop (er := 0) (bo := false) (s' := Ln.new 1) H.out Emp.foot).mono ?_
  rintro e ws1 ⟨rfl, hst⟩
  replace H := Lib.hid hst
  clear hst
  go_wp2_with fail
  refine (hold_lpush (er := 0) (s' := ⟨1, [(3, 9)]⟩) H.out Emp.foot 3 9).mono ?_
  rintro e ws2 ⟨rfl, hst⟩
  replace H := Lib.hid hst
  clear hst
  go_wp2_with fail
  refine (hold_llen (er := 1) H.out).mono ?_
  rintro e ws3 ⟨rfl, hst⟩
  replace H := Lib.hid hst
  clear hst
  go_wp2_with fail
  refine (hold_lpush (er := 8) (s' := ⟨1, [(3, 9)]⟩) H.out Emp.foot 4 9).mono ?_
  rintro e ws4 ⟨rfl, hst⟩
  replace H := Lib.hid hst
  clear hst
  go_wp2_with fail
  go_ret
  exact ⟨rfl, H.out.below⟩

theorem ln_ids_le {w0 w : World} {L : List MBox} {B : Hp} {g : Nat} {s : Ln} (h : Hold w0 w L (Sep (LnP g s) B)) : s.ids.length ≤ 1000 ∧ s.l.length ≤ 1000 := by
  obtain ⟨F, ⟨F1, F2, ⟨m, hI, _⟩, _⟩, _⟩ := id h.st
  have := hI.ok.l
  rw [Ln.ids_len]
  exact ⟨this, this⟩
theorem late_twice (s : Ln) (n : Int) : (s.aftLate n).late n = [] ∧ (s.aftLate n).aftLate n = s.aftLate n := by
  unfold Ln.late Ln.aftLate Ln.overL Ln.leftL
  dsimp only
  constructor
  · rw [List.map_eq_nil_iff, List.filter_eq_nil_iff]
    intro p hp
    have := (List.mem_filter.1 hp).2
    simpa using this
  · rw [List.filter_filter]
    congr 1
    refine List.filter_congr fun p _ => ?_
    simp
section
variable {w0 w w' : World} {L : List MBox} {A B : Hp} {v v' : Value} {l : List Int} {x : Int}
/-- One number more. -/
theorem hold_app8 (h : Hold w0 w L (Sep A (Sep (IntO v l) B))) (hA : Foot A) (hB : Foot B) {l' : List Int} (hl : l' = l ++ [x]) (ho : w'.offRow 0 3 1 v' (l.length + 1) (intsV l ++ [.int .i64 x])) (f : Fr.Fr w w' v v') : Hold w0 w' L (Sep A (Sep (IntO v' l') B)) := by
  subst hl
  refine (h.rot.step (Sep.stepL (hA.sep hB) fun F ⟨hv, e⟩ => ?_)).rot
  refine ⟨fun k => v'.ownBlock = some k, ⟨?_, fun k => Iff.rfl⟩, (Chg.ofFr f).sub (fun k hk => (e k).2 hk), fun k hk => ?_⟩
  · show World.offRow _ _ _ _ _ (l ++ [x]).length (List.map _ (l ++ [x]))
    rw [List.length_append, List.length_singleton, List.map_append]
    exact ho
  · rcases f.o with q | ⟨g, q, hg⟩
    · exact .inl ((e k).2 (q ▸ hk))
    · have e2 : g = k := Option.some.inj (q.symm.trans hk)
      exact .inr (by omega)
theorem hold_tail8 {q off off' n c : Nat} (h : Hold w0 w L (Sep A (Sep (IntO (.slice (some ⟨q, off, none⟩) n c) l) B))) (hn : n = l.length) (h1 : 1 ≤ n) (ho : off' = off + 1 ∨ (c = 1 ∧ off' ≤ off)) : Hold w0 w L (Sep A (Sep (IntO (.slice (some ⟨q, off', none⟩) (n - 1) (c - 1)) (l.drop 1)) B)) := by
  subst hn
  refine h.map fun F q => q.under fun F q => q.over fun F ⟨hv, e⟩ => ⟨?_, e⟩
  have := hv.tail h1 ho
  rw [List.length_drop]
  show World.offRow _ _ _ _ _ _ (List.map _ (l.drop 1))
  rw [List.map_drop]
  exact this
/-- How the row reads. -/
theorem hold_reads8 (h : Hold w0 w L (Sep A (Sep (IntO v l) B))) : w.offRow 0 3 1 v l.length (intsV l) := by
  obtain ⟨F, ⟨F1, F2, _, ⟨F3, F4, ho, _⟩, _⟩, _⟩ := h.st
  exact ho.1
end
end Go.Proofs.Ytlnffdkaleapbaa
