/- My own texts Tab6, Tab7, laid in one file. -/
import Derived.Test.YtbagjeefoifpeaaDoorZ40
import Derived.Test.YtbagjeefoifpeaaDoorZ37
import Derived.Test.YtbagjeefoifpeaaDoorZ29

/- What table's rows yields. -/
namespace Go.Proofs.YtbagjeefoifpeaaDoor
set_option maxRecDepth 100000
set_option linter.unusedVariables false
set_option linter.unusedSimpArgs false
set_option linter.unnecessarySimpa false
open Go.RowKit Go.Args
attribute [local go_sem] Oper.semAt_some

structure R3 where
  x : ByteArray
  y : ByteArray
  z : ByteArray
def R3.cells (r : R3) : List Value := [.string r.x, .string r.y, .string r.z]
def R3.v (r : R3) : Value := .agg #[.string r.x, .string r.y, .string r.z]
def rowS (s : Shr) : R3 := ⟨s.rev, ⟨#[58]⟩, digS s.w.toNat⟩
def rowT (t : Tgo) : R3 := ⟨t.tag, ⟨#[61]⟩, t.rev⟩
def rowsL (l : List Shr) (m : List Tgo) : List R3 := l.map rowS ++ m.map rowT
def IsTab (k : Nat) : Prop := Tryd.prog.globalNamed "internal/strconv.uint64pow10" = some k
theorem Tab.keep {A B : World} (h : Tab A) (k : ∀ g, IsTab g → B.heap[g]? = A.heap[g]?) : Tab B := by
  unfold Tab Lib.TabIs World.var? at *
  unfold IsTab at k
  cases hg : Tryd.prog.globalNamed "internal/strconv.uint64pow10" with
  | none => rw [hg] at h; simp at h
  | some g =>
    rw [hg] at h
    simp only [Option.bind_some] at h ⊢
    rw [k g hg]; exact h
theorem Tab.lt {w : World} (h : Tab w) {g : Nat} (hg : IsTab g) : g < w.heap.size := by
  unfold Tab Lib.TabIs World.var? at h
  unfold IsTab at hg
  rw [hg] at h
  simp only [Option.bind_some] at h
  rcases Nat.lt_or_ge g w.heap.size with h' | h'
  · exact h'
  · rw [Array.getElem?_eq_none h'] at h; simp at h
/-- The blocks that rows reads. -/
def RP (l : List Shr) (a : Option Addr) (m : List Tgo) (a' : Option Addr) (bb : Nat) (k : Nat) : Prop := Iter.blkOf l a k ∨ Iter.blkOf m a' k ∨ k = bb ∨ IsTab k
structure RowI (l : List Shr) (a : Option Addr) (c : Nat) (m : List Tgo) (a' : Option Addr) (c' : Nat) (bb : Nat) (W : World) : Prop where
  sh : ShSl W a l
  tg : TgSl W a' m
  bx : Blk W bb #[.slice a l.length c, .slice a' m.length c'] 25
  tab : Tab W
section
variable {l : List Shr} {a : Option Addr} {c : Nat} {m : List Tgo} {a' : Option Addr} {c' : Nat} {bb : Nat} {A B : World}
theorem RowI.keep (h : RowI l a c m a' c' bb A) (k : Iter.KeepP (RP l a m a' bb) A B) : RowI l a c m a' c' bb B :=
  ⟨k.slOf h.sh (fun _ h => .inl h), k.slOf h.tg (fun _ h => .inr (.inl h)), k.blk h.bx (.inr (.inr (.inl rfl))), h.tab.keep fun g hg => k.2 g (.inr (.inr (.inr hg))) (h.tab.lt hg)⟩
theorem RowI.grow (h : RowI l a c m a' c' bb A) (g : Grow.G A B) : RowI l a c m a' c' bb B := h.keep (Iter.KeepP.grow g)
theorem RowI.lt (h : RowI l a c m a' c' bb A) {k : Nat} (hk : RP l a m a' bb k) : k < A.heap.size := by
  rcases hk with q | q | rfl | q
  · exact q.lt h.sh (fun x => by simp [Shr.cells])
  · exact q.lt h.tg (fun x => by simp [Tgo.cells])
  · exact h.bx.lt
  · exact h.tab.lt q
end
theorem rows_new (a : Option Addr) (n c : Nat) (a' : Option Addr) (n' c' : Nat) (w : World) : Calls Tryd.prog 37 #[tabV a n c a' n' c'] w fun e w' => e = .returned (.func (.func 48) #[] #[.pointer (some ⟨w.heap.size, 0, none⟩)]) ∧ w' = w.alloc (.cells #[.slice a n c, .slice a' n' c'] 25) := by
  unfold tabV
  go_enter Tryd.func37, Tryd.ntmps37
  go_wp2
  go_ret
  exact ⟨rfl, rfl⟩
def RowOk (l : List Shr) (m : List Tgo) (pre : List R3) (x : R3) (W : World) : Prop := (rowsL l m)[pre.length]? = some x
theorem rowsL_sh {l : List Shr} {m : List Tgo} {k : Nat} {s : Shr} (h : l[k]? = some s) : (rowsL l m)[k]? = some (rowS s) := by
  unfold rowsL
  rw [List.getElem?_append_left (by simpa using (List.getElem?_eq_some_iff.1 h).1), List.getElem?_map, h]; rfl
theorem rowsL_tg {l : List Shr} {m : List Tgo} {k : Nat} {s : Tgo} (h : m[k]? = some s) : (rowsL l m)[l.length + k]? = some (rowT s) := by
  unfold rowsL
  rw [List.getElem?_append_right (by simp), List.length_map, Nat.add_sub_cancel_left, List.getElem?_map, h]; rfl
theorem rowsL_len (l : List Shr) (m : List Tgo) : (rowsL l m).length = l.length + m.length := by simp [rowsL]
set_option maxHeartbeats 4000000 in
theorem rows_seq (bb : Nat) (a : Option Addr) (c : Nat) (l : List Shr) (a' : Option Addr) (c' : Nat) (m : List Tgo) (w : World) (h : RowI l a c m a' c' bb w) (hsm : Small l) (hm : m.length ≤ 1000) :
    Iter.Seq Tryd.prog 48 #[.pointer (some ⟨bb, 0, none⟩)] (fun (x : R3) => #[x.v]) (RowOk l m) (Iter.KeepP (RP l a m a' bb)) (fun xs => xs.length = l.length + m.length) w := by
  intro ln J Jx W hG hJ hJx hY h0
  have HI0 := Lib.hid (h.grow hG)
  have b0 := Blk.at (cs := [Value.slice a l.length c, Value.slice a' m.length c']) (k := 0) HI0.out.bx rfl
  have HJ := Lib.hid hJ
  have HY := Lib.hid hY
  have H0 := Lib.hid h0
  have HM := Lib.hid hsm
  have hll := hsm.1
  clear h hG hJ hJx hY h0 hsm
  refine (callsIn_wide (n := 0)).1 ?_
  refine callsIn_of_wp Tryd.func48 rfl trivial ?_
  simp only [Tryd.ntmps48, List.size_toArray, List.length_cons, List.length_nil, Nat.reduceAdd, Nat.reduceSub, Array.replicate_succ, Array.replicate_zero, List.push_toArray, List.append_toArray, List.nil_append, List.cons_append]
  gi_wp2_with fail
  clear b0
  gi_loopw [10] (fun i wr => ∃ (pre : List R3) (k : Nat), k ≤ l.length ∧ i = .int .i64 k ∧ Hid (pre.length = k ∧ RowI l a c m a' c' bb wr ∧ J pre wr)) (fun i _ => l.length - (intOf i).toNat)
  case atStart => exact ⟨[], 0, by omega, rfl, Lib.hid ⟨rfl, HI0.out, H0.out⟩⟩
  case round =>
    obtain ⟨pre, k, hk, rfl, HI⟩ := hrel
    by_cases hlt : k < l.length
    · obtain ⟨s, hs⟩ : ∃ s, l[k]? = some s := ⟨_, List.getElem?_eq_getElem hlt⟩
      obtain ⟨hpl, hri, hj⟩ := HI.out
      obtain ⟨b, off, rfl, hc⟩ := hri.sh.at hs
      obtain ⟨c0, c1⟩ := hc _ (Grow.G.refl _)
      have hsm := HM.out.2 s (List.mem_of_getElem? hs)
      have hok := rowsL_sh (m := m) hs
      obtain ⟨rv, n⟩ := s
      unfold rowS at hok
      dsimp only at *
      have IT := Lib.hid (fun w h => itoa_a n w (by omega) (by omega) h)
      have hk1 : IntKind.i64.wrap ((k : Int) + 1) = (k : Int) + 1 := IntWalk.i64_in _ ⟨by omega, by omega⟩
      have d0 : decide ((k : Int) < (l.length : Int)) = true := decide_eq_true (by omega)
      have g1 := Grow.G.alloc (Grow.G.refl wr) (.cells #[.string rv, .int .i64 n] 32)
      have HN := Lib.hid (And.intro hpl (And.intro (hri.grow g1) (And.intro (HJ.out _ _ _ hj g1) hok)))
      have B1 := Blk.new wr #[.string rv, .int .i64 n] 32
      clear hpl hri hj HI hc hs g1 hsm hok
      gi_wp2_with fail
      obtain ⟨W1, hW1⟩ : ∃ W1, W1 = wr.alloc (.cells #[.string rv, .int .i64 n] 32) := ⟨_, rfl⟩
      rw [← hW1] at HN B1 ⊢
      have KC := Lib.hid (fun (w' : World) (h : Chg (fun _ => False) W1 w') => (⟨h.cell (Blk.at (cs := [Value.string rv, .int .i64 n]) (k := 0) B1 rfl) id, h.cell (Blk.at (cs := [Value.string rv, .int .i64 n]) (k := 1) B1 rfl) id, trivial⟩ : w'.cell? ⟨wr.heap.size, 0, none⟩ = some (.string rv) ∧ w'.cell? ⟨wr.heap.size, 1, none⟩ = some (.int .i64 n) ∧ True))
      clear B1 hW1 c0 c1
      refine Tail.regionL 7 (ℓ := none) (S := Chg (fun _ => False)) (E := Grow.G) (by kernel_rfl) (by decide +kernel) (by decide +kernel) ⟨Chg.pre _, by decide +kernel, (by intro c a d v w h; cases d <;> exact h), by decide +kernel⟩ (fun ok => ?_)
      simp only [List.take_succ_cons, List.take_zero] at ok ⊢
      refine Evo2.va ok 0 _ _ ?_
      refine Evo2.va ok 1 _ _ ?_
      first | (refine Evo2.vl ok 2 KC.out (Chg.refl (fun _ => False) _) _ _ ?_) | (refine Evo2.va ok 2 _ _ ?_)
      refine Evo2.va ok 3 _ _ ?_
      first | (refine Evo2.vl ok 4 KC.out (Chg.refl (fun _ => False) _) _ _ ?_) | (refine Evo2.va ok 4 _ _ ?_)
      (refine Evo2.cal ok 5 ?_ 49 ?_ ?_ ?_ ?_; rotate_left 2; (focus (intro w'; go_simp <;> with_reducible rfl)); (focus (intro w' g'; with_reducible exact IT.out w' (HN.out.2.1.tab.below (g0 (Chg.trans (Chg.refl (fun _ => False) _) g'))))); simp only [Act.put, L0, L1, L2])
      refine Evo2.va ok 6 _ _ ?_
      refine Evo2.done (by decide +kernel) (fun wz gz => ?_)
      have AZ := Chg.trans (Chg.refl (fun _ => False) _) (Chg.grow gz)
      have GZ := g0 AZ
      obtain ⟨fn, tmps, assign, body, hy, hR⟩ := HY.out pre ⟨rv, ⟨#[58]⟩, digS n.toNat⟩ _ (HJ.out _ _ _ HN.out.2.2.1 GZ) (by unfold RowOk; rw [HN.out.1]; exact HN.out.2.2.2)
      have HN2 := Lib.hid (And.intro HN.out.1 (HN.out.2.1.grow GZ))
      unfold R3.v at hy
      dsimp only at hy
      clear GZ AZ gz ok KC HN IT
      generalize digS n.toNat = dg at *
      dsimp only [Round.Calm, Tail.next]
      simp only [List.drop_succ_cons, List.drop_zero]
      gi_wp2_with fail
      refine ⟨rfl, hR.mono ?_⟩
      rintro e w3 (⟨rfl, hj3, hk3⟩ | ⟨rfl, hx3⟩)
      · have HK := Lib.hid (And.intro hj3 hk3)
        clear hj3 hk3 hR hy
        gi_wp2_with fail
        go_roundw
        case rel => exact ⟨pre ++ [_], k + 1, by omega, by go_num, Lib.hid ⟨by rw [List.length_append, HN2.out.1]; rfl, HN2.out.2.keep HK.out.2, HK.out.1⟩⟩
        case measure => simp [intOf]; omega
      · have HX := Lib.hid hx3
        clear hx3 hR hy
        gi_wp2_with fail
        refine bodyPost_ret (results_none rfl _ _ _) rfl ?_
        exact ⟨⟨_, rfl⟩, .inr ⟨_, HX.out⟩⟩
    · have d0 : decide ((k : Int) < (l.length : Int)) = false := decide_eq_false (by omega)
      obtain ⟨hpl, hri, hj⟩ := HI.out
      have b1 := Blk.at (cs := [Value.slice a l.length c, Value.slice a' m.length c']) (k := 1) hri.bx rfl
      have HN := Lib.hid (And.intro (show pre.length = l.length by omega) (And.intro hri hj))
      have d1 : decide (k < l.length) = false := decide_eq_false hlt
      clear hpl hri hj HI hk hlt
      gi_wp2_with fail
      clear b1
      gi_loopw [27] (fun i wr => ∃ (pre : List R3) (k : Nat), k ≤ m.length ∧ i = .int .i64 k ∧ Hid (pre.length = l.length + k ∧ RowI l a c m a' c' bb wr ∧ J pre wr)) (fun i _ => m.length - (intOf i).toNat)
      case atStart => exact ⟨pre, 0, by omega, rfl, Lib.hid ⟨HN.out.1, HN.out.2.1, HN.out.2.2⟩⟩
      case round =>
        clear HN
        obtain ⟨pre, k, hk, rfl, HI⟩ := hrel
        by_cases hlt : k < m.length
        · obtain ⟨s, hs⟩ : ∃ s, m[k]? = some s := ⟨_, List.getElem?_eq_getElem hlt⟩
          obtain ⟨hpl, hri, hj⟩ := HI.out
          obtain ⟨b, off, rfl, hc⟩ := hri.tg.at hs
          obtain ⟨c0, c1⟩ := hc _ (Grow.G.refl _)
          have hok := rowsL_tg (l := l) hs
          obtain ⟨tg, rv⟩ := s
          unfold rowT at hok
          dsimp only at *
          have hk1 : IntKind.i64.wrap ((k : Int) + 1) = (k : Int) + 1 := IntWalk.i64_in _ ⟨by omega, by omega⟩
          have d0 : decide ((k : Int) < (m.length : Int)) = true := decide_eq_true (by omega)
          have g1 := Grow.G.alloc (Grow.G.refl wr) (.cells #[.string tg, .string rv] 35)
          obtain ⟨fn, tmps, assign, body, hy, hR⟩ := HY.out pre ⟨tg, ⟨#[61]⟩, rv⟩ _ (HJ.out _ _ _ hj g1) (by unfold RowOk; rw [hpl]; exact hok)
          unfold R3.v at hy
          dsimp only at hy
          have HN := Lib.hid (And.intro hpl (hri.grow g1))
          clear hpl hri hj HI hc hs g1 hok
          gi_wp2_with fail
          refine ⟨rfl, hR.mono ?_⟩
          rintro e w3 (⟨rfl, hj3, hk3⟩ | ⟨rfl, hx3⟩)
          · have HK := Lib.hid (And.intro hj3 hk3)
            clear hj3 hk3 hR hy
            gi_wp2_with fail
            go_roundw
            case rel => exact ⟨pre ++ [_], k + 1, by omega, by go_num, Lib.hid ⟨by rw [List.length_append, HN.out.1]; rfl, HN.out.2.keep HK.out.2, HK.out.1⟩⟩
            case measure => simp [intOf]; omega
          · have HX := Lib.hid hx3
            clear hx3 hR hy
            gi_wp2_with fail
            refine bodyPost_ret (results_none rfl _ _ _) rfl ?_
            exact ⟨⟨_, rfl⟩, .inr ⟨_, HX.out⟩⟩
        · have d0 : decide ((k : Int) < (m.length : Int)) = false := decide_eq_false (by omega)
          obtain ⟨hpl, hri, hj⟩ := HI.out
          have HN := Lib.hid (And.intro hj (show pre.length = l.length + m.length by omega))
          clear hpl hri hj HI
          gi_wp2_with fail
          go_end0
          exact ⟨⟨_, rfl⟩, .inl ⟨pre, HN.out.2, HN.out.1⟩⟩

theorem RowOk.book {l : List Shr} {m : List Tgo} {pre : List R3} {x : R3} {A B : World} {n : Nat} (h : RowOk l m pre x A) (b : Iter.Book n A B) : RowOk l m pre x B := h
end Go.Proofs.YtbagjeefoifpeaaDoor
