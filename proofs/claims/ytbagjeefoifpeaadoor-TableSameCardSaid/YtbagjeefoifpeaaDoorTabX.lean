
/- Made tables are the same where their texts are: plainly. -/
import Derived.Test.YtbagjeefoifpeaaDoorTablePicks
namespace Go.Proofs.YtbagjeefoifpeaaDoor
set_option maxRecDepth 100000
set_option linter.unusedVariables false
set_option linter.unusedSimpArgs false
set_option linter.unnecessarySimpa false
open Go.RowKit Go.Args

/-- Where a text is parted by its first sign that is not P. -/
theorem part_eq {P : UInt8 → Bool} {x y s t : List UInt8} (hx : ∀ c, c ∈ x → P c = true) (hy : ∀ c, c ∈ y → P c = true) (hs : ∀ c, s.head? = some c → P c = false) (ht : ∀ c, t.head? = some c → P c = false) (h : x ++ s = y ++ t) : x = y ∧ s = t := by
  induction x generalizing y with
  | nil =>
    cases y with
    | nil => exact ⟨rfl, h⟩
    | cons c y =>
      simp only [List.nil_append, List.cons_append] at h
      have := hs c (by rw [h]; rfl)
      rw [hy c (by simp)] at this; cases this
  | cons a x ih =>
    cases y with
    | nil =>
      simp only [List.nil_append, List.cons_append] at h
      have := ht a (by rw [← h]; rfl)
      rw [hx a (by simp)] at this; cases this
    | cons c y =>
      simp only [List.cons_append, List.cons.injEq] at h
      obtain ⟨e1, e2⟩ := ih (fun c hc => hx c (by simp [hc])) (fun c hc => hy c (by simp [hc])) h.2
      exact ⟨by rw [h.1, e1], e2⟩
def noB (c : UInt8) : Bool := c != 32
def noS (c : UInt8) : Bool := c != 58 && c != 61
theorem tail_head (xs : List (List UInt8)) : ∀ c, (Lib.joinTail [32] xs).head? = some c → noB c = false := by
  intro c h
  cases xs with
  | nil => simp [Lib.joinTail] at h
  | cons x r =>
    simp only [Lib.joinTail, List.map_cons, List.flatten_cons, List.cons_append, List.nil_append, List.head?_cons, Option.some.injEq] at h
    subst h; rfl
theorem tail_inj : ∀ (xs ys : List (List UInt8)), (∀ x, x ∈ xs → ∀ c, c ∈ x → noB c = true) → (∀ x, x ∈ ys → ∀ c, c ∈ x → noB c = true) → Lib.joinTail [32] xs = Lib.joinTail [32] ys → xs = ys
  | [], [], _, _, _ => rfl
  | [], y :: q, _, _, h => by simp [Lib.joinTail] at h
  | x :: r, [], _, _, h => by simp [Lib.joinTail] at h
  | x :: r, y :: q, h1, h2, h => by
    simp only [Lib.joinTail, List.map_cons, List.flatten_cons, List.cons_append, List.nil_append, List.cons.injEq, true_and] at h
    obtain ⟨e1, e2⟩ := part_eq (h1 x (by simp)) (h2 y (by simp)) (tail_head r) (tail_head q) h
    rw [e1, tail_inj r q (fun x hx => h1 x (by simp [hx])) (fun x hx => h2 x (by simp [hx])) e2]
theorem join_inj {xs ys : List (List UInt8)} (hx : xs ≠ []) (hy : ys ≠ []) (h1 : ∀ x, x ∈ xs → ∀ c, c ∈ x → noB c = true) (h2 : ∀ x, x ∈ ys → ∀ c, c ∈ x → noB c = true) (h : Lib.join xs [32] = Lib.join ys [32]) : xs = ys := by
  cases xs with
  | nil => exact (hx rfl).elim
  | cons x r =>
    cases ys with
    | nil => exact (hy rfl).elim
    | cons y q =>
      rw [Lib.join_cons, Lib.join_cons] at h
      obtain ⟨e1, e2⟩ := part_eq (h1 x (by simp)) (h2 y (by simp)) (tail_head r) (tail_head q) h
      rw [e1, tail_inj r q (fun x hx => h1 x (by simp [hx])) (fun x hx => h2 x (by simp [hx])) e2]
/-- A row that its text tells. -/
structure R3.clean (r : R3) : Prop where
  x : ∀ c, c ∈ r.x.data.toList → noB c = true ∧ noS c = true
  y : ∃ c, r.y = ⟨#[c]⟩ ∧ noB c = true ∧ noS c = false
  z : ∀ c, c ∈ r.z.data.toList → noB c = true
theorem R3.t_noB {r : R3} (h : r.clean) : ∀ c, c ∈ r.t.data.toList → noB c = true := by
  intro c hc
  rw [R3.t_list, List.mem_append, List.mem_append] at hc
  rcases hc with hc | hc | hc
  · exact (h.x c hc).1
  · obtain ⟨d, hy, h1, h2⟩ := h.y
    rw [hy] at hc
    simp at hc
    subst hc; exact h1
  · exact h.z c hc
theorem R3.t_inj {r s : R3} (hr : r.clean) (hs : s.clean) (h : r.t = s.t) : r = s := by
  have e : r.t.data.toList = s.t.data.toList := congrArg (fun b : ByteArray => b.data.toList) h
  rw [R3.t_list, R3.t_list] at e
  obtain ⟨c, hc, _, c2⟩ := hr.y
  obtain ⟨d, hd, _, d2⟩ := hs.y
  obtain ⟨x, y, z⟩ := r
  obtain ⟨x', y', z'⟩ := s
  dsimp only at *
  subst hc hd
  obtain ⟨e1, e2⟩ := part_eq (P := noS) (fun c hc => (hr.x c hc).2) (fun c hc => (hs.x c hc).2) (fun q hq => by simp at hq; subst hq; exact c2) (fun q hq => by simp at hq; subst hq; exact d2) e
  simp only [List.cons_append, List.nil_append, List.cons.injEq] at e2
  have ex : x = x' := ByteArray.ext (Array.toList_inj.1 e1)
  have ez : z = z' := ByteArray.ext (Array.toList_inj.1 e2.2)
  rw [ex, e2.1, ez]
theorem rev_clean : ∀ i : Fin 6, ∀ c, c ∈ (revK i).data.toList → noB c = true ∧ noS c = true := by decide +kernel
theorem tag_clean : ∀ i : Fin 4, ∀ c, c ∈ (tagK i).data.toList → noB c = true ∧ noS c = true := by decide +kernel
theorem dig_noB (n : Nat) (h : 1 ≤ n) : ∀ c, c ∈ (digS n).data.toList → noB c = true := by
  intro c hc
  rw [digS_list] at hc
  have h1 := (dec_num n h).1.2.2 c hc
  unfold noB
  rw [bne_iff_ne]
  intro e
  subst e
  unfold dgU at h1
  revert h1; decide
theorem mk_clean (zs ms : List Int) : ∀ r, r ∈ rowsL (mkS zs) (mkT ms) → r.clean := by
  intro r hr
  unfold rowsL at hr
  rw [List.mem_append, List.mem_map, List.mem_map] at hr
  rcases hr with ⟨s, hs, rfl⟩ | ⟨s, hs, rfl⟩
  · obtain ⟨i, h1, h2, h3, h4⟩ := mkS_rev hs
    refine ⟨?_, ⟨58, rfl, rfl, rfl⟩, dig_noB _ (by omega)⟩
    show ∀ c, c ∈ s.rev.data.toList → _
    rw [h2]; exact rev_clean ⟨i, h1⟩
  · obtain ⟨i, j, h1, h2, h3, h4⟩ := mkT_mem hs
    refine ⟨?_, ⟨61, rfl, rfl, rfl⟩, ?_⟩
    · show ∀ c, c ∈ s.tag.data.toList → _
      rw [h3]; exact tag_clean ⟨i, h1⟩
    · show ∀ c, c ∈ s.rev.data.toList → _
      rw [h4]; exact fun c hc => (rev_clean ⟨j, h2⟩ c hc).1
theorem t_map_inj : ∀ (a b : List R3), (∀ r, r ∈ a → r.clean) → (∀ r, r ∈ b → r.clean) → a.map ((fun x : ByteArray => x.data.toList) ∘ R3.t) = b.map ((fun x : ByteArray => x.data.toList) ∘ R3.t) → a = b
  | [], [], _, _, _ => rfl
  | [], y :: q, _, _, h => by simp at h
  | x :: r, [], _, _, h => by simp at h
  | x :: r, y :: q, c1, c2, h => by
    rw [List.map_cons, List.map_cons, List.cons.injEq] at h
    have ex : x.t = y.t := ByteArray.ext (Array.toList_inj.1 h.1)
    rw [R3.t_inj (c1 x (by simp)) (c2 y (by simp)) ex, t_map_inj r q (fun s hs => c1 s (by simp [hs])) (fun s hs => c2 s (by simp [hs])) h.2]
theorem text_inj {zs ms os ps : List Int} (h : textB (mkS zs) (mkT ms) = textB (mkS os) (mkT ps)) : rowsL (mkS zs) (mkT ms) = rowsL (mkS os) (mkT ps) := by
  have ne : ∀ zs ms, (wordsL (mkS zs) (mkT ms)).map (·.data.toList) ≠ [] := by
    intro zs ms e
    have := congrArg List.length e
    unfold wordsL at this
    rw [List.length_map, List.length_map, rowsL_len] at this
    simp only [List.length_nil] at this
    have := mkS_pos zs
    omega
  have cl : ∀ zs ms x, x ∈ (wordsL (mkS zs) (mkT ms)).map (·.data.toList) → ∀ c, c ∈ x → noB c = true := by
    intro zs ms x hx
    unfold wordsL at hx
    rw [List.map_map, List.mem_map] at hx
    obtain ⟨r, hr, rfl⟩ := hx
    exact R3.t_noB (mk_clean zs ms r hr)
  have e := congrArg (fun b : ByteArray => b.data.toList) h
  have e2 := join_inj (ne zs ms) (ne os ps) (cl zs ms) (cl os ps) e
  unfold wordsL at e2
  rw [List.map_map, List.map_map] at e2
  exact t_map_inj _ _ (mk_clean zs ms) (mk_clean os ps) e2
theorem same_text (zs ms os ps : List Int) : tabSame (mkS zs) (mkT ms) (mkS os) (mkT ps) = ((textB (mkS zs) (mkT ms)).toList == (textB (mkS os) (mkT ps)).toList) := by
  rw [Bool.eq_iff_iff, tabSame_iff, eqS_iff]
  exact ⟨fun h => by unfold textB wordsL; rw [h], text_inj⟩
theorem tabSame_comm (l : List Shr) (m : List Tgo) (l2 : List Shr) (m2 : List Tgo) : tabSame l m l2 m2 = tabSame l2 m2 l m := by
  rw [Bool.eq_iff_iff, tabSame_iff, tabSame_iff]
  exact ⟨Eq.symm, Eq.symm⟩
theorem tabSame_more (l : List Shr) (m : List Tgo) (z : Tgo) : tabSame l m l (m ++ [z]) = false := by
  rw [← Bool.not_eq_true]
  intro e
  rw [tabSame_iff] at e
  have := congrArg List.length e
  rw [rowsL_len, rowsL_len, List.length_append] at this
  simp at this
end Go.Proofs.YtbagjeefoifpeaaDoor
