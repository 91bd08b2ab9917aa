/- My own texts BkP, BkQ, BkW, laid in one file. -/
import Derived.Test.YtjcdmnogmpjkkaaDoorZ51
import Derived.Test.YtjcdmnogmpjkkaaDoorZ4
import Derived.Test.YtjcdmnogmpjkkaaDoorZ1

/- Books of revisions: plain. -/
namespace Go.Proofs.YtjcdmnogmpjkkaaDoor
set_option maxRecDepth 100000
set_option linter.unusedVariables false
set_option linter.unusedSimpArgs false
open Go.RowKit

structure Rv where
  nm : ByteArray
  gn : Int
  c : Cfg
  pr : Bool
def Rv.cells (r : Rv) : List Value := [.string r.nm, .int .i64 r.gn, .string r.c.nm, .int .i64 r.c.im, .int .i64 r.c.co, .int .i64 r.c.mn, .int .i64 r.c.mx, .int .i64 r.c.gr]
def Rv.proved (r : Rv) : Rv := ⟨r.nm, r.gn, r.c, true⟩
def rvZ : Rv := ⟨⟨#[]⟩, 0, ⟨⟨#[]⟩, 0, 0, 0, 0, 0⟩, false⟩
def findK (l : List Rv) (s : ByteArray) : Option Rv := l.find? fun r => decide (r.nm = s)
def hasK (l : List Rv) (s : ByteArray) : Bool := (findK l s).isSome
def getK (l : List Rv) (s : ByteArray) : Rv := (findK l s).getD rvZ
def newR (c : Cfg) (g : Int) : Rv := ⟨revS c.nm g, g, c, false⟩
def putK (l : List Rv) (c : Cfg) (g : Int) : List Rv := if hasK l (revS c.nm g) = true then l else l ++ [newR c g]
def newK (l : List Rv) (c : Cfg) (g : Int) : Bool := !hasK l (revS c.nm g)
def prvK (l : List Rv) (s : ByteArray) : Bool := match findK l s with | none => false | some r => r.pr
def errK (l : List Rv) (s : ByteArray) : Int := if hasK l s = true then 0 else 6
def setK (l : List Rv) (s : ByteArray) : List Rv := l.map fun r => if r.nm = s then r.proved else r
def bestK (f : Rv → Bool) (b : Option Rv) (r : Rv) : Option Rv := if f r = true then (match b with | none => some r | some x => if x.gn < r.gn then some r else some x) else b
def topK (f : Rv → Bool) (l : List Rv) : Option Rv := l.foldl (bestK f) none
def mineM (s : ByteArray) (r : Rv) : Bool := decide (r.c.nm = s)
def mineR (s : ByteArray) (r : Rv) : Bool := decide (r.c.nm = s) && r.pr
def nameK (b : Option Rv) : ByteArray := match b with | none => ⟨#[]⟩ | some r => r.nm
def latM (l : List Rv) (s : ByteArray) : ByteArray := nameK (topK (mineM s) l)
def latR (l : List Rv) (s : ByteArray) : ByteArray := nameK (topK (mineR s) l)
def allK (l : List Rv) : List ByteArray := l.foldl (fun N r => insN N r.nm) []
/-- What is so of books. -/
structure BkOk (l : List Rv) : Prop where
  apart : l.Pairwise (fun a b => a.nm ≠ b.nm)
  rev : ∀ r, r ∈ l → r.nm = revS r.c.nm r.gn ∧ revP r.c.nm r.gn ∧ r.c.wf
theorem BkOk.nil : BkOk [] := ⟨List.Pairwise.nil, fun r h => by cases h⟩
theorem findK_mem {l : List Rv} {s : ByteArray} {r : Rv} (h : findK l s = some r) : r ∈ l ∧ r.nm = s := by
  unfold findK at h
  exact ⟨List.mem_of_find?_eq_some h, by simpa using List.find?_some h⟩
theorem hasK_iff {l : List Rv} {s : ByteArray} : hasK l s = true ↔ ∃ r, r ∈ l ∧ r.nm = s := by
  unfold hasK findK
  rw [List.find?_isSome]
  simp
theorem hasK_no {l : List Rv} {s : ByteArray} : hasK l s = false ↔ ∀ r, r ∈ l → r.nm ≠ s := by
  constructor
  · intro h r hr e
    rw [hasK_iff.2 ⟨r, hr, e⟩] at h; cases h
  · intro h
    cases e : hasK l s with
    | false => rfl
    | true => obtain ⟨r, hr, q⟩ := hasK_iff.1 e; exact absurd q (h r hr)
theorem findK_none {l : List Rv} {s : ByteArray} (h : hasK l s = false) : findK l s = none := by
  unfold hasK at h
  cases e : findK l s with
  | none => rfl
  | some r => rw [e] at h; cases h
theorem findK_of {l : List Rv} (ok : BkOk l) {r : Rv} (h : r ∈ l) : findK l r.nm = some r := by
  have hh : hasK l r.nm = true := hasK_iff.2 ⟨r, h, rfl⟩
  unfold hasK at hh
  obtain ⟨x, hx⟩ := Option.isSome_iff_exists.1 hh
  rw [hx]
  obtain ⟨h1, h2⟩ := findK_mem hx
  obtain ⟨i, hi⟩ := List.getElem?_of_mem h
  obtain ⟨j, hj⟩ := List.getElem?_of_mem h1
  obtain ⟨hil, ei⟩ := List.getElem?_eq_some_iff.1 hi
  obtain ⟨hjl, ej⟩ := List.getElem?_eq_some_iff.1 hj
  rcases Nat.lt_trichotomy i j with q | q | q
  · have := List.pairwise_iff_getElem.1 ok.apart i j hil hjl q
    rw [ei, ej] at this; exact absurd h2.symm this
  · subst q; rw [← ei, ej]
  · have := List.pairwise_iff_getElem.1 ok.apart j i hjl hil q
    rw [ei, ej] at this; exact absurd h2 this
theorem putK_has {l : List Rv} {c : Cfg} {g : Int} (h : hasK l (revS c.nm g) = true) : putK l c g = l := if_pos h
theorem putK_new {l : List Rv} {c : Cfg} {g : Int} (h : hasK l (revS c.nm g) = false) : putK l c g = l ++ [newR c g] := if_neg (by rw [h]; decide)
theorem putK_len (l : List Rv) (c : Cfg) (g : Int) : (putK l c g).length ≤ l.length + 1 := by
  unfold putK; split
  · omega
  · rw [List.length_append, List.length_singleton]; exact Nat.le_refl _
theorem setK_len (l : List Rv) (s : ByteArray) : (setK l s).length = l.length := List.length_map _
theorem BkOk.put {l : List Rv} (ok : BkOk l) {c : Cfg} {g : Int} (hc : c.wf) (hr : revP c.nm g) : BkOk (putK l c g) := by
  cases e : hasK l (revS c.nm g) with
  | true => rw [putK_has e]; exact ok
  | false =>
    rw [putK_new e]
    refine ⟨?_, fun r hm => ?_⟩
    · rw [List.pairwise_append]
      refine ⟨ok.apart, List.pairwise_singleton _ _, fun a ha b hb => ?_⟩
      rw [List.mem_singleton] at hb
      subst hb
      exact hasK_no.1 e a ha
    · rcases List.mem_append.1 hm with h | h
      · exact ok.rev r h
      · rw [List.mem_singleton] at h
        subst h
        exact ⟨rfl, hr, hc⟩
theorem proved_nm (r : Rv) (s : ByteArray) : (if r.nm = s then r.proved else r).nm = r.nm := by split <;> rfl
theorem BkOk.set {l : List Rv} (ok : BkOk l) (s : ByteArray) : BkOk (setK l s) := by
  refine ⟨?_, fun r hm => ?_⟩
  · unfold setK
    rw [List.pairwise_map]
    exact ok.apart.imp fun {a b} h => by rw [proved_nm, proved_nm]; exact h
  · unfold setK at hm
    obtain ⟨x, hx, rfl⟩ := List.mem_map.1 hm
    have := ok.rev x hx
    split <;> exact this
theorem findK_put {l : List Rv} {c : Cfg} {g : Int} (s : ByteArray) : findK (putK l c g) s = if hasK l s = true then findK l s else if revS c.nm g = s then some (newR c g) else none := by
  cases e : hasK l (revS c.nm g) with
  | true =>
    rw [putK_has e]
    cases e2 : hasK l s with
    | true => rfl
    | false =>
      rw [findK_none e2]
      simp only [Bool.false_eq_true, if_false]
      rw [if_neg (fun q => by rw [q, e2] at e; cases e)]
  | false =>
    rw [putK_new e]
    show List.find? _ (l ++ [newR c g]) = _
    rw [List.find?_append]
    cases e2 : hasK l s with
    | true =>
      simp only [if_true]
      unfold hasK at e2
      obtain ⟨x, hx⟩ := Option.isSome_iff_exists.1 e2
      rw [show List.find? (fun r => decide (r.nm = s)) l = some x from hx, hx]; rfl
    | false =>
      simp only [Bool.false_eq_true, if_false]
      rw [show List.find? (fun r => decide (r.nm = s)) l = none from findK_none e2]
      rw [Option.none_or]
      by_cases q : revS c.nm g = s
      · rw [if_pos q]; unfold List.find?; rw [show decide ((newR c g).nm = s) = true from decide_eq_true q]
      · rw [if_neg q]; unfold List.find?; rw [show decide ((newR c g).nm = s) = false from decide_eq_false q]; rfl
theorem findK_set (l : List Rv) (s t : ByteArray) : findK (setK l s) t = (findK l t).map fun r => if r.nm = s then r.proved else r := by
  unfold findK setK
  rw [List.find?_map]
  congr 1
  congr 1
  funext r
  show decide ((if r.nm = s then r.proved else r).nm = t) = _
  rw [proved_nm]
theorem topK_step {f : Rv → Bool} {l : List Rv} {k : Nat} {r : Rv} (h : l[k]? = some r) : topK f (l.take (k + 1)) = bestK f (topK f (l.take k)) r := by
  unfold topK
  rw [List.take_add_one, h, List.foldl_append]; rfl
theorem allK_step {l : List Rv} {k : Nat} {r : Rv} (h : l[k]? = some r) : allK (l.take (k + 1)) = insN (allK (l.take k)) r.nm := by
  unfold allK
  rw [List.take_add_one, h, List.foldl_append]; rfl
theorem allK_fold : ∀ (l : List Rv) (N : List ByteArray), Asc N → Asc (l.foldl (fun N r => insN N r.nm) N) ∧ (l.foldl (fun N r => insN N r.nm) N).length ≤ N.length + l.length ∧ ∀ x, x ∈ l.foldl (fun N r => insN N r.nm) N ↔ x ∈ N ∨ ∃ r, r ∈ l ∧ r.nm = x
  | [], N, h => ⟨h, Nat.le_refl _, fun x => by simp⟩
  | r :: l, N, h => by
    obtain ⟨h1, h2, h3⟩ := allK_fold l (insN N r.nm) (insN_asc _ h)
    refine ⟨h1, ?_, fun x => ?_⟩
    · have := insN_len N r.nm
      rw [List.length_cons]
      show (l.foldl _ (insN N r.nm)).length ≤ _
      omega
    · show x ∈ l.foldl _ (insN N r.nm) ↔ _
      rw [h3, insN_mem]
      constructor
      · rintro ((h | h) | ⟨q, hq, e⟩)
        · exact .inl h
        · exact .inr ⟨r, List.mem_cons_self, h.symm⟩
        · exact .inr ⟨q, List.mem_cons_of_mem _ hq, e⟩
      · rintro (h | ⟨q, hq, e⟩)
        · exact .inl (.inl h)
        · rcases List.mem_cons.1 hq with rfl | hq
          · exact .inl (.inr e.symm)
          · exact .inr ⟨q, hq, e⟩
theorem allK_asc (l : List Rv) : Asc (allK l) := (allK_fold l [] List.Pairwise.nil).1
theorem allK_len (l : List Rv) : (allK l).length ≤ l.length := by have := (allK_fold l [] List.Pairwise.nil).2.1; simpa [allK] using this
theorem allK_mem {l : List Rv} {x : ByteArray} : x ∈ allK l ↔ ∃ r, r ∈ l ∧ r.nm = x := by
  unfold allK
  rw [(allK_fold l [] List.Pairwise.nil).2.2]; simp
theorem revS_size (s : ByteArray) (n : Int) : (revS s n).size ≤ 30 := by
  unfold revS
  split
  · rename_i h
    have h1 := nameB_size h.1
    have h2 := digS_ten (n := n.toNat) (by have := h.2; omega)
    rw [ByteArray.size_append, ByteArray.size_append]
    have : (⟨#[45]⟩ : ByteArray).size = 1 := rfl
    omega
  · show (0 : Nat) ≤ 30; omega

theorem revS_injK {s t : ByteArray} {g h : Int} (hs : revP s g) (ht : revP t h) (e : revS s g = revS t h) : s = t ∧ g = h := by
  have h1 : IsRev (revS s g) s g := ⟨hs.1, hs.2.1, hs.2.2, revS_yes hs⟩
  have h2 : IsRev (revS t h) t h := ⟨ht.1, ht.2.1, ht.2.2, revS_yes ht⟩
  rw [e] at h1
  exact h1.unique h2
theorem topK_spec (f : Rv → Bool) : ∀ (l : List Rv) (b : Option Rv), (∀ x, b = some x → f x = true) → (∀ r, l.foldl (bestK f) b = some r → f r = true ∧ (r ∈ l ∨ b = some r) ∧ (∀ x, x ∈ l → f x = true → x.gn ≤ r.gn) ∧ ∀ x, b = some x → x.gn ≤ r.gn) ∧ (l.foldl (bestK f) b = none → b = none ∧ ∀ x, x ∈ l → f x = false)
  | [], b, hb => ⟨fun r e => ⟨hb r e, .inr e, fun x hx => (by cases hx), fun x hx => by have e : b = some r := e; rw [hx] at e; cases e; exact Int.le_refl _⟩, fun e => ⟨e, fun x hx => (by cases hx)⟩⟩
  | y :: l, b, hb => by
    have hb2 : ∀ x, bestK f b y = some x → f x = true := by
      intro x hx
      unfold bestK at hx
      split at hx
      · rename_i hy
        cases b with
        | none => cases hx; exact hy
        | some z =>
          dsimp only at hx
          split at hx
          · cases hx; exact hy
          · cases hx; exact hb _ rfl
      · exact hb x hx
    obtain ⟨h1, h2⟩ := topK_spec f l (bestK f b y) hb2
    have key : ∀ x, bestK f b y = some x → (x = y ∧ f y = true ∨ b = some x) ∧ (f y = true → y.gn ≤ x.gn) ∧ ∀ z, b = some z → z.gn ≤ x.gn := by
      intro x hx
      unfold bestK at hx
      split at hx
      · rename_i hy
        cases b with
        | none => cases hx; exact ⟨.inl ⟨rfl, hy⟩, fun _ => Int.le_refl _, fun z hz => by cases hz⟩
        | some z =>
          dsimp only at hx
          split at hx
          · cases hx; exact ⟨.inl ⟨rfl, hy⟩, fun _ => Int.le_refl _, fun w hw => by cases hw; omega⟩
          · cases hx; exact ⟨.inr rfl, fun _ => by omega, fun w hw => by cases hw; exact Int.le_refl _⟩
      · rename_i hy
        exact ⟨.inr hx, fun q => absurd q hy, fun z hz => by rw [hx] at hz; cases hz; exact Int.le_refl _⟩
    constructor
    · intro r hr
      obtain ⟨q1, q2, q3, q4⟩ := h1 r hr
      refine ⟨q1, ?_, fun x hx hf => ?_, fun x hx => ?_⟩
      · rcases q2 with q2 | q2
        · exact .inl (List.mem_cons_of_mem _ q2)
        · rcases (key r q2).1 with ⟨rfl, _⟩ | q
          · exact .inl List.mem_cons_self
          · exact .inr q
      · rcases List.mem_cons.1 hx with rfl | hx
        · cases e : bestK f b x with
          | none => unfold bestK at e; rw [if_pos hf] at e; cases b <;> (dsimp only at e; first | cases e | (split at e <;> cases e))
          | some z => exact Int.le_trans ((key z e).2.1 hf) (q4 z e)
        · exact q3 x hx hf
      · subst hx
        cases e : bestK f (some x) y with
        | none =>
          unfold bestK at e
          split at e
          · dsimp only at e; split at e <;> cases e
          · cases e
        | some z => exact Int.le_trans ((key z e).2.2 x rfl) (q4 z e)
    · intro hn
      obtain ⟨q1, q2⟩ := h2 hn
      unfold bestK at q1
      split at q1
      · cases b with
        | none => cases q1
        | some z => dsimp only at q1; split at q1 <;> cases q1
      · rename_i hy
        refine ⟨q1, fun x hx => ?_⟩
        rcases List.mem_cons.1 hx with rfl | hx
        · simpa using hy
        · exact q2 x hx
theorem topK_some {f : Rv → Bool} {l : List Rv} {r : Rv} (h : topK f l = some r) : f r = true ∧ r ∈ l ∧ ∀ x, x ∈ l → f x = true → x.gn ≤ r.gn := by
  obtain ⟨h1, h2, h3, _⟩ := (topK_spec f l none (fun _ e => by cases e)).1 r h
  exact ⟨h1, h2.resolve_right (fun e => by cases e), h3⟩
theorem topK_none {f : Rv → Bool} {l : List Rv} (h : topK f l = none) : ∀ x, x ∈ l → f x = false := ((topK_spec f l none (fun _ e => by cases e)).2 h).2
/-- The greatest number among those that f takes, of the revisions of s; 0: none. -/
structure MaxI (s : ByteArray) (f : Rv → Bool) (l : List Rv) (M : Int) : Prop where
  of : ∀ x, x ∈ l → f x = true → x.c.nm = s ∧ x.gn ≤ M
  is : M = 0 ∧ (∀ x, x ∈ l → f x = false) ∨ 1 ≤ M ∧ ∃ r, r ∈ l ∧ f r = true ∧ r.gn = M
theorem MaxI.name {s : ByteArray} {f : Rv → Bool} {l : List Rv} {M : Int} (h : MaxI s f l M) (ok : BkOk l) : nameK (topK f l) = if M = 0 then ⟨#[]⟩ else revS s M := by
  cases e : topK f l with
  | none =>
    rcases h.is with ⟨h1, _⟩ | ⟨_, r, h1, h2, _⟩
    · rw [if_pos h1]; rfl
    · rw [topK_none e r h1] at h2; cases h2
  | some r =>
    obtain ⟨h1, h2, h3⟩ := topK_some e
    rcases h.is with ⟨_, h4⟩ | ⟨h0, q, h4, h5, h6⟩
    · rw [h4 r h2] at h1; cases h1
    · rw [if_neg (by omega)]
      show r.nm = _
      have e1 := (h.of r h2 h1).2
      have e2 := h3 q h4 h5
      have e3 : r.gn = M := by omega
      rw [(ok.rev r h2).1, (h.of r h2 h1).1, e3]
theorem MaxI.nil (s : ByteArray) (f : Rv → Bool) : MaxI s f [] 0 := ⟨fun x hx => (by cases hx), .inl ⟨rfl, fun x hx => (by cases hx)⟩⟩
theorem hasK_gn {l : List Rv} {c : Cfg} {g : Int} (ok : BkOk l) (hr : revP c.nm g) (h : hasK l (revS c.nm g) = true) : ∃ r, r ∈ l ∧ r.nm = revS c.nm g ∧ r.c.nm = c.nm ∧ r.gn = g := by
  obtain ⟨r, h1, h2⟩ := hasK_iff.1 h
  obtain ⟨e1, e2, _⟩ := ok.rev r h1
  obtain ⟨e3, e4⟩ := revS_injK e2 hr (e1.symm.trans h2)
  exact ⟨r, h1, h2, e3, e4⟩
theorem MaxI.put {l : List Rv} {c : Cfg} {g M : Int} (h : MaxI c.nm (mineM c.nm) l M) (ok : BkOk l) (hr : revP c.nm g) : MaxI c.nm (mineM c.nm) (putK l c g) (max M g) := by
  have hg := hr.2.1
  have hM : 0 ≤ M := by rcases h.is with ⟨h, _⟩ | ⟨h, _⟩ <;> omega
  cases e : hasK l (revS c.nm g) with
  | true =>
    rw [putK_has e]
    obtain ⟨r, h1, h2, h3, h4⟩ := hasK_gn ok hr e
    have := (h.of r h1 (decide_eq_true h3)).2
    rw [show max M g = M by omega]
    exact h
  | false =>
    rw [putK_new e]
    refine ⟨fun x hx hf => ?_, .inr ⟨by omega, ?_⟩⟩
    · rcases List.mem_append.1 hx with hx | hx
      · have := h.of x hx hf; exact ⟨this.1, by omega⟩
      · rw [List.mem_singleton] at hx; subst hx; exact ⟨rfl, by show g ≤ _; omega⟩
    · by_cases q : M ≤ g
      · exact ⟨newR c g, by simp, decide_eq_true rfl, by show g = _; omega⟩
      · rcases h.is with ⟨h0, _⟩ | ⟨_, r, h1, h2, h3⟩
        · omega
        · exact ⟨r, List.mem_append_left _ h1, h2, by omega⟩
theorem MaxI.putR {l : List Rv} {c : Cfg} {g M : Int} {s : ByteArray} (h : MaxI s (mineR s) l M) : MaxI s (mineR s) (putK l c g) M := by
  cases e : hasK l (revS c.nm g) with
  | true => rw [putK_has e]; exact h
  | false =>
    rw [putK_new e]
    have hn : mineR s (newR c g) = false := by unfold mineR newR; simp
    refine ⟨fun x hx hf => ?_, ?_⟩
    · rcases List.mem_append.1 hx with hx | hx
      · exact h.of x hx hf
      · rw [List.mem_singleton] at hx; subst hx; rw [hn] at hf; cases hf
    · rcases h.is with ⟨h0, h1⟩ | ⟨h0, r, h1, h2, h3⟩
      · refine .inl ⟨h0, fun x hx => ?_⟩
        rcases List.mem_append.1 hx with hx | hx
        · exact h1 x hx
        · rw [List.mem_singleton] at hx; subst hx; exact hn
      · exact .inr ⟨h0, r, List.mem_append_left _ h1, h2, h3⟩
theorem mineM_set (s t : ByteArray) (r : Rv) : mineM s (if r.nm = t then r.proved else r) = mineM s r := by split <;> rfl
theorem gn_set (t : ByteArray) (r : Rv) : (if r.nm = t then r.proved else r).gn = r.gn := by split <;> rfl
theorem c_set (t : ByteArray) (r : Rv) : (if r.nm = t then r.proved else r).c = r.c := by split <;> rfl
theorem MaxI.set {l : List Rv} {M : Int} {s : ByteArray} (h : MaxI s (mineM s) l M) (t : ByteArray) : MaxI s (mineM s) (setK l t) M := by
  unfold setK
  refine ⟨fun x hx hf => ?_, ?_⟩
  · obtain ⟨y, hy, rfl⟩ := List.mem_map.1 hx
    rw [mineM_set] at hf
    rw [gn_set, c_set]
    exact h.of y hy hf
  · rcases h.is with ⟨h0, h1⟩ | ⟨h0, r, h1, h2, h3⟩
    · refine .inl ⟨h0, fun x hx => ?_⟩
      obtain ⟨y, hy, rfl⟩ := List.mem_map.1 hx
      rw [mineM_set]; exact h1 y hy
    · exact .inr ⟨h0, _, List.mem_map.2 ⟨r, h1, rfl⟩, by rw [mineM_set]; exact h2, by rw [gn_set]; exact h3⟩
theorem MaxI.setR {l : List Rv} {R g : Int} {s : ByteArray} (h : MaxI s (mineR s) l R) (ok : BkOk l) (hr : revP s g) (hh : hasK l (revS s g) = true) : MaxI s (mineR s) (setK l (revS s g)) (max R g) := by
  have hg := hr.2.1
  have hR : 0 ≤ R := by rcases h.is with ⟨h, _⟩ | ⟨h, _⟩ <;> omega
  obtain ⟨r, h1, h2⟩ := hasK_iff.1 hh
  obtain ⟨e1, e2, _⟩ := ok.rev r h1
  obtain ⟨e3, e4⟩ := revS_injK e2 hr (e1.symm.trans h2)
  unfold setK
  refine ⟨fun x hx hf => ?_, .inr ⟨by omega, ?_⟩⟩
  · obtain ⟨y, hy, rfl⟩ := List.mem_map.1 hx
    rw [gn_set, c_set]
    by_cases q : y.nm = revS s g
    · obtain ⟨f1, f2, _⟩ := ok.rev y hy
      obtain ⟨f3, f4⟩ := revS_injK f2 hr (f1.symm.trans q)
      exact ⟨f3, by omega⟩
    · rw [if_neg q] at hf
      have := h.of y hy hf
      exact ⟨this.1, by omega⟩
  · by_cases q : R ≤ g
    · refine ⟨_, List.mem_map.2 ⟨r, h1, rfl⟩, ?_, by rw [gn_set, e4]; omega⟩
      rw [if_pos h2]
      unfold mineR Rv.proved
      dsimp only
      rw [decide_eq_true e3]; rfl
    · rcases h.is with ⟨h0, _⟩ | ⟨_, x, h4, h5, h6⟩
      · omega
      · refine ⟨_, List.mem_map.2 ⟨x, h4, rfl⟩, ?_, by rw [gn_set]; omega⟩
        split
        · unfold mineR at h5 ⊢
          rw [Bool.and_eq_true] at h5
          show (decide (x.c.nm = s) && true) = true
          rw [h5.1]; rfl
        · exact h5

theorem MaxI.putO {l : List Rv} {c : Cfg} {g M : Int} {s : ByteArray} (h : MaxI s (mineM s) l M) (hc : c.nm ≠ s) : MaxI s (mineM s) (putK l c g) M := by
  cases e : hasK l (revS c.nm g) with
  | true => rw [putK_has e]; exact h
  | false =>
    rw [putK_new e]
    have hn : mineM s (newR c g) = false := decide_eq_false hc
    refine ⟨fun x hx hf => ?_, ?_⟩
    · rcases List.mem_append.1 hx with hx | hx
      · exact h.of x hx hf
      · rw [List.mem_singleton] at hx; subst hx; rw [hn] at hf; cases hf
    · rcases h.is with ⟨h0, h1⟩ | ⟨h0, r, h1, h2, h3⟩
      · refine .inl ⟨h0, fun x hx => ?_⟩
        rcases List.mem_append.1 hx with hx | hx
        · exact h1 x hx
        · rw [List.mem_singleton] at hx; subst hx; exact hn
      · exact .inr ⟨h0, r, List.mem_append_left _ h1, h2, h3⟩
end Go.Proofs.YtjcdmnogmpjkkaaDoor
