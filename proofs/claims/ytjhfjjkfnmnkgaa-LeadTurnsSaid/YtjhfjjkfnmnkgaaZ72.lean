/- My own texts Free, FreeW, FreeT, laid in one file. -/
import Derived.Test.YtjhfjjkfnmnkgaaZ2

/- Regions whose order is open and which only make memory, blocks with unknown numbers among them: one walk in the text's order stands for all orders. No program is named here. -/
namespace Go.Free
set_option linter.unusedVariables false
set_option linter.unusedSimpArgs false
open Go.RowKit
open Go.Evo (deps Closed mem_deps closed_set getD_two at_drop)

/-- The numbers of the blocks that the operations make. -/
abbrev Bl := Nat → Nat
def upd (β : Bl) (i n : Nat) : Bl := fun k => if k = i then n else β k
theorem upd_self (β : Bl) (i : Nat) : upd β i (β i) = β := by funext k; unfold upd; split <;> simp_all
theorem upd_at (β : Bl) (i n : Nat) : upd β i n i = n := by unfold upd; rw [if_pos rfl]
theorem upd_ne (β : Bl) {i k : Nat} (n : Nat) (h : k ≠ i) : upd β i n k = β k := by unfold upd; rw [if_neg h]
def RunsTo (P : Program) (s : Sem Next) (w : World) (R : Value → World → Prop) : Prop :=
  (∃ v w2, s.run P w = .ok (.value v) w2 ∧ R v w2) ∨
  ∃ f args w2, s.run P w = .ok (.enter f args) w2 ∧ Calls P f args w2 fun e w' => ∃ v, e = .returned v ∧ R v w'
/-- What is planned of an operation: its value, what is known behind it, whose work it leans on. -/
structure Pl where
  V : Bl → Value
  φ : Bl → World → Prop
  anc : List Nat
def dstOf (ops : Array Oper) (k : Nat) : Option Tmp := match ops[k]? with
  | some o => o.dst
  | none => none
def part (ops : Array Oper) (pl : Nat → Pl) (a0 : Act) (D : Nat → Bool) (β : Bl) : Nat → Act
  | 0 => a0
  | k + 1 => if D k then (part ops pl a0 D β k).put (dstOf ops k) ((pl k).V β) else part ops pl a0 D β k
section
variable {ops : Array Oper} {pl : Nat → Pl} {a0 : Act} {D D' : Nat → Bool} {β β' : Bl} {n i : Nat}
theorem part_congr (h : ∀ k, k < n → D k = D' k ∧ (D k = true → (pl k).V β = (pl k).V β')) : part ops pl a0 D β n = part ops pl a0 D' β' n := by
  induction n with
  | zero => rfl
  | succ n ih =>
    have e := ih fun k hk => h k (by omega)
    obtain ⟨h1, h2⟩ := h n (by omega)
    unfold part
    rw [e, ← h1]
    split
    · rename_i hd; rw [h2 hd]
    · rfl
theorem put_comm' {a : Act} {x y : Option Tmp} (u v : Value) (h : ∀ d, x = some d → y ≠ some d) : (a.put x u).put y v = (a.put y v).put x u := by
  cases x with
  | none => rfl
  | some d => cases y with
    | none => rfl
    | some e =>
      have hne : d ≠ e := fun q => h d rfl (by rw [q])
      unfold Act.put
      simp only [Act.mk.injEq, and_true]
      exact Array.setIfInBounds_comm _ _ hne
/-- One operation more, wherever it stands. -/
theorem part_add (hnd : ∀ i j, i ≠ j → ∀ d, dstOf ops i = some d → dstOf ops j ≠ some d) (hi : i < n) (hD : D i = false) :
    part ops pl a0 (fun k => D k || k == i) β n = (part ops pl a0 D β n).put (dstOf ops i) ((pl i).V β) := by
  induction n with
  | zero => omega
  | succ n ih =>
    by_cases e : i = n
    · subst e
      have q : part ops pl a0 (fun k => D k || k == i) β i = part ops pl a0 D β i := part_congr fun k hk => ⟨by rw [show (k == i) = false by simpa using (by omega : k ≠ i), Bool.or_false], fun _ => rfl⟩
      unfold part
      rw [q, hD]
      simp
    · have e2 := ih (by omega)
      unfold part
      rw [e2]
      have : (n == i) = false := by simp; omega
      simp only [this, Bool.or_false]
      split
      · exact put_comm' _ _ (hnd i n e)
      · rfl
theorem part_lt (hi : i ≤ n) : part ops pl a0 (fun k => decide (k < i)) β n = part ops pl a0 (fun _ => true) β i := by
  induction n with
  | zero => obtain rfl : i = 0 := by omega
            rfl
  | succ n ih =>
    by_cases e : i = n + 1
    · subst e
      exact part_congr fun k hk => ⟨by simp [hk], fun _ => rfl⟩
    · have e2 := ih (by omega)
      conv => lhs; unfold part
      rw [if_neg (by simp; omega)]
      exact e2
/-- What an operation does is the same with values laid that it does not look at. -/
theorem exec_sub (hnd : ∀ i j, i ≠ j → ∀ d, dstOf ops i = some d → dstOf ops j ≠ some d) {o : Oper} (hs : ∀ cs b, o.op ≠ .select cs b) (hle : ∀ k, D k = true → D' k = true)
    (hlook : ∀ k, k < n → D' k = true → D k = false → ∀ d, dstOf ops k = some d → d ∉ o.looksAt ops) :
    execOp (part ops pl a0 D' β n).eval o = execOp (part ops pl a0 D β n).eval o ∧ Region.wanted o (yielded ops (part ops pl a0 D' β n).tmps) = Region.wanted o (yielded ops (part ops pl a0 D β n).tmps) := by
  have key : ∀ m, m ≤ n → execOp (part ops pl a0 (fun k => D k || (D' k && decide (k < m))) β n).eval o = execOp (part ops pl a0 D β n).eval o ∧ Region.wanted o (yielded ops (part ops pl a0 (fun k => D k || (D' k && decide (k < m))) β n).tmps) = Region.wanted o (yielded ops (part ops pl a0 D β n).tmps) := by
    intro m
    induction m with
    | zero => intro _; rw [part_congr (D' := D) (β' := β) fun k hk => ⟨by simp, fun _ => rfl⟩]; exact ⟨rfl, rfl⟩
    | succ m ih =>
      intro hm
      obtain ⟨e1, e2⟩ := ih (by omega)
      by_cases h : D' m = true ∧ D m = false
      · have q : part ops pl a0 (fun k => D k || (D' k && decide (k < m + 1))) β n = (part ops pl a0 (fun k => D k || (D' k && decide (k < m))) β n).put (dstOf ops m) ((pl m).V β) := by
          rw [← part_add hnd (by omega) (by simp [h.2])]
          refine part_congr fun k hk => ⟨?_, fun _ => rfl⟩
          by_cases e : k = m
          · subst e; simp [h.1]
          · have e1 : (k == m) = false := by simpa using e
            have e2 : decide (k < m + 1) = decide (k < m) := by by_cases q : k < m <;> simp [q] <;> omega
            rw [e1, e2, Bool.or_false]
        rw [q, execOp_put o hs _ _ _ (hlook m (by omega) h.1 h.2), wanted_put o _ _ _ (hlook m (by omega) h.1 h.2)]
        exact ⟨e1, e2⟩
      · have q : part ops pl a0 (fun k => D k || (D' k && decide (k < m + 1))) β n = part ops pl a0 (fun k => D k || (D' k && decide (k < m))) β n := by
          refine part_congr fun k hk => ⟨?_, fun _ => rfl⟩
          by_cases e : k = m
          · subst e
            cases h1 : D k
            · cases h2 : D' k
              · simp
              · exact absurd ⟨h2, h1⟩ h
            · simp
          · have e2 : decide (k < m + 1) = decide (k < m) := by by_cases q : k < m <;> simp [q] <;> omega
            rw [e2]
        rw [q]; exact ⟨e1, e2⟩
  have := key n (Nat.le_refl _)
  rwa [part_congr (D' := D') (β' := β) fun k hk => ⟨by
    cases h1 : D k
    · simp [hk]
    · simp [hle k h1], fun _ => rfl⟩] at this
end
/-- What a plan must keep. -/
structure Keeps (P : Program) (md : Region.Mode) (ops : Array Oper) (pl : Nat → Pl) (a0 : Act) (w0 : World) : Prop where
  sel : Region.noSelect ops = true
  nd : ∀ i j, i ≠ j → ∀ d, dstOf ops i = some d → dstOf ops j ≠ some d
  dlt : ∀ i, i < ops.size → ∀ k ∈ deps md ops i, k < i
  anc : ∀ i, i < ops.size → ∀ k ∈ (pl i).anc, k ∈ deps md ops i ∨ ∃ j ∈ deps md ops i, k ∈ (pl j).anc
  look : ∀ i o, ops[i]? = some o → ∀ k, k ∉ (pl i).anc → ∀ d, dstOf ops k = some d → d ∉ o.looksAt ops
  stable : ∀ i, i < ops.size → ∀ β w w', (pl i).φ β w → Grow.G w w' → (pl i).φ β w'
  loc : ∀ i, i < ops.size → ∀ β β', (∀ k, k = i ∨ k ∈ (pl i).anc → β k = β' k) → (pl i).V β = (pl i).V β' ∧ ∀ w, (pl i).φ β w → (pl i).φ β' w
  run : ∀ i o, ops[i]? = some o → ∀ β w1, Grow.G w0 w1 → (∀ j ∈ (pl i).anc, (pl j).φ β w1) →
    (Region.wanted o (yielded ops (part ops pl a0 (fun _ => true) β i).tmps) = true ∧ RunsTo P (execOp (part ops pl a0 (fun _ => true) β i).eval o) w1 fun v w2 => Grow.G w1 w2 ∧ ∃ n, v = (pl i).V (upd β i n) ∧ (pl i).φ (upd β i n) w2) ∨
    (Region.wanted o (yielded ops (part ops pl a0 (fun _ => true) β i).tmps) = false ∧ (pl i).V β = undef ∧ (pl i).φ β w1)
def left (n : Nat) (listed : Array Bool) : List Nat := (List.range n).filter fun k => !listed.getD k true
section
variable {P : Program} {md : Region.Mode} {ops : Array Oper} {pl : Nat → Pl} {a0 : Act} {w0 : World} {Q : Exit → Act → World → Prop}
theorem left_set {n i : Nat} {listed : Array Bool} (hi : i < n) (hl : listed.getD i true = false) : (left n (listed.setIfInBounds i true)).length + 1 = (left n listed).length := by
  have hm : i ∈ left n listed := List.mem_filter.2 ⟨List.mem_range.2 hi, by simp only [hl, Bool.not_false]⟩
  have hnd : (left n listed).Nodup := List.nodup_range.filter _
  have e : left n (listed.setIfInBounds i true) = (left n listed).erase i := by
    rw [hnd.erase_eq_filter]
    unfold left
    rw [List.filter_filter]
    refine List.filter_congr fun k hk => ?_
    by_cases q : k = i
    · subst q
      have : (listed.setIfInBounds k true).getD k true = true := by
        rcases Nat.lt_or_ge k listed.size with h | h
        · simp [h]
        · simp [h]
      rw [this]; simp
    · rw [getD_set_ne true (Ne.symm q)]
      simp [q]
  rw [e, List.length_erase_of_mem hm]
  have := List.length_pos_of_mem hm
  omega
theorem anc_listed (hk : Keeps P md ops pl a0 w0) {listed : Array Bool} (hc : Closed md ops listed) (hsz : listed.size = ops.size) : ∀ (m j : Nat), j ≤ m → listed.getD j false = true → ∀ k ∈ (pl j).anc, listed.getD k false = true
  | m, j, hj, hl, k, hka => by
    have hlt : j < ops.size := by
      rcases Nat.lt_or_ge j listed.size with h | h
      · omega
      · simp [h] at hl
    rcases hk.anc j hlt k hka with h | ⟨j', hj', h⟩
    · exact hc j hl k h
    · have h1 := hk.dlt j hlt j' hj'
      match m, hj with
      | 0, hj => omega
      | m + 1, hj => exact anc_listed hk hc hsz m j' (by omega) (hc j hl j' hj') k h
theorem sound (hk : Keeps P md ops pl a0 w0) (hend : ∀ β w, Grow.G w0 w → (∀ i, i < ops.size → (pl i).φ β w) → Q .normal (part ops pl a0 (fun _ => true) β ops.size) w) :
    ∀ (fuel : Nat) (listed : Array Bool) (β : Bl) (w : World), listed.size = ops.size → Closed md ops listed → fuel = (left ops.size listed).length → Grow.G w0 w →
      (∀ j, listed.getD j false = true → (pl j).φ β w) → wpAny P md ops Q fuel listed (part ops pl a0 (fun k => listed.getD k false) β ops.size) w := by
  have all : ∀ (listed : Array Bool), listed.size = ops.size → Closed md ops listed → Region.ready md ops listed = [] → ∀ k, k < ops.size → listed.getD k false = true := by
    intro listed hsz hc hr k
    induction k using Nat.strongRecOn with
    | ind k ih =>
      intro hlt
      cases e : listed.getD k false with
      | true => rfl
      | false =>
        obtain ⟨o, ho⟩ : ∃ o, ops[k]? = some o := ⟨_, Array.getElem?_eq_getElem hlt⟩
        have : k ∈ Region.ready md ops listed := by
          refine mem_ready.2 ⟨?_, o, ho, fun x hx hb => ?_⟩
          · have h1 : k < listed.size := by omega
            simpa [h1] using e
          · have hd : x.on ∈ deps md ops k := by
              unfold deps
              rw [ho]
              exact List.mem_map.2 ⟨x, List.mem_filter.2 ⟨by simpa using hx, hb⟩, rfl⟩
            have h2 := hk.dlt k hlt _ hd
            exact ih _ h2 (by omega)
        rw [hr] at this; cases this
  have fin : ∀ (listed : Array Bool) (β : Bl) (w : World), listed.size = ops.size → Closed md ops listed → Grow.G w0 w → (∀ j, listed.getD j false = true → (pl j).φ β w) → Region.ready md ops listed = [] → Q .normal (part ops pl a0 (fun k => listed.getD k false) β ops.size) w := by
    intro listed β w hsz hc hg hφ hr
    have ha := all listed hsz hc hr
    rw [part_congr (D' := fun _ => true) (β' := β) fun k hk => ⟨ha k hk, fun _ => rfl⟩]
    exact hend β w hg fun i hi => hφ i (ha i hi)
  intro fuel
  induction fuel with
  | zero =>
    intro listed β w hsz hc hf hg hφ
    have hr : Region.ready md ops listed = [] := by
      rw [List.eq_nil_iff_forall_not_mem]
      intro i hi
      obtain ⟨h1, o, ho, _⟩ := mem_ready.1 hi
      have : i ∈ left ops.size listed := List.mem_filter.2 ⟨List.mem_range.2 (Array.getElem?_eq_some_iff.1 ho).1, by simp only [h1, Bool.not_false]⟩
      rw [List.eq_nil_of_length_eq_zero hf.symm] at this
      cases this
    exact ⟨hr, fin listed β w hsz hc hg hφ hr⟩
  | succ fuel ih =>
    intro listed β w hsz hc hf hg hφ
    refine ⟨fin listed β w hsz hc hg hφ, fun i hi => ?_⟩
    obtain ⟨h1, o, ho, hall⟩ := mem_ready.1 hi
    have hlt := (Array.getElem?_eq_some_iff.1 ho).1
    have hun : listed.getD i false = false := by
      have : i < listed.size := by omega
      simpa [this] using h1
    have hdl := mem_deps hi
    have hal : ∀ k ∈ (pl i).anc, listed.getD k false = true := fun k hka => by
      rcases hk.anc i hlt k hka with h | ⟨j, hj, h⟩
      · exact hdl k h
      · exact anc_listed hk hc hsz j j (Nat.le_refl _) (hdl j hj) k h
    have halt : ∀ k ∈ (pl i).anc, k < i := by
      have : ∀ (m j : Nat), j ≤ m → j < ops.size → ∀ k ∈ (pl j).anc, k < j := by
        intro m
        induction m with
        | zero =>
          intro j hj hjs k hka
          rcases hk.anc j hjs k hka with h | ⟨j', hj', h⟩
          · exact hk.dlt j hjs k h
          · have := hk.dlt j hjs j' hj'; omega
        | succ m ihm =>
          intro j hj hjs k hka
          rcases hk.anc j hjs k hka with h | ⟨j', hj', h⟩
          · exact hk.dlt j hjs k h
          · have h3 := hk.dlt j hjs j' hj'
            have := ihm j' (by omega) (by omega) k h
            omega
      exact this i i (Nat.le_refl _) hlt
    have hsel : ∀ cs b, o.op ≠ .select cs b := fun cs b => Region.noSelect_spec hk.sel i o cs b ho
    -- the act at hand, and the text's
    have e1 := exec_sub (pl := pl) (a0 := a0) (β := β) (n := ops.size) hk.nd hsel (D := fun k => listed.getD k false) (D' := fun k => listed.getD k false || decide (k < i)) (fun k h => by simp only [h, Bool.true_or])
      (fun k hkn h2 h3 d hd => hk.look i o ho k (fun q => by rw [hal k q] at h3; cases h3) d hd)
    have e2 := exec_sub (pl := pl) (a0 := a0) (β := β) (n := ops.size) hk.nd hsel (D := fun k => decide (k < i)) (D' := fun k => listed.getD k false || decide (k < i)) (fun k h => by simp only [h, Bool.or_true])
      (fun k hkn h2 h3 d hd => hk.look i o ho k (fun q => by have := halt k q; simp only [decide_eq_false_iff_not] at h3; exact h3 this) d hd)
    rw [part_lt (Nat.le_of_lt hlt)] at e2
    have ex : execOp (part ops pl a0 (fun k => listed.getD k false) β ops.size).eval o = execOp (part ops pl a0 (fun _ => true) β i).eval o := e1.1.symm.trans e2.1
    have ew : Region.wanted o (yielded ops (part ops pl a0 (fun k => listed.getD k false) β ops.size).tmps) = Region.wanted o (yielded ops (part ops pl a0 (fun _ => true) β i).tmps) := e1.2.symm.trans e2.2
    -- what comes behind
    have next : ∀ (n : Nat) (w2 : World), Grow.G w w2 → (pl i).φ (upd β i n) w2 → wpAny P md ops Q fuel (listed.setIfInBounds i true) ((part ops pl a0 (fun k => listed.getD k false) β ops.size).put o.dst ((pl i).V (upd β i n))) w2 := by
      intro n w2 hg2 hφ2
      have hsame : ∀ k, listed.getD k false = true → ∀ x, x = k ∨ x ∈ (pl k).anc → β x = upd β i n x := fun k hlk x hx => by
        have hxl : listed.getD x false = true := by
          rcases hx with rfl | hx
          · exact hlk
          · exact anc_listed hk hc hsz k k (Nat.le_refl _) hlk x hx
        rw [upd_ne]
        rintro rfl
        rw [hun] at hxl; cases hxl
      have hks : ∀ k, listed.getD k false = true → k < ops.size := fun k hlk => by
        rcases Nat.lt_or_ge k listed.size with h | h
        · omega
        · simp [h] at hlk
      have ep : (part ops pl a0 (fun k => listed.getD k false) β ops.size).put o.dst ((pl i).V (upd β i n)) = part ops pl a0 (fun k => (listed.setIfInBounds i true).getD k false) (upd β i n) ops.size := by
        have q1 : part ops pl a0 (fun k => listed.getD k false) β ops.size = part ops pl a0 (fun k => listed.getD k false) (upd β i n) ops.size :=
          part_congr fun k hkn => ⟨rfl, fun hlk => (hk.loc k hkn β _ (hsame k hlk)).1⟩
        have q2 : o.dst = dstOf ops i := by unfold dstOf; rw [ho]
        rw [q1, q2, ← part_add hk.nd hlt hun]
        refine part_congr fun k hkn => ⟨?_, fun _ => rfl⟩
        by_cases q : k = i
        · subst q
          have : k < listed.size := by omega
          simp [this]
        · rw [getD_set_ne false (Ne.symm q)]
          simp [q]
      rw [ep]
      refine ih _ _ w2 (by simpa using hsz) (closed_set hc hi) (by have := left_set hlt h1; omega) (hg.trans hg2) fun j hj => ?_
      by_cases q : j = i
      · rw [q]; exact hφ2
      · rw [getD_set_ne false (Ne.symm q)] at hj
        exact (hk.loc j (hks j hj) β _ (hsame j hj)).2 w2 (hk.stable j (hks j hj) β w w2 (hφ j hj) hg2)
    unfold wpOp
    simp only [ho]
    rcases hk.run i o ho β w hg fun j hj => hφ j (hal j hj) with ⟨hw, hr⟩ | ⟨hw, hV, hφi⟩
    · rw [ew, hw]
      simp only [if_true]
      refine .inl ?_
      unfold Oper.wp
      rw [ex]
      rcases hr with ⟨v, w2, hr, hg2, n, hv, hφ2⟩ | ⟨f, args, w2, hr, hcall⟩
      · rw [hr, hv]
        exact next n w2 hg2 hφ2
      · rw [hr]
        refine Calls.mono hcall fun e w' ⟨v, he, hg2, n, hv, hφ2⟩ => ?_
        subst he
        rw [hv]
        exact next n w' hg2 hφ2
    · rw [ew, hw]
      simp only [Bool.false_eq_true, if_false]
      have := next (β i) w (Grow.G.refl w) (by rw [upd_self]; exact hφi)
      rw [upd_self, hV] at this
      exact this
end
end Go.Free

/- Free's plans, made one operation behind the other. No program is named here. -/
namespace Go.Free
set_option linter.unusedVariables false
set_option linter.unusedSimpArgs false
open Go.RowKit
open Go.Evo (deps Closed mem_deps closed_set getD_two at_drop)

abbrev Fa := (Bl → World → Prop) × List Nat
def noFa : Fa := (fun _ _ => True, [])
/-- Whose work an operation leans on is listed; it looks at no other's; it stands behind those it waits for. -/
def chk (md : Region.Mode) (ops : Array Oper) (ps : List Fa) (i : Nat) (anc : List Nat) : Bool :=
  (anc.all fun k => (deps md ops i).contains k || (deps md ops i).any fun j => ((ps.getD j noFa).2).contains k) &&
  ((deps md ops i).all fun k => decide (k < i)) &&
  match ops[i]? with
  | none => false
  | some o => (List.range ops.size).all fun k => anc.contains k || match dstOf ops k with
    | some d => !(o.looksAt ops).contains d
    | none => true
structure Step (P : Program) (md : Region.Mode) (ops : Array Oper) (w0 : World) (i : Nat) (B : Bl → Act) (ps : List Fa) (V : Bl → Value) (f : Fa) : Prop where
  chk : chk md ops ps i f.2 = true
  stable : ∀ β w w', f.1 β w → Grow.G w w' → f.1 β w'
  loc : ∀ β β', (∀ k, k = i ∨ k ∈ f.2 → β k = β' k) → V β = V β' ∧ ∀ w, f.1 β w → f.1 β' w
  run : ∀ o, ops[i]? = some o → ∀ β w1, Grow.G w0 w1 → (∀ j ∈ f.2, (ps.getD j noFa).1 β w1) →
    (Region.wanted o (yielded ops (B β).tmps) = true ∧ RunsTo P (execOp (B β).eval o) w1 fun v w2 => Grow.G w1 w2 ∧ ∃ n, v = V (upd β i n) ∧ f.1 (upd β i n) w2) ∨
    (Region.wanted o (yielded ops (B β).tmps) = false ∧ V β = undef ∧ f.1 β w1)
def Walk (P : Program) (md : Region.Mode) (ops : Array Oper) (w0 : World) (Q : Exit → Act → World → Prop) : Nat → Nat → (Bl → Act) → List Fa → Prop
  | 0, i, B, ps => ∀ β w, Grow.G w0 w → (∀ f ∈ ps, f.1 β w) → Q .normal (B β) w
  | r + 1, i, B, ps => ∃ V f, Step P md ops w0 i B ps V f ∧ Walk P md ops w0 Q r (i + 1) (fun β => (B β).put (dstOf ops i) (V β)) (ps ++ [f])
section
variable {P : Program} {md : Region.Mode} {ops : Array Oper} {w0 : World} {Q : Exit → Act → World → Prop}
def mkPl (vs : List (Bl → Value)) (ps : List Fa) (k : Nat) : Pl := ⟨vs.getD k (fun _ => undef), (ps.getD k noFa).1, (ps.getD k noFa).2⟩
theorem Walk.plan {a0 : Act} : ∀ (r i : Nat) (B : Bl → Act) (vs : List (Bl → Value)) (ps : List Fa), vs.length = i → ps.length = i →
    (∀ β, B β = part ops (mkPl vs ps) a0 (fun _ => true) β i) → Walk P md ops w0 Q r i B ps →
    ∃ vs' ps', vs'.length = i + r ∧ ps'.length = i + r ∧ (∀ k, k < i → vs'[k]? = vs[k]? ∧ ps'[k]? = ps[k]?) ∧
      (∀ k, i ≤ k → k < i + r → ∃ B', (∀ β, B' β = part ops (mkPl vs' ps') a0 (fun _ => true) β k) ∧ Step P md ops w0 k B' (ps'.take k) (vs'.getD k (fun _ => undef)) (ps'.getD k noFa)) ∧
      ∀ β w, Grow.G w0 w → (∀ f ∈ ps', f.1 β w) → Q .normal (part ops (mkPl vs' ps') a0 (fun _ => true) β (i + r)) w
  | 0, i, B, vs, ps, hv, hp, hB, h => ⟨vs, ps, hv, hp, fun k _ => ⟨rfl, rfl⟩, fun k h1 h2 => by omega, fun β w hg hf => by rw [Nat.add_zero, ← hB]; exact h β w hg hf⟩
  | r + 1, i, B, vs, ps, hv, hp, hB, ⟨V, f, hs, hw⟩ => by
    have hpre : ∀ (vs' : List (Bl → Value)) (ps' : List Fa), (∀ k, k < i → vs'[k]? = vs[k]? ∧ ps'[k]? = ps[k]?) → ∀ β, part ops (mkPl vs' ps') a0 (fun _ => true) β i = part ops (mkPl vs ps) a0 (fun _ => true) β i := by
      intro vs' ps' hk β
      have : ∀ m, m ≤ i → part ops (mkPl vs' ps') a0 (fun _ => true) β m = part ops (mkPl vs ps) a0 (fun _ => true) β m := by
        intro m
        induction m with
        | zero => intro _; rfl
        | succ m ih =>
          intro hm
          unfold part
          rw [ih (by omega)]
          have : (mkPl vs' ps' m).V = (mkPl vs ps m).V := by unfold mkPl; simp only [List.getD_eq_getElem?_getD, (hk m (by omega)).1]
          rw [this]
      exact this i (Nat.le_refl _)
    have hv1 : ∀ k, k < i → (vs ++ [V])[k]? = vs[k]? ∧ (ps ++ [f])[k]? = ps[k]? := fun k hk => ⟨List.getElem?_append_left (by omega), List.getElem?_append_left (by omega)⟩
    have hB2 : ∀ β, (fun β => (B β).put (dstOf ops i) (V β)) β = part ops (mkPl (vs ++ [V]) (ps ++ [f])) a0 (fun _ => true) β (i + 1) := by
      intro β
      unfold part
      rw [if_pos rfl, hpre _ _ hv1, ← hB]
      have : (mkPl (vs ++ [V]) (ps ++ [f]) i).V = V := by unfold mkPl; simp [List.getD_eq_getElem?_getD, ← hv]
      rw [this]
    obtain ⟨vs', ps', q1, q2, q3, q4, q5⟩ := Walk.plan r (i + 1) _ (vs ++ [V]) (ps ++ [f]) (by simp [hv]) (by simp [hp]) hB2 hw
    have hsub : ∀ k, k < i → vs'[k]? = vs[k]? ∧ ps'[k]? = ps[k]? := fun k hk => ⟨((q3 k (by omega)).1).trans (hv1 k hk).1, ((q3 k (by omega)).2).trans (hv1 k hk).2⟩
    refine ⟨vs', ps', by omega, by omega, hsub, fun k h1 h2 => ?_, fun β w hg hf => by rw [show i + (r + 1) = i + 1 + r by omega]; exact q5 β w hg hf⟩
    by_cases e : k = i
    · subst e
      refine ⟨B, fun β => by rw [hB, hpre _ _ hsub], ?_⟩
      have t1 : ps'.take k = ps := by
        refine List.ext_getElem? fun j => ?_
        rw [List.getElem?_take]
        split
        · rename_i hj; exact (hsub j hj).2
        · rw [List.getElem?_eq_none (by omega)]
      have t2 : vs'.getD k (fun _ => undef) = V := by
        rw [List.getD_eq_getElem?_getD, (q3 k (by omega)).1]
        simp [← hv]
      have t3 : ps'.getD k noFa = f := by
        rw [List.getD_eq_getElem?_getD, (q3 k (by omega)).2]
        simp [← hp]
      rw [t1, t2, t3]
      exact hs
    · exact q4 k (by omega) (by omega)
def ndB (ops : Array Oper) : Bool := (List.range ops.size).all fun i => (List.range ops.size).all fun j => i == j || match dstOf ops i with
  | some d => dstOf ops j != some d
  | none => true
theorem region {id : Nat} {a0 : Act} {w : World} (hm : P.follows .mixedOrders = true) (hsel : Region.noSelect ops = true) (hnd : ndB ops = true)
    (h : ∀ w0, Grow.G w w0 → Walk P .any ops w0 Q ops.size 0 (fun _ => a0) []) : (Code.region id ops true).wp P Q a0 w := by
  have hW := h { w with drawn := w.drawn + 1 } (Grow.G.drawn _)
  obtain ⟨vs, ps, q1, q2, q3, q4, q5⟩ := Walk.plan (a0 := a0) ops.size 0 _ [] [] rfl rfl (fun β => rfl) hW
  rw [Nat.zero_add] at q1 q2 q4 q5
  have hk : Keeps P .any ops (mkPl vs ps) a0 { w with drawn := w.drawn + 1 } := by
    have st := fun i (hi : i < ops.size) => q4 i (Nat.zero_le _) hi
    have tk : ∀ i j, j < i → (ps.take i).getD j noFa = ps.getD j noFa := fun i j hj => by
      rw [List.getD_eq_getElem?_getD, List.getD_eq_getElem?_getD, List.getElem?_take_of_lt hj]
    have anc : ∀ i, i < ops.size → ∀ k ∈ (mkPl vs ps i).anc, k ∈ deps .any ops i ∨ ∃ j ∈ deps .any ops i, k ∈ (mkPl vs ps j).anc := fun i hi k hka => by
      obtain ⟨B', _, s⟩ := st i hi
      have hc := s.chk
      unfold chk at hc
      simp only [Bool.and_eq_true] at hc
      have h1 := List.all_eq_true.1 hc.1.1 k hka
      simp only [Bool.or_eq_true, List.contains_iff_mem, List.any_eq_true] at h1
      rcases h1 with h1 | ⟨j, hj, h1⟩
      · exact .inl h1
      · refine .inr ⟨j, hj, ?_⟩
        have h2 := List.all_eq_true.1 hc.1.2 j hj
        rw [tk i j (by simpa using h2)] at h1
        exact h1
    have dlt : ∀ i, i < ops.size → ∀ k ∈ deps .any ops i, k < i := fun i hi k hkd => by
      obtain ⟨B', _, s⟩ := st i hi
      have hc := s.chk
      unfold chk at hc
      simp only [Bool.and_eq_true] at hc
      simpa using List.all_eq_true.1 hc.1.2 k hkd
    have alt : ∀ (m i : Nat), i ≤ m → i < ops.size → ∀ k ∈ (mkPl vs ps i).anc, k < i := by
      intro m
      induction m with
      | zero =>
        intro i hi his k hka
        rcases anc i his k hka with h | ⟨j, hj, h⟩
        · exact dlt i his k h
        · have := dlt i his j hj; omega
      | succ m ihm =>
        intro i hi his k hka
        rcases anc i his k hka with h | ⟨j, hj, h⟩
        · exact dlt i his k h
        · have h3 := dlt i his j hj
          have := ihm j (by omega) (by omega) k h
          omega
    refine ⟨hsel, fun i j hne d hd he => ?_, dlt, anc, fun i o ho k hka d hd hdl => ?_, fun i hi => ?_, fun i hi => ?_, fun i o ho β w1 hg hf => ?_⟩
    · have hi : i < ops.size := by
        rcases Nat.lt_or_ge i ops.size with h' | h'
        · exact h'
        · unfold dstOf at hd; rw [Array.getElem?_eq_none h'] at hd; cases hd
      have hj : j < ops.size := by
        rcases Nat.lt_or_ge j ops.size with h' | h'
        · exact h'
        · unfold dstOf at he; rw [Array.getElem?_eq_none h'] at he; cases he
      have := List.all_eq_true.1 (List.all_eq_true.1 hnd i (List.mem_range.2 hi)) j (List.mem_range.2 hj)
      simp only [hd, he, Bool.or_eq_true, beq_iff_eq, hne, false_or] at this
      simp at this
    · have hi := (Array.getElem?_eq_some_iff.1 ho).1
      obtain ⟨B', _, s⟩ := st i hi
      have hc := s.chk
      unfold chk at hc
      simp only [Bool.and_eq_true, ho] at hc
      have hkk : k < ops.size := by
        rcases Nat.lt_or_ge k ops.size with h' | h'
        · exact h'
        · unfold dstOf at hd; rw [Array.getElem?_eq_none h'] at hd; cases hd
      have h1 := List.all_eq_true.1 hc.2 k (List.mem_range.2 hkk)
      simp only [hd, Bool.or_eq_true, List.contains_iff_mem] at h1
      rcases h1 with h1 | h1
      · exact hka h1
      · rw [List.contains_iff_mem.2 hdl] at h1
        cases h1
    · obtain ⟨B', _, s⟩ := st i hi
      exact s.stable
    · obtain ⟨B', _, s⟩ := st i hi
      exact s.loc
    · have hi := (Array.getElem?_eq_some_iff.1 ho).1
      obtain ⟨B', hB', s⟩ := st i hi
      have := s.run o ho β w1 hg fun j hj => by
        rw [tk i j (alt i i (Nat.le_refl _) hi j hj)]
        exact hf j hj
      rw [hB'] at this
      exact this
  refine wp_region_any hm ?_
  have repl : ∀ j, (Array.replicate ops.size false).getD j false = false := fun j => by
    rcases Nat.lt_or_ge j ops.size with h | h <;> simp [h]
  have e0 : part ops (mkPl vs ps) a0 (fun k => (Array.replicate ops.size false).getD k false) (fun _ => 0) ops.size = a0 := by
    have : ∀ m, part ops (mkPl vs ps) a0 (fun k => (Array.replicate ops.size false).getD k false) (fun _ => 0) m = a0 := by
      intro m
      induction m with
      | zero => rfl
      | succ m ih =>
        unfold part
        rw [repl, if_neg (by decide), ih]
    exact this _
  have := sound hk (Q := Q) (fun β w' hg hf => q5 β w' hg fun f hfm => by
    obtain ⟨k, hkk⟩ := List.getElem?_of_mem hfm
    have hlt := (List.getElem?_eq_some_iff.1 hkk).1
    have e : ps.getD k noFa = f := by rw [List.getD_eq_getElem?_getD, hkk]; rfl
    have h1 : (ps.getD k noFa).1 β w' := hf k (by omega)
    rw [e] at h1
    exact h1) ops.size (Array.replicate ops.size false) (fun _ => 0) { w with drawn := w.drawn + 1 } (by simp) (fun j hj => by rw [repl] at hj; cases hj) (by
      unfold left
      rw [List.filter_eq_self.2 fun k hkm => by have := List.mem_range.1 hkm; simp [this]]
      simp) (Grow.G.refl _) (fun j hj => by rw [repl] at hj; cases hj)
  rwa [e0] at this
end
end Go.Free

/- Free's steps: a value, a block, a call, an operation that is not wanted. No program is named here. -/
namespace Go.Free
set_option linter.unusedVariables false
set_option linter.unusedSimpArgs false
open Go.RowKit
open Go.Evo (deps at_drop)
theorem fact_of {ps : List Fa} {k : Nat} {β : Bl} {w : World} {f : Fa} (h : (ps.getD k noFa).1 β w) (e : ps[k]? = some f) : f.1 β w := by
  rw [List.getD_eq_getElem?_getD, e] at h
  exact h
theorem fact_in {ps : List Fa} {β : Bl} {w : World} {f : Fa} (h : ∀ f ∈ ps, f.1 β w) (k : Nat) (e : ps[k]? = some f) : f.1 β w := h f (List.mem_of_getElem? e)
section
variable {P : Program} {md : Region.Mode} {ops : Array Oper} {w0 : World} {Q : Exit → Act → World → Prop} {i r : Nat} {B : Bl → Act} {ps ps' : List Fa} {o : Oper} {rest : List Oper}
theorem Walk.val (anc : List Nat) (V : Bl → Value) (B' : Bl → Act) (hi : ops.toList.drop i = o :: rest) (hc : chk md ops ps i anc = true)
    (hw : ∀ β, Region.wanted o (yielded ops (B β).tmps) = true)
    (hv : ∀ β w1, Grow.G w0 w1 → (∀ j ∈ anc, (ps.getD j noFa).1 β w1) → (execOp (B β).eval o).run P w1 = .ok (.value (V β)) w1)
    (hl : ∀ β β', (∀ k ∈ anc, β k = β' k) → V β = V β') (ha : ∀ β, (B β).put o.dst (V β) = B' β) (hp : ps ++ [(fun _ _ => True, anc)] = ps')
    (h : Walk P md ops w0 Q r (i + 1) B' ps') : Walk P md ops w0 Q (r + 1) i B ps := by
  have ho := at_drop hi
  have hd : dstOf ops i = o.dst := by unfold dstOf; rw [ho]
  refine ⟨V, (fun _ _ => True, anc), ⟨hc, fun _ _ _ _ _ => trivial, fun β β' hk => ⟨hl β β' fun k hka => hk k (.inr hka), fun _ _ => trivial⟩, fun o' ho' β w1 hg hf => ?_⟩, ?_⟩
  · rw [ho] at ho'; cases ho'
    exact .inl ⟨hw β, .inl ⟨V β, w1, hv β w1 hg hf, Grow.G.refl w1, β i, by rw [upd_self], trivial⟩⟩
  · rw [show (fun β => (B β).put (dstOf ops i) (V β)) = B' from funext fun β => by rw [hd]; exact ha β, hp]
    exact h
theorem Walk.cal (anc : List Nat) (V : Bl → Value) (B' : Bl → Act) (f : FuncId) (args : Bl → Array Value) (hi : ops.toList.drop i = o :: rest) (hc : chk md ops ps i anc = true)
    (hw : ∀ β, Region.wanted o (yielded ops (B β).tmps) = true)
    (hv : ∀ β w1, (execOp (B β).eval o).run P w1 = .ok (.enter f (args β)) w1)
    (hcall : ∀ β w1, Grow.G w0 w1 → (∀ j ∈ anc, (ps.getD j noFa).1 β w1) → Calls P f (args β) w1 fun e w' => e = .returned (V β) ∧ Grow.G w1 w')
    (hl : ∀ β β', (∀ k ∈ anc, β k = β' k) → V β = V β') (ha : ∀ β, (B β).put o.dst (V β) = B' β) (hp : ps ++ [(fun _ _ => True, anc)] = ps')
    (h : Walk P md ops w0 Q r (i + 1) B' ps') : Walk P md ops w0 Q (r + 1) i B ps := by
  have ho := at_drop hi
  have hd : dstOf ops i = o.dst := by unfold dstOf; rw [ho]
  refine ⟨V, (fun _ _ => True, anc), ⟨hc, fun _ _ _ _ _ => trivial, fun β β' hk => ⟨hl β β' fun k hka => hk k (.inr hka), fun _ _ => trivial⟩, fun o' ho' β w1 hg hf => ?_⟩, ?_⟩
  · rw [ho] at ho'; cases ho'
    exact .inl ⟨hw β, .inr ⟨f, args β, w1, hv β w1, (hcall β w1 hg hf).mono fun e w' ⟨he, hg2⟩ => ⟨V β, he, hg2, β i, by rw [upd_self], trivial⟩⟩⟩
  · rw [show (fun β => (B β).put (dstOf ops i) (V β)) = B' from funext fun β => by rw [hd]; exact ha β, hp]
    exact h
/-- A block is made. -/
def blkFa (w0 : World) (i : Nat) (C : Bl → Array Value) (T : TypeId) : Bl → World → Prop := fun β w => Blk w (β i) (C β) T ∧ w0.heap.size ≤ β i
theorem Walk.mk (anc : List Nat) (V : Bl → Value) (C : Bl → Array Value) (T : TypeId) (B' : Bl → Act) (hi : ops.toList.drop i = o :: rest) (hc : chk md ops ps i anc = true)
    (hw : ∀ β, Region.wanted o (yielded ops (B β).tmps) = true)
    (hv : ∀ β w1, Grow.G w0 w1 → (∀ j ∈ anc, (ps.getD j noFa).1 β w1) → (execOp (B β).eval o).run P w1 = .ok (.value (V (upd β i w1.heap.size))) (w1.alloc (.cells (C β) T)))
    (hl : ∀ β β', (∀ k, k = i ∨ k ∈ anc → β k = β' k) → V β = V β') (hC : ∀ β β', (∀ k ∈ anc, β k = β' k) → C β = C β') (hni : anc.contains i = false) (ha : ∀ β, (B β).put o.dst (V β) = B' β) (hp : ps ++ [(blkFa w0 i C T, anc)] = ps')
    (h : Walk P md ops w0 Q r (i + 1) B' ps') : Walk P md ops w0 Q (r + 1) i B ps := by
  have ho := at_drop hi
  have hd : dstOf ops i = o.dst := by unfold dstOf; rw [ho]
  refine ⟨V, (blkFa w0 i C T, anc), ⟨hc, fun β w w' ⟨h1, h2⟩ hg => ⟨h1.grow hg, h2⟩, fun β β' hk => ⟨hl β β' hk, fun w ⟨h1, h2⟩ => ?_⟩, fun o' ho' β w1 hg hf => ?_⟩, ?_⟩
  · show Blk w (β' i) (C β') T ∧ w0.heap.size ≤ β' i
    rw [← hk i (.inl rfl), ← hC β β' fun k hka => hk k (.inr hka)]
    exact ⟨h1, h2⟩
  · rw [ho] at ho'; cases ho'
    refine .inl ⟨hw β, .inl ⟨_, _, hv β w1 hg hf, Grow.G.alloc (Grow.G.refl _) _, w1.heap.size, rfl, ?_⟩⟩
    show Blk (w1.alloc _) (upd β i w1.heap.size i) (C (upd β i w1.heap.size)) T ∧ w0.heap.size ≤ upd β i w1.heap.size i
    rw [upd_at, ← hC β (upd β i w1.heap.size) fun k hka => (upd_ne β _ (fun e => by subst e; rw [List.contains_iff_mem.2 hka] at hni; cases hni)).symm]
    exact ⟨Blk.new _ _ _, hg.size⟩
  · rw [show (fun β => (B β).put (dstOf ops i) (V β)) = B' from funext fun β => by rw [hd]; exact ha β, hp]
    exact h
theorem Walk.done (h : ∀ β w, Grow.G w0 w → (∀ f ∈ ps, f.1 β w) → Q .normal (B β) w) : Walk P md ops w0 Q 0 i B ps := h
end
end Go.Free
namespace Go.Free
open Go.RowKit
open Go.Evo (deps at_drop)
section
variable {P : Program} {md : Region.Mode} {ops : Array Oper} {w0 : World} {Q : Exit → Act → World → Prop} {i r : Nat} {B : Bl → Act} {ps : List Fa} {o : Oper} {rest : List Oper}
/-- The same, shorter to write. -/
theorem va (anc : List Nat) (V : Bl → Value) (B' : Bl → Act) (ps' : List Fa) (h : Walk P md ops w0 Q r (i + 1) B' ps') (hi : ops.toList.drop i = o :: rest := by rfl) (hc : chk md ops ps i anc = true := by kernel_rfl)
    (hw : ∀ β, Region.wanted o (yielded ops (B β).tmps) = true := by intro β; rfl)
    (hv : ∀ β w1, Grow.G w0 w1 → (∀ j ∈ anc, (ps.getD j noFa).1 β w1) → (execOp (B β).eval o).run P w1 = .ok (.value (V β)) w1 := by intro β w1 hg hf; first | (go_simp <;> with_reducible rfl) | (go_simp; rw [if_neg (by omega)]))
    (ha : ∀ β, (B β).put o.dst (V β) = B' β := by intro β; simp only [Act.put, L0, L1, L2] <;> rfl) (hl : ∀ β β', (∀ k ∈ anc, β k = β' k) → V β = V β' := by intro β β' hk; rfl)
    (hp : ps ++ [(fun _ _ => True, anc)] = ps' := by simp only [K0, K1] <;> rfl) : Walk P md ops w0 Q (r + 1) i B ps := Walk.val anc V B' hi hc hw hv hl ha hp h
theorem ca (anc : List Nat) (V : Bl → Value) (B' : Bl → Act) (ps' : List Fa) (f : FuncId) (args : Bl → Array Value) (h : Walk P md ops w0 Q r (i + 1) B' ps') (hi : ops.toList.drop i = o :: rest := by rfl) (hc : chk md ops ps i anc = true := by kernel_rfl)
    (hw : ∀ β, Region.wanted o (yielded ops (B β).tmps) = true := by intro β; rfl)
    (hv : ∀ β w1, (execOp (B β).eval o).run P w1 = .ok (.enter f (args β)) w1 := by intro β w1; go_simp; exact ⟨rfl, rfl⟩)
    (hcall : ∀ β w1, Grow.G w0 w1 → (∀ j ∈ anc, (ps.getD j noFa).1 β w1) → Calls P f (args β) w1 fun e w' => e = .returned (V β) ∧ Grow.G w1 w')
    (ha : ∀ β, (B β).put o.dst (V β) = B' β := by intro β; simp only [Act.put, L0, L1, L2] <;> rfl) (hl : ∀ β β', (∀ k ∈ anc, β k = β' k) → V β = V β' := by intro β β' hk; rfl)
    (hp : ps ++ [(fun _ _ => True, anc)] = ps' := by simp only [K0, K1] <;> rfl) : Walk P md ops w0 Q (r + 1) i B ps := Walk.cal anc V B' f args hi hc hw hv hcall hl ha hp h
theorem ma (anc : List Nat) (V : Bl → Value) (C : Bl → Array Value) (T : TypeId) (B' : Bl → Act) (ps' : List Fa) (h : Walk P md ops w0 Q r (i + 1) B' ps') (hi : ops.toList.drop i = o :: rest := by rfl) (hc : chk md ops ps i anc = true := by kernel_rfl)
    (hw : ∀ β, Region.wanted o (yielded ops (B β).tmps) = true := by intro β; rfl)
    (hv : ∀ β w1, Grow.G w0 w1 → (∀ j ∈ anc, (ps.getD j noFa).1 β w1) → (execOp (B β).eval o).run P w1 = .ok (.value (V (upd β i w1.heap.size))) (w1.alloc (.cells (C β) T)))
    (hl : ∀ β β', (∀ k, k = i ∨ k ∈ anc → β k = β' k) → V β = V β') (hC : ∀ β β', (∀ k ∈ anc, β k = β' k) → C β = C β' := by intro β β' hk; rfl) (hni : anc.contains i = false := by decide)
    (ha : ∀ β, (B β).put o.dst (V β) = B' β := by intro β; simp only [Act.put, L0, L1, L2] <;> rfl)
    (hp : ps ++ [(blkFa w0 i C T, anc)] = ps' := by simp only [K0, K1] <;> rfl) : Walk P md ops w0 Q (r + 1) i B ps := Walk.mk anc V C T B' hi hc hw hv hl hC hni ha hp h
end
end Go.Free
