/- What is proved here: a region that draws its order of evaluation, each of whose operations yields the value that a plan names in every world that meets a condition, and leaves a world that meets it, ends in the plan's state, whatever order is drawn. -/
import Derived.Deep.RegionHeld
namespace Go.Proofs.Ytpjkcdkhfjcojaa
open Go

/-- Every edge goes back, and whatever an operation looks at is written outside the region, or by operations that it waits for. -/
def planOk (ops : Array Oper) : Bool :=
  (List.range ops.size).all fun i => match ops[i]? with
    | none => true
    | some o => (o.after.all fun e => !Region.binds .any e || decide (e.on < i)) &&
      (o.looksAt ops).all fun d => (List.range ops.size).all fun j => match ops[j]? with
        | none => true
        | some oj => oj.dst != some d || o.after.any fun e => e.on == j && Region.binds .any e

theorem planOk_edge {ops : Array Oper} (h : planOk ops = true) {i : Nat} {o : Oper} (ho : ops[i]? = some o) {e : Edge} (he : e ∈ o.after) (hb : Region.binds .any e = true) : e.on < i := by
  have hi : i < ops.size := (Array.getElem?_eq_some_iff.1 ho).1
  have h1 := List.all_eq_true.1 h i (List.mem_range.2 hi)
  simp only [ho, Bool.and_eq_true] at h1
  have h2 := Array.all_eq_true_iff_forall_mem.1 h1.1 e he
  simpa [hb] using h2

theorem planOk_waits {ops : Array Oper} (h : planOk ops = true) {i j : Nat} {o oj : Oper} (ho : ops[i]? = some o) (hj : ops[j]? = some oj) {d : Tmp} (hd : d ∈ o.looksAt ops) (hw : oj.dst = some d) : ∃ e ∈ o.after, e.on = j ∧ Region.binds .any e = true := by
  have hi : i < ops.size := (Array.getElem?_eq_some_iff.1 ho).1
  have hjl : j < ops.size := (Array.getElem?_eq_some_iff.1 hj).1
  have h1 := List.all_eq_true.1 h i (List.mem_range.2 hi)
  simp only [ho, Bool.and_eq_true] at h1
  have h2 := List.all_eq_true.1 (List.all_eq_true.1 h1.2 d hd) j (List.mem_range.2 hjl)
  simp only [hj, hw, Bool.or_eq_true] at h2
  rcases h2 with h2 | h2
  · simp at h2
  · obtain ⟨k, hk, hb⟩ := Array.any_eq_true.1 h2
    simp only [Bool.and_eq_true, beq_iff_eq] at hb
    exact ⟨_, Array.getElem_mem hk, hb.1, hb.2⟩

/-- One operation keeps to the plan 'F': in every world that meets S it leaves what F holds in its temporary, and S. -/
def PlanStep (P : Program) (ops : Array Oper) (S : World → Prop) (F : Act) (o : Oper) : Prop :=
  ∀ (w : World) (K : Act → World → Prop), S w → Shut (∀ w', S w' → K F w') →
    if Region.wanted o (yielded ops F.tmps) = true then Oper.wp P o F w K (fun _ _ _ => False) else K (F.put o.dst undef) w

/-- The state 'a' is the plan, but for what is still to come. -/
def Planned (ops : Array Oper) (F a : Act) (listed : Array Bool) : Prop :=
  a.defers = F.defers ∧ a.tmps.size = F.tmps.size ∧
    ∀ d : Nat, (∀ (j : Nat) (oj : Oper), ops[j]? = some oj → oj.dst = some d → listed.getD j true = true) → a.tmps[d]? = F.tmps[d]?

theorem Planned.put {ops : Array Oper} {F a : Act} {listed : Array Bool} (h : Planned ops F a listed) {i : Nat} {o : Oper} (ho : ops[i]? = some o) {u : Value}
    (hu : ∀ d, o.dst = some d → (F.put o.dst u).tmps[d]? = F.tmps[d]?) : Planned ops F (a.put o.dst u) (listed.setIfInBounds i true) := by
  obtain ⟨h1, h2, h3⟩ := h
  have look : ∀ d : Nat, o.dst ≠ some d → (∀ (j : Nat) (oj : Oper), ops[j]? = some oj → oj.dst = some d → (listed.setIfInBounds i true).getD j true = true) → a.tmps[d]? = F.tmps[d]? := fun d hd hall => by
    refine h3 d (fun j oj hj hjd => ?_)
    by_cases hij : i = j
    · subst hij
      rw [ho] at hj
      cases hj
      exact absurd hjd hd
    · have := hall j oj hj hjd
      rwa [getD_set_ne true hij] at this
  cases hd : o.dst with
  | none =>
    exact ⟨h1, h2, fun d hall => look d (by rw [hd]; exact fun h => by cases h) hall⟩
  | some t =>
    refine ⟨h1, by simp [Act.put, h2], fun d hall => ?_⟩
    by_cases hdt : t = d
    · subst hdt
      have := hu t hd
      rw [hd] at this
      simp only [Act.put] at this ⊢
      rw [← this, Array.getElem?_setIfInBounds, Array.getElem?_setIfInBounds, h2, if_pos rfl, if_pos rfl]
    · have := look d (by rw [hd]; exact fun h => hdt (by injection h)) hall
      simp only [Act.put]
      rw [Array.getElem?_setIfInBounds_ne hdt]
      exact this

theorem Planned.same {ops : Array Oper} {F a : Act} {listed : Array Bool} (h : Planned ops F a listed) (hp : planOk ops = true) {i : Nat} (hi : i ∈ Region.ready .any ops listed) {o : Oper} (ho : ops[i]? = some o) {d : Tmp} (hd : d ∈ o.looksAt ops) :
    a.tmps[d]? = F.tmps[d]? := by
  obtain ⟨_, o', ho', hall⟩ := mem_ready.1 hi
  rw [ho] at ho'
  cases ho'
  refine h.2.2 d (fun j oj hj hjd => ?_)
  obtain ⟨e, he, hej, heb⟩ := planOk_waits hp ho hj hd hjd
  have := hall e he heb
  rw [hej] at this
  rcases Nat.lt_or_ge j listed.size with h' | h'
  · simp [h'] at this ⊢; exact this
  · simp [h']

theorem Planned.exec {ops : Array Oper} {F a : Act} {listed : Array Bool} (h : Planned ops F a listed) (hp : planOk ops = true) (hs : Region.noSelect ops = true) {i : Nat} (hi : i ∈ Region.ready .any ops listed) {o : Oper} (ho : ops[i]? = some o) :
    execOp a.eval o = execOp F.eval o :=
  execOp_congr o (fun cs b => Region.noSelect_spec hs i o cs b ho) fun x hx => by
    cases x with
    | tmp t =>
      have := h.same hp hi ho (d := t) (List.mem_append_left _ (List.mem_filterMap.2 ⟨.tmp t, by simpa using hx, rfl⟩))
      simp only [Act.eval, Array.getD_eq_getD_getElem?, this]
    | _ => rfl

theorem Planned.wanted {ops : Array Oper} {F a : Act} {listed : Array Bool} (h : Planned ops F a listed) (hp : planOk ops = true) {i : Nat} (hi : i ∈ Region.ready .any ops listed) {o : Oper} (ho : ops[i]? = some o) :
    Region.wanted o (yielded ops a.tmps) = Region.wanted o (yielded ops F.tmps) := by
  unfold Region.wanted
  cases hg : o.guard with
  | none => rfl
  | some gw =>
    obtain ⟨g, want⟩ := gw
    have hy : yielded ops a.tmps g = yielded ops F.tmps g := by
      unfold yielded
      cases ht : (ops[g]?).bind (·.dst) with
      | none => rfl
      | some t =>
        have := h.same hp hi ho (d := t) (by simp [Oper.looksAt, hg, ht])
        simp only [Option.bind_some, this]
    simp only [hy]

theorem Planned.op {P : Program} {ops : Array Oper} {S : World → Prop} {F a : Act} {listed : Array Bool} {Q : Exit → Act → World → Prop} {K : Act → World → Prop} {w : World}
    (h : Planned ops F a listed) (hp : planOk ops = true) (hs : Region.noSelect ops = true) {i : Nat} (hi : i ∈ Region.ready .any ops listed) {o : Oper} (ho : ops[i]? = some o)
    (hstep : PlanStep P ops S F o) (hS : S w) (hK : ∀ a' w', Planned ops F a' (listed.setIfInBounds i true) → S w' → K a' w') : wpOp P ops Q i K a w := by
  have hst := hstep w (fun a' w' => (S w' ∧ a'.defers = F.defers) ∧ ∀ d, o.dst = some d → a'.tmps[d]? = F.tmps[d]?) hS (fun w' hw' => ⟨⟨hw', rfl⟩, fun _ _ => rfl⟩)
  unfold wpOp
  simp only [ho]
  rw [h.wanted hp hi ho]
  split
  · rename_i hw
    rw [if_pos hw] at hst
    refine .inl ?_
    unfold Oper.wp at hst ⊢
    rw [h.exec hp hs hi ho]
    generalize (execOp F.eval o).run P w = r at *
    cases r with
    | ok n w' =>
      cases n <;> simp only [Oper.upon] at hst ⊢
      case value u => exact hK _ _ (h.put ho hst.2) hst.1.1
      case skip => exact hK _ _ (h.put ho hst.2) hst.1.1
      case defer d =>
        have hl := hst.1.2
        cases hd : o.dst <;> rw [hd] at hl <;> exact absurd (congrArg List.length hl) (by simp [Act.put])
      case enter f args =>
        refine Calls.mono hst fun e w'' he => ?_
        cases e with
        | returned u => exact hK _ _ (h.put ho he.2) he.1.1
        | panicked c => exact (he : False).elim
        | outgrown => obtain ⟨_, _, hf⟩ := he; exact (hf : False).elim
      case row row args => exact Rows.mono hst fun u w'' he => hK _ _ (h.put ho he.2) he.1.1
    | halt x w' =>
      cases x <;> simp only [Oper.upon] at hst ⊢
  · rename_i hw
    rw [if_neg hw] at hst
    exact hK _ _ (h.put ho hst.2) hst.1.1

/-- How many are still to come. -/
def toCome (listed : Array Bool) (n : Nat) : Nat := (List.range n).countP fun i => !listed.getD i true

theorem toCome_set {listed : Array Bool} {i : Nat} (hi : listed.getD i true = false) : ∀ n : Nat,
    toCome (listed.setIfInBounds i true) n + (if i < n then 1 else 0) = toCome listed n := by
  have hlt : i < listed.size := by
    rcases Nat.lt_or_ge i listed.size with h | h
    · exact h
    · simp [h] at hi
  intro n
  induction n with
  | zero => simp [toCome]
  | succ n ih =>
    have hc : ∀ l : Array Bool, toCome l (n + 1) = toCome l n + (if l.getD n true = true then 0 else 1) := fun l => by
      unfold toCome
      rw [List.range_succ, List.countP_append, List.countP_singleton]
      cases l.getD n true <;> simp
    rw [hc, hc, ← ih]
    by_cases hin : i = n
    · subst hin
      have h1 : (listed.setIfInBounds i true).getD i true = true := by simp [hlt]
      rw [h1, hi]
      simp
    · rw [getD_set_ne true hin]
      by_cases h2 : i < n
      · rw [if_pos h2, if_pos (show i < n + 1 by omega)]; omega
      · rw [if_neg h2, if_neg (show ¬ i < n + 1 by omega)]; omega

theorem toCome_none {listed : Array Bool} {n : Nat} (h : toCome listed n = 0) {j : Nat} (hj : j < n) : listed.getD j true = true := by
  have := List.countP_eq_zero.1 h j (List.mem_range.2 hj)
  simpa using this

theorem listed_all {ops : Array Oper} (hp : planOk ops = true) {listed : Array Bool} (hl : listed.size = ops.size) (hr : Region.ready .any ops listed = []) :
    ∀ j, j < ops.size → listed.getD j true = true := by
  intro j
  induction j using Nat.strongRecOn with
  | ind j ih =>
    intro hj
    cases hb : listed.getD j true with
    | true => rfl
    | false =>
      have : j ∈ Region.ready .any ops listed := by
        refine mem_ready.2 ⟨hb, ops[j], Array.getElem?_eq_getElem hj, fun e he hbe => ?_⟩
        have h1 := planOk_edge hp (Array.getElem?_eq_getElem hj) he hbe
        have h2 := ih e.on h1 (by omega)
        simp [show e.on < listed.size by omega] at h2 ⊢
        exact h2
      rw [hr] at this
      cases this

theorem Planned.all {ops : Array Oper} {F a : Act} {listed : Array Bool} (h : Planned ops F a listed) (hall : ∀ j, j < ops.size → listed.getD j true = true) : a = F := by
  obtain ⟨h1, h2, h3⟩ := h
  obtain ⟨at_, ad⟩ := a
  obtain ⟨ft, fd⟩ := F
  simp only at h1 h2 h3
  subst h1
  congr
  apply Array.ext_getElem?
  intro d
  exact h3 d (fun j oj hj _ => hall j (Array.getElem?_eq_some_iff.1 hj).1)

theorem planned_any {P : Program} {ops : Array Oper} {S : World → Prop} {F : Act} {Q : Exit → Act → World → Prop} (hp : planOk ops = true) (hs : Region.noSelect ops = true)
    (hstep : ∀ (i : Nat) (o : Oper), ops[i]? = some o → PlanStep P ops S F o) (hQ : ∀ w', S w' → Q .normal F w') :
    ∀ (fuel : Nat) (listed : Array Bool) (a : Act) (w : World), listed.size = ops.size → toCome listed ops.size ≤ fuel → Planned ops F a listed → S w → wpAny P .any ops Q fuel listed a w := by
  intro fuel
  induction fuel with
  | zero =>
    intro listed a w hl hc hpl hS
    have hall : ∀ j, j < ops.size → listed.getD j true = true := fun j hj => toCome_none (Nat.le_zero.1 hc) hj
    refine ⟨?_, ?_⟩
    · rw [List.eq_nil_iff_forall_not_mem]
      intro j hj
      obtain ⟨h0, o, ho, _⟩ := mem_ready.1 hj
      rw [hall j (Array.getElem?_eq_some_iff.1 ho).1] at h0
      cases h0
    · rw [hpl.all hall]; exact hQ w hS
  | succ fuel ih =>
    intro listed a w hl hc hpl hS
    refine ⟨fun hr => ?_, fun i hi => ?_⟩
    · rw [hpl.all (listed_all hp hl hr)]; exact hQ w hS
    · obtain ⟨h0, o, ho, _⟩ := mem_ready.1 hi
      refine hpl.op hp hs hi ho (hstep i o ho) hS (fun a' w' hpl' hS' => ih _ _ _ (by simp [hl]) ?_ hpl' hS')
      have h1 := toCome_set h0 ops.size
      rw [if_pos (Array.getElem?_eq_some_iff.1 ho).1] at h1
      omega

/-- All operations of a list keep to the plan. -/
def PlanSteps (P : Program) (ops : Array Oper) (S : World → Prop) (F : Act) : List Oper → Prop
  | [] => True
  | o :: os => PlanStep P ops S F o ∧ PlanSteps P ops S F os

theorem PlanSteps.at {P : Program} {ops : Array Oper} {S : World → Prop} {F : Act} : ∀ {os : List Oper}, PlanSteps P ops S F os → ∀ {o : Oper}, o ∈ os → PlanStep P ops S F o
  | [], _, _, hm => by cases hm
  | _ :: _, h, _, hm => by
    rcases List.mem_cons.1 hm with rfl | hm
    · exact h.1
    · exact h.2.at hm

/-- What the region does not write is in the plan as it was. -/
def planFits (ops : Array Oper) (n : Nat) : List Nat := (List.range n).filter fun d => !ops.any fun o => o.dst == some d

theorem planned_start {ops : Array Oper} {F a : Act} (hd : a.defers = F.defers) (hz : a.tmps.size = F.tmps.size)
    (hf : ∀ d ∈ planFits ops F.tmps.size, a.tmps[d]? = F.tmps[d]?) : Planned ops F a (Array.replicate ops.size false) := by
  refine ⟨hd, hz, fun d hall => ?_⟩
  rcases Nat.lt_or_ge d F.tmps.size with h | h
  · refine hf d (List.mem_filter.2 ⟨List.mem_range.2 h, ?_⟩)
    rw [Bool.not_eq_true', ← Bool.not_eq_true]
    intro hany
    obtain ⟨j, hj, hjd⟩ := Array.any_eq_true.1 hany
    have := hall j _ (Array.getElem?_eq_getElem hj) (by simpa using hjd)
    simp [hj] at this
  · rw [Array.getElem?_eq_none h, Array.getElem?_eq_none (by omega)]

/-- A region that draws, by a plan. -/
theorem wp_region_plan {P : Program} {id : Nat} {l : List Oper} {S : World → Prop} {F a : Act} {w : World} {Q : Exit → Act → World → Prop} (hm : P.follows .mixedOrders = true)
    (hp : planOk l.toArray = true) (hs : Region.noSelect l.toArray = true) (hS : S w.drew)
    (hd : a.defers = F.defers) (hz : a.tmps.size = F.tmps.size) (hf : ∀ d ∈ planFits l.toArray F.tmps.size, a.tmps[d]? = F.tmps[d]?)
    (hsteps : PlanSteps P l.toArray S F l) (hQ : ∀ w', S w' → Q .normal F w') : (Code.region id l.toArray true).wp P Q a w := by
  refine wp_region_any hm (planned_any hp hs (fun i o ho => hsteps.at ?_) hQ _ _ _ _ (by simp) ?_ (planned_start hd hz hf) hS)
  · have := Array.mem_of_getElem? ho
    simpa using this
  · unfold toCome
    exact Nat.le_trans List.countP_le_length (by simp)


/-- What has come up is closed: whoever has come up waited for those that it waits for. -/
def Shutin (ops : Array Oper) (L : Nat → Bool) : Prop := ∀ (j : Nat) (oj : Oper), ops[j]? = some oj → L j = true → ∀ e ∈ oj.after, Region.binds .any e = true → L e.on = true

/-- One operation keeps to the plan; the plan may name what has been made. -/
def GStep (P : Program) (ops : Array Oper) {Γ : Type} (F : Γ → Act) (J : Γ → (Nat → Bool) → World → Prop) (i : Nat) (o : Oper) : Prop :=
  ∀ (γ : Γ) (L : Nat → Bool) (w : World) (K : Act → World → Prop), J γ L w → Shutin ops L → L i = false → (∀ e ∈ o.after, Region.binds .any e = true → L e.on = true) →
    Shut (∀ (γ' : Γ) (v : Value) (w' : World), F γ' = (F γ).put o.dst v → J γ' (fun j => L j || j == i) w' → K ((F γ).put o.dst v) w') →
    if Region.wanted o (yielded ops (F γ).tmps) = true then Oper.wp P o (F γ) w K (fun _ _ _ => False) else K ((F γ).put o.dst undef) w

/-- The listed ones. -/
def onList (listed : Array Bool) (j : Nat) : Bool := listed.getD j true

theorem onList_set {listed : Array Bool} {i : Nat} (hi : listed.getD i true = false) : onList (listed.setIfInBounds i true) = fun j => onList listed j || j == i := by
  funext j
  unfold onList
  have hlt : i < listed.size := by
    rcases Nat.lt_or_ge i listed.size with h | h
    · exact h
    · simp [h] at hi
  by_cases hij : i = j
  · subst hij; simp [hlt]
  · rw [getD_set_ne true hij]
    have : (j == i) = false := by simp; exact fun h => hij h.symm
    rw [this, Bool.or_false]

theorem getD_true {listed : Array Bool} {j : Nat} (h : listed.getD j false = true) : listed.getD j true = true := by
  rcases Nat.lt_or_ge j listed.size with h' | h'
  · simp [h'] at h ⊢; exact h
  · simp [h']

theorem Planned.move {ops : Array Oper} {F F' a : Act} {listed : Array Bool} (h : Planned ops F a listed) {i : Nat} {o : Oper} (ho : ops[i]? = some o) {u : Value}
    (hF : F' = F.put o.dst u) : Planned ops F' (a.put o.dst u) (listed.setIfInBounds i true) := by
  subst hF
  obtain ⟨h1, h2, h3⟩ := h
  have look : ∀ d : Nat, o.dst ≠ some d → (∀ (j : Nat) (oj : Oper), ops[j]? = some oj → oj.dst = some d → (listed.setIfInBounds i true).getD j true = true) → a.tmps[d]? = F.tmps[d]? := fun d hd hall => by
    refine h3 d (fun j oj hj hjd => ?_)
    by_cases hij : i = j
    · subst hij
      rw [ho] at hj
      cases hj
      exact absurd hjd hd
    · have := hall j oj hj hjd
      rwa [getD_set_ne true hij] at this
  cases hd : o.dst with
  | none =>
    exact ⟨h1, h2, fun d hall => look d (by rw [hd]; exact fun h => by cases h) hall⟩
  | some t =>
    refine ⟨h1, by simp [Act.put, h2], fun d hall => ?_⟩
    simp only [Act.put]
    by_cases hdt : t = d
    · subst hdt
      rw [Array.getElem?_setIfInBounds, Array.getElem?_setIfInBounds, h2, if_pos rfl, if_pos rfl]
    · rw [Array.getElem?_setIfInBounds_ne hdt, Array.getElem?_setIfInBounds_ne hdt]
      exact look d (by rw [hd]; exact fun h => hdt (by injection h)) hall

theorem Planned.gop {P : Program} {ops : Array Oper} {Γ : Type} {F : Γ → Act} {J : Γ → (Nat → Bool) → World → Prop} {γ : Γ} {a : Act} {listed : Array Bool} {Q : Exit → Act → World → Prop} {K : Act → World → Prop} {w : World}
    (h : Planned ops (F γ) a listed) (hp : planOk ops = true) (hs : Region.noSelect ops = true) {i : Nat} (hi : i ∈ Region.ready .any ops listed) {o : Oper} (ho : ops[i]? = some o)
    (hstep : GStep P ops F J i o) (hJ : J γ (onList listed) w) (hcl : Shutin ops (onList listed))
    (hK : ∀ γ' a' w', Planned ops (F γ') a' (listed.setIfInBounds i true) → J γ' (onList (listed.setIfInBounds i true)) w' → K a' w') : wpOp P ops Q i K a w := by
  obtain ⟨h0, o', ho', hdep⟩ := mem_ready.1 hi
  rw [ho] at ho'
  cases ho'
  have hst := hstep γ (onList listed) w (fun a' w' => a'.defers = (F γ).defers ∧ ∃ γ', F γ' = a' ∧ J γ' (fun j => onList listed j || j == i) w') hJ hcl h0 (fun e he hb => getD_true (hdep e he hb))
    (fun γ' v w' hF hJ' => ⟨by cases o.dst <;> rfl, γ', hF, hJ'⟩)
  rw [← onList_set h0] at hst
  unfold wpOp
  simp only [ho]
  rw [h.wanted hp hi ho]
  have go : ∀ (u : Value) (w' : World), (((F γ).put o.dst u).defers = (F γ).defers ∧ ∃ γ', F γ' = (F γ).put o.dst u ∧ J γ' (onList (listed.setIfInBounds i true)) w') → K (a.put o.dst u) w' := fun u w' hu => by
    obtain ⟨_, γ', hF, hJ'⟩ := hu
    exact hK γ' _ _ (h.move ho hF) hJ'
  split
  · rename_i hw
    rw [if_pos hw] at hst
    refine .inl ?_
    unfold Oper.wp at hst ⊢
    rw [h.exec hp hs hi ho]
    generalize (execOp (F γ).eval o).run P w = r at *
    cases r with
    | ok n w' =>
      cases n <;> simp only [Oper.upon] at hst ⊢
      case value u => exact go _ _ hst
      case skip => exact go _ _ hst
      case defer d =>
        have hl := hst.1
        cases hd : o.dst <;> rw [hd] at hl <;> exact absurd (congrArg List.length hl) (by simp [Act.put])
      case enter f args =>
        refine Calls.mono hst fun e w'' he => ?_
        cases e with
        | returned u => exact go _ _ he
        | panicked c => exact (he : False).elim
        | outgrown => obtain ⟨_, _, hf⟩ := he; exact (hf : False).elim
      case row row args => exact Rows.mono hst fun u w'' he => go _ _ he
    | halt x w' =>
      cases x <;> simp only [Oper.upon] at hst ⊢
  · rename_i hw
    rw [if_neg hw] at hst
    exact go _ _ hst

theorem planned_gany {P : Program} {ops : Array Oper} {Γ : Type} {F : Γ → Act} {J : Γ → (Nat → Bool) → World → Prop} {Q : Exit → Act → World → Prop} (hp : planOk ops = true) (hs : Region.noSelect ops = true)
    (hstep : ∀ (i : Nat) (o : Oper), ops[i]? = some o → GStep P ops F J i o) (hQ : ∀ γ L w', (∀ j, j < ops.size → L j = true) → J γ L w' → Q .normal (F γ) w') :
    ∀ (fuel : Nat) (listed : Array Bool) (γ : Γ) (a : Act) (w : World), listed.size = ops.size → toCome listed ops.size ≤ fuel → Planned ops (F γ) a listed → Shutin ops (onList listed) → J γ (onList listed) w → wpAny P .any ops Q fuel listed a w := by
  intro fuel
  induction fuel with
  | zero =>
    intro listed γ a w hl hc hpl hcl hJ
    have hall : ∀ j, j < ops.size → listed.getD j true = true := fun j hj => toCome_none (Nat.le_zero.1 hc) hj
    refine ⟨?_, ?_⟩
    · rw [List.eq_nil_iff_forall_not_mem]
      intro j hj
      obtain ⟨h0, o, ho, _⟩ := mem_ready.1 hj
      rw [hall j (Array.getElem?_eq_some_iff.1 ho).1] at h0
      cases h0
    · rw [hpl.all hall]; exact hQ γ _ w hall hJ
  | succ fuel ih =>
    intro listed γ a w hl hc hpl hcl hJ
    refine ⟨fun hr => ?_, fun i hi => ?_⟩
    · rw [hpl.all (listed_all hp hl hr)]; exact hQ γ _ w (listed_all hp hl hr) hJ
    · obtain ⟨h0, o, ho, hdep⟩ := mem_ready.1 hi
      refine hpl.gop hp hs hi ho (hstep i o ho) hJ hcl (fun γ' a' w' hpl' hJ' => ih _ γ' _ _ (by simp [hl]) ?_ hpl' ?_ hJ')
      · have h1 := toCome_set h0 ops.size
        rw [if_pos (Array.getElem?_eq_some_iff.1 ho).1] at h1
        omega
      · rw [onList_set h0]
        intro j oj hj hLj e he hb
        simp only [Bool.or_eq_true, beq_iff_eq] at hLj ⊢
        rcases hLj with h1 | h1
        · exact .inl (hcl j oj hj h1 e he hb)
        · subst h1
          rw [ho] at hj
          cases hj
          exact .inl (getD_true (hdep e he hb))

/-- All operations keep to the plan, numbered from k on. -/
def GSteps (P : Program) (ops : Array Oper) {Γ : Type} (F : Γ → Act) (J : Γ → (Nat → Bool) → World → Prop) : Nat → List Oper → Prop
  | _, [] => True
  | k, o :: os => GStep P ops F J k o ∧ GSteps P ops F J (k + 1) os

theorem GSteps.at {P : Program} {ops : Array Oper} {Γ : Type} {F : Γ → Act} {J : Γ → (Nat → Bool) → World → Prop} : ∀ {os : List Oper} {k : Nat}, GSteps P ops F J k os → ∀ {i : Nat} {o : Oper}, os[i]? = some o → GStep P ops F J (k + i) o
  | [], _, _, _, _, hm => by cases hm
  | o' :: os, k, h, i, o, hm => by
    cases i with
    | zero => cases hm; exact h.1
    | succ i =>
      have := h.2.at (i := i) (o := o) (by simpa using hm)
      rwa [Nat.add_assoc, Nat.add_comm 1] at this

/-- What a plan puts in place. -/
def putAll (t : Array Value) : List (Tmp × Value) → Array Value
  | [] => t
  | p :: ps => putAll (t.setIfInBounds p.1 p.2) ps

theorem putAll_size : ∀ (ps : List (Tmp × Value)) (t : Array Value), (putAll t ps).size = t.size
  | [], _ => rfl
  | _ :: ps, t => by rw [putAll, putAll_size ps]; simp

theorem putAll_other {d : Nat} : ∀ (ps : List (Tmp × Value)) (t : Array Value), (∀ p ∈ ps, p.1 ≠ d) → (putAll t ps)[d]? = t[d]?
  | [], _, _ => rfl
  | p :: ps, t, h => by
    rw [putAll, putAll_other ps _ (fun q hq => h q (List.mem_cons_of_mem _ hq))]
    exact Array.getElem?_setIfInBounds_ne (h p List.mem_cons_self)

theorem planned_put {ops : Array Oper} {F a : Act} {vs : List (Tmp × Value)} (hd : a.defers = F.defers) (hF : putAll a.tmps vs = F.tmps)
    (hk : (vs.all fun p => ops.any fun o => o.dst == some p.1) = true) : Planned ops F a (Array.replicate ops.size false) := by
  refine planned_start hd (by rw [← hF, putAll_size]) (fun d hm => ?_)
  rw [← hF, putAll_other vs]
  intro p hp hpd
  obtain ⟨_, hn⟩ := List.mem_filter.1 hm
  have h1 := List.all_eq_true.1 hk p hp
  rw [hpd] at h1
  rw [h1] at hn
  cases hn

/-- A region that draws, by a plan that names what is made. -/
theorem wp_region_g {P : Program} {id : Nat} {l : List Oper} {Γ : Type} {F : Γ → Act} {J : Γ → (Nat → Bool) → World → Prop} (γ : Γ) {a : Act} {w : World} {Q : Exit → Act → World → Prop} (vs : List (Tmp × Value)) (hm : P.follows .mixedOrders = true)
    (hp : planOk l.toArray = true) (hs : Region.noSelect l.toArray = true) (hk : (vs.all fun p => l.toArray.any fun o => o.dst == some p.1) = true)
    (hd : a.defers = (F γ).defers) (hF : putAll a.tmps vs = (F γ).tmps) (hJ : J γ (fun j => decide (l.toArray.size ≤ j)) w.drew)
    (hsteps : GSteps P l.toArray F J 0 l) (hQ : ∀ γ L w', (∀ j, j < l.toArray.size → L j = true) → J γ L w' → Q .normal (F γ) w') : (Code.region id l.toArray true).wp P Q a w := by
  have hL : onList (Array.replicate l.toArray.size false) = fun j => decide (l.toArray.size ≤ j) := by
    funext j
    unfold onList
    rcases Nat.lt_or_ge j l.toArray.size with h | h
    · simp at h; simp [h]
    · simp at h; simp [h]
  refine wp_region_any hm (planned_gany hp hs (fun i o ho => ?_) hQ _ _ γ _ _ (by simp) ?_ (planned_put hd hF hk) ?_ ?_)
  · have := hsteps.at (i := i) (o := o) (by simpa using ho)
    rwa [Nat.zero_add] at this
  · unfold toCome
    exact Nat.le_trans List.countP_le_length (by simp)
  · intro j oj hj hLj
    rw [hL] at hLj
    have := (Array.getElem?_eq_some_iff.1 hj).1
    simp only [decide_eq_true_eq] at hLj
    omega
  · rw [hL]; exact hJ

/-- The last operation waits for each other one. -/
def lastOk (ops : Array Oper) (n : Nat) : Bool := match ops[n]? with
  | none => false
  | some o => o.dst == none && (List.range n).all fun i => o.after.any fun e => e.on == i && Region.binds .any e

theorem lastOk_waits {ops : Array Oper} {n : Nat} (h : lastOk ops n = true) {o : Oper} (ho : ops[n]? = some o) {i : Nat} (hi : i < n) : ∃ e ∈ o.after, e.on = i ∧ Region.binds .any e = true := by
  unfold lastOk at h
  simp only [ho, Bool.and_eq_true] at h
  have h2 := List.all_eq_true.1 h.2 i (List.mem_range.2 hi)
  obtain ⟨k, hk, hb⟩ := Array.any_eq_true.1 h2
  simp only [Bool.and_eq_true, beq_iff_eq] at hb
  exact ⟨_, Array.getElem_mem hk, hb.1, hb.2⟩

/-- All but the last keep to the plan. -/
def PlanInit (P : Program) (ops : Array Oper) (S : World → Prop) (F : Act) : List Oper → Prop
  | [] => True
  | [_] => True
  | o :: o' :: os => PlanStep P ops S F o ∧ PlanInit P ops S F (o' :: os)

theorem PlanInit.at {P : Program} {ops : Array Oper} {S : World → Prop} {F : Act} : ∀ {os : List Oper}, PlanInit P ops S F os → ∀ {i : Nat} {o : Oper}, os[i]? = some o → i + 1 < os.length → PlanStep P ops S F o
  | [], _, _, _, hm, _ => by cases hm
  | [_], _, i, _, _, hl => by simp at hl
  | o₁ :: o₂ :: os, h, i, o, hm, hl => by
    cases i with
    | zero => cases hm; exact h.1
    | succ i => exact h.2.at (i := i) (by simpa using hm) (by simpa using hl)

/-- A region that draws, by a plan, with a last operation. -/
theorem wp_region_last {P : Program} {id : Nat} {l : List Oper} {S : World → Prop} {F a : Act} {w : World} {Q : Exit → Act → World → Prop} (vs : List (Tmp × Value)) (n : Nat) (o : Oper) (hm : P.follows .mixedOrders = true)
    (hp : planOk l.toArray = true) (hs : Region.noSelect l.toArray = true) (hk : (vs.all fun p => l.toArray.any fun o => o.dst == some p.1) = true)
    (hn : l.length = n + 1) (ho : l[n]? = some o) (hlast : lastOk l.toArray n = true)
    (hd : a.defers = F.defers) (hF : putAll a.tmps vs = F.tmps) (hS : S w.drew)
    (hsteps : PlanInit P l.toArray S F l)
    (hQ : ∀ w', S w' → ∀ K : Act → World → Prop, Shut (∀ w'', Q .normal F w'' → K F w'') → if Region.wanted o (yielded l.toArray F.tmps) = true then Oper.wp P o F w' K (fun _ _ _ => False) else K F w') :
    (Code.region id l.toArray true).wp P Q a w := by
  have hdst : o.dst = none := by
    unfold lastOk at hlast
    have ho' : l.toArray[n]? = some o := by simpa using ho
    simp only [ho', Bool.and_eq_true, beq_iff_eq] at hlast
    exact hlast.1
  refine wp_region_g (Γ := Unit) (F := fun _ => F) (J := fun _ L w => if L n = true then Q .normal F w else S w) () vs hm hp hs hk hd hF ?_ ?_ ?_
  · simp only
    rw [if_neg (by simp [hn])]
    exact hS
  · have key : ∀ (k : Nat) (os : List Oper), (∀ i, os[i]? = l[k + i]?) → GSteps P l.toArray (fun _ : Unit => F) (fun _ L w => if L n = true then Q .normal F w else S w) k os := by
      intro k os
      induction os generalizing k with
      | nil => intro _; trivial
      | cons o₁ os ih =>
        intro hos
        refine ⟨?_, ih (k + 1) (fun i => by have := hos (i + 1); simpa [Nat.add_assoc, Nat.add_comm 1] using this)⟩
        have hk1 : l[k]? = some o₁ := by have := hos 0; simpa using this.symm
        have hkl : k < l.length := (List.getElem?_eq_some_iff.1 hk1).1
        intro γ L w K hJ hcl hLk hdep hK
        by_cases hkn : k = n
        · subst hkn
          rw [ho] at hk1
          cases hk1
          simp only [hLk, Bool.false_eq_true, if_false] at hJ
          have := hQ w hJ K (fun w'' hq => by
            have := hK.out () undef w'' (by rw [hdst]; rfl) (by simp [hq])
            rwa [hdst] at this)
          rwa [hdst]
        · have hLn : L n = false := by
            cases hb : L n with
            | false => rfl
            | true =>
              obtain ⟨e, he, hej, heb⟩ := lastOk_waits hlast (by simpa using ho) (show k < n by omega)
              have := hcl n o (by simpa using ho) hb e he heb
              rw [hej, hLk] at this
              cases this
          simp only [hLn, Bool.false_eq_true, if_false] at hJ
          have hst := hsteps.at (i := k) (o := o₁) hk1 (by omega)
          have hst' := hst w (fun a' w' => S w' ∧ a' = F) hJ (fun w' hw' => ⟨hw', rfl⟩)
          have conv : ∀ (v : Value) (w' : World), S w' → F.put o₁.dst v = F → K (F.put o₁.dst v) w' := fun v w' hw' hv => by
            refine hK.out () v w' hv.symm ?_
            have : (L n || n == k) = false := by rw [hLn]; simp; omega
            simp only [this, Bool.false_eq_true, if_false]
            exact hw'
          split
          · rename_i hw
            rw [if_pos hw] at hst'
            unfold Oper.wp at hst' ⊢
            generalize (execOp F.eval o₁).run P w = r at *
            cases r with
            | ok m w' =>
              cases m <;> simp only [Oper.upon] at hst' ⊢
              case value u => exact conv _ _ hst'.1 hst'.2
              case skip => exact conv _ _ hst'.1 hst'.2
              case defer d =>
                have hl := congrArg Act.defers hst'.2
                cases hd' : o₁.dst <;> rw [hd'] at hl <;> exact absurd (congrArg List.length hl) (by simp [Act.put])
              case enter f args =>
                refine Calls.mono hst' fun e w'' he => ?_
                cases e with
                | returned u => exact conv _ _ he.1 he.2
                | panicked c => exact (he : False).elim
                | outgrown => obtain ⟨_, _, hf⟩ := he; exact (hf : False).elim
              case row row args => exact Rows.mono hst' fun u w'' he => conv _ _ he.1 he.2
            | halt x w' => cases x <;> simp only [Oper.upon] at hst' ⊢
          · rename_i hw
            rw [if_neg hw] at hst'
            exact conv _ _ hst'.1 hst'.2
    exact key 0 l (fun i => by rw [Nat.zero_add])
  · intro _ L w' hall hJ
    rw [if_pos (hall n (by simp [hn]))] at hJ
    exact hJ

/-- A region that draws, by a plan. -/
theorem wp_region_p {P : Program} {id : Nat} {l : List Oper} {S : World → Prop} {F a : Act} {w : World} {Q : Exit → Act → World → Prop} (vs : List (Tmp × Value)) (hm : P.follows .mixedOrders = true)
    (hp : planOk l.toArray = true) (hs : Region.noSelect l.toArray = true) (hk : (vs.all fun p => l.toArray.any fun o => o.dst == some p.1) = true)
    (hd : a.defers = F.defers) (hF : putAll a.tmps vs = F.tmps) (hS : S w.drew)
    (hsteps : PlanSteps P l.toArray S F l) (hQ : ∀ w', S w' → Q .normal F w') : (Code.region id l.toArray true).wp P Q a w := by
  refine wp_region_any hm (planned_any hp hs (fun i o ho => hsteps.at ?_) hQ _ _ _ _ (by simp) ?_ (planned_put hd hF hk) hS)
  · have := Array.mem_of_getElem? ho
    simpa using this
  · unfold toCome
    exact Nat.le_trans List.countP_le_length (by simp)

end Go.Proofs.Ytpjkcdkhfjcojaa
