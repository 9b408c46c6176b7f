/- What is proved here: a region that draws its order, of values alone, in which a temporary is set that others read before; a region that draws its order and appends to slices of its own. -/
import Derived.Test.YtkkmekdhejhapaaSumMut
import Derived.Laws.AppendOwnNone
import Derived.Below
namespace Go.Proofs.Ytkkmekdhejhapaa
section
open Go.RowKit Cv
def clG (A B : List Value) : Option Nat → List Value
  | none => B
  | some d => B.set d (A.getD d undef)
def clOk (ops : Array Oper) (cs : Nat → Option Nat) : Bool :=
  (List.range ops.size).all fun i => match ops[i]? with
    | none => true
    | some o => (o.after.all fun e => !Region.binds .any e || decide (e.on < i)) &&
      (o.looksAt ops).all fun d => (List.range ops.size).all fun j => match ops[j]? with
        | none => true
        | some oj => oj.dst != some d || (if cs i = some d then waitsFor ops j i else waitsFor ops i j)
theorem clOk_edge {ops : Array Oper} {cs : Nat → Option Nat} (h : clOk ops cs = true) {i : Nat} {o : Oper} (ho : ops[i]? = some o) {e : Edge} (he : e ∈ o.after) (hb : Region.binds .any e = true) : e.on < i := by
  have hi : i < ops.size := (Array.getElem?_eq_some_iff.1 ho).1
  have h1 := List.all_eq_true.1 h i (List.mem_range.2 hi)
  simp only [ho, Bool.and_eq_true] at h1
  have h2 := Array.all_eq_true_iff_forall_mem.1 h1.1 e he
  simpa [hb] using h2
theorem clOk_waits {ops : Array Oper} {cs : Nat → Option Nat} (h : clOk ops cs = true) {i j : Nat} {o oj : Oper} (ho : ops[i]? = some o) (hj : ops[j]? = some oj) {d : Tmp} (hd : d ∈ o.looksAt ops) (hw : oj.dst = some d) : (if cs i = some d then waitsFor ops j i else waitsFor ops i j) = true := by
  have hi : i < ops.size := (Array.getElem?_eq_some_iff.1 ho).1
  have hj' : j < ops.size := (Array.getElem?_eq_some_iff.1 hj).1
  have h1 := List.all_eq_true.1 h i (List.mem_range.2 hi)
  simp only [ho, Bool.and_eq_true] at h1
  have h2 := List.all_eq_true.1 h1.2 d hd
  have h3 := List.all_eq_true.1 h2 j (List.mem_range.2 hj')
  simp only [hj, hw, bne_self_eq_false, Bool.false_or] at h3
  exact h3
def ClI (ops : Array Oper) (A B : List Value) (a : Act) (listed : Array Bool) : Prop := a.defers = [] ∧ a.tmps.size = B.length ∧
  ∀ d : Nat, ((∃ (j : Nat) (oj : Oper), ops[j]? = some oj ∧ oj.dst = some d ∧ listed.getD j true = true) → a.tmps[d]? = B[d]?) ∧ ((∀ (j : Nat) (oj : Oper), ops[j]? = some oj → oj.dst = some d → listed.getD j true = false) → a.tmps[d]? = A[d]?)
theorem ClI.put {ops : Array Oper} {A B : List Value} {a : Act} {listed : Array Bool} (h : ClI ops A B a listed) (hl : listed.size = ops.size) {i : Nat} {o : Oper} (ho : ops[i]? = some o) {d : Nat} (hd : o.dst = some d) {v : Value} (hv : B[d]? = some v) : ClI ops A B (a.put o.dst v) (listed.setIfInBounds i true) := by
  obtain ⟨h1, h2, h3⟩ := h
  have hi : i < listed.size := by rw [hl]; exact (Array.getElem?_eq_some_iff.1 ho).1
  have hdB : d < B.length := (List.getElem?_eq_some_iff.1 hv).1
  rw [hd]
  refine ⟨h1, by simp [Act.put, h2], fun d' => ⟨?_, ?_⟩⟩
  · rintro ⟨j, oj, hj, hjd, hjl⟩
    by_cases hdd : d = d'
    · subst hdd
      simp only [Act.put]
      rw [Array.getElem?_setIfInBounds, h2, if_pos rfl, if_pos hdB, hv]
    · simp only [Act.put]
      rw [Array.getElem?_setIfInBounds_ne hdd]
      refine (h3 d').1 ⟨j, oj, hj, hjd, ?_⟩
      by_cases hij : i = j
      · subst hij
        rw [ho] at hj
        cases hj
        rw [hd] at hjd
        exact absurd (by injection hjd) hdd
      · rwa [getD_set_ne true hij] at hjl
  · intro hall
    by_cases hdd : d = d'
    · subst hdd
      have := hall i o ho hd
      simp [hi] at this
    · simp only [Act.put]
      rw [Array.getElem?_setIfInBounds_ne hdd]
      refine (h3 d').2 (fun j oj hj hjd => ?_)
      have := hall j oj hj hjd
      by_cases hij : i = j
      · subst hij
        simp [hi] at this
      · rwa [getD_set_ne true hij] at this
def ClSteps (A B : List Value) (cs : Nat → Option Nat) : Nat → List Oper → Prop
  | _, [] => True
  | k, o :: os => (∃ (d : Nat) (v : Value), o.dst = some d ∧ o.guard = none ∧ B[d]? = some v ∧ ∀ w, (execOp (ac (clG A B (cs k))).eval o).run Try.prog w = .ok (.value v) w) ∧ ClSteps A B cs (k + 1) os
theorem ClSteps.at {A B : List Value} {cs : Nat → Option Nat} {os : List Oper} : ∀ {k : Nat}, ClSteps A B cs k os → ∀ {i : Nat} {o : Oper}, os[i]? = some o → ∃ (d : Nat) (v : Value), o.dst = some d ∧ o.guard = none ∧ B[d]? = some v ∧ ∀ w, (execOp (ac (clG A B (cs (k + i)))).eval o).run Try.prog w = .ok (.value v) w := by
  induction os with
  | nil =>
    intro k _ i o ho
    simp at ho
  | cons o' os ih =>
    intro k h i o ho
    cases i with
    | zero =>
      rw [List.getElem?_cons_zero] at ho
      injection ho with ho
      subst ho
      exact h.1
    | succ i =>
      rw [List.getElem?_cons_succ] at ho
      have := ih h.2 ho
      rw [show k + 1 + i = k + (i + 1) by omega] at this
      exact this
theorem ClI.exec {ops : Array Oper} {A B : List Value} {a : Act} {listed : Array Bool} {cs : Nat → Option Nat} (h : ClI ops A B a listed) (hp : clOk ops cs = true) (hs : Region.noSelect ops = true) (hAB : ∀ d : Nat, (∀ (j : Nat) (oj : Oper), ops[j]? = some oj → oj.dst ≠ some d) → A[d]? = B[d]?) (hlen : A.length = B.length) (hcl : Shutin ops (onList listed)) {i : Nat} (hi : i ∈ Region.ready .any ops listed) {o : Oper} (ho : ops[i]? = some o) :
    execOp a.eval o = execOp (ac (clG A B (cs i))).eval o := by
  obtain ⟨h0, o', ho', hall⟩ := mem_ready.1 hi
  rw [ho] at ho'
  cases ho'
  refine execOp_congr o (fun c b => Region.noSelect_spec hs i o c b ho) fun x hx => ?_
  cases x with
  | tmp t =>
    have ht : t ∈ o.looksAt ops := List.mem_append_left _ (List.mem_filterMap.2 ⟨.tmp t, by simpa using hx, rfl⟩)
    have key : a.tmps[t]? = (clG A B (cs i))[t]? := by
      by_cases hc : cs i = some t
      · have e : (clG A B (cs i))[t]? = A[t]? := by
          rw [hc]
          show (B.set t (A.getD t undef))[t]? = A[t]?
          by_cases hb : t < B.length
          · rw [List.getElem?_set_self hb, List.getD_eq_getElem?_getD, List.getElem?_eq_getElem (Nat.lt_of_lt_of_eq hb hlen.symm)]
            rfl
          · rw [List.getElem?_eq_none (by rw [List.length_set]; exact Nat.le_of_not_lt hb), List.getElem?_eq_none (by rw [hlen]; exact Nat.le_of_not_lt hb)]
        rw [e]
        refine (h.2.2 t).2 fun j oj hj hjd => ?_
        have hw := clOk_waits hp ho hj ht hjd
        rw [if_pos hc] at hw
        cases hb : listed.getD j true with
        | false => rfl
        | true =>
          have := waitsFor_on hcl hw hb
          rw [show onList listed i = listed.getD i true from rfl, h0] at this
          cases this
      · have e : (clG A B (cs i))[t]? = B[t]? := by
          cases hcs : cs i with
          | none => rfl
          | some d =>
            have hne : d ≠ t := fun e => hc (by rw [hcs, e])
            show (B.set d (A.getD d undef))[t]? = B[t]?
            rw [List.getElem?_set_ne hne]
        rw [e]
        by_cases hw : ∃ (j : Nat) (oj : Oper), ops[j]? = some oj ∧ oj.dst = some t
        · obtain ⟨j, oj, hj, hjd⟩ := hw
          have hw := clOk_waits hp ho hj ht hjd
          rw [if_neg hc] at hw
          refine (h.2.2 t).1 ⟨j, oj, hj, hjd, ?_⟩
          unfold waitsFor at hw
          simp only [ho] at hw
          obtain ⟨e', he1, he2⟩ := Array.any_eq_true'.1 hw
          simp only [Bool.and_eq_true, beq_iff_eq] at he2
          have := hall e' he1 he2.2
          rw [he2.1] at this
          exact getD_true this
        · have hw' : ∀ (j : Nat) (oj : Oper), ops[j]? = some oj → oj.dst ≠ some t := fun j oj hj hjd => hw ⟨j, oj, hj, hjd⟩
          rw [← hAB t hw']
          exact (h.2.2 t).2 fun j oj hj hjd => absurd hjd (hw' j oj hj)
    show a.tmps.getD t undef = (clG A B (cs i)).toArray.getD t undef
    rw [Array.getD_eq_getD_getElem?, Array.getD_eq_getD_getElem?, key, List.getElem?_toArray]
  | _ => rfl
theorem cl_any {l : List Oper} {A B : List Value} {cs : Nat → Option Nat} {W : World} {Q : Exit → Act → World → Prop} (hp : clOk l.toArray cs = true) (hs : Region.noSelect l.toArray = true) (hAB : ∀ d : Nat, (∀ (j : Nat) (oj : Oper), l.toArray[j]? = some oj → oj.dst ≠ some d) → A[d]? = B[d]?) (hlen : A.length = B.length)
    (hsteps : ClSteps A B cs 0 l) (hQ : Q .normal (ac B) W) :
    ∀ (fuel : Nat) (listed : Array Bool) (a : Act), listed.size = l.toArray.size → toCome listed l.toArray.size ≤ fuel → ClI l.toArray A B a listed → Shutin l.toArray (onList listed) → wpAny Try.prog .any l.toArray Q fuel listed a W := by
  have fin : ∀ (listed : Array Bool) (a : Act), ClI l.toArray A B a listed → (∀ j, j < l.toArray.size → listed.getD j true = true) → a = ac B := fun listed a h hall => by
    obtain ⟨h1, h2, h3⟩ := h
    obtain ⟨at_, ad⟩ := a
    simp only at h1 h2 h3
    subst h1
    congr
    apply Array.ext_getElem?
    intro d
    have e : B.toArray[d]? = B[d]? := by simp
    rw [e]
    by_cases hw : ∃ (j : Nat) (oj : Oper), l.toArray[j]? = some oj ∧ oj.dst = some d
    · obtain ⟨j, oj, hj, hjd⟩ := hw
      exact (h3 d).1 ⟨j, oj, hj, hjd, hall j (Array.getElem?_eq_some_iff.1 hj).1⟩
    · have hw' : ∀ (j : Nat) (oj : Oper), l.toArray[j]? = some oj → oj.dst ≠ some d := fun j oj hj hjd => hw ⟨j, oj, hj, hjd⟩
      rw [← hAB d hw']
      exact (h3 d).2 fun j oj hj hjd => absurd hjd (hw' j oj hj)
  intro fuel
  induction fuel with
  | zero =>
    intro listed a hl hc hI hcl
    have hall : ∀ j, j < l.toArray.size → listed.getD j true = true := fun j hj => toCome_none (Nat.le_zero.1 hc) hj
    refine ⟨?_, ?_⟩
    · rw [List.eq_nil_iff_forall_not_mem]
      intro j hj
      obtain ⟨h0, o, ho, _⟩ := mem_ready.1 hj
      rw [hall j (Array.getElem?_eq_some_iff.1 ho).1] at h0
      cases h0
    · rw [fin listed a hI hall]; exact hQ
  | succ fuel ih =>
    intro listed a hl hc hI hcl
    refine ⟨fun hr => ?_, fun i hi => ?_⟩
    · have hall : ∀ j, j < l.toArray.size → listed.getD j true = true := by
        intro j
        induction j using Nat.strongRecOn with
        | ind j ihj =>
          intro hj
          cases hb : listed.getD j true with
          | true => rfl
          | false =>
            have : j ∈ Region.ready .any l.toArray listed := by
              refine mem_ready.2 ⟨hb, l.toArray[j], Array.getElem?_eq_getElem hj, fun e he hbe => ?_⟩
              have h1 := clOk_edge hp (Array.getElem?_eq_getElem hj) he hbe
              have h2 := ihj e.on h1 (by omega)
              simp [show e.on < listed.size by omega] at h2 ⊢
              exact h2
            rw [hr] at this
            cases this
      rw [fin listed a hI hall]; exact hQ
    · obtain ⟨h0, o, ho, hdep⟩ := mem_ready.1 hi
      obtain ⟨d, v, hd, hg, hv, he⟩ := hsteps.at (i := i) (o := o) (by simpa using ho)
      rw [Nat.zero_add] at he
      have hex := hI.exec hp hs hAB hlen hcl hi ho
      have hwt : Region.wanted o (yielded l.toArray a.tmps) = true := by unfold Region.wanted; rw [hg]
      unfold wpOp
      simp only [ho]
      rw [if_pos hwt]
      refine .inl ?_
      unfold Oper.wp
      rw [hex, he W]
      refine ih _ _ (by simp [hl]) ?_ (hI.put hl ho hd hv) ?_
      · have h1 := toCome_set h0 l.toArray.size
        rw [if_pos (Array.getElem?_eq_some_iff.1 ho).1] at h1
        omega
      · rw [onList_set h0]
        intro j oj hj hLj e he' hb
        simp only [Bool.or_eq_true, beq_iff_eq] at hLj ⊢
        rcases hLj with h1 | h1
        · exact .inl (hcl j oj hj h1 e he' hb)
        · subst h1
          rw [ho] at hj
          cases hj
          exact .inl (getD_true (hdep e he' hb))
theorem region_cl {id : Nat} {l : List Oper} {A B : List Value} {W : World} {Q : Exit → Act → World → Prop} (cs : Nat → Option Nat) (ds : List Nat) (hm : Try.prog.follows .mixedOrders = true) (hp : clOk l.toArray cs = true) (hs : Region.noSelect l.toArray = true) (hk : (ds.all fun d => l.any fun o => o.dst == some d) = true)
    (hsz : Nat.beq A.length B.length = true) (hF : merge ds 0 A B = B) (hsteps : ClSteps A B cs 0 l) (hQ : ∀ w', Bel W w' → Q .normal (ac B) w') : (Code.region id l.toArray true).wp Try.prog Q (ac A) W := by
  have hlen : A.length = B.length := Nat.eq_of_beq_eq_true hsz
  have hAB : ∀ d : Nat, (∀ (j : Nat) (oj : Oper), l.toArray[j]? = some oj → oj.dst ≠ some d) → A[d]? = B[d]? := fun d hd => by
    by_cases hi : d < A.length
    · have h1 : (merge ds 0 A B)[d]? = B[d]? := by rw [hF]
      rw [merge_get ds _ _ 0 d hi hlen, Nat.zero_add] at h1
      by_cases he : ds.elem d = true
      · have h2 := List.all_eq_true.1 hk d (List.elem_iff.1 he)
        obtain ⟨o, ho, hod⟩ := List.any_eq_true.1 h2
        obtain ⟨j, hj⟩ := List.getElem?_of_mem ho
        exact absurd (by simpa using hod) (hd j o (by rw [List.getElem?_toArray]; exact hj))
      · rwa [if_neg he] at h1
    · rw [List.getElem?_eq_none (Nat.le_of_not_lt hi), List.getElem?_eq_none (by rw [← hlen]; exact Nat.le_of_not_lt hi)]
  have hL : onList (Array.replicate l.toArray.size false) = fun j => decide (l.toArray.size ≤ j) := by
    funext j
    unfold onList
    rcases Nat.lt_or_ge j l.toArray.size with h | h
    · simp at h; simp [h]
    · simp at h; simp [h]
  refine wp_region_any hm (cl_any (W := W.drew) hp hs hAB hlen hsteps (hQ _ (Bel.start W)) _ _ (ac A) (by simp) ?_ ?_ ?_)
  · unfold toCome
    exact Nat.le_trans List.countP_le_length (by simp)
  · refine ⟨rfl, by simpa using hlen, fun d => ⟨?_, fun _ => by rw [List.getElem?_toArray]⟩⟩
    rintro ⟨j, oj, hj, _, hjl⟩
    have := (Array.getElem?_eq_some_iff.1 hj).1
    simp only [List.size_toArray] at this
    simp [this] at hjl
  · intro j oj hj hLj
    rw [hL] at hLj
    have := (Array.getElem?_eq_some_iff.1 hj).1
    simp only [decide_eq_true_eq] at hLj
    omega
end

section
open Go.RowKit Cv
def updV (γ : Nat → Value) (i : Nat) (v : Value) : Nat → Value := fun j => if j = i then v else γ j
theorem updV_same (γ : Nat → Value) (i : Nat) (v : Value) : updV γ i v i = v := if_pos rfl
theorem updV_other (γ : Nat → Value) {i j : Nat} (v : Value) (h : j ≠ i) : updV γ i v j = γ j := if_neg h
def deadS (us : Nat → Option Nat) (L : Nat → Bool) (i : Nat) : Bool := match us i with
  | none => false
  | some u => L u
theorem deadS_more {us : Nat → Option Nat} {L : Nat → Bool} {k i : Nat} (h : deadS us (fun j => L j || j == k) i = false) : deadS us L i = false := by
  cases hu : us i with
  | none => simp [deadS, hu]
  | some u =>
    simp [deadS, hu] at h ⊢
    exact h.1
theorem deadS_now {us : Nat → Option Nat} {L : Nat → Bool} {k i : Nat} (h : us i = some k) : deadS us (fun j => L j || j == k) i = true := by
  unfold deadS
  rw [h]
  simp
theorem owns_keep {w w' : World} {base : Nat} {e : TypeId} {sz : Nat} {v : Value} {n : Nat} {xs : List Value} (h : w.ownsRow base e sz v n xs) (hb : Below w.heap.size w w') : w'.ownsRow base e sz v n xs := by
  obtain ⟨h1, h2⟩ := h
  refine ⟨h1, ?_⟩
  rcases h2 with h2 | ⟨g, cap, cur, h3, h4, h5, h6⟩
  · exact .inl h2
  · refine .inr ⟨g, cap, cur, h3, h4, ?_, h6⟩
    have hB : Blk e w g cur.toList := by
      show w.heap[g]? = some (.cells cur.toList.toArray e)
      rw [Array.toArray_toList]
      exact h5
    have h7 := hB.keep hb
    have h8 : w'.heap[g]? = some (.cells cur.toList.toArray e) := h7
    rwa [Array.toArray_toList] at h8
structure Ap (W : World) (e : TypeId) (sz m : Nat) (mk : Nat → Nat) (us : Nat → Option Nat) (ns : Nat → Nat) (xs : Nat → List Value) (γ : Nat → Value) (L : Nat → Bool) (w : World) : Prop where
  bel : Bel W w
  own : ∀ i, i < m → L (mk i) = true → deadS us L i = false → w.ownsRow W.heap.size e sz (γ i) (ns i) (xs i)
  ne : L (mk 0) = true → deadS us L 0 = false → L (mk 1) = true → deadS us L 1 = false → ∀ b, (γ 0).ownBlock = some b → (γ 1).ownBlock ≠ some b
def noneMk (m : Nat) (mk : Nat → Nat) (k : Nat) : Bool := (List.range m).all fun i => !(mk i == k)
theorem noneMk_ne {m : Nat} {mk : Nat → Nat} {k : Nat} (h : noneMk m mk k = true) {i : Nat} (hi : i < m) : mk i ≠ k := by
  have := List.all_eq_true.1 h i (List.mem_range.2 hi)
  simpa using this
section
variable {ops : Array Oper} {F : (Nat → Value) → Act} {W : World} {e : TypeId} {sz m : Nat} {mk : Nat → Nat} {us : Nat → Option Nat} {ns : Nat → Nat} {xs : Nat → List Value} {k : Nat} {o : Oper} {d : Tmp}
theorem Ap.on (hm2 : Nat.blt 1 m = true) {γ : Nat → Value} {L : Nat → Bool} {w w' : World} (h : Ap W e sz m mk us ns xs γ L w) (hb : Below w.heap.size w w') (hk : noneMk m mk k = true) : Ap W e sz m mk us ns xs γ (fun j => L j || j == k) w' :=
  have hm1 : 1 < m := Nat.le_of_ble_eq_true hm2
  have hm0 : 0 < m := by omega
  ⟨below_then h.bel hb, fun i hi hl hd => owns_keep (h.own i hi (by
    have := noneMk_ne hk hi
    simpa [this] using hl) (deadS_more hd)) hb, fun h0 d0 h1 d1 => h.ne (by
    have := noneMk_ne hk hm0
    simpa [this] using h0) (deadS_more d0) (by
    have := noneMk_ne hk hm1
    simpa [this] using h1) (deadS_more d1)⟩
theorem own_lt {w : World} {base : Nat} {e : TypeId} {sz : Nat} {v : Value} {n : Nat} {xs : List Value} (h : w.ownsRow base e sz v n xs) {b : Nat} (hb : v.ownBlock = some b) : b < w.heap.size := by
  rcases h.2 with ⟨hv, _⟩ | ⟨g, cap, cur, hv, _, hg, _⟩
  · rw [hv] at hb
    cases hb
  · rw [hv] at hb
    simp only [Value.ownBlock, Option.some.injEq] at hb
    rw [← hb]
    exact (Array.getElem?_eq_some_iff.1 hg).1
theorem ap_val (v : (Nat → Value) → Value) (hd : o.dst = some d) (hw : ∀ γ, Region.wanted o (yielded ops (F γ).tmps) = true) (hv : ∀ γ, (F γ).tmps[d]? = some (v γ)) (h : ∀ γ w, Bel W w → (execOp (F γ).eval o).run Try.prog w = .ok (.value (v γ)) w)
    (hk : noneMk m mk k = true) (hm2 : Nat.blt 1 m = true := by rfl) : GStep Try.prog ops F (Ap W e sz m mk us ns xs) k o := fun γ L w Kk hJ hcl hL hdep hK => by
  rw [if_pos (hw γ)]
  unfold Oper.wp
  rw [h γ w hJ.bel]
  refine hK.out γ (v γ) w ?_ (hJ.on hm2 (Below.refl _ _) hk)
  rw [hd, put_same (hv γ)]
theorem ap_call {v : Value} {f : FuncId} {vs : Array Value} (hd : o.dst = some d) (hw : ∀ γ, Region.wanted o (yielded ops (F γ).tmps) = true) (hv : ∀ γ, (F γ).tmps[d]? = some v) (he : ∀ γ w, (execOp (F γ).eval o).run Try.prog w = .ok (.enter f vs) w)
    (hC : ∀ w, Bel W w → Calls Try.prog f vs w (Is v w)) (hk : noneMk m mk k = true) (hm2 : Nat.blt 1 m = true := by rfl) : GStep Try.prog ops F (Ap W e sz m mk us ns xs) k o := fun γ L w Kk hJ hcl hL hdep hK => by
  rw [if_pos (hw γ)]
  unfold Oper.wp
  rw [he γ w]
  show Calls _ _ _ _ _
  refine (hC w hJ.bel).mono ?_
  rintro e' w' ⟨rfl, hb⟩
  refine hK.out γ v w' ?_ (hJ.on hm2 hb hk)
  rw [hd, put_same (hv γ)]
def oneMk (m : Nat) (mk : Nat → Nat) (k i : Nat) : Bool := mk i == k && (List.range m).all fun r => r == i || !(mk r == k)
theorem oneMk_ne {k i : Nat} (h : oneMk m mk k i = true) {r : Nat} (hr : r < m) (hri : r ≠ i) : mk r ≠ k := by
  simp only [oneMk, Bool.and_eq_true] at h
  have := List.all_eq_true.1 h.2 r (List.mem_range.2 hr)
  simpa [hri] using this
theorem ap_new (i n : Nat) (hmk : oneMk m mk k i = true) (hw : ∀ γ, Region.wanted o (yielded ops (F γ).tmps) = true) (hF : ∀ γ v, F (updV γ i v) = (F γ).put o.dst v)
    (h : ∀ γ w, Bel W w → (execOp (F γ).eval o).run Try.prog w = .ok (.value (.slice (some ⟨w.heap.size, 0, none⟩) n n)) (w.alloc (.cells (xs i).toArray e))) (hn : ns i = n) (hl : (xs i).length = n * sz) (hcap : n ≤ 1000) (hm2 : Nat.blt 1 m = true := by rfl) : GStep Try.prog ops F (Ap W e sz m mk us ns xs) k o := fun γ L w Kk hJ hcl hL hdep hK => by
  rw [if_pos (hw γ)]
  unfold Oper.wp
  rw [h γ w hJ.bel]
  refine hK.out (updV γ i _) _ _ (hF γ _) ⟨below_then hJ.bel ((Below.refl _ _).alloc (Nat.le_refl _) _), fun r hr hlr hdr => ?_, fun h0 d0 h1 d1 b hb0 hb1 => ?_⟩
  rotate_left
  · have hm1 : 1 < m := Nat.le_of_ble_eq_true hm2
    by_cases hi0 : i = 0
    · subst hi0
      rw [updV_same] at hb0
      rw [updV_other _ _ (by decide)] at hb1
      simp only [Value.ownBlock, Option.some.injEq] at hb0
      have hne := oneMk_ne hmk hm1 (by decide)
      have := own_lt (hJ.own 1 hm1 (by simpa [hne] using h1) (deadS_more d1)) hb1
      omega
    · by_cases hi1 : i = 1
      · subst hi1
        rw [updV_same] at hb1
        rw [updV_other _ _ (by decide)] at hb0
        simp only [Value.ownBlock, Option.some.injEq] at hb1
        have hne := oneMk_ne hmk (show 0 < m by omega) (show 0 ≠ 1 by decide)
        have := own_lt (hJ.own 0 (by omega) (by simpa [hne] using h0) (deadS_more d0)) hb0
        omega
      · rw [updV_other _ _ (Ne.symm hi0)] at hb0
        rw [updV_other _ _ (Ne.symm hi1)] at hb1
        have n0 := oneMk_ne hmk (show 0 < m by omega) (Ne.symm hi0)
        have n1 := oneMk_ne hmk hm1 (Ne.symm hi1)
        exact hJ.ne (by simpa [n0] using h0) (deadS_more d0) (by simpa [n1] using h1) (deadS_more d1) b hb0 hb1
  by_cases hri : r = i
  · subst hri
    rw [updV_same, hn]
    refine ⟨hl, .inr ⟨w.heap.size, n, (xs r).toArray, rfl, hJ.bel.size, heap_alloc_new w _, Nat.le_refl _, Nat.le_trans hcap (by decide), by simpa using hl, ?_⟩⟩
    rw [← hl]
    simp
  · rw [updV_other _ _ hri]
    have hne := oneMk_ne hmk hr hri
    exact World.ownsRow.alloc (hJ.own r hr (by simpa [hne] using hlr) (deadS_more hdr)) _
def goneAt (ops : Array Oper) (mk : Nat → Nat) (us : Nat → Option Nat) (k j : Nat) (rs : Nat → List Nat) : Nat → Bool := fun r => r == j || us r == some k || chainW ops (mk r) (rs r) k || (match us r with
  | none => false
  | some u => waitsFor ops k u || (match rs r with
    | [] => false
    | q :: qs => waitsFor ops k q && chainW ops q qs u))
theorem waits_dep {ops : Array Oper} {L : Nat → Bool} {k u : Nat} {o : Oper} (ho : ops[k]? = some o) (hdep : ∀ (e : Edge), e ∈ o.after → Region.binds Region.Mode.any e = true → L e.on = true) (h : waitsFor ops k u = true) : L u = true := by
  unfold waitsFor at h
  simp only [ho] at h
  obtain ⟨e', he1, he2⟩ := Array.any_eq_true'.1 h
  simp only [Bool.and_eq_true, beq_iff_eq] at he2
  rw [← he2.1]
  exact hdep e' he1 he2.2
theorem goneAt_is {j : Nat} {rs : Nat → List Nat} {L : Nat → Bool} (ho : ops[k]? = some o) (hcl : Shutin ops L) (hL : L k = false) (hdep : ∀ (e : Edge), e ∈ o.after → Region.binds Region.Mode.any e = true → L e.on = true) {r : Nat} (h : goneAt ops mk us k j rs r = true) (hr : r ≠ j) (hmr : L (mk r) = true) : us r = some k ∨ deadS us L r = true := by
  unfold goneAt at h
  simp only [Bool.or_eq_true, beq_iff_eq] at h
  rcases h with ((h | h) | h) | h
  · exact absurd h hr
  · exact .inl h
  · have := chainW_on hcl _ _ h hmr
    rw [hL] at this
    cases this
  · refine .inr ?_
    unfold deadS
    cases hu : us r with
    | none => rw [hu] at h; cases h
    | some u =>
      rw [hu] at h
      simp only [Bool.or_eq_true] at h
      rcases h with h | h
      · exact waits_dep ho hdep h
      · cases hq : rs r with
        | nil => rw [hq] at h; cases h
        | cons q qs =>
          rw [hq] at h
          simp only [Bool.and_eq_true] at h
          exact chainW_on hcl _ _ h.2 (waits_dep ho hdep h.1)
theorem ex_appnone {ρ : Operand → Value} {w : World} {t : TypeId} {s x : Operand} {v : Value} (hop : o.op = .call { callee := .builtin .append, args := #[s, x], argTypes := #[t, t] }) (hs : ρ s = v) (hx : ρ x = .slice none 0 0) (hrun : (Builtin.append_ #[t, t] o.type #[v, .slice none 0 0]).run Try.prog w = .ok v w) :
    (execOp ρ o).run Try.prog w = .ok (.value v) w := by
  simp [execOp, hop, resolve, invoke, builtin, hs, hx, hrun, Result.andThen]
theorem ap_app {t : TypeId} {s x : Operand} (i j q bytes : Nat) (news : List Value) (rs : Nat → List Nat) (ho : ops[k]? = some o) (hop : o.op = .call { callee := .builtin .append, args := #[s, x], argTypes := #[t, t] }) (hu : Try.prog.underlying t = some (.slice e)) (hinf : ∃ (inf : TypeInfo) (z : Value), Try.prog.info? e = some inf ∧ inf.zero = some z ∧ inf.size = sz ∧ inf.bytes = bytes ∧ z.cells.size = sz) (h0 : 0 < sz) (hb : bytes ≤ 1000)
    (hw : ∀ γ, Region.wanted o (yielded ops (F γ).tmps) = true) (hs : ∀ γ, (F γ).eval s = γ i) (hi : i < m) (hui : us i = some k) (hwi : waitsFor ops k (mk i) = true) (hmk : oneMk m mk k j = true) (hF : ∀ γ v, F (updV γ j v) = (F γ).put o.dst v) (hgone : ((List.range m).all fun r => goneAt ops mk us k j rs r || (i == 0 && r == 1)) = true) (hj2 : Nat.blt 1 j = true)
    (hnl : news.length = q * sz) (hnc : ∀ u, u ∈ news → u.oneCell' = true) (hnj : ns j = ns i + q) (hxj : xs j = xs i ++ news) (hn : ns i + q ≤ 5000)
    (hx : ∀ γ L w, Ap W e sz m mk us ns xs γ L w → L k = false → (∀ u, waitsFor ops k u = true → L u = true) → ((F γ).eval x = .slice none 0 0 ∧ q = 0) ∨ ∃ (ad : Addr) (c : Nat), (F γ).eval x = .slice (some ad) q c ∧ ∀ (p : Nat) (u : Value), news[p]? = some u → w.cell? (ad.add p) = some u) (hm2 : Nat.blt 1 m = true := by rfl) :
    GStep Try.prog ops F (Ap W e sz m mk us ns xs) k o := fun γ L w Kk hJ hcl hL hdep hK => by
  rw [if_pos (hw γ)]
  obtain ⟨inf, z, hi1, hi2, hi3, hi4, hi5⟩ := hinf
  have hown := hJ.own i hi (waits_dep ho hdep hwi) (by unfold deadS; rw [hui]; exact hL)
  have hj1 : 1 < j := Nat.le_of_ble_eq_true hj2
  have hnj' : ∀ r, r < m → r ≠ j → mk r ≠ k := fun r hr hrj => oneMk_ne hmk hr hrj
  have hialive : deadS us L i = false := by unfold deadS; rw [hui]; exact hL
  have hmi : L (mk i) = true := waits_dep ho hdep hwi
  have hlast : ∀ (v : Value) (w' : World), Bel W w' → w'.ownsRow W.heap.size e sz v (ns i + q) (xs i ++ news) → (∀ b, b < w.heap.size → (γ i).ownBlock ≠ some b → w'.heap[b]? = w.heap[b]?) → Ap W e sz m mk us ns xs (updV γ j v) (fun p => L p || p == k) w' := fun v w' hb' ho' hsame => ⟨hb', fun r hr hlr hdr => by
    by_cases hrj : r = j
    · rw [hrj, updV_same, hnj, hxj]
      exact ho'
    · have hne := hnj' r hr hrj
      have hlr' : L (mk r) = true := by simpa [hne] using hlr
      have hall := List.all_eq_true.1 hgone r (List.mem_range.2 hr)
      simp only [Bool.or_eq_true, Bool.and_eq_true, beq_iff_eq] at hall
      rcases hall with hall | ⟨hi0, hr1⟩
      · rcases goneAt_is ho hcl hL hdep hall hrj hlr' with hg | hg
        · rw [deadS_now hg] at hdr
          cases hdr
        · rw [deadS_more hdr] at hg
          cases hg
      · rw [updV_other _ _ hrj]
        have hor := hJ.own r hr hlr' (deadS_more hdr)
        refine ⟨hor.1, ?_⟩
        rcases hor.2 with h2 | ⟨g, cap, cur, h3, h4, h5, h6⟩
        · exact .inl h2
        · refine .inr ⟨g, cap, cur, h3, h4, ?_, h6⟩
          rw [hsame g (Array.getElem?_eq_some_iff.1 h5).1 (fun hc => ?_)]
          · exact h5
          · rw [hi0] at hc hmi hialive
            rw [hr1] at hlr' h3
            refine hJ.ne hmi hialive hlr' (by rw [← hr1]; exact deadS_more hdr) g hc ?_
            rw [h3]
            rfl, fun h0 d0 h1 d1 b hb0 hb1 => by
    rw [updV_other _ _ (show 0 ≠ j by omega)] at hb0
    rw [updV_other _ _ (show 1 ≠ j by omega)] at hb1
    by_cases h1m : 1 < m
    · have n0 := hnj' 0 (by omega) (by omega)
      have n1 := hnj' 1 h1m (by omega)
      exact hJ.ne (by simpa [n0] using h0) (deadS_more d0) (by simpa [n1] using h1) (deadS_more d1) b hb0 hb1
    · exact absurd (Nat.le_of_ble_eq_true hm2) h1m⟩
  rcases hx γ L w hJ hL (fun u hu => waits_dep ho hdep hu) with ⟨hx0, hq⟩ | ⟨ad, c, hx1, hc⟩
  · subst hq
    have hne : news = [] := List.length_eq_zero_iff.1 (by rw [hnl, Nat.zero_mul])
    have hrun := run_append_owned_none (P := Try.prog) (w := w) W.heap.size t o.type e inf sz hu hi1 _ (ns i) (xs i) hown
    unfold Oper.wp
    rw [ex_appnone hop (hs γ) hx0 hrun]
    refine hK.out (updV γ j (γ i)) (γ i) w (hF γ _) (hlast _ _ hJ.bel ?_ (fun _ _ _ => rfl))
    rw [hne, List.append_nil]
    exact hown
  · have hbb : (ns i + q) * bytes ≤ 5000 * 1000 := Nat.mul_le_mul hn hb
    refine wp_append_own w s x t hop W.heap.size e inf z sz bytes hu hi1 hi2 hi3 hi4 hi5 h0 (γ i) (ns i) (xs i) (hs γ) hown ad q c news hx1 hnl hc hnc (Nat.le_trans hn (by decide)) (by omega) hJ.bel.size fun v' w' hown' hgrow _ => ?_
    refine hK.out (updV γ j v') v' w' (hF γ _) (hlast _ _ (hJ.bel.grown hgrow hJ.bel.size fun p hp => ?_) hown' (fun b hb1 hb2 => hgrow.block b hb1 (fun hc => hb2 hc.symm)))
    rcases hown.2 with ⟨hv, _⟩ | ⟨g, cap, cur, hv, hg, _⟩
    · rw [hv] at hp
      cases hp
    · rw [hv] at hp
      simp only [Value.ownBlock, Option.some.injEq] at hp
      omega
end
theorem region_ap {id : Nat} {l : List Oper} {F : (Nat → Value) → Act} {a : Act} {W : World} {Q : Exit → Act → World → Prop} (e : TypeId) (sz m : Nat) (mk : Nat → Nat) (us : Nat → Option Nat) (ns : Nat → Nat) (xs : Nat → List Value) (i : Nat) (ds : List Tmp)
    (hm : Try.prog.follows .mixedOrders = true)
    (hp : (planOk l.toArray && Region.noSelect l.toArray && (ds.all fun d => l.toArray.any fun o => o.dst == some d) && ((List.range m).all fun i => Nat.blt (mk i) l.length)) = true) (hi : Nat.blt i m = true) (hui : us i = none)
    (hd : a.defers = (F fun _ => undef).defers) (hsz : Nat.beq a.tmps.size (F fun _ => undef).tmps.size = true) (hF : merge ds 0 a.tmps.toList (F fun _ => undef).tmps.toList = (F fun _ => undef).tmps.toList)
    (hsteps : GSteps Try.prog l.toArray F (Ap W e sz m mk us ns xs) 0 l)
    (hQ : ∀ (γ : Nat → Value) (w' : World), Bel W w' → w'.ownsRow W.heap.size e sz (γ i) (ns i) (xs i) → Q .normal (F γ) w') : (Code.region id l.toArray true).wp Try.prog Q a W := by
  simp only [Bool.and_eq_true] at hp
  obtain ⟨⟨⟨h1, h2⟩, h3⟩, hb⟩ := hp
  have lt : ∀ i, i < m → mk i < l.length := fun i hi => Nat.le_of_ble_eq_true (List.all_eq_true.1 hb i (List.mem_range.2 hi))
  have him : i < m := Nat.le_of_ble_eq_true hi
  refine wp_region_d (J := Ap W e sz m mk us ns xs) (fun _ => undef) _ (.inl ⟨rfl, hm⟩) h1 h2 (by simpa [takes] using h3) hd (put_merge hsz hF) ?_ hsteps ?_
  · refine fun w' hw' => ⟨by rcases hw' with rfl | rfl; exact Below.refl _ _; exact Bel.start W, fun r hr ha => ?_, fun ha => ?_⟩
    · have : decide (l.toArray.size ≤ mk r) = false := decide_eq_false (by have := lt r hr; simp; omega)
      rw [this] at ha
      cases ha
    · have : decide (l.toArray.size ≤ mk 0) = false := decide_eq_false (by have := lt 0 (by omega); simp; omega)
      rw [this] at ha
      cases ha
  · rintro γ L w' hall ⟨hB, hO, _⟩
    exact hQ γ w' hB (hO i him (hall _ (by simpa using lt i him)) (by unfold deadS; rw [hui]))
end
end Go.Proofs.Ytkkmekdhejhapaa
