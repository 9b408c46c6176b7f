/- What is proved here: blocks of memory that hold a row of limbs, of whatever type; numbers as rows of limbs; what a call leaves that makes memory and answers a value; regions that draw their order of evaluation, by a plan; values that are rows of limbs (arrays and structs of numbers); what each kind of operation makes of them; the steps of a plan; regions that make one or two blocks. -/
import Derived.Test.YtkkmekdhejhapaaOwn
import Derived.Test.YtkkmekdhejhapaaShort
import Derived.Test.YtkkmekdhejhapaaMontRow
import Derived.ChangeKeysEq
import Derived.Laws.StructEq
import Derived.Deep.RegionHeld
namespace Go.Proofs.Ytkkmekdhejhapaa
section
open Go.RowKit
def Arr (t : TypeId) (w : World) (g : Nat) (xs : List Nat) : Prop := w.heap[g]? = some (.cells (cellsOf xs).toArray t (0, 0))
theorem Arr.lt {t : TypeId} {w : World} {g : Nat} {xs : List Nat} (h : Arr t w g xs) : g < w.heap.size := (Array.getElem?_eq_some_iff.1 h).1
theorem Arr.cell {t : TypeId} {w : World} {g : Nat} {xs : List Nat} (h : Arr t w g xs) {i : Nat} (hi : i < xs.length) : w.cell? ⟨g, i, none⟩ = some (.int .u64 ((lm xs i : Nat) : Int)) := by
  rw [cell_of_row w g i _ _ (0, 0) h]
  simpa using cellsOf_get hi
theorem Arr.frozen {t : TypeId} {w : World} {g : Nat} {xs : List Nat} (h : Arr t w g xs) (i : Nat) : w.frozen? ⟨g, i, none⟩ = false := frozen_of_row w g i _ _ h
theorem Arr.set {t : TypeId} {w : World} {g : Nat} {xs : List Nat} (h : Arr t w g xs) (i x : Nat) : Arr t (w.setCell ⟨g, i, none⟩ (.int .u64 (x : Int))) g (xs.set i x) := by
  unfold Arr
  rw [heap_setCell_same w g i _ _ _ h]
  simp [cellsOf, List.map_set]
theorem Arr.below {t : TypeId} {w w' : World} {g : Nat} {xs : List Nat} (h : Arr t w g xs) {B : Nat} (hB : g < B) (hb : Below B w w') : Arr t w' g xs := by
  unfold Arr; rw [hb.block g hB]; exact h
theorem Arr.keep {t : TypeId} {w w' : World} {g : Nat} {xs : List Nat} (h : Arr t w g xs) (hb : Below w.heap.size w w') : Arr t w' g xs := h.below h.lt hb
theorem Arr.alloc {t : TypeId} {w : World} {g : Nat} {xs : List Nat} (h : Arr t w g xs) (o : Obj) : Arr t (w.alloc o) g xs := by
  unfold Arr; rw [Below.heap_alloc _ _ _ h.lt]; exact h
def lb (n i : Nat) : Nat := n / 2 ^ (64 * i) % 2 ^ 64
theorem lb_lt (n i : Nat) : lb n i < 2 ^ 64 := Nat.mod_lt _ (by decide)
theorem lb_hi {N : Nat} (h : N < 2 ^ 64) (i : Nat) : lb N (i + 1) = 0 := by
  unfold lb
  rw [Nat.div_eq_of_lt, Nat.zero_mod]
  exact Nat.lt_of_lt_of_le h (Nat.pow_le_pow_right (by decide) (by omega))
theorem lb_row {K v i : Nat} (h : i < K) : lm (row K v) i = lb v i := lm_row K v i h
def Is (v : Value) (w : World) (e : Ending) (w' : World) : Prop := e = .returned v ∧ Below w.heap.size w w'
theorem Arr.rc {t : TypeId} {w : World} {g K v : Nat} (h : Arr t w g (row K v)) (i : Nat) (hi : i < K) : w.cell? ⟨g, i, none⟩ = some (.int .u64 ((lb v i : Nat) : Int)) := by
  have := h.cell (i := i) (by rw [length_row]; exact hi)
  rwa [lb_row hi] at this
theorem Arr.vrow {t : TypeId} {w : World} {g K v : Nat} (h : Arr t w g (row K v)) : View w (some ⟨g, 0, none⟩) K (row K v) := by
  refine ⟨length_row _ _, small_row _ _, fun i hi => ⟨g, 0, rfl, h.lt, ?_⟩⟩
  rw [Nat.zero_add]
  exact h.cell (by rw [length_row]; exact hi)
theorem View.drew {w : World} {a : Option Addr} {n : Nat} {xs : List Nat} (h : View w a n xs) : View w.drew a n xs := h.below (Nat.le_refl _) (Below.refl _ _).drew
theorem View.drewN {w : World} {a : Option Addr} {n : Nat} {xs : List Nat} (h : View w a n xs) (k : Nat) : View (w.drewN k) a n xs := h.below (Nat.le_refl _) (below_drewN (Below.refl _ _) k)
theorem row_sub {K a m : Nat} (h : m ≤ a) : row K (a + 2 ^ (64 * K) - m) = row K (a - m) := by
  rw [← row_mod K (a + 2 ^ (64 * K) - m), ← row_mod K (a - m)]
  congr 1
  generalize 2 ^ (64 * K) = P
  rw [show a + P - m = (a - m) + P by omega, Nat.add_mod_right]
theorem Arr.drew {t : TypeId} {w : World} {g : Nat} {xs : List Nat} (h : Arr t w g xs) : Arr t w.drew g xs := h
def AddsTo (K v : Nat) (w : World) (e : Ending) (w' : World) : Prop :=
  ∃ g c : Nat, e = .returned (.tuple #[.slice (some ⟨g, 0, none⟩) K K, .int .u64 (c : Int)]) ∧ Own w' g (row K v) ∧ w.heap.size ≤ g ∧ Below w.heap.size w w'
theorem natAdd_of (a a' : Option Addr) {K : Nat} (x y : Nat) (w : World) (hK : K ≤ 16) (hx : x < 2 ^ (64 * K)) (hy : y < 2 ^ (64 * K)) (hv : View w a K (row K x)) (hv' : View w a' K (row K y)) :
    Calls Try.prog 29 #[.slice a K K, .slice a' K K] w (AddsTo K (x + y) w) := by
  have hm : K ≤ maxLen := by unfold maxLen; omega
  have := add_short a K K (row K x) a' K K (row K y) w (Nat.le_refl _) hm (Nat.le_refl _) hm hv hv' hK hK
  rw [val_row_of hx, val_row_of hy, Nat.max_self] at this
  exact this.mono fun e w' ⟨g, h1, h2, h3, h4⟩ => ⟨g, _, h1, h2, h3, h4⟩
theorem natSub_ge (a a' : Option Addr) {K : Nat} (x y : Nat) (w : World) (hK : K ≤ 16) (hx : x < 2 ^ (64 * K)) (hy : y < 2 ^ (64 * K)) (hv : View w a K (row K x)) (hv' : View w a' K (row K y)) (h : y ≤ x) :
    Calls Try.prog 72 #[.slice a K K, .slice a' K K] w (Makes2 K (x - y) 0 w) := by
  have hm : K ≤ maxLen := by unfold maxLen; omega
  have := sub_short a K K (row K x) a' K K (row K y) w (Nat.le_refl _) hm (Nat.le_refl _) hm hv hv' hK hK
  rw [val_row_of hx, val_row_of hy, Nat.max_self, show ltN x y = 0 from if_neg (by omega)] at this
  refine this.mono ?_
  rintro e w' ⟨g, rfl, ho, hg, hb⟩
  rw [row_sub h] at ho
  exact ⟨g, rfl, ho, hg, hb⟩
theorem natSub_lt (a a' : Option Addr) {K : Nat} (x y : Nat) (w : World) (hK : K ≤ 16) (hx : x < 2 ^ (64 * K)) (hy : y < 2 ^ (64 * K)) (hv : View w a K (row K x)) (hv' : View w a' K (row K y)) (h : x < y) :
    Calls Try.prog 72 #[.slice a K K, .slice a' K K] w (Makes2 K (x + 2 ^ (64 * K) - y) 1 w) := by
  have hm : K ≤ maxLen := by unfold maxLen; omega
  have := sub_short a K K (row K x) a' K K (row K y) w (Nat.le_refl _) hm (Nat.le_refl _) hm hv hv' hK hK
  rwa [val_row_of hx, val_row_of hy, Nat.max_self, show ltN x y = 1 from if_pos h] at this
theorem row_sub_add {K x y v m : Nat} (hv : v = x + m - y) (hm : y ≤ m) (hp : y < 2 ^ (64 * K)) : row K (x + 2 ^ (64 * K) - y + m) = row K v := by
  rw [← row_mod K (x + 2 ^ (64 * K) - y + m), ← row_mod K v]
  congr 1
  revert hp
  generalize 2 ^ (64 * K) = P
  intro hp
  rw [show x + P - y + m = v + P by omega, Nat.add_mod_right]
theorem wpList_copy_arr (w : World) {ops : Array Oper} {rest : List Oper} {o : Oper} {a : Act} {Q : Exit → Act → World → Prop} (hgd : o.guard = none) (d s : Operand)
    (ho : o.op = .call { callee := .builtin .copy, args := #[d, s], argTypes := #[64, 64] })
    (t : TypeId) (g N K cd : Nat) (ds xs : List Nat) (ad : Option Addr) (cs : Nat) (hd : a.eval d = .slice (some ⟨g, 0, none⟩) K cd) (hs : a.eval s = .slice ad N cs) (hN : N = K)
    (hg : Arr t w g ds) (hl : ds.length = K) (hv : View w ad N xs) (hK : 1 ≤ K)
    (h : ∀ w', Arr t w' g xs → Below g w w' → wpList Try.prog ops Q rest (a.put o.dst (goInt K)) w') :
    wpList Try.prog ops Q (o :: rest) a w := by
  subst hN
  have hcl : (cellsOf xs).length = N := by simp [cellsOf, hv.len]
  obtain ⟨b, off, rfl, _, _⟩ := hv.cell 0 (by omega)
  refine wpList_copy_own hgd d s _ _ ho 24 Try.underlying64 Try.sizeU g 0 N cd ⟨b, off, none⟩ N cs hd hs (cellsOf ds).toArray t hg (cellsOf xs) (by rw [hcl]; exact (Nat.min_self N).symm) ?_ (by simp [cellsOf, hl, hv.len]) ?_ ?_
  · intro j v hj
    have hjn : j < xs.length := by
      have := (List.getElem?_eq_some_iff.1 hj).1
      rw [hcl, ← hv.len] at this
      exact this
    rw [cellsOf_get hjn] at hj
    cases hj
    obtain ⟨_, _, e, _, hc⟩ := hv.cell j (by rw [← hv.len]; exact hjn)
    cases e
    rw [Go.WideShapes.add_plain]
    exact hc
  · intro v hv'
    simp only [cellsOf, List.mem_map] at hv'
    obtain ⟨y, _, rfl⟩ := hv'
    rfl
  · have e : (cellsOf ds).toArray.toList.take 0 ++ (cellsOf xs ++ (cellsOf ds).toArray.toList.drop (0 + (cellsOf xs).length)) = cellsOf xs := by
      rw [List.take_zero, List.nil_append, Nat.zero_add, hcl, List.drop_eq_nil_of_le (by simp [cellsOf, hl]), List.append_nil]
    rw [e, hcl]
    refine h _ ?_ ?_
    · unfold Arr
      rw [setRow_heap w g _ _ _ _ hg]
    · refine ⟨rfl, rfl, rfl, by simp, fun k hk => ?_⟩
      rw [setRow_other w g k _ (by omega)]
end

section
open Go Go.RowKit
def planOk (ops : Array Oper) : Bool :=
  (List.range ops.size).all fun i => match ops[i]? with
    | none => true
    | some o => (o.after.all fun e => !Region.binds .any e || decide (e.on < i)) &&
      (o.looksAt ops).all fun d => (List.range ops.size).all fun j => match ops[j]? with
        | none => true
        | some oj => oj.dst != some d || o.after.any fun e => e.on == j && Region.binds .any e
theorem planOk_edge {ops : Array Oper} (h : planOk ops = true) {i : Nat} {o : Oper} (ho : ops[i]? = some o) {e : Edge} (he : e ∈ o.after) (hb : Region.binds .any e = true) : e.on < i := by
  have hi : i < ops.size := (Array.getElem?_eq_some_iff.1 ho).1
  have h1 := List.all_eq_true.1 h i (List.mem_range.2 hi)
  simp only [ho, Bool.and_eq_true] at h1
  have h2 := Array.all_eq_true_iff_forall_mem.1 h1.1 e he
  simpa [hb] using h2
theorem planOk_waits {ops : Array Oper} (h : planOk ops = true) {i j : Nat} {o oj : Oper} (ho : ops[i]? = some o) (hj : ops[j]? = some oj) {d : Tmp} (hd : d ∈ o.looksAt ops) (hw : oj.dst = some d) : ∃ e ∈ o.after, e.on = j ∧ Region.binds .any e = true := by
  have hi : i < ops.size := (Array.getElem?_eq_some_iff.1 ho).1
  have hjl : j < ops.size := (Array.getElem?_eq_some_iff.1 hj).1
  have h1 := List.all_eq_true.1 h i (List.mem_range.2 hi)
  simp only [ho, Bool.and_eq_true] at h1
  have h2 := List.all_eq_true.1 (List.all_eq_true.1 h1.2 d hd) j (List.mem_range.2 hjl)
  simp only [hj, hw, Bool.or_eq_true] at h2
  rcases h2 with h2 | h2
  · simp at h2
  · obtain ⟨k, hk, hb⟩ := Array.any_eq_true.1 h2
    simp only [Bool.and_eq_true, beq_iff_eq] at hb
    exact ⟨_, Array.getElem_mem hk, hb.1, hb.2⟩
def PlanStep (P : Program) (ops : Array Oper) (S : World → Prop) (F : Act) (o : Oper) : Prop :=
  ∀ (w : World) (K : Act → World → Prop), S w → Shut (∀ w', S w' → K F w') →
    if Region.wanted o (yielded ops F.tmps) = true then Oper.wp P o F w K (fun _ _ _ => False) else K (F.put o.dst undef) w
def Planned (ops : Array Oper) (F a : Act) (listed : Array Bool) : Prop :=
  a.defers = F.defers ∧ a.tmps.size = F.tmps.size ∧
    ∀ d : Nat, (∀ (j : Nat) (oj : Oper), ops[j]? = some oj → oj.dst = some d → listed.getD j true = true) → a.tmps[d]? = F.tmps[d]?
theorem Planned.put {ops : Array Oper} {F a : Act} {listed : Array Bool} (h : Planned ops F a listed) {i : Nat} {o : Oper} (ho : ops[i]? = some o) {u : Value}
    (hu : ∀ d, o.dst = some d → (F.put o.dst u).tmps[d]? = F.tmps[d]?) : Planned ops F (a.put o.dst u) (listed.setIfInBounds i true) := by
  obtain ⟨h1, h2, h3⟩ := h
  have look : ∀ d : Nat, o.dst ≠ some d → (∀ (j : Nat) (oj : Oper), ops[j]? = some oj → oj.dst = some d → (listed.setIfInBounds i true).getD j true = true) → a.tmps[d]? = F.tmps[d]? := fun d hd hall => by
    refine h3 d (fun j oj hj hjd => ?_)
    by_cases hij : i = j
    · subst hij
      rw [ho] at hj
      cases hj
      exact absurd hjd hd
    · have := hall j oj hj hjd
      rwa [getD_set_ne true hij] at this
  cases hd : o.dst with
  | none =>
    exact ⟨h1, h2, fun d hall => look d (by rw [hd]; exact fun h => by cases h) hall⟩
  | some t =>
    refine ⟨h1, by simp [Act.put, h2], fun d hall => ?_⟩
    by_cases hdt : t = d
    · subst hdt
      have := hu t hd
      rw [hd] at this
      simp only [Act.put] at this ⊢
      rw [← this, Array.getElem?_setIfInBounds, Array.getElem?_setIfInBounds, h2, if_pos rfl, if_pos rfl]
    · have := look d (by rw [hd]; exact fun h => hdt (by injection h)) hall
      simp only [Act.put]
      rw [Array.getElem?_setIfInBounds_ne hdt]
      exact this
theorem Planned.same {ops : Array Oper} {F a : Act} {listed : Array Bool} (h : Planned ops F a listed) (hp : planOk ops = true) {i : Nat} (hi : i ∈ Region.ready .any ops listed) {o : Oper} (ho : ops[i]? = some o) {d : Tmp} (hd : d ∈ o.looksAt ops) :
    a.tmps[d]? = F.tmps[d]? := by
  obtain ⟨_, o', ho', hall⟩ := mem_ready.1 hi
  rw [ho] at ho'
  cases ho'
  refine h.2.2 d (fun j oj hj hjd => ?_)
  obtain ⟨e, he, hej, heb⟩ := planOk_waits hp ho hj hd hjd
  have := hall e he heb
  rw [hej] at this
  rcases Nat.lt_or_ge j listed.size with h' | h'
  · simp [h'] at this ⊢; exact this
  · simp [h']
theorem Planned.exec {ops : Array Oper} {F a : Act} {listed : Array Bool} (h : Planned ops F a listed) (hp : planOk ops = true) (hs : Region.noSelect ops = true) {i : Nat} (hi : i ∈ Region.ready .any ops listed) {o : Oper} (ho : ops[i]? = some o) :
    execOp a.eval o = execOp F.eval o :=
  execOp_congr o (fun cs b => Region.noSelect_spec hs i o cs b ho) fun x hx => by
    cases x with
    | tmp t =>
      have := h.same hp hi ho (d := t) (List.mem_append_left _ (List.mem_filterMap.2 ⟨.tmp t, by simpa using hx, rfl⟩))
      simp only [Act.eval, Array.getD_eq_getD_getElem?, this]
    | _ => rfl
theorem Planned.wanted {ops : Array Oper} {F a : Act} {listed : Array Bool} (h : Planned ops F a listed) (hp : planOk ops = true) {i : Nat} (hi : i ∈ Region.ready .any ops listed) {o : Oper} (ho : ops[i]? = some o) :
    Region.wanted o (yielded ops a.tmps) = Region.wanted o (yielded ops F.tmps) := by
  unfold Region.wanted
  cases hg : o.guard with
  | none => rfl
  | some gw =>
    obtain ⟨g, want⟩ := gw
    have hy : yielded ops a.tmps g = yielded ops F.tmps g := by
      unfold yielded
      cases ht : (ops[g]?).bind (·.dst) with
      | none => rfl
      | some t =>
        have := h.same hp hi ho (d := t) (by simp [Oper.looksAt, hg, ht])
        simp only [Option.bind_some, this]
    simp only [hy]
theorem Planned.op {P : Program} {ops : Array Oper} {S : World → Prop} {F a : Act} {listed : Array Bool} {Q : Exit → Act → World → Prop} {K : Act → World → Prop} {w : World}
    (h : Planned ops F a listed) (hp : planOk ops = true) (hs : Region.noSelect ops = true) {i : Nat} (hi : i ∈ Region.ready .any ops listed) {o : Oper} (ho : ops[i]? = some o)
    (hstep : PlanStep P ops S F o) (hS : S w) (hK : ∀ a' w', Planned ops F a' (listed.setIfInBounds i true) → S w' → K a' w') : wpOp P ops Q i K a w := by
  have hst := hstep w (fun a' w' => (S w' ∧ a'.defers = F.defers) ∧ ∀ d, o.dst = some d → a'.tmps[d]? = F.tmps[d]?) hS (fun w' hw' => ⟨⟨hw', rfl⟩, fun _ _ => rfl⟩)
  unfold wpOp
  simp only [ho]
  rw [h.wanted hp hi ho]
  split
  · rename_i hw
    rw [if_pos hw] at hst
    refine .inl ?_
    unfold Oper.wp at hst ⊢
    rw [h.exec hp hs hi ho]
    generalize (execOp F.eval o).run P w = r at *
    cases r with
    | ok n w' =>
      cases n <;> simp only [Oper.upon] at hst ⊢
      case value u => exact hK _ _ (h.put ho hst.2) hst.1.1
      case skip => exact hK _ _ (h.put ho hst.2) hst.1.1
      case defer d =>
        have hl := hst.1.2
        cases hd : o.dst <;> rw [hd] at hl <;> exact absurd (congrArg List.length hl) (by simp [Act.put])
      case enter f args =>
        refine Calls.mono hst fun e w'' he => ?_
        cases e with
        | returned u => exact hK _ _ (h.put ho he.2) he.1.1
        | panicked c => exact (he : False).elim
        | outgrown => obtain ⟨_, _, hf⟩ := he; exact (hf : False).elim
      case row row args => exact Rows.mono hst fun u w'' he => hK _ _ (h.put ho he.2) he.1.1
    | halt x w' =>
      cases x <;> simp only [Oper.upon] at hst ⊢
  · rename_i hw
    rw [if_neg hw] at hst
    exact hK _ _ (h.put ho hst.2) hst.1.1
def toCome (listed : Array Bool) (n : Nat) : Nat := (List.range n).countP fun i => !listed.getD i true
theorem toCome_set {listed : Array Bool} {i : Nat} (hi : listed.getD i true = false) : ∀ n : Nat,
    toCome (listed.setIfInBounds i true) n + (if i < n then 1 else 0) = toCome listed n := by
  have hlt : i < listed.size := by
    rcases Nat.lt_or_ge i listed.size with h | h
    · exact h
    · simp [h] at hi
  intro n
  induction n with
  | zero => simp [toCome]
  | succ n ih =>
    have hc : ∀ l : Array Bool, toCome l (n + 1) = toCome l n + (if l.getD n true = true then 0 else 1) := fun l => by
      unfold toCome
      rw [List.range_succ, List.countP_append, List.countP_singleton]
      cases l.getD n true <;> simp
    rw [hc, hc, ← ih]
    by_cases hin : i = n
    · subst hin
      have h1 : (listed.setIfInBounds i true).getD i true = true := by simp [hlt]
      rw [h1, hi]
      simp
    · rw [getD_set_ne true hin]
      by_cases h2 : i < n
      · rw [if_pos h2, if_pos (show i < n + 1 by omega)]; omega
      · rw [if_neg h2, if_neg (show ¬ i < n + 1 by omega)]; omega
theorem toCome_none {listed : Array Bool} {n : Nat} (h : toCome listed n = 0) {j : Nat} (hj : j < n) : listed.getD j true = true := by
  have := List.countP_eq_zero.1 h j (List.mem_range.2 hj)
  simpa using this
theorem listed_all {ops : Array Oper} (hp : planOk ops = true) {listed : Array Bool} (hl : listed.size = ops.size) (hr : Region.ready .any ops listed = []) :
    ∀ j, j < ops.size → listed.getD j true = true := by
  intro j
  induction j using Nat.strongRecOn with
  | ind j ih =>
    intro hj
    cases hb : listed.getD j true with
    | true => rfl
    | false =>
      have : j ∈ Region.ready .any ops listed := by
        refine mem_ready.2 ⟨hb, ops[j], Array.getElem?_eq_getElem hj, fun e he hbe => ?_⟩
        have h1 := planOk_edge hp (Array.getElem?_eq_getElem hj) he hbe
        have h2 := ih e.on h1 (by omega)
        simp [show e.on < listed.size by omega] at h2 ⊢
        exact h2
      rw [hr] at this
      cases this
theorem Planned.all {ops : Array Oper} {F a : Act} {listed : Array Bool} (h : Planned ops F a listed) (hall : ∀ j, j < ops.size → listed.getD j true = true) : a = F := by
  obtain ⟨h1, h2, h3⟩ := h
  obtain ⟨at_, ad⟩ := a
  obtain ⟨ft, fd⟩ := F
  simp only at h1 h2 h3
  subst h1
  congr
  apply Array.ext_getElem?
  intro d
  exact h3 d (fun j oj hj _ => hall j (Array.getElem?_eq_some_iff.1 hj).1)
def PlanSteps (P : Program) (ops : Array Oper) (S : World → Prop) (F : Act) : List Oper → Prop
  | [] => True
  | o :: os => PlanStep P ops S F o ∧ PlanSteps P ops S F os
theorem PlanSteps.at {P : Program} {ops : Array Oper} {S : World → Prop} {F : Act} : ∀ {os : List Oper}, PlanSteps P ops S F os → ∀ {o : Oper}, o ∈ os → PlanStep P ops S F o
  | [], _, _, hm => by cases hm
  | _ :: _, h, _, hm => by
    rcases List.mem_cons.1 hm with rfl | hm
    · exact h.1
    · exact h.2.at hm
def planFits (ops : Array Oper) (n : Nat) : List Nat := (List.range n).filter fun d => !ops.any fun o => o.dst == some d
theorem planned_start {ops : Array Oper} {F a : Act} (hd : a.defers = F.defers) (hz : a.tmps.size = F.tmps.size)
    (hf : ∀ d ∈ planFits ops F.tmps.size, a.tmps[d]? = F.tmps[d]?) : Planned ops F a (Array.replicate ops.size false) := by
  refine ⟨hd, hz, fun d hall => ?_⟩
  rcases Nat.lt_or_ge d F.tmps.size with h | h
  · refine hf d (List.mem_filter.2 ⟨List.mem_range.2 h, ?_⟩)
    rw [Bool.not_eq_true', ← Bool.not_eq_true]
    intro hany
    obtain ⟨j, hj, hjd⟩ := Array.any_eq_true.1 hany
    have := hall j _ (Array.getElem?_eq_getElem hj) (by simpa using hjd)
    simp [hj] at this
  · rw [Array.getElem?_eq_none h, Array.getElem?_eq_none (by omega)]
def Shutin (ops : Array Oper) (L : Nat → Bool) : Prop := ∀ (j : Nat) (oj : Oper), ops[j]? = some oj → L j = true → ∀ e ∈ oj.after, Region.binds .any e = true → L e.on = true
def GStep (P : Program) (ops : Array Oper) {Γ : Type} (F : Γ → Act) (J : Γ → (Nat → Bool) → World → Prop) (i : Nat) (o : Oper) : Prop :=
  ∀ (γ : Γ) (L : Nat → Bool) (w : World) (K : Act → World → Prop), J γ L w → Shutin ops L → L i = false → (∀ e ∈ o.after, Region.binds .any e = true → L e.on = true) →
    Shut (∀ (γ' : Γ) (v : Value) (w' : World), F γ' = (F γ).put o.dst v → J γ' (fun j => L j || j == i) w' → K ((F γ).put o.dst v) w') →
    if Region.wanted o (yielded ops (F γ).tmps) = true then Oper.wp P o (F γ) w K (fun _ _ _ => False) else K ((F γ).put o.dst undef) w
def onList (listed : Array Bool) (j : Nat) : Bool := listed.getD j true
theorem onList_set {listed : Array Bool} {i : Nat} (hi : listed.getD i true = false) : onList (listed.setIfInBounds i true) = fun j => onList listed j || j == i := by
  funext j
  unfold onList
  have hlt : i < listed.size := by
    rcases Nat.lt_or_ge i listed.size with h | h
    · exact h
    · simp [h] at hi
  by_cases hij : i = j
  · subst hij; simp [hlt]
  · rw [getD_set_ne true hij]
    have : (j == i) = false := by simp; exact fun h => hij h.symm
    rw [this, Bool.or_false]
theorem getD_true {listed : Array Bool} {j : Nat} (h : listed.getD j false = true) : listed.getD j true = true := by
  rcases Nat.lt_or_ge j listed.size with h' | h'
  · simp [h'] at h ⊢; exact h
  · simp [h']
theorem Planned.move {ops : Array Oper} {F F' a : Act} {listed : Array Bool} (h : Planned ops F a listed) {i : Nat} {o : Oper} (ho : ops[i]? = some o) {u : Value}
    (hF : F' = F.put o.dst u) : Planned ops F' (a.put o.dst u) (listed.setIfInBounds i true) := by
  subst hF
  obtain ⟨h1, h2, h3⟩ := h
  have look : ∀ d : Nat, o.dst ≠ some d → (∀ (j : Nat) (oj : Oper), ops[j]? = some oj → oj.dst = some d → (listed.setIfInBounds i true).getD j true = true) → a.tmps[d]? = F.tmps[d]? := fun d hd hall => by
    refine h3 d (fun j oj hj hjd => ?_)
    by_cases hij : i = j
    · subst hij
      rw [ho] at hj
      cases hj
      exact absurd hjd hd
    · have := hall j oj hj hjd
      rwa [getD_set_ne true hij] at this
  cases hd : o.dst with
  | none =>
    exact ⟨h1, h2, fun d hall => look d (by rw [hd]; exact fun h => by cases h) hall⟩
  | some t =>
    refine ⟨h1, by simp [Act.put, h2], fun d hall => ?_⟩
    simp only [Act.put]
    by_cases hdt : t = d
    · subst hdt
      rw [Array.getElem?_setIfInBounds, Array.getElem?_setIfInBounds, h2, if_pos rfl, if_pos rfl]
    · rw [Array.getElem?_setIfInBounds_ne hdt, Array.getElem?_setIfInBounds_ne hdt]
      exact look d (by rw [hd]; exact fun h => hdt (by injection h)) hall
theorem Planned.gop {P : Program} {ops : Array Oper} {Γ : Type} {F : Γ → Act} {J : Γ → (Nat → Bool) → World → Prop} {γ : Γ} {a : Act} {listed : Array Bool} {Q : Exit → Act → World → Prop} {K : Act → World → Prop} {w : World}
    (h : Planned ops (F γ) a listed) (hp : planOk ops = true) (hs : Region.noSelect ops = true) {i : Nat} (hi : i ∈ Region.ready .any ops listed) {o : Oper} (ho : ops[i]? = some o)
    (hstep : GStep P ops F J i o) (hJ : J γ (onList listed) w) (hcl : Shutin ops (onList listed))
    (hK : ∀ γ' a' w', Planned ops (F γ') a' (listed.setIfInBounds i true) → J γ' (onList (listed.setIfInBounds i true)) w' → K a' w') : wpOp P ops Q i K a w := by
  obtain ⟨h0, o', ho', hdep⟩ := mem_ready.1 hi
  rw [ho] at ho'
  cases ho'
  have hst := hstep γ (onList listed) w (fun a' w' => a'.defers = (F γ).defers ∧ ∃ γ', F γ' = a' ∧ J γ' (fun j => onList listed j || j == i) w') hJ hcl h0 (fun e he hb => getD_true (hdep e he hb))
    (fun γ' v w' hF hJ' => ⟨by cases o.dst <;> rfl, γ', hF, hJ'⟩)
  rw [← onList_set h0] at hst
  unfold wpOp
  simp only [ho]
  rw [h.wanted hp hi ho]
  have go : ∀ (u : Value) (w' : World), (((F γ).put o.dst u).defers = (F γ).defers ∧ ∃ γ', F γ' = (F γ).put o.dst u ∧ J γ' (onList (listed.setIfInBounds i true)) w') → K (a.put o.dst u) w' := fun u w' hu => by
    obtain ⟨_, γ', hF, hJ'⟩ := hu
    exact hK γ' _ _ (h.move ho hF) hJ'
  split
  · rename_i hw
    rw [if_pos hw] at hst
    refine .inl ?_
    unfold Oper.wp at hst ⊢
    rw [h.exec hp hs hi ho]
    generalize (execOp (F γ).eval o).run P w = r at *
    cases r with
    | ok n w' =>
      cases n <;> simp only [Oper.upon] at hst ⊢
      case value u => exact go _ _ hst
      case skip => exact go _ _ hst
      case defer d =>
        have hl := hst.1
        cases hd : o.dst <;> rw [hd] at hl <;> exact absurd (congrArg List.length hl) (by simp [Act.put])
      case enter f args =>
        refine Calls.mono hst fun e w'' he => ?_
        cases e with
        | returned u => exact go _ _ he
        | panicked c => exact (he : False).elim
        | outgrown => obtain ⟨_, _, hf⟩ := he; exact (hf : False).elim
      case row row args => exact Rows.mono hst fun u w'' he => go _ _ he
    | halt x w' =>
      cases x <;> simp only [Oper.upon] at hst ⊢
  · rename_i hw
    rw [if_neg hw] at hst
    exact go _ _ hst
theorem planned_gany {P : Program} {ops : Array Oper} {Γ : Type} {F : Γ → Act} {J : Γ → (Nat → Bool) → World → Prop} {Q : Exit → Act → World → Prop} (hp : planOk ops = true) (hs : Region.noSelect ops = true)
    (hstep : ∀ (i : Nat) (o : Oper), ops[i]? = some o → GStep P ops F J i o) (hQ : ∀ γ L w', (∀ j, j < ops.size → L j = true) → J γ L w' → Q .normal (F γ) w') :
    ∀ (fuel : Nat) (listed : Array Bool) (γ : Γ) (a : Act) (w : World), listed.size = ops.size → toCome listed ops.size ≤ fuel → Planned ops (F γ) a listed → Shutin ops (onList listed) → J γ (onList listed) w → wpAny P .any ops Q fuel listed a w := by
  intro fuel
  induction fuel with
  | zero =>
    intro listed γ a w hl hc hpl hcl hJ
    have hall : ∀ j, j < ops.size → listed.getD j true = true := fun j hj => toCome_none (Nat.le_zero.1 hc) hj
    refine ⟨?_, ?_⟩
    · rw [List.eq_nil_iff_forall_not_mem]
      intro j hj
      obtain ⟨h0, o, ho, _⟩ := mem_ready.1 hj
      rw [hall j (Array.getElem?_eq_some_iff.1 ho).1] at h0
      cases h0
    · rw [hpl.all hall]; exact hQ γ _ w hall hJ
  | succ fuel ih =>
    intro listed γ a w hl hc hpl hcl hJ
    refine ⟨fun hr => ?_, fun i hi => ?_⟩
    · rw [hpl.all (listed_all hp hl hr)]; exact hQ γ _ w (listed_all hp hl hr) hJ
    · obtain ⟨h0, o, ho, hdep⟩ := mem_ready.1 hi
      refine hpl.gop hp hs hi ho (hstep i o ho) hJ hcl (fun γ' a' w' hpl' hJ' => ih _ γ' _ _ (by simp [hl]) ?_ hpl' ?_ hJ')
      · have h1 := toCome_set h0 ops.size
        rw [if_pos (Array.getElem?_eq_some_iff.1 ho).1] at h1
        omega
      · rw [onList_set h0]
        intro j oj hj hLj e he hb
        simp only [Bool.or_eq_true, beq_iff_eq] at hLj ⊢
        rcases hLj with h1 | h1
        · exact .inl (hcl j oj hj h1 e he hb)
        · subst h1
          rw [ho] at hj
          cases hj
          exact .inl (getD_true (hdep e he hb))
def GSteps (P : Program) (ops : Array Oper) {Γ : Type} (F : Γ → Act) (J : Γ → (Nat → Bool) → World → Prop) : Nat → List Oper → Prop
  | _, [] => True
  | k, o :: os => GStep P ops F J k o ∧ GSteps P ops F J (k + 1) os
theorem GSteps.at {P : Program} {ops : Array Oper} {Γ : Type} {F : Γ → Act} {J : Γ → (Nat → Bool) → World → Prop} : ∀ {os : List Oper} {k : Nat}, GSteps P ops F J k os → ∀ {i : Nat} {o : Oper}, os[i]? = some o → GStep P ops F J (k + i) o
  | [], _, _, _, _, hm => by cases hm
  | o' :: os, k, h, i, o, hm => by
    cases i with
    | zero => cases hm; exact h.1
    | succ i =>
      have := h.2.at (i := i) (o := o) (by simpa using hm)
      rwa [Nat.add_assoc, Nat.add_comm 1] at this
def putAll (t : Array Value) : List (Tmp × Value) → Array Value
  | [] => t
  | p :: ps => putAll (t.setIfInBounds p.1 p.2) ps
theorem putAll_size : ∀ (ps : List (Tmp × Value)) (t : Array Value), (putAll t ps).size = t.size
  | [], _ => rfl
  | _ :: ps, t => by rw [putAll, putAll_size ps]; simp
theorem putAll_other {d : Nat} : ∀ (ps : List (Tmp × Value)) (t : Array Value), (∀ p ∈ ps, p.1 ≠ d) → (putAll t ps)[d]? = t[d]?
  | [], _, _ => rfl
  | p :: ps, t, h => by
    rw [putAll, putAll_other ps _ (fun q hq => h q (List.mem_cons_of_mem _ hq))]
    exact Array.getElem?_setIfInBounds_ne (h p List.mem_cons_self)
theorem planned_put {ops : Array Oper} {F a : Act} {vs : List (Tmp × Value)} (hd : a.defers = F.defers) (hF : putAll a.tmps vs = F.tmps)
    (hk : (vs.all fun p => ops.any fun o => o.dst == some p.1) = true) : Planned ops F a (Array.replicate ops.size false) := by
  refine planned_start hd (by rw [← hF, putAll_size]) (fun d hm => ?_)
  rw [← hF, putAll_other vs]
  intro p hp hpd
  obtain ⟨_, hn⟩ := List.mem_filter.1 hm
  have h1 := List.all_eq_true.1 hk p hp
  rw [hpd] at h1
  rw [h1] at hn
  cases hn
theorem wp_region_g {P : Program} {id : Nat} {l : List Oper} {Γ : Type} {F : Γ → Act} {J : Γ → (Nat → Bool) → World → Prop} (γ : Γ) {a : Act} {w : World} {Q : Exit → Act → World → Prop} (vs : List (Tmp × Value)) (hm : P.follows .mixedOrders = true)
    (hp : planOk l.toArray = true) (hs : Region.noSelect l.toArray = true) (hk : (vs.all fun p => l.toArray.any fun o => o.dst == some p.1) = true)
    (hd : a.defers = (F γ).defers) (hF : putAll a.tmps vs = (F γ).tmps) (hJ : J γ (fun j => decide (l.toArray.size ≤ j)) w.drew)
    (hsteps : GSteps P l.toArray F J 0 l) (hQ : ∀ γ L w', (∀ j, j < l.toArray.size → L j = true) → J γ L w' → Q .normal (F γ) w') : (Code.region id l.toArray true).wp P Q a w := by
  have hL : onList (Array.replicate l.toArray.size false) = fun j => decide (l.toArray.size ≤ j) := by
    funext j
    unfold onList
    rcases Nat.lt_or_ge j l.toArray.size with h | h
    · simp at h; simp [h]
    · simp at h; simp [h]
  refine wp_region_any hm (planned_gany hp hs (fun i o ho => ?_) hQ _ _ γ _ _ (by simp) ?_ (planned_put hd hF hk) ?_ ?_)
  · have := hsteps.at (i := i) (o := o) (by simpa using ho)
    rwa [Nat.zero_add] at this
  · unfold toCome
    exact Nat.le_trans List.countP_le_length (by simp)
  · intro j oj hj hLj
    rw [hL] at hLj
    have := (Array.getElem?_eq_some_iff.1 hj).1
    simp only [decide_eq_true_eq] at hLj
    omega
  · rw [hL]; exact hJ
def lastOk (ops : Array Oper) (n : Nat) : Bool := match ops[n]? with
  | none => false
  | some o => o.dst == none && (List.range n).all fun i => o.after.any fun e => e.on == i && Region.binds .any e
theorem lastOk_waits {ops : Array Oper} {n : Nat} (h : lastOk ops n = true) {o : Oper} (ho : ops[n]? = some o) {i : Nat} (hi : i < n) : ∃ e ∈ o.after, e.on = i ∧ Region.binds .any e = true := by
  unfold lastOk at h
  simp only [ho, Bool.and_eq_true] at h
  have h2 := List.all_eq_true.1 h.2 i (List.mem_range.2 hi)
  obtain ⟨k, hk, hb⟩ := Array.any_eq_true.1 h2
  simp only [Bool.and_eq_true, beq_iff_eq] at hb
  exact ⟨_, Array.getElem_mem hk, hb.1, hb.2⟩
def PlanInit (P : Program) (ops : Array Oper) (S : World → Prop) (F : Act) : List Oper → Prop
  | [] => True
  | [_] => True
  | o :: o' :: os => PlanStep P ops S F o ∧ PlanInit P ops S F (o' :: os)
theorem PlanInit.at {P : Program} {ops : Array Oper} {S : World → Prop} {F : Act} : ∀ {os : List Oper}, PlanInit P ops S F os → ∀ {i : Nat} {o : Oper}, os[i]? = some o → i + 1 < os.length → PlanStep P ops S F o
  | [], _, _, _, hm, _ => by cases hm
  | [_], _, i, _, _, hl => by simp at hl
  | o₁ :: o₂ :: os, h, i, o, hm, hl => by
    cases i with
    | zero => cases hm; exact h.1
    | succ i => exact h.2.at (i := i) (by simpa using hm) (by simpa using hl)
theorem wp_region_last {P : Program} {id : Nat} {l : List Oper} {S : World → Prop} {F a : Act} {w : World} {Q : Exit → Act → World → Prop} (vs : List (Tmp × Value)) (n : Nat) (o : Oper) (hm : P.follows .mixedOrders = true)
    (hp : planOk l.toArray = true) (hs : Region.noSelect l.toArray = true) (hk : (vs.all fun p => l.toArray.any fun o => o.dst == some p.1) = true)
    (hn : l.length = n + 1) (ho : l[n]? = some o) (hlast : lastOk l.toArray n = true)
    (hd : a.defers = F.defers) (hF : putAll a.tmps vs = F.tmps) (hS : S w.drew)
    (hsteps : PlanInit P l.toArray S F l)
    (hQ : ∀ w', S w' → ∀ K : Act → World → Prop, Shut (∀ w'', Q .normal F w'' → K F w'') → if Region.wanted o (yielded l.toArray F.tmps) = true then Oper.wp P o F w' K (fun _ _ _ => False) else K F w') :
    (Code.region id l.toArray true).wp P Q a w := by
  have hdst : o.dst = none := by
    unfold lastOk at hlast
    have ho' : l.toArray[n]? = some o := by simpa using ho
    simp only [ho', Bool.and_eq_true, beq_iff_eq] at hlast
    exact hlast.1
  refine wp_region_g (Γ := Unit) (F := fun _ => F) (J := fun _ L w => if L n = true then Q .normal F w else S w) () vs hm hp hs hk hd hF ?_ ?_ ?_
  · simp only
    rw [if_neg (by simp [hn])]
    exact hS
  · have key : ∀ (k : Nat) (os : List Oper), (∀ i, os[i]? = l[k + i]?) → GSteps P l.toArray (fun _ : Unit => F) (fun _ L w => if L n = true then Q .normal F w else S w) k os := by
      intro k os
      induction os generalizing k with
      | nil => intro _; trivial
      | cons o₁ os ih =>
        intro hos
        refine ⟨?_, ih (k + 1) (fun i => by have := hos (i + 1); simpa [Nat.add_assoc, Nat.add_comm 1] using this)⟩
        have hk1 : l[k]? = some o₁ := by have := hos 0; simpa using this.symm
        have hkl : k < l.length := (List.getElem?_eq_some_iff.1 hk1).1
        intro γ L w K hJ hcl hLk hdep hK
        by_cases hkn : k = n
        · subst hkn
          rw [ho] at hk1
          cases hk1
          simp only [hLk, Bool.false_eq_true, if_false] at hJ
          have := hQ w hJ K (fun w'' hq => by
            have := hK.out () undef w'' (by rw [hdst]; rfl) (by simp [hq])
            rwa [hdst] at this)
          rwa [hdst]
        · have hLn : L n = false := by
            cases hb : L n with
            | false => rfl
            | true =>
              obtain ⟨e, he, hej, heb⟩ := lastOk_waits hlast (by simpa using ho) (show k < n by omega)
              have := hcl n o (by simpa using ho) hb e he heb
              rw [hej, hLk] at this
              cases this
          simp only [hLn, Bool.false_eq_true, if_false] at hJ
          have hst := hsteps.at (i := k) (o := o₁) hk1 (by omega)
          have hst' := hst w (fun a' w' => S w' ∧ a' = F) hJ (fun w' hw' => ⟨hw', rfl⟩)
          have conv : ∀ (v : Value) (w' : World), S w' → F.put o₁.dst v = F → K (F.put o₁.dst v) w' := fun v w' hw' hv => by
            refine hK.out () v w' hv.symm ?_
            have : (L n || n == k) = false := by rw [hLn]; simp; omega
            simp only [this, Bool.false_eq_true, if_false]
            exact hw'
          split
          · rename_i hw
            rw [if_pos hw] at hst'
            unfold Oper.wp at hst' ⊢
            generalize (execOp F.eval o₁).run P w = r at *
            cases r with
            | ok m w' =>
              cases m <;> simp only [Oper.upon] at hst' ⊢
              case value u => exact conv _ _ hst'.1 hst'.2
              case skip => exact conv _ _ hst'.1 hst'.2
              case defer d =>
                have hl := congrArg Act.defers hst'.2
                cases hd' : o₁.dst <;> rw [hd'] at hl <;> exact absurd (congrArg List.length hl) (by simp [Act.put])
              case enter f args =>
                refine Calls.mono hst' fun e w'' he => ?_
                cases e with
                | returned u => exact conv _ _ he.1 he.2
                | panicked c => exact (he : False).elim
                | outgrown => obtain ⟨_, _, hf⟩ := he; exact (hf : False).elim
              case row row args => exact Rows.mono hst' fun u w'' he => conv _ _ he.1 he.2
            | halt x w' => cases x <;> simp only [Oper.upon] at hst' ⊢
          · rename_i hw
            rw [if_neg hw] at hst'
            exact conv _ _ hst'.1 hst'.2
    exact key 0 l (fun i => by rw [Nat.zero_add])
  · intro _ L w' hall hJ
    rw [if_pos (hall n (by simp [hn]))] at hJ
    exact hJ
def lv (xs : List Nat) : Value := .agg (cellsOf xs).toArray
theorem cellsOf_len (xs : List Nat) : (cellsOf xs).length = xs.length := by simp [cellsOf]
theorem lv_inj {xs ys : List Nat} (h : lv xs = lv ys) : xs = ys := by
  have h1 : (cellsOf xs).toArray = (cellsOf ys).toArray := by unfold lv at h; injection h
  have h2 : cellsOf xs = cellsOf ys := by injection h1
  unfold cellsOf at h2
  refine (List.map_inj_right (fun a b hab => ?_)).1 h2
  injection hab with _ hab
  exact Int.ofNat.inj hab
def Flat (ty : TypeId) (n : Nat) : Prop := (∀ w, (isAgg ty).run Try.prog w = .ok true w) ∧ ∀ w, (Go.sizeOf ty).run Try.prog w = .ok n w
theorem run_load_lv {t : TypeId} {w : World} {g : Nat} {xs : List Nat} (h : Arr t w g xs) {ty : TypeId} {o n : Nat} (hf : Flat ty n) (ho : o + n ≤ xs.length) :
    (Instr.loadAt ty (.pointer (some ⟨g, o, none⟩))).run Try.prog w = .ok (lv ((xs.drop o).take n)) w := by
  have hl : (cellsOf ((xs.drop o).take n)).length = n := by rw [cellsOf_len]; simp; omega
  have hr : w.rangeAt g o (cellsOf ((xs.drop o).take n)) := by
    have := World.rangeAt_of_block h o n
    have e : ((cellsOf xs).toArray.extract o (o + n)).toList = cellsOf ((xs.drop o).take n) := by
      simp [cellsOf, List.map_take, List.map_drop]
    rwa [e] at this
  have hc : (loadCells ⟨g, o, none⟩ n).run Try.prog w = .ok (cellsOf ((xs.drop o).take n)).toArray w := by
    have := run_loadCells_list (P := Try.prog) w ⟨g, o, none⟩ (cellsOf ((xs.drop o).take n)) (fun j v hv => by rw [Addr.add_mid]; exact hr j v hv)
    rwa [hl] at this
  simp [Instr.loadAt, Instr.sureAddr, loadVar, Sem.run_bind, hf.1 w, hf.2 w, hc, lv]
theorem Arr.there {t : TypeId} {w : World} {g : Nat} {xs : List Nat} (h : Arr t w g xs) : w.there g 0 xs.length := fun j hj => by
  rw [Nat.zero_add]
  exact ⟨by rw [h.cell hj]; rfl, h.frozen j⟩
theorem run_store_lv {t : TypeId} {w : World} {g : Nat} {xs ys : List Nat} (h : Arr t w g xs) {ty : TypeId} (hf : Flat ty ys.length) (hl : ys.length = xs.length) :
    (Instr.storeAt ty (.pointer (some ⟨g, 0, none⟩)) (lv ys)).run Try.prog w = .ok () (w.setCells g 0 (cellsOf ys)) := by
  have hz : (cellsOf ys).toArray.size = ys.length := by simp [cellsOf]
  have hth : w.there g 0 ys.length := by rw [hl]; exact h.there
  have hc := run_storeCells_cells (P := Try.prog) g 0 (cellsOf ys) 0 w (fun j hj => by simpa using (hth j (by simpa [cellsOf] using hj)).1) (fun j hj => by simpa using (hth j (by simpa [cellsOf] using hj)).2)
    (fun v hv => by
      simp only [cellsOf, List.mem_map] at hv
      obtain ⟨y, _, rfl⟩ := hv
      rfl)
  simp only [Nat.add_zero] at hc
  have hcs : (lv ys).cells = (cellsOf ys).toArray := rfl
  simp [Instr.storeAt, Instr.sureAddr, storeVar, Sem.run_bind, hf.2 w, hcs, hz, hc]
theorem Arr.setCells {t : TypeId} {g : Nat} : ∀ (ys : List Nat) {w : World} {xs : List Nat} (o : Nat), o + ys.length ≤ xs.length → Arr t w g xs →
    Arr t (w.setCells g o (cellsOf ys)) g (xs.take o ++ (ys ++ xs.drop (o + ys.length)))
  | [], w, xs, o, _, h => by
    have e : xs.take o ++ ([] ++ xs.drop (o + ([] : List Nat).length)) = xs := by simp
    rw [e]
    exact h
  | y :: ys, w, xs, o, hl, h => by
    have hs := Arr.setCells ys (o + 1) (by simp at hl ⊢; omega) (h.set o y)
    have e : (xs.set o y).take (o + 1) ++ (ys ++ (xs.set o y).drop (o + 1 + ys.length)) = xs.take o ++ (y :: ys ++ xs.drop (o + (y :: ys).length)) := by
      have ho : o < xs.length := by simp at hl; omega
      rw [List.take_add_one, List.take_set_of_le (Nat.le_refl o), List.getElem?_set_self ho, List.drop_set_of_lt (by omega)]
      simp [Nat.add_assoc, Nat.add_comm 1]
    rw [e] at hs
    exact hs
theorem Arr.stored {t : TypeId} {w : World} {g : Nat} {xs ys : List Nat} (h : Arr t w g xs) (hl : ys.length = xs.length) : Arr t (w.setCells g 0 (cellsOf ys)) g ys := by
  have := Arr.setCells ys 0 (by omega) h
  simpa [hl] using this
theorem Below.setCells {B : Nat} {w0 : World} {b : Nat} (hb : B ≤ b) : ∀ (vs : List Value) {w : World} (o : Nat), Below B w0 w → Below B w0 (w.setCells b o vs)
  | [], _, _, h => h
  | v :: vs, _, o, h => Below.setCells hb vs (o + 1) (h.setCell (p := ⟨b, o, none⟩) hb v)
theorem Arr.setOther {t : TypeId} {g b : Nat} {xs : List Nat} (hne : g ≠ b) : ∀ (vs : List Value) {w : World} (o : Nat), Arr t w g xs → Arr t (w.setCells b o vs) g xs
  | [], _, _, h => h
  | v :: vs, w, o, h => Arr.setOther hne vs (o + 1) (by unfold Arr at h ⊢; rw [Below.heap_setCell _ _ _ g hne]; exact h)
theorem run_box_lv (ty : TypeId) (xs : List Nat) (w : World) :
    (Instr.box ty (lv xs)).run Try.prog w = .ok (.pointer (some ⟨w.heap.size, 0, none⟩)) (w.alloc (.cells (cellsOf xs).toArray ty)) := by
  simp [Instr.box, newVar, newRow, lv, Value.cells, go_sem]
theorem Arr.boxed (ty : TypeId) (xs : List Nat) (w : World) : Arr ty (w.alloc (.cells (cellsOf xs).toArray ty)) w.heap.size xs := heap_alloc_new w _
theorem run_alloc_lv {ty : TypeId} {xs : List Nat} (hz : ∀ w, (zeroValue ty).run Try.prog w = .ok (lv xs) w) (w : World) :
    (Instr.alloc ty true (.tuple #[])).run Try.prog w = .ok (.pointer (some ⟨w.heap.size, 0, none⟩)) (w.alloc (.cells (cellsOf xs).toArray ty)) := by
  have h1 : (newVar ty (lv xs)).run Try.prog w = .ok ⟨w.heap.size, 0, none⟩ (w.alloc (.cells (cellsOf xs).toArray ty)) := by
    simp [newVar, newRow, lv, Value.cells, go_sem]
  simp [Instr.alloc, Sem.run_bind, hz w, h1]
theorem fill_set (off : Nat) : ∀ (ys : List Nat) (k : Nat) (zs : List Nat), off + k + ys.length ≤ zs.length →
    ((cellsOf ys).zipIdx k).foldl (fun (cs : Array Value) (p : Value × Nat) => cs.setIfInBounds (off + p.2) p.1) (cellsOf zs).toArray = (cellsOf (zs.take (off + k) ++ (ys ++ zs.drop (off + k + ys.length)))).toArray
  | [], k, zs, _ => by simp [cellsOf]
  | y :: ys, k, zs, hl => by
    have hs : (cellsOf zs).toArray.setIfInBounds (off + k) (Value.int .u64 (y : Int)) = (cellsOf (zs.set (off + k) y)).toArray := by
      simp [cellsOf, List.map_set]
    have ih := fill_set off ys (k + 1) (zs.set (off + k) y) (by simp at hl ⊢; omega)
    have e : (zs.set (off + k) y).take (off + (k + 1)) ++ (ys ++ (zs.set (off + k) y).drop (off + (k + 1) + ys.length)) = zs.take (off + k) ++ (y :: ys ++ zs.drop (off + k + (y :: ys).length)) := by
      have ho : off + k < zs.length := by simp at hl; omega
      rw [← Nat.add_assoc, List.take_add_one, List.take_set_of_le (Nat.le_refl _), List.getElem?_set_self ho, List.drop_set_of_lt (by omega)]
      simp [Nat.add_assoc, Nat.add_comm 1]
    rw [e] at ih
    rw [← ih, ← hs]
    rfl
theorem fill_cons {place : Nat → Option (Nat × Nat)} {i off n : Nat} {ys zs : List Nat} {rest : List (Nat × Value)} (hp : place i = some (off, n)) (hn : ys.length = n) (hl : off + n ≤ zs.length) :
    Instr.fill place (cellsOf zs).toArray ((i, lv ys) :: rest) = Instr.fill place (cellsOf (zs.take off ++ (ys ++ zs.drop (off + n)))).toArray rest := by
  subst hn
  have h1 : (lv ys).cells = (cellsOf ys).toArray := rfl
  have h2 : (cellsOf ys).toArray.size = ys.length := by simp [cellsOf]
  have h3 : (cellsOf zs).toArray.size = zs.length := by simp [cellsOf]
  have hf := fill_set off ys 0 zs (by omega)
  rw [Nat.add_zero] at hf
  rw [Instr.fill, hp]
  simp only [h1, h2, h3]
  rw [if_neg (by simp; omega), ← hf]
  simp
def Struct (ty : TypeId) (n : Nat) (places : List (Nat × Nat)) : Prop :=
  ∃ fields : Array Field, Try.prog.underlying ty = some (.struct fields) ∧ (∀ w, (zeroValue ty).run Try.prog w = .ok (lv (List.replicate n 0)) w) ∧
    ∀ w, (fields.mapM fun f => do pure (f.offset, ← Go.sizeOf f.type) : Sem (Array (Nat × Nat))).run Try.prog w = .ok places.toArray w
theorem run_build_lv {ty : TypeId} {n : Nat} {places : List (Nat × Nat)} (hs : Struct ty n places) {parts : Array (Nat × Value)} {xs : List Nat}
    (hx : Instr.fill (places.toArray[·]?) (cellsOf (List.replicate n 0)).toArray parts.toList = some (cellsOf xs).toArray) (w : World) :
    (Instr.build ty parts).run Try.prog w = .ok (lv xs) w := by
  obtain ⟨fields, hu, hz, hm⟩ := hs
  have hc : (lv (List.replicate n 0)).cells = (cellsOf (List.replicate n 0)).toArray := rfl
  simp only [Instr.build, Sem.run_bind, hz w, Result.andThen_ok, run_underlying hu w, hm w, hc, hx, Sem.run_pure]
  rfl
section
variable {ρ : Operand → Value} {d : Option Tmp} {ty0 : TypeId} {pos : String} {after : Array Edge} {guard : Option (Nat × Bool)} {w : World}
theorem ex_move (x : Operand) : (execOp ρ ⟨d, .move x, ty0, pos, after, guard⟩).run Try.prog w = .ok (.value (ρ x)) w := by simp [execOp]
theorem ex_assign (x : Operand) : (execOp ρ ⟨d, .assign x, ty0, pos, after, guard⟩).run Try.prog w = .ok (.value (ρ x)) w := by simp [execOp]
theorem ex_load {ty : TypeId} {x : Operand} {t : TypeId} {g o n : Nat} {xs : List Nat} (hf : Flat ty n) (hx : ρ x = .pointer (some ⟨g, o, none⟩)) (h : Arr t w g xs) (ho : o + n ≤ xs.length) :
    (execOp ρ ⟨d, .load ty x, ty0, pos, after, guard⟩).run Try.prog w = .ok (.value (lv ((xs.drop o).take n))) w := by
  simp [execOp, hx, run_load_lv h hf ho]
theorem ex_pick {c x y : Operand} {r : Bool} (hc : ρ c = .bool r) : (execOp ρ ⟨d, .pick c x y, ty0, pos, after, guard⟩).run Try.prog w = .ok (.value (if r then ρ x else ρ y)) w := by
  simp [execOp, hc, asBool]
theorem ex_not {x : Operand} {t : TypeId} {r : Bool} (hx : ρ x = .bool r) : (execOp ρ ⟨d, .unOp .not t x, ty0, pos, after, guard⟩).run Try.prog w = .ok (.value (.bool (!r))) w := by
  simp [execOp, hx, Op.unary]
theorem ex_extract {x : Operand} {vs : List Value} {i : Nat} {v : Value} (hx : ρ x = .tuple vs.toArray) (hv : vs[i]? = some v) : (execOp ρ ⟨d, .extract x i, ty0, pos, after, guard⟩).run Try.prog w = .ok (.value v) w := by
  simp [execOp, hx, Instr.extract, hv]
def FieldAt (s : TypeId) (f off : Nat) : Prop := ∃ (fields : Array Field) (fd : Field) (n : Nat), Try.prog.underlying s = some (.struct fields) ∧ fields[f]? = some fd ∧ fd.offset = off ∧ (∀ w, (Go.sizeOf fd.type).run Try.prog w = .ok (n + 1) w)
theorem ex_field {s : TypeId} {x : Operand} {f off g o : Nat} (hf : FieldAt s f off) (hx : ρ x = .pointer (some ⟨g, o, none⟩)) :
    (execOp ρ ⟨d, .fieldAddr s x f, ty0, pos, after, guard⟩).run Try.prog w = .ok (.value (.pointer (some ⟨g, o + off, none⟩))) w := by
  obtain ⟨fields, fd, n, hu, hfd, rfl, hn⟩ := hf
  simp [execOp, Sem.run_bind, hx, Instr.fieldAt, Instr.sureAddr, run_underlying hu w, hfd, fieldPlace, hn w, Addr.add_mid]
theorem ex_build {ty : TypeId} {parts : List (Nat × Operand)} {vs : List (Nat × Value)} {n : Nat} {places : List (Nat × Nat)} (hs : Struct ty n places) {xs : List Nat}
    (hv : (parts.map fun (p : Nat × Operand) => (p.1, ρ p.2)) = vs)
    (hx : Instr.fill (places.toArray[·]?) (cellsOf (List.replicate n 0)).toArray vs = some (cellsOf xs).toArray) :
    (execOp ρ ⟨d, .build ty parts.toArray, ty0, pos, after, guard⟩).run Try.prog w = .ok (.value (lv xs)) w := by
  have hv' : (parts.toArray.map fun (i, x) => (i, ρ x)) = vs.toArray := by rw [List.map_toArray]; exact congrArg List.toArray hv
  simp only [execOp, Sem.run_bind, hv', run_build_lv hs hx w, Result.andThen_ok, Sem.run_pure]
def EqF (ty : TypeId) (n k : Nat) : Prop := Try.prog.eqGuardType Try.prog.depth ty = false ∧
  ∀ (D : Nat) (xs ys : List Nat) (w : World), xs.length = n → ys.length = n → (Op.equalIn (D + k) ty (lv xs) (lv ys)).run Try.prog w = .ok (decide (xs = ys)) w
theorem ex_eq {ty t2 : TypeId} {x y : Operand} {xs ys : List Nat} {n k : Nat} (he : EqF ty n k) (hk : k ≤ 10000) (hx : ρ x = lv xs) (hy : ρ y = lv ys) (h1 : xs.length = n) (h2 : ys.length = n) (r : Bool) (hr : r = decide (xs = ys)) :
    (execOp ρ ⟨d, .binOp .eql ty x y t2, ty0, pos, after, guard⟩).run Try.prog w = .ok (.value (.bool r)) w := by
  obtain ⟨hg, he⟩ := he
  have he' : (Op.equal ty (lv xs) (lv ys)).run Try.prog w = .ok r w := by
    have := he (10000 - k) xs ys w h1 h2
    rw [Nat.sub_add_cancel hk, ← hr] at this
    exact this
  have hgd : (eqGuard .eql ty x y (lv xs) (lv ys)).run Try.prog w = .ok () w := by
    simp [eqGuard, lv, Sem.run_bind, hg, run_program]
  have hb : (binOp .eql ty (lv xs) (lv ys)).run Try.prog w = .ok (.bool r) w := by
    have : binOp .eql ty (lv xs) (lv ys) = (do pure (.bool (← Op.equal ty (lv xs) (lv ys)))) := rfl
    rw [this]
    simp [he']
  simp [execOp, Sem.run_bind, hx, hy, hgd, hb]
theorem ex_neq {ty t2 : TypeId} {x y : Operand} {xs ys : List Nat} {n k : Nat} (he : EqF ty n k) (hk : k ≤ 10000) (hx : ρ x = lv xs) (hy : ρ y = lv ys) (h1 : xs.length = n) (h2 : ys.length = n) (r : Bool) (hr : r = !decide (xs = ys)) :
    (execOp ρ ⟨d, .binOp .neq ty x y t2, ty0, pos, after, guard⟩).run Try.prog w = .ok (.value (.bool r)) w := by
  obtain ⟨hg, he⟩ := he
  have he' : (Op.equal ty (lv xs) (lv ys)).run Try.prog w = .ok (decide (xs = ys)) w := by
    have := he (10000 - k) xs ys w h1 h2
    rw [Nat.sub_add_cancel hk] at this
    exact this
  have hgd : (eqGuard .neq ty x y (lv xs) (lv ys)).run Try.prog w = .ok () w := by
    simp [eqGuard, lv, Sem.run_bind, hg, run_program]
  have hb : (binOp .neq ty (lv xs) (lv ys)).run Try.prog w = .ok (.bool r) w := by
    have : binOp .neq ty (lv xs) (lv ys) = (do pure (.bool (!(← Op.equal ty (lv xs) (lv ys))))) := rfl
    rw [this, hr]
    simp [he']
  simp [execOp, Sem.run_bind, hx, hy, hgd, hb]
theorem ex_eqi {ty t2 : TypeId} {x y : Operand} {k : IntKind} {a b : Int} (hx : ρ x = .int k a) (hy : ρ y = .int k b) (r : Bool) (hr : r = (a == b)) :
    (execOp ρ ⟨d, .binOp .eql ty x y t2, ty0, pos, after, guard⟩).run Try.prog w = .ok (.value (.bool r)) w := by
  subst hr
  simp [execOp, hx, hy, eqGuard, binOp, Op.intCmp]
theorem ex_neqi {ty t2 : TypeId} {x y : Operand} {k : IntKind} {a b : Int} (hx : ρ x = .int k a) (hy : ρ y = .int k b) (r : Bool) (hr : r = (a != b)) :
    (execOp ρ ⟨d, .binOp .neq ty x y t2, ty0, pos, after, guard⟩).run Try.prog w = .ok (.value (.bool r)) w := by
  subst hr
  simp [execOp, hx, hy, eqGuard, binOp, Op.intCmp]
theorem ex_call {x : Operand} {xs : List Operand} {tys : Array TypeId} {f : FuncId} {vs : List Value} (hx : ρ x = .func (.func f) #[] #[]) (hc : ∀ (args : Array Value) (w : World), (callFunc f args).run Try.prog w = .ok (.enter f args) w) (hv : xs.map ρ = vs) :
    (execOp ρ ⟨d, .call ⟨.value x, xs.toArray, tys⟩, ty0, pos, after, guard⟩).run Try.prog w = .ok (.enter f vs.toArray) w := by
  subst hv
  simp [execOp, resolve, hx, Deferred.ofValue, invoke, hc]
theorem ex_box {ty : TypeId} {x : Operand} {xs : List Nat} (hx : ρ x = lv xs) : (execOp ρ ⟨d, .box ty x, ty0, pos, after, guard⟩).run Try.prog w = .ok (.value (.pointer (some ⟨w.heap.size, 0, none⟩))) (w.alloc (.cells (cellsOf xs).toArray ty)) := by
  simp [execOp, hx, run_box_lv]
theorem ex_alloc {ty : TypeId} {xs : List Nat} (hz : ∀ w, (zeroValue ty).run Try.prog w = .ok (lv xs) w) : (execOp ρ ⟨d, .alloc ty, ty0, pos, after, guard⟩).run Try.prog w = .ok (.value (.pointer (some ⟨w.heap.size, 0, none⟩))) (w.alloc (.cells (cellsOf xs).toArray ty)) := by
  simp [execOp, run_alloc_lv hz]
theorem ex_store {ty : TypeId} {x y : Operand} {t : TypeId} {g : Nat} {xs ys : List Nat} (hf : Flat ty ys.length) (hx : ρ x = .pointer (some ⟨g, 0, none⟩)) (hy : ρ y = lv ys) (h : Arr t w g xs) (hl : ys.length = xs.length) :
    (execOp ρ ⟨d, .store ty x y, ty0, pos, after, guard⟩).run Try.prog w = .ok .skip (w.setCells g 0 (cellsOf ys)) := by
  simp [execOp, hx, hy, run_store_lv h hf hl]
end
theorem equalIn_limb (hu : Try.prog.underlying 24 = some (.int .u64)) (D a b : Nat) (w : World) : (Op.equalIn (D + 1) 24 (.int .u64 (a : Int)) (.int .u64 (b : Int))).run Try.prog w = .ok (decide (a = b)) w := by
  have e : ((a : Int) == (b : Int)) = decide (a = b) := by
    by_cases h : a = b
    · simp [h]
    · rw [decide_eq_false h, beq_eq_false_iff_ne]; omega
  simp [go_sem, hu, e]
theorem eqItems_lv (D : Nat) (xs ys : List Nat) (w : World) : ∀ (is : List Nat), (∀ i ∈ is, i < xs.length ∧ i < ys.length) →
    (Op.eqItems (D + 1) 24 1 (cellsOf xs).toArray (cellsOf ys).toArray is).run Try.prog w = .ok (decide (∀ i ∈ is, lm xs i = lm ys i)) w
  | [], _ => by simp [Op.eqItems]
  | i :: is, h => by
    obtain ⟨h1, h2⟩ := h i List.mem_cons_self
    have ih := eqItems_lv D xs ys w is (fun j hj => h j (List.mem_cons_of_mem _ hj))
    have hp : ∀ (zs : List Nat), i < zs.length → (part 24 (cellsOf zs).toArray (i * 1)).run Try.prog w = .ok (.int .u64 ((lm zs i : Nat) : Int)) w := fun zs hz => by
      have := cellsOf_get hz
      rw [Nat.mul_one]
      unfold part
      simp [Sem.run_bind, Try.isAgg24 w, this]
    simp only [Op.eqItems, Sem.run_bind, hp xs h1, hp ys h2, Result.andThen_ok, equalIn_limb Try.underlying24]
    by_cases he : lm xs i = lm ys i
    · rw [decide_eq_true he]
      simp only [Bool.not_true, Bool.false_eq_true, if_false, ih]
      congr 1
      simp [he]
    · rw [decide_eq_false he]
      simp [he]
theorem lm_ext {xs ys : List Nat} (h : xs.length = ys.length) (he : ∀ i, i < xs.length → lm xs i = lm ys i) : xs = ys := by
  apply List.ext_getElem h
  intro i h1 h2
  have := he i h1
  simpa [lm, h1, h2] using this
set_option maxRecDepth 20000 in
theorem EqF.array {ty : TypeId} {n : Nat} (hg : Try.prog.eqGuardType Try.prog.depth ty = false) (hu : Try.prog.underlying ty = some (.array n 24)) : EqF ty n 2 := by
  refine ⟨hg, fun D xs ys w h1 h2 => ?_⟩
  obtain ⟨i, hi, _, _, _⟩ := info_parts Try.infoU
  have hc : Try.prog.cellsOf 24 = 1 := by kernel_rfl
  show (Op.equalIn (D + 1 + 1) ty (.agg _) (.agg _)).run Try.prog w = _
  rw [run_equalIn_array w (D + 1) _ _ hu hi, hc, eqItems_lv D xs ys w (List.range n) (fun i hi => by have := List.mem_range.1 hi; omega)]
  congr 1
  rw [decide_eq_decide]
  constructor
  · intro h
    exact lm_ext (by omega) (fun i hi => h i (List.mem_range.2 (by omega)))
  · rintro rfl
    exact fun _ _ => rfl
theorem run_part_lv {ty : TypeId} {n : Nat} (hf : Flat ty n) (xs : List Nat) (o : Nat) (w : World) : (part ty (cellsOf xs).toArray o).run Try.prog w = .ok (lv ((xs.drop o).take n)) w := by
  have e : (cellsOf xs).toArray.extract o (o + n) = (cellsOf ((xs.drop o).take n)).toArray := by
    simp [cellsOf, List.map_take, List.map_drop]
  unfold part
  simp only [Sem.run_bind, hf.1 w, hf.2 w, Result.andThen_ok, e, lv, if_true, Sem.run_pure]
inductive Fields (k : Nat) : List Field → Nat → Nat → Prop
  | nil (o : Nat) : Fields k [] o 0
  | cons {f : Field} {fs : List Field} {o n m : Nat} (hn : f.name ≠ "_") (ho : f.offset = o) (hf : Flat f.type n) (he : EqF f.type n k) (h : Fields k fs (o + n) m) : Fields k (f :: fs) o (n + m)
theorem eqFields_lv {k : Nat} (xs ys : List Nat) (w : World) (D : Nat) {fs : List Field} {o m : Nat} (h : Fields k fs o m) (h1 : xs.length = o + m) (h2 : ys.length = o + m) :
    (Op.eqFields (D + k) (cellsOf xs).toArray (cellsOf ys).toArray fs).run Try.prog w = .ok (decide (xs.drop o = ys.drop o)) w := by
  induction h with
  | nil o =>
    have e1 : xs.drop o = [] := by simp; omega
    have e2 : ys.drop o = [] := by simp; omega
    simp [Op.eqFields, e1, e2]
  | @cons f fs o n m hn ho hf he h ih =>
    subst ho
    have ih := ih (by omega) (by omega)
    have hq := he.2 D ((xs.drop f.offset).take n) ((ys.drop f.offset).take n) w (by simp; omega) (by simp; omega)
    simp only [Op.eqFields, if_pos hn, Sem.run_bind, run_part_lv hf, Result.andThen_ok, hq]
    by_cases hx : (xs.drop f.offset).take n = (ys.drop f.offset).take n
    · rw [decide_eq_true hx]
      simp only [Bool.not_true, Bool.false_eq_true, if_false, ih]
      congr 1
      rw [decide_eq_decide]
      constructor
      · intro h3
        rw [← List.take_append_drop n (xs.drop f.offset), ← List.take_append_drop n (ys.drop f.offset), hx, List.drop_drop, List.drop_drop, h3]
      · intro h3
        rw [← List.drop_drop, ← List.drop_drop, h3]
    · rw [decide_eq_false hx]
      have : xs.drop f.offset ≠ ys.drop f.offset := fun h3 => hx (by rw [h3])
      simp [this]
theorem EqF.struct {ty : TypeId} {n k : Nat} {fields : List Field} (hg : Try.prog.eqGuardType Try.prog.depth ty = false) (hu : Try.prog.underlying ty = some (.struct fields.toArray)) (hst : Try.prog.stoodInHeld ty = false) (hfs : Fields k fields 0 n) : EqF ty n (k + 1) := by
  refine ⟨hg, fun D xs ys w h1 h2 => ?_⟩
  have hfo : Try.prog.fieldsOf ty = fields.toArray := by simp [Program.fieldsOf, hu]
  show (Op.equalIn (D + k + 1) ty (.agg _) (.agg _)).run Try.prog w = _
  rw [run_equalIn_struct w (D + k) ty _ _ (by rw [hfo]; exact hu) hst, hfo]
  have := eqFields_lv xs ys w D hfs (by omega) (by omega)
  simpa using this
theorem put_same {F : Act} {d : Tmp} {v : Value} (h : F.tmps[d]? = some v) : F.put (some d) v = F := by
  obtain ⟨t, ds⟩ := F
  simp only [Act.put]
  congr
  apply Array.ext_getElem?
  intro i
  rw [Array.getElem?_setIfInBounds]
  split
  · rename_i h1
    subst h1
    split
    · exact h.symm
    · rename_i h2
      rw [Array.getElem?_eq_none (by omega)]
  · rfl
section
variable {ops : Array Oper} {S : World → Prop} {F : Act} {o : Oper} {d : Tmp} {v : Value}
theorem ps_val (hd : o.dst = some d) (hw : Region.wanted o (yielded ops F.tmps) = true) (hv : F.tmps[d]? = some v) (h : ∀ w, S w → (execOp F.eval o).run Try.prog w = .ok (.value v) w) : PlanStep Try.prog ops S F o := fun w K hS hK => by
  rw [if_pos hw]
  unfold Oper.wp
  rw [h w hS]
  show K (F.put o.dst v) w
  rw [hd, put_same hv]
  exact hK.out w hS
end
def Bel (W w : World) : Prop := Below W.heap.size W w
theorem Bel.start (W : World) : Bel W W.drew := (Below.refl _ _).drew
theorem Bel.out {W w : World} (h : Bel W w) : Below W.heap.size W w := h
section
variable {ops : Array Oper} {W : World} {F : Act} {o : Oper} {d : Tmp} {v : Value}
theorem ps_call {f : FuncId} {vs : Array Value} (hd : o.dst = some d) (hw : Region.wanted o (yielded ops F.tmps) = true) (hv : F.tmps[d]? = some v)
    (he : ∀ w, (execOp F.eval o).run Try.prog w = .ok (.enter f vs) w) (hC : ∀ w, Bel W w → Calls Try.prog f vs w (Is v w)) : PlanStep Try.prog ops (Bel W) F o := fun w K hS hK => by
  rw [if_pos hw]
  unfold Oper.wp
  rw [he w]
  show Calls _ _ _ _ _
  refine (hC w hS).mono ?_
  rintro e w' ⟨rfl, hb⟩
  show K (F.put o.dst v) w'
  rw [hd, put_same hv]
  exact hK.out w' (below_then hS hb)
end
section
variable {ops : Array Oper} {rest : List Oper} {Q : Exit → Act → World → Prop} {a a' : Act} {w : World} {o : Oper} {v : Value}
theorem sq_val (ha : a.put o.dst v = a') (hw : Region.wanted o (yielded ops a.tmps) = true) (h : (execOp a.eval o).run Try.prog w = .ok (.value v) w) (hn : wpList Try.prog ops Q rest a' w) : wpList Try.prog ops Q (o :: rest) a w := by
  subst ha
  refine wpList_step fun K hK => ?_
  rw [if_pos hw]
  unfold Oper.wp
  rw [h]
  exact hK _ _ hn
theorem sq_new {ty : TypeId} {xs : List Nat} (ha : a.put o.dst (.pointer (some ⟨w.heap.size, 0, none⟩)) = a') (hw : Region.wanted o (yielded ops a.tmps) = true) (h : (execOp a.eval o).run Try.prog w = .ok (.value (.pointer (some ⟨w.heap.size, 0, none⟩))) (w.alloc (.cells (cellsOf xs).toArray ty)))
    (hn : ∀ w', Arr ty w' w.heap.size xs → Below w.heap.size w w' → wpList Try.prog ops Q rest a' w') : wpList Try.prog ops Q (o :: rest) a w := by
  subst ha
  refine wpList_step fun K hK => ?_
  rw [if_pos hw]
  unfold Oper.wp
  rw [h]
  exact hK _ _ (hn _ (Arr.boxed ty xs w) ((Below.refl _ _).alloc (Nat.le_refl _) _))
theorem sq_call {f : FuncId} {vs : Array Value} (ha : a.put o.dst v = a') (hw : Region.wanted o (yielded ops a.tmps) = true) (he : (execOp a.eval o).run Try.prog w = .ok (.enter f vs) w) (hC : Calls Try.prog f vs w (Is v w))
    (hn : ∀ w', Below w.heap.size w w' → wpList Try.prog ops Q rest a' w') : wpList Try.prog ops Q (o :: rest) a w := by
  subst ha
  refine wpList_step fun K hK => ?_
  rw [if_pos hw]
  unfold Oper.wp
  rw [he]
  show Calls _ _ _ _ _
  refine hC.mono ?_
  rintro e w' ⟨rfl, hb⟩
  exact hK _ _ (hn w' hb)
theorem sq_store {t : TypeId} {g : Nat} {xs ys : List Nat} (ha : a.put o.dst undef = a') (hw : Region.wanted o (yielded ops a.tmps) = true) (h : Arr t w g xs) (hl : ys.length = xs.length) (he : (execOp a.eval o).run Try.prog w = .ok .skip (w.setCells g 0 (cellsOf ys)))
    (hn : ∀ w', Arr t w' g ys → (∀ (B : Nat) (w0 : World), Below B w0 w → B ≤ g → Below B w0 w') → (∀ (t' : TypeId) (g' : Nat) (zs : List Nat), g' ≠ g → Arr t' w g' zs → Arr t' w' g' zs) → wpList Try.prog ops Q rest a' w') : wpList Try.prog ops Q (o :: rest) a w := by
  subst ha
  refine wpList_step fun K hK => ?_
  rw [if_pos hw]
  unfold Oper.wp
  rw [he]
  exact hK _ _ (hn _ (h.stored hl) (fun B w0 hb hB => Below.setCells hB _ 0 hb) (fun t' g' zs hne h' => Arr.setOther hne _ 0 h'))
end
theorem last_store {ops : Array Oper} {S : World → Prop} {Q : Exit → Act → World → Prop} {F : Act} {o : Oper} {t : TypeId} {g : Nat} {xs ys : List Nat} (hd : o.dst = none) (hw : Region.wanted o (yielded ops F.tmps) = true) (hA : ∀ w, S w → Arr t w g xs) (hl : ys.length = xs.length)
    (he : ∀ w, S w → (execOp F.eval o).run Try.prog w = .ok .skip (w.setCells g 0 (cellsOf ys)))
    (hn : ∀ w w', S w → Arr t w' g ys → (∀ (B : Nat) (w0 : World), Below B w0 w → B ≤ g → Below B w0 w') → (∀ (t' : TypeId) (g' : Nat) (zs : List Nat), g' ≠ g → Arr t' w g' zs → Arr t' w' g' zs) → Q .normal F w') :
    ∀ w', S w' → ∀ K : Act → World → Prop, Shut (∀ w'', Q .normal F w'' → K F w'') → if Region.wanted o (yielded ops F.tmps) = true then Oper.wp Try.prog o F w' K (fun _ _ _ => False) else K F w' := fun w hS K hK => by
  rw [if_pos hw]
  unfold Oper.wp
  rw [he w hS]
  show K (F.put o.dst undef) _
  rw [hd]
  exact hK.out _ (hn w _ hS ((hA w hS).stored hl) (fun B w0 hb hB => Below.setCells hB _ 0 hb) (fun t' g' zs hne h' => Arr.setOther hne _ 0 h'))
theorem run_loadVar_lv {t : TypeId} {w : World} {g : Nat} {xs : List Nat} (h : Arr t w g xs) {ty : TypeId} (hf : Flat ty xs.length) : (loadVar ty ⟨g, 0, none⟩).run Try.prog w = .ok (lv xs) w := by
  have := run_load_lv h hf (o := 0) (by omega)
  simpa [Instr.loadAt, Instr.sureAddr, Sem.run_bind] using this
theorem ret_cell {fn : Func} {tmps : Array Value} {w : World} {t ty : TypeId} {k g : Nat} {xs : List Nat} (hr : fn.results = #[.cell k ty]) (hk : tmps.getD k undef = .pointer (some ⟨g, 0, none⟩)) (h : Arr t w g xs) (hf : Flat ty xs.length) :
    (results fn tmps).run Try.prog w = .ok (lv xs) w := by
  unfold results
  rw [hr]
  rw [Array.getD_eq_getD_getElem?] at hk
  simp [hk, asAddr, run_loadVar_lv h hf]
def rows (K : Nat) (l : List Nat) : List Nat := l.flatMap (row K)
def nv (K : Nat) (l : List Nat) : Value := lv (rows K l)
theorem rows_cons (K a : Nat) (l : List Nat) : rows K (a :: l) = row K a ++ rows K l := by simp [rows]
theorem rows_one (K a : Nat) : rows K [a] = row K a := by simp [rows]
theorem rows_len (K : Nat) : ∀ l : List Nat, (rows K l).length = K * l.length
  | [] => by simp [rows]
  | a :: l => by rw [rows_cons, List.length_append, length_row, rows_len K l, List.length_cons, Nat.mul_add, Nat.mul_one, Nat.add_comm]
theorem rows_drop (K : Nat) : ∀ (k : Nat) (l : List Nat), (rows K l).drop (K * k) = rows K (l.drop k)
  | 0, l => by simp
  | k + 1, [] => by simp [rows]
  | k + 1, a :: l => by
    rw [rows_cons, Nat.mul_add, Nat.mul_one, Nat.add_comm, ← List.drop_drop, List.drop_left' (length_row K a), rows_drop K k l, List.drop_succ_cons]
theorem rows_take (K : Nat) : ∀ (k : Nat) (l : List Nat), (rows K l).take (K * k) = rows K (l.take k)
  | 0, l => by simp [rows]
  | k + 1, [] => by simp [rows]
  | k + 1, a :: l => by
    rw [rows_cons, List.take_succ_cons, rows_cons, Nat.mul_add, Nat.mul_one, Nat.add_comm, List.take_append, List.take_of_length_le (by rw [length_row]; omega), length_row, Nat.add_sub_cancel_left, rows_take K k l]
theorem rows_zero (K : Nat) : ∀ n : Nat, rows K (List.replicate n 0) = List.replicate (K * n) 0
  | 0 => by simp [rows]
  | n + 1 => by
    have h0 : row K 0 = List.replicate K 0 := by
      apply List.ext_getElem (by rw [length_row]; simp)
      intro i h1 h2
      have e := lb_row (K := K) (v := 0) (i := i) (by rw [length_row] at h1; exact h1)
      rw [lm, List.getD_eq_getElem?_getD, List.getElem?_eq_getElem h1] at e
      simp at e ⊢
      rw [e]
      simp [lb]
    rw [List.replicate_succ, rows_cons, rows_zero K n, h0, List.replicate_append_replicate, Nat.mul_add, Nat.mul_one, Nat.add_comm]
theorem row_inj {K a b : Nat} (ha : a < 2 ^ (64 * K)) (hb : b < 2 ^ (64 * K)) (h : row K a = row K b) : a = b := by
  rw [← val_row_of ha, ← val_row_of hb, h]
theorem rows_inj {K : Nat} : ∀ {l m : List Nat}, (∀ x ∈ l, x < 2 ^ (64 * K)) → (∀ x ∈ m, x < 2 ^ (64 * K)) → l.length = m.length → rows K l = rows K m → l = m
  | [], [], _, _, _, _ => rfl
  | a :: l, b :: m, hl, hm, hn, h => by
    rw [rows_cons, rows_cons] at h
    obtain ⟨h1, h2⟩ := List.append_inj h (by rw [length_row, length_row])
    rw [row_inj (hl a List.mem_cons_self) (hm b List.mem_cons_self) h1, rows_inj (fun x hx => hl x (List.mem_cons_of_mem _ hx)) (fun x hx => hm x (List.mem_cons_of_mem _ hx)) (by simpa using hn) h2]
  | [], _ :: _, _, _, hn, _ => by simp at hn
  | _ :: _, [], _, _, hn, _ => by simp at hn
section
variable {ρ : Operand → Value} {d : Option Tmp} {ty0 : TypeId} {pos : String} {after : Array Edge} {guard : Option (Nat × Bool)} {w : World} {K : Nat}
theorem ex_loadn {ty : TypeId} {x : Operand} {t : TypeId} {g k j : Nat} {l : List Nat} (hf : Flat ty (K * j)) (hx : ρ x = .pointer (some ⟨g, K * k, none⟩)) (h : Arr t w g (rows K l)) (hl : Nat.ble (k + j) l.length = true) (m : List Nat) (hm : (l.drop k).take j = m) :
    (execOp ρ ⟨d, .load ty x, ty0, pos, after, guard⟩).run Try.prog w = .ok (.value (nv K m)) w := by
  have := ex_load (d := d) (ty0 := ty0) (pos := pos) (after := after) (guard := guard) hf hx h (by rw [rows_len, ← Nat.mul_add]; exact Nat.mul_le_mul_left K (Nat.le_of_ble_eq_true hl))
  rw [rows_drop, rows_take, hm] at this
  exact this
theorem ex_eqt {ty t2 : TypeId} {x y : Operand} {l : List Nat} {n k : Nat} (he : EqF ty n k) (hk : Nat.ble k 10000 = true) (hx : ρ x = nv K l) (hy : ρ y = nv K l) (h1 : K * l.length = n) :
    (execOp ρ ⟨d, .binOp .eql ty x y t2, ty0, pos, after, guard⟩).run Try.prog w = .ok (.value (.bool true)) w :=
  ex_eq he (Nat.le_of_ble_eq_true hk) hx hy (by rw [rows_len, h1]) (by rw [rows_len, h1]) true (decide_eq_true rfl).symm
theorem ex_eqn {ty t2 : TypeId} {x y : Operand} {l m : List Nat} {n k : Nat} (he : EqF ty n k) (hk : Nat.ble k 10000 = true) (hx : ρ x = nv K l) (hy : ρ y = nv K m) (h1 : K * l.length = n) (h2 : K * m.length = n) (hl : ∀ x ∈ l, x < 2 ^ (64 * K)) (hm : ∀ x ∈ m, x < 2 ^ (64 * K)) (hlm : l.length = m.length) (r : Bool) (hr : r = decide (l = m)) :
    (execOp ρ ⟨d, .binOp .eql ty x y t2, ty0, pos, after, guard⟩).run Try.prog w = .ok (.value (.bool r)) w := by
  refine ex_eq he (Nat.le_of_ble_eq_true hk) hx hy (by rw [rows_len, h1]) (by rw [rows_len, h2]) r ?_
  rw [hr, decide_eq_decide]
  exact ⟨fun h => by rw [h], fun h => rows_inj hl hm hlm h⟩
theorem ex_neqn {ty t2 : TypeId} {x y : Operand} {l m : List Nat} {n k : Nat} (he : EqF ty n k) (hk : Nat.ble k 10000 = true) (hx : ρ x = nv K l) (hy : ρ y = nv K m) (h1 : K * l.length = n) (h2 : K * m.length = n) (hl : ∀ x ∈ l, x < 2 ^ (64 * K)) (hm : ∀ x ∈ m, x < 2 ^ (64 * K)) (hlm : l.length = m.length) (r : Bool) (hr : r = !decide (l = m)) :
    (execOp ρ ⟨d, .binOp .neq ty x y t2, ty0, pos, after, guard⟩).run Try.prog w = .ok (.value (.bool r)) w := by
  refine ex_neq he (Nat.le_of_ble_eq_true hk) hx hy (by rw [rows_len, h1]) (by rw [rows_len, h2]) r ?_
  have : decide (l = m) = decide (rows K l = rows K m) := by
    rw [decide_eq_decide]
    exact ⟨fun h => by rw [h], fun h => rows_inj hl hm hlm h⟩
  rw [hr, this]
theorem ex_boxn {ty : TypeId} {x : Operand} {l : List Nat} (hx : ρ x = nv K l) : (execOp ρ ⟨d, .box ty x, ty0, pos, after, guard⟩).run Try.prog w = .ok (.value (.pointer (some ⟨w.heap.size, 0, none⟩))) (w.alloc (.cells (cellsOf (rows K l)).toArray ty)) := ex_box hx
theorem ex_storen {ty : TypeId} {x y : Operand} {t : TypeId} {g : Nat} {l m : List Nat} (hf : Flat ty (K * m.length)) (hx : ρ x = .pointer (some ⟨g, 0, none⟩)) (hy : ρ y = nv K m) (h : Arr t w g (rows K l)) (hl : m.length = l.length) :
    (execOp ρ ⟨d, .store ty x y, ty0, pos, after, guard⟩).run Try.prog w = .ok .skip (w.setCells g 0 (cellsOf (rows K m))) :=
  ex_store (by rw [rows_len]; exact hf) hx hy h (by rw [rows_len, rows_len, hl])
end
theorem len_rows {K : Nat} {l m : List Nat} (h : m.length = l.length) : (rows K m).length = (rows K l).length := by rw [rows_len, rows_len, h]
theorem PlanSteps.cons {P : Program} {ops : Array Oper} {S : World → Prop} {F : Act} {o : Oper} {os : List Oper} (h : PlanStep P ops S F o) (hs : PlanSteps P ops S F os) : PlanSteps P ops S F (o :: os) := ⟨h, hs⟩
theorem PlanSteps.nil {P : Program} {ops : Array Oper} {S : World → Prop} {F : Act} : PlanSteps P ops S F [] := trivial
theorem PlanInit.cons {P : Program} {ops : Array Oper} {S : World → Prop} {F : Act} {o o' : Oper} {os : List Oper} (h : PlanStep P ops S F o) (hs : PlanInit P ops S F (o' :: os)) : PlanInit P ops S F (o :: o' :: os) := ⟨h, hs⟩
theorem PlanInit.one {P : Program} {ops : Array Oper} {S : World → Prop} {F : Act} {o : Oper} : PlanInit P ops S F [o] := trivial
theorem seq_lit {P : Program} {id : Nat} {l : List Oper} {y : Code} {Q : Exit → Act → World → Prop} {a : Act} {w : World} (h : wpList P l.toArray (Exit.then (y.wp P Q) Q) l a w) : (Code.seq (Code.region id l.toArray false) y).wp P Q a w := wp_seq (wp_region_lit h)
theorem seq_nil {P : Program} {ops : Array Oper} {y : Code} {Q : Exit → Act → World → Prop} {a : Act} {w : World} (h : y.wp P Q a w) : wpList P ops (Exit.then (y.wp P Q) Q) [] a w := h
theorem nv_row (K v : Nat) : nv K [v] = .agg (cellsOf (row K v)).toArray := by unfold nv lv; rw [rows_one]
def waitsFor (ops : Array Oper) (i j : Nat) : Bool := match ops[i]? with
  | none => false
  | some o => o.after.any fun e => e.on == j && Region.binds .any e
theorem waitsFor_on {ops : Array Oper} {L : Nat → Bool} (hcl : Shutin ops L) {i j : Nat} (h : waitsFor ops i j = true) (hi : L i = true) : L j = true := by
  unfold waitsFor at h
  cases ho : ops[i]? with
  | none => simp [ho] at h
  | some o =>
    simp only [ho] at h
    obtain ⟨k, hk, hb⟩ := Array.any_eq_true.1 h
    simp only [Bool.and_eq_true, beq_iff_eq] at hb
    rw [← hb.1]
    exact hcl i o ho hi _ (Array.getElem_mem hk) hb.2
theorem GSteps.cons {P : Program} {ops : Array Oper} {Γ : Type} {F : Γ → Act} {J : Γ → (Nat → Bool) → World → Prop} {k : Nat} {o : Oper} {os : List Oper} (h : GStep P ops F J k o) (hs : GSteps P ops F J (k + 1) os) : GSteps P ops F J k (o :: os) := ⟨h, hs⟩
theorem GSteps.nil {P : Program} {ops : Array Oper} {Γ : Type} {F : Γ → Act} {J : Γ → (Nat → Bool) → World → Prop} {k : Nat} : GSteps P ops F J k [] := trivial
structure OneJ (W : World) (T : TypeId) (K i4 i6 : Nat) (zs xs : List Nat) (γ : Nat) (L : Nat → Bool) (w : World) : Prop where
  bel : Bel W w
  one : L i4 = true → W.heap.size ≤ γ ∧ Arr T w γ (rows K (if L i6 = true then xs else zs))
section
variable {ops : Array Oper} {F : Nat → Act} {W : World} {T : TypeId} {K i4 i6 : Nat} {zs xs : List Nat} {i : Nat} {o : Oper} {d : Tmp} {v : Value}
theorem OneJ.on {γ : Nat} {L : Nat → Bool} {w w' : World} (h : OneJ W T K i4 i6 zs xs γ L w) (hb : Below w.heap.size w w') (h4 : (i4 == i) = false) (h6 : (i6 == i) = false) :
    OneJ W T K i4 i6 zs xs γ (fun j => L j || j == i) w' := by
  obtain ⟨hB, h1⟩ := h
  have e4 : (L i4 || i4 == i) = L i4 := by rw [h4, Bool.or_false]
  have e6 : (L i6 || i6 == i) = L i6 := by rw [h6, Bool.or_false]
  refine ⟨below_then hB hb, ?_⟩
  simp only [e4, e6]
  exact fun h => ⟨(h1 h).1, (h1 h).2.keep hb⟩
end
structure TwoJ (W : World) (T T' : TypeId) (K i4 i5 i6 i7 : Nat) (zs zs' xs ys : List Nat) (γ : Nat × Nat) (L : Nat → Bool) (w : World) : Prop where
  bel : Bel W w
  one : L i4 = true → W.heap.size ≤ γ.1 ∧ Arr T w γ.1 (rows K (if L i6 = true then xs else zs))
  two : L i5 = true → W.heap.size ≤ γ.2 ∧ Arr T' w γ.2 (rows K (if L i7 = true then ys else zs'))
  ne : L i4 = true → L i5 = true → γ.1 ≠ γ.2
section
variable {ops : Array Oper} {F : Nat × Nat → Act} {W : World} {T T' : TypeId} {K i4 i5 i6 i7 : Nat} {zs zs' xs ys : List Nat} {i : Nat} {o : Oper} {d : Tmp} {v : Value}
theorem TwoJ.on {γ : Nat × Nat} {L : Nat → Bool} {w w' : World} (h : TwoJ W T T' K i4 i5 i6 i7 zs zs' xs ys γ L w) (hb : Below w.heap.size w w') (h4 : (i4 == i) = false) (h5 : (i5 == i) = false) (h6 : (i6 == i) = false) (h7 : (i7 == i) = false) :
    TwoJ W T T' K i4 i5 i6 i7 zs zs' xs ys γ (fun j => L j || j == i) w' := by
  obtain ⟨hB, h1, h2, h3⟩ := h
  have e4 : (L i4 || i4 == i) = L i4 := by rw [h4, Bool.or_false]
  have e5 : (L i5 || i5 == i) = L i5 := by rw [h5, Bool.or_false]
  have e6 : (L i6 || i6 == i) = L i6 := by rw [h6, Bool.or_false]
  have e7 : (L i7 || i7 == i) = L i7 := by rw [h7, Bool.or_false]
  refine ⟨below_then hB hb, ?_, ?_, ?_⟩
  · simp only [e4, e6]; exact fun h => ⟨(h1 h).1, (h1 h).2.keep hb⟩
  · simp only [e5, e7]; exact fun h => ⟨(h2 h).1, (h2 h).2.keep hb⟩
  · simp only [e4, e5]; exact h3
end
end
end Go.Proofs.Ytkkmekdhejhapaa
