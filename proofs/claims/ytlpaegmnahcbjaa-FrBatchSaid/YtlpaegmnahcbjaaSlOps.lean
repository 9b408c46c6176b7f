/- What is proved here: slices of numbers; what fr's each and running make of them; the law FrBatch. -/
import Derived.Test.YtlpaegmnahcbjaaTyFr
import Derived.LoopN
namespace Go.Proofs.Ytlpaegmnahcbjaa
open Go.RowKit

/-- A loop of n rounds, by what holds ahead of each. -/
theorem wp_loop_ind {P : Program} {c : Code} {Q : Exit → Act → World → Prop} {a : Act} {w : World} (n : Nat) (I : Nat → Act → World → Prop) (h0 : I 0 a w)
    (hstep : ∀ k, k < n → ∀ a w, I k a w → ∀ K : Act → World → Prop, Shut (∀ a' w', I (k + 1) a' w' → K a' w') → c.wp P (Exit.then K Q) a w)
    (hend : ∀ a w, I n a w → ∀ K : Act → World → Prop, c.wp P (Exit.then K Q) a w) : (Code.loop c).wp P Q a w := by
  refine wp_loop_rounds (n + 1) ?_
  have key : ∀ m k, k + m = n → ∀ a w, I k a w → Code.rounds P c Q (m + 1) a w := by
    intro m
    induction m with
    | zero =>
      intro k hk a w h
      obtain rfl : k = n := by omega
      exact hend a w h _
    | succ m ih =>
      intro k hk a w h
      exact hstep k (by omega) a w h _ (fun a' w' h' => ih (k + 1) (by omega) a' w' h')
  exact key n 0 (by omega) a w h0

theorem inblock_l {id : Nat} {Q : Exit → Act → World → Prop} {a : Act} {w : World} (h : Q .normal a w) : Exit.inBlock id Q .normal a w := h
theorem then_l {K : Act → World → Prop} {Q : Exit → Act → World → Prop} {a : Act} {w : World} (h : K a w) : Exit.then K Q .normal a w := h
theorem then_x {K : Act → World → Prop} {Q : Exit → Act → World → Prop} {id : Nat} {a : Act} {w : World} (h : Q (.exit id) a w) : Exit.then K Q (.exit id) a w := h
theorem exit_l {id : Nat} {Q : Exit → Act → World → Prop} {a : Act} {w : World} (h : Q .normal a w) : Exit.inBlock id Q (.exit id) a w := by
  show (if id = id then Q .normal a w else Q (.exit id) a w)
  rw [if_pos rfl]
  exact h

section
variable {ρ : Operand → Value} {d : Option Tmp} {ty0 : TypeId} {pos : String} {after : Array Edge} {guard : Option (Nat × Bool)} {w : World}

theorem ex_lenS {x : Operand} {s : ByteArray} {n : Nat} (hx : ρ x = .string s) (hs : s.size = n) :
    (execOp ρ ⟨d, .call ⟨.builtin .len, #[x], #[9]⟩, ty0, pos, after, guard⟩).run Try.prog w = .ok (.value (.int .i64 (n : Int))) w := by
  simp [hx, go_sem, hs]

theorem wrap_nat {n : Nat} (h : n < 9223372036854775808) : IntKind.i64.wrap (n : Int) = (n : Int) := by
  rw [IntKind.wrap_i64]
  omega

theorem ex_remN {t t2 : TypeId} {x y : Operand} {a b r : Nat} (hx : ρ x = .int .i64 (a : Int)) (hy : ρ y = .int .i64 (b : Int)) (hb : 0 < b) (_ha : a < 9223372036854775808) (hr : r = a % b) :
    (execOp ρ ⟨d, .binOp .rem t x y t2, ty0, pos, after, guard⟩).run Try.prog w = .ok (.value (.int .i64 (r : Int))) w := by
  subst hr
  have h1 : ¬ b = 0 := by omega
  simp [execOp, hx, hy, go_sem, h1]
  rfl

theorem ex_subN {t t2 : TypeId} {x y : Operand} {a b r : Nat} (hx : ρ x = .int .i64 (a : Int)) (hy : ρ y = .int .i64 (b : Int)) (hb : b ≤ a) (ha : a < 9223372036854775808) (hr : r = a - b) :
    (execOp ρ ⟨d, .binOp .sub t x y t2, ty0, pos, after, guard⟩).run Try.prog w = .ok (.value (.int .i64 (r : Int))) w := by
  have h1 : (a : Int) - (b : Int) = (r : Int) := by omega
  have h2 := wrap_nat (n := r) (by omega)
  simp [execOp, hx, hy, go_sem, h1, h2]

theorem ex_addN {t t2 : TypeId} {x y : Operand} {a b r : Nat} (hx : ρ x = .int .i64 (a : Int)) (hy : ρ y = .int .i64 (b : Int)) (ha : r < 9223372036854775808) (hr : r = a + b) :
    (execOp ρ ⟨d, .binOp .add t x y t2, ty0, pos, after, guard⟩).run Try.prog w = .ok (.value (.int .i64 (r : Int))) w := by
  have h1 : (a : Int) + (b : Int) = (r : Int) := by omega
  have h2 := wrap_nat (n := r) ha
  simp [execOp, hx, hy, go_sem, h1, h2]

theorem ex_lssN {t t2 : TypeId} {x y : Operand} {a b : Nat} (hx : ρ x = .int .i64 (a : Int)) (hy : ρ y = .int .i64 (b : Int)) (r : Bool) (hr : r = decide (a < b)) :
    (execOp ρ ⟨d, .binOp .lss t x y t2, ty0, pos, after, guard⟩).run Try.prog w = .ok (.value (.bool r)) w := by
  subst hr
  simp [execOp, hx, hy, eqGuard, binOp, Op.intCmp]

theorem ex_gtrN {t t2 : TypeId} {x y : Operand} {a b : Nat} (hx : ρ x = .int .i64 (a : Int)) (hy : ρ y = .int .i64 (b : Int)) (r : Bool) (hr : r = decide (b < a)) :
    (execOp ρ ⟨d, .binOp .gtr t x y t2, ty0, pos, after, guard⟩).run Try.prog w = .ok (.value (.bool r)) w := by
  subst hr
  simp [execOp, hx, hy, eqGuard, binOp, Op.intCmp]

theorem ex_cutTo {x y : Operand} {s : ByteArray} {n : Nat} (hx : ρ x = .string s) (hy : ρ y = .int .i64 (n : Int)) (hn : n ≤ s.size) :
    (execOp ρ ⟨d, .slice 9 x none (some y) none, ty0, pos, after, guard⟩).run Try.prog w = .ok (.value (.string (s.extract 0 n))) w := by
  have h1 : (0 : Int) ≤ (n : Int) ∧ (n : Int) ≤ (s.size : Int) := ⟨by omega, by omega⟩
  simp [execOp, hx, hy, go_sem, hn]

theorem ex_cutFT {x y z : Operand} {s : ByteArray} {m n : Nat} (hx : ρ x = .string s) (hy : ρ y = .int .i64 (m : Int)) (hz : ρ z = .int .i64 (n : Int)) (hm : m ≤ n) (hn : n ≤ s.size) :
    (execOp ρ ⟨d, .slice 9 x (some y) (some z) none, ty0, pos, after, guard⟩).run Try.prog w = .ok (.value (.string (s.extract m n))) w := by
  simp [execOp, hx, hy, hz, go_sem, hn, hm]

theorem ex_catN {t t2 : TypeId} {x y : Operand} {a b : ByteArray} (hx : ρ x = .string a) (hy : ρ y = .string b) (h : a.size + b.size ≤ 100) :
    (execOp ρ ⟨d, .binOp .add t x y t2, ty0, pos, after, guard⟩).run Try.prog w = .ok (.value (.string (a ++ b))) w := by
  simp [execOp, hx, hy, go_sem]
  omega

theorem ex_byte {x y : Operand} {s : ByteArray} {i b : Nat} (hx : ρ x = .string s) (hy : ρ y = .int .i64 (i : Int)) (hi : i < s.size) (hb : b = s[i].toNat) :
    (execOp ρ ⟨d, .index 9 x y, ty0, pos, after, guard⟩).run Try.prog w = .ok (.value (.int .u8 (b : Int))) w := by
  subst hb
  simp [execOp, hx, hy, go_sem, hi]

theorem ex_widen {x : Operand} {b : Nat} (hx : ρ x = .int .u8 (b : Int)) (hb : b < 256) :
    (execOp ρ ⟨d, .convert 5 22 x, ty0, pos, after, guard⟩).run Try.prog w = .ok (.value (.int .u64 (b : Int))) w := by
  have h2 : IntKind.u64.wrap (b : Int) = (b : Int) := by rw [IntKind.wrap_u64]; omega
  simp [execOp, hx, go_sem, h2]
end

/-- The numbers A 0, A 1 .. A (m - 1). -/
def tab (m : Nat) (A : Nat → Nat) : List Nat := (List.range m).map A

theorem tab_len (m : Nat) (A : Nat → Nat) : (tab m A).length = m := by simp [tab]

theorem tab_get {m i : Nat} (A : Nat → Nat) (h : i < m) : ((tab m A).drop i).take 1 = [A i] := by
  have h2 : i < (tab m A).length := by rw [tab_len]; exact h
  rw [List.drop_eq_getElem_cons h2]
  simp [tab]

theorem tab_set {m k v : Nat} {A B : Nat → Nat} (hv : B k = v) (hA : ∀ j, j < m → j ≠ k → A j = B j) : (tab m A).set k v = tab m B := by
  refine List.ext_getElem (by simp [tab]) fun i h1 h2 => ?_
  rw [tab_len] at h2
  rw [List.getElem_set]
  split
  · rename_i h; subst h; simp [tab, hv]
  · rename_i h
    simp only [tab, List.getElem_map, List.getElem_range]
    exact hA i h2 (fun e => h e.symm)

theorem tab_ext {m : Nat} {A B : Nat → Nat} (h : ∀ j, j < m → A j = B j) : tab m A = tab m B := by
  refine List.ext_getElem (by simp [tab]) fun i h1 h2 => ?_
  rw [tab_len] at h2
  simp only [tab, List.getElem_map, List.getElem_range]
  exact h i h2

theorem tab_zero (m : Nat) : tab m (fun _ => 0) = List.replicate m 0 := by
  refine List.ext_getElem (by simp [tab]) fun i h1 h2 => ?_
  simp [tab]

theorem rows_put (K i v : Nat) (l : List Nat) (h : i < l.length) : (rows K l).take (K * i) ++ (row K v ++ (rows K l).drop (K * i + K)) = rows K (l.set i v) := by
  have e : K * i + K = K * (i + 1) := by rw [Nat.mul_add, Nat.mul_one]
  rw [e, rows_take, rows_drop, List.set_eq_take_append_cons_drop, if_pos h]
  simp [rows]

/-- The slice at a holds the numbers A 0 .. A (m - 1) in the world w. -/
def Nums (w : World) (a : Option Addr) (m : Nat) (A : Nat → Nat) : Prop :=
  ∀ i, i < m → ∃ g o, a = some ⟨g, o, none⟩ ∧ g < w.heap.size ∧ w.rangeAt g (o + 4 * i) (cellsOf (row 4 (A i)))

theorem rangeAt_keep {w w' : World} {g o : Nat} {vs : List Value} (hg : g < w.heap.size) (hb : Below w.heap.size w w') (h : w.rangeAt g o vs) : w'.rangeAt g o vs := fun j v hv => (hb.cell hg).trans (h j v hv)

theorem Nums.keep {w w' : World} {a : Option Addr} {m : Nat} {A : Nat → Nat} (h : Nums w a m A) (hb : Below w.heap.size w w') : Nums w' a m A := fun i hi => by
  obtain ⟨g, o, e, hg, hr⟩ := h i hi
  exact ⟨g, o, e, Nat.lt_of_lt_of_le hg hb.size, rangeAt_keep hg hb hr⟩

theorem Arr.nums {t : TypeId} {w : World} {g m : Nat} {A : Nat → Nat} {n : Nat} (h : Arr t w g (rows 4 (tab n A))) (hm : m ≤ n) : Nums w (some ⟨g, 0, none⟩) m A := fun i hi => by
  refine ⟨g, 0, rfl, h.lt, ?_⟩
  have h1 := World.rangeAt_of_block h (4 * i) 4
  have e : ((cellsOf (rows 4 (tab n A))).toArray.extract (4 * i) (4 * i + 4)).toList = cellsOf (row 4 (A i)) := by
    have h2 : ((rows 4 (tab n A)).drop (4 * i)).take 4 = row 4 (A i) := by
      have h3 := rows_take 4 1 ((tab n A).drop i)
      rw [rows_drop, show (4 : Nat) = 4 * 1 from rfl, h3, tab_get A (by omega), rows_one]
    rw [← h2]
    simp [cellsOf, List.map_take, List.map_drop]
  rw [e] at h1
  rw [Nat.zero_add]
  exact h1

/-- A slice type whose elements are numbers of four limbs. -/
structure SlT (st e : TypeId) : Prop where
  und : Try.prog.underlying st = some (.slice e)
  size : ∀ w, (Go.sizeOf e).run Try.prog w = .ok 4 w
  agg : ∀ w, (isAgg e).run Try.prog w = .ok true w
  zero : ∀ w, (zeroValue e).run Try.prog w = .ok (.agg #[.int .u64 0, .int .u64 0, .int .u64 0, .int .u64 0]) w
  info : ∃ i, Try.prog.info? e = some i ∧ i.bytes = 32

theorem SlT.flat {st e : TypeId} (h : SlT st e) : Flat e (4 * 1) := ⟨h.agg, h.size⟩

theorem run_info {e : TypeId} {i : TypeInfo} (h : Try.prog.info? e = some i) (w : World) : (typeInfo e).run Try.prog w = .ok i w := by
  simp [typeInfo, h, go_sem]

theorem madeRow (n : Nat) : (Array.range (n * 4)).map ((#[Value.int .u64 0, .int .u64 0, .int .u64 0, .int .u64 0] : Array Value)[· % 4]!) = (cellsOf (rows 4 (tab n (fun _ => 0)))).toArray := by
  rw [tab_zero, rows_zero]
  refine Array.ext (by simp [cellsOf, Nat.mul_comm]) fun i h1 h2 => ?_
  have h3 : i % 4 < 4 := Nat.mod_lt _ (by decide)
  simp [cellsOf]
  rcases (by omega : i % 4 = 0 ∨ i % 4 = 1 ∨ i % 4 = 2 ∨ i % 4 = 3) with h | h | h | h <;> simp [h]

section
variable {ρ : Operand → Value} {d : Option Tmp} {ty0 : TypeId} {pos : String} {after : Array Edge} {guard : Option (Nat × Bool)} {w : World}

theorem ex_lenL {st e : TypeId} (hs : SlT st e) {x : Operand} {a : Option Addr} {m c : Nat} (hx : ρ x = .slice a m c) :
    (execOp ρ ⟨d, .call ⟨.builtin .len, #[x], #[st]⟩, ty0, pos, after, guard⟩).run Try.prog w = .ok (.value (.int .i64 (m : Int))) w := by
  simp [hx, go_sem, Builtin.len_, run_underlying hs.und w, Sem.run_bind]

theorem ex_idxP {st e : TypeId} (hs : SlT st e) {x ix : Operand} {a : Option Addr} {g o m c i : Nat} (hx : ρ x = .slice a m c) (ha : a = some ⟨g, o, none⟩) (hi : ρ ix = .int .i64 (i : Int)) (hlt : i < m) :
    (execOp ρ ⟨d, .indexAddr st x ix, ty0, pos, after, guard⟩).run Try.prog w = .ok (.value (.pointer (some ⟨g, o + 4 * i, none⟩))) w := by
  subst ha
  simp [execOp, Sem.run_bind, hx, hi, Instr.indexAt, asIntOf, run_underlying hs.und w, hs.size w, hlt, Addr.add_mid, Nat.mul_comm]

theorem ex_idxO {st e : TypeId} (hs : SlT st e) {x ix : Operand} {g m c i : Nat} (hx : ρ x = .slice (some ⟨g, 0, none⟩) m c) (hi : ρ ix = .int .i64 (i : Int)) (hlt : i < m) :
    (execOp ρ ⟨d, .indexAddr st x ix, ty0, pos, after, guard⟩).run Try.prog w = .ok (.value (.pointer (some ⟨g, 4 * i, none⟩))) w := by
  have := ex_idxP (d := d) (ty0 := ty0) (pos := pos) (after := after) (guard := guard) (w := w) hs hx rfl hi hlt
  rwa [Nat.zero_add] at this

theorem ex_loadP {ty : TypeId} (hf : Flat ty (4 * 1)) {x : Operand} {g o v : Nat} (hx : ρ x = .pointer (some ⟨g, o, none⟩)) (hr : w.rangeAt g o (cellsOf (row 4 v))) :
    (execOp ρ ⟨d, .load ty x, ty0, pos, after, guard⟩).run Try.prog w = .ok (.value (nv 4 [v])) w := by
  have hl : (cellsOf (row 4 v)).length = 4 * 1 := by rw [cellsOf_len, length_row]
  have hc : (loadCells ⟨g, o, none⟩ (4 * 1)).run Try.prog w = .ok (cellsOf (row 4 v)).toArray w := by
    have := run_loadCells_list (P := Try.prog) w ⟨g, o, none⟩ (cellsOf (row 4 v)) (fun j u hu => by rw [Addr.add_mid]; exact hr j u hu)
    rwa [hl] at this
  rw [nv_row]
  simp [execOp, hx, Instr.loadAt, Instr.sureAddr, loadVar, Sem.run_bind, hf.1 w, hf.2 w, hc]

theorem ex_loadO {ty t : TypeId} (hf : Flat ty (4 * 1)) {x : Operand} {g i m v : Nat} {A : Nat → Nat} (hx : ρ x = .pointer (some ⟨g, 4 * i, none⟩)) (h : Arr t w g (rows 4 (tab m A))) (hi : i < m) (hv : A i = v) :
    (execOp ρ ⟨d, .load ty x, ty0, pos, after, guard⟩).run Try.prog w = .ok (.value (nv 4 [v])) w := by
  obtain ⟨g', o', e, _, hr⟩ := h.nums (Nat.le_refl m) i hi
  injection e with e
  injection e with e1 e2 _
  subst e1 e2
  rw [Nat.zero_add] at hr
  rw [← hv]
  exact ex_loadP hf hx hr

theorem ex_mk {st e : TypeId} (hs : SlT st e) {x y : Operand} {m c : Nat} (hx : ρ x = .int .i64 (m : Int)) (hy : ρ y = .int .i64 (c : Int)) (hm : m ≤ c) (hc : c ≤ 1000) :
    (execOp ρ ⟨d, .makeSlice st x y, ty0, pos, after, guard⟩).run Try.prog w = .ok (.value (.slice (some ⟨w.heap.size, 0, none⟩) m c)) (w.alloc (.cells (cellsOf (rows 4 (tab c (fun _ => 0)))).toArray e)) := by
  obtain ⟨i, hi, hb⟩ := hs.info
  have w1 : IntKind.i64.wrap (m : Int) = (m : Int) := by rw [IntKind.wrap_i64]; omega
  have w2 : IntKind.i64.wrap (c : Int) = (c : Int) := by rw [IntKind.wrap_i64]; omega
  have t1 : ¬ ((c : Int) < 0) := by omega
  have t2 : ¬ (((32 : Nat) : Int) * (c : Int) > 2 ^ 48) := by omega
  have t3 : ¬ ((m : Int) < 0) := by omega
  have t4 : ¬ ((m : Int) > (c : Int)) := by omega
  have hroom : (askRoom (c * 32)).run Try.prog w = .ok () w := by
    have : ¬ (c * 32 > roomBytes) := by unfold roomBytes; omega
    simp [askRoom, this]
  by_cases h0 : c * 4 = 0
  · have hc0 : c = 0 := by omega
    have hrow : (Array.range 0).map ((#[] : Array Value)[· % (#[] : Array Value).size]!) = (cellsOf (rows 4 (tab c (fun _ => 0)))).toArray := by
      subst hc0
      simp [tab, rows, cellsOf]
    simp only [execOp, Instr.makeSlice, Sem.run_bind, hx, hy, run_underlying hs.und w, Result.andThen_ok, asInt, asIntOf, Sem.run_pure, run_info hi w, hb, w1, w2, decide_eq_false t1, decide_eq_false t3, decide_eq_false t4, decide_eq_false t2, Bool.or_false, Bool.false_eq_true, if_false, Int.toNat_natCast, hroom, hs.size w, h0, if_true, hrow]
    rfl
  · have hrow : (Array.range (c * 4)).map ((#[Value.int .u64 0, .int .u64 0, .int .u64 0, .int .u64 0] : Array Value)[· % (#[Value.int .u64 0, .int .u64 0, .int .u64 0, .int .u64 0] : Array Value).size]!) = (cellsOf (rows 4 (tab c (fun _ => 0)))).toArray := madeRow c
    have hcells : (Value.agg #[.int .u64 0, .int .u64 0, .int .u64 0, .int .u64 0]).cells = #[.int .u64 0, .int .u64 0, .int .u64 0, .int .u64 0] := rfl
    simp only [execOp, Instr.makeSlice, Sem.run_bind, hx, hy, run_underlying hs.und w, Result.andThen_ok, asInt, asIntOf, Sem.run_pure, run_info hi w, hb, w1, w2, decide_eq_false t1, decide_eq_false t3, decide_eq_false t4, decide_eq_false t2, Bool.or_false, Bool.false_eq_true, if_false, Int.toNat_natCast, hroom, hs.size w, h0, hs.zero w, hcells, hrow]
    rfl

theorem storeCells_at {t : TypeId} {g i m v : Nat} {A : Nat → Nat} (h : Arr t w g (rows 4 (tab m A))) (hi : i < m) :
    (storeCells ⟨g, 4 * i, none⟩ (cellsOf (row 4 v))).run Try.prog w = .ok () (w.setCells g (4 * i) (cellsOf (row 4 v))) := by
  have hl : (rows 4 (tab m A)).length = 4 * m := by rw [rows_len, tab_len]
  have hth : ∀ j, j < 4 → (w.cell? ⟨g, 4 * i + j, none⟩).isSome = true ∧ w.frozen? ⟨g, 4 * i + j, none⟩ = false := fun j hj => ⟨by rw [h.cell (by omega)]; rfl, h.frozen _⟩
  have h4 : (cellsOf (row 4 v)).length = 4 := by rw [cellsOf_len, length_row]
  exact run_storeCells_cells (P := Try.prog) g (4 * i) (cellsOf (row 4 v)) 0 w (fun j hj => (hth j (by omega)).1) (fun j hj => (hth j (by omega)).2)
    (fun u hu => by
      simp only [cellsOf, List.mem_map] at hu
      obtain ⟨y, _, rfl⟩ := hu
      rfl)

theorem Arr.at {t : TypeId} {g i m v : Nat} {A B : Nat → Nat} (h : Arr t w g (rows 4 (tab m A))) (hi : i < m) (hv : B i = v) (hA : ∀ j, j < m → j ≠ i → A j = B j) : Arr t (w.setCells g (4 * i) (cellsOf (row 4 v))) g (rows 4 (tab m B)) := by
  have hl : (rows 4 (tab m A)).length = 4 * m := by rw [rows_len, tab_len]
  have h1 := Arr.setCells (row 4 v) (4 * i) (by rw [length_row, hl]; omega) h
  rw [length_row, rows_put 4 i v _ (by rw [tab_len]; exact hi), tab_set hv hA] at h1
  exact h1

theorem ex_storeO {ty t : TypeId} (hf : Flat ty (4 * 1)) {x y : Operand} {g i m v : Nat} {A : Nat → Nat} (hx : ρ x = .pointer (some ⟨g, 4 * i, none⟩)) (hy : ρ y = nv 4 [v]) (h : Arr t w g (rows 4 (tab m A))) (hi : i < m) :
    (execOp ρ ⟨d, .store ty x y, ty0, pos, after, guard⟩).run Try.prog w = .ok .skip (w.setCells g (4 * i) (cellsOf (row 4 v))) := by
  have hz : (cellsOf (row 4 v)).toArray.size = 4 * 1 := by simp [cellsOf, length_row]
  have hcs : (nv 4 [v]).cells = (cellsOf (row 4 v)).toArray := by rw [nv_row]; rfl
  have hc := storeCells_at (v := v) h hi
  simp [execOp, hx, hy, Instr.storeAt, Instr.sureAddr, storeVar, Sem.run_bind, hf.2 w, hcs, hz, hc]

theorem ex_bs {st e : TypeId} (hs : SlT st e) {x : Operand} {v : Nat} (hx : ρ x = nv 4 [v]) :
    (execOp ρ ⟨d, .buildSlice st 1 #[(0, x)], ty0, pos, after, guard⟩).run Try.prog w = .ok (.value (.slice (some ⟨w.heap.size, 0, none⟩) 1 1)) (w.alloc (.cells (cellsOf (row 4 v)).toArray e)) := by
  have hcells : (Value.agg #[.int .u64 0, .int .u64 0, .int .u64 0, .int .u64 0]).cells = #[.int .u64 0, .int .u64 0, .int .u64 0, .int .u64 0] := rfl
  have hfill : Instr.fill (fun i => some (i * 4, 4)) ((Array.range (1 * 4)).map ((#[Value.int .u64 0, .int .u64 0, .int .u64 0, .int .u64 0] : Array Value)[· % (#[Value.int .u64 0, .int .u64 0, .int .u64 0, .int .u64 0] : Array Value).size]!)) [(0, nv 4 [v])] = some (cellsOf (row 4 v)).toArray := by
    have h0 : (Array.range (1 * 4)).map ((#[Value.int .u64 0, .int .u64 0, .int .u64 0, .int .u64 0] : Array Value)[· % (#[Value.int .u64 0, .int .u64 0, .int .u64 0, .int .u64 0] : Array Value).size]!) = (cellsOf (List.replicate 4 0)).toArray := (madeRow 1).trans (by rw [tab_zero, rows_zero])
    rw [h0, nv, rows_one, fill_cons (off := 0) (n := 4) rfl (length_row 4 v) (by simp), Instr.fill]
    congr 3
  have hb : ¬ (1 * 4 > 2 ^ 24) := by decide
  have h14 : ¬ (1 * 4 = 0) := by decide
  simp only [execOp, Instr.buildSlice, Sem.run_bind, List.map_toArray, List.map_cons, List.map_nil, hx, run_underlying hs.und w, Result.andThen_ok, hs.size w, hb, if_false, h14, hs.zero w, hcells, Sem.run_pure, hfill]
  rfl

theorem ex_app {st e t : TypeId} (hs : SlT st e) {x y : Operand} {g g' k m v : Nat} {A : Nat → Nat} (hx : ρ x = .slice (some ⟨g, 0, none⟩) k m) (hy : ρ y = .slice (some ⟨g', 0, none⟩) 1 1)
    (h : Arr t w g (rows 4 (tab m A))) (h' : Arr e w g' (row 4 v)) (hk : k < m) :
    (execOp ρ ⟨d, .call ⟨.builtin .append, #[x, y], #[st, st]⟩, ty0, pos, after, guard⟩).run Try.prog w = .ok (.value (.slice (some ⟨g, 0, none⟩) (k + 1) m)) (w.setCells g (4 * k) (cellsOf (row 4 v))) := by
  have hl : (cellsOf (row 4 v)).length = 1 * 4 := by rw [cellsOf_len, length_row]
  have hload : (loadCells ⟨g', 0, none⟩ (1 * 4)).run Try.prog w = .ok (cellsOf (row 4 v)).toArray w := by
    have h1 := World.rangeAt_of_block h' 0 4
    have e1 : ((cellsOf (row 4 v)).toArray.extract 0 (0 + 4)).toList = cellsOf (row 4 v) := by
      simp
      rw [List.take_of_length_le (by rw [hl]; decide)]
    rw [e1] at h1
    have h2 := run_loadCells_list (P := Try.prog) w ⟨g', 0, none⟩ (cellsOf (row 4 v)) (fun j u hu => by rw [Addr.add_mid]; exact h1 j u hu)
    rwa [hl] at h2
  have hst := storeCells_at (v := v) h hk
  have hadd : (⟨g, 0, none⟩ : Addr).add (k * 4) = ⟨g, 4 * k, none⟩ := by rw [Addr.add_mid, Nat.zero_add, Nat.mul_comm]
  have hu : (do pure ((← underlying st) matches .int _) : Sem Bool).run Try.prog w = .ok false w := by
    simp [run_underlying hs.und w]
  have hk1 : k + 1 ≤ m := hk
  simp [execOp, resolve, invoke, builtin, hx, hy, Builtin.append_, Sem.run_bind, run_underlying hs.und w, hs.size w, Builtin.lenOf, Builtin.firstCells, hk1, hload, hadd, hst]
end

/-! ### steps of a walk -/
section
variable {ops : Array Oper} {rest : List Oper} {o : Oper} {a a' : Act} {w : World} {Q : Exit → Act → World → Prop} {v : Value}

theorem sq_newv {ty : TypeId} {xs : List Nat} (ha : a.put o.dst v = a') (hw : Region.wanted o (yielded ops a.tmps) = true) (h : (execOp a.eval o).run Try.prog w = .ok (.value v) (w.alloc (.cells (cellsOf xs).toArray ty)))
    (hn : ∀ w', Arr ty w' w.heap.size xs → Below w.heap.size w w' → wpList Try.prog ops Q rest a' w') : wpList Try.prog ops Q (o :: rest) a w := by
  subst ha
  refine wpList_step fun K hK => ?_
  rw [if_pos hw]
  unfold Oper.wp
  rw [h]
  exact hK _ _ (hn _ (Arr.boxed ty xs w) ((Below.refl _ _).alloc (Nat.le_refl _) _))

theorem sq_storeO {t : TypeId} {g i m v : Nat} {A B : Nat → Nat} (ha : a.put o.dst undef = a') (hw : Region.wanted o (yielded ops a.tmps) = true) (h : Arr t w g (rows 4 (tab m A))) (hi : i < m) (hv : B i = v) (hA : ∀ j, j < m → j ≠ i → A j = B j) (he : (execOp a.eval o).run Try.prog w = .ok .skip (w.setCells g (4 * i) (cellsOf (row 4 v))))
    (hn : ∀ w', Arr t w' g (rows 4 (tab m B)) → (∀ (B : Nat) (w0 : World), Below B w0 w → B ≤ g → Below B w0 w') → (∀ (t' : TypeId) (g' : Nat) (zs : List Nat), g' ≠ g → Arr t' w g' zs → Arr t' w' g' zs) → wpList Try.prog ops Q rest a' w') : wpList Try.prog ops Q (o :: rest) a w := by
  subst ha
  refine wpList_step fun K hK => ?_
  rw [if_pos hw]
  unfold Oper.wp
  rw [he]
  exact hK _ _ (hn _ (h.at hi hv hA) (fun B w0 hb hB => Below.setCells hB _ _ hb) (fun t' g' zs hne h' => Arr.setOther hne _ _ h'))

theorem sq_app {t : TypeId} {g i m v : Nat} {A B : Nat → Nat} {u : Value} (ha : a.put o.dst u = a') (hw : Region.wanted o (yielded ops a.tmps) = true) (h : Arr t w g (rows 4 (tab m A))) (hi : i < m) (hv : B i = v) (hA : ∀ j, j < m → j ≠ i → A j = B j) (he : (execOp a.eval o).run Try.prog w = .ok (.value u) (w.setCells g (4 * i) (cellsOf (row 4 v))))
    (hn : ∀ w', Arr t w' g (rows 4 (tab m B)) → (∀ (B : Nat) (w0 : World), Below B w0 w → B ≤ g → Below B w0 w') → (∀ (t' : TypeId) (g' : Nat) (zs : List Nat), g' ≠ g → Arr t' w g' zs → Arr t' w' g' zs) → wpList Try.prog ops Q rest a' w') : wpList Try.prog ops Q (o :: rest) a w := by
  subst ha
  refine wpList_step fun K hK => ?_
  rw [if_pos hw]
  unfold Oper.wp
  rw [he]
  exact hK _ _ (hn _ (h.at hi hv hA) (fun B w0 hb hB => Below.setCells hB _ _ hb) (fun t' g' zs hne h' => Arr.setOther hne _ _ h'))
end

/-- The last store of a region, into a slice. -/
theorem last_storeO {ops : Array Oper} {S : World → Prop} {Q : Exit → Act → World → Prop} {F : Act} {o : Oper} {t : TypeId} {g i m v : Nat} {A B : Nat → Nat} (hd : o.dst = none) (hw : Region.wanted o (yielded ops F.tmps) = true) (hA : ∀ w, S w → Arr t w g (rows 4 (tab m A))) (hi : i < m) (hv : B i = v) (hAB : ∀ j, j < m → j ≠ i → A j = B j)
    (he : ∀ w, S w → (execOp F.eval o).run Try.prog w = .ok .skip (w.setCells g (4 * i) (cellsOf (row 4 v))))
    (hn : ∀ w w', S w → Arr t w' g (rows 4 (tab m B)) → (∀ (B : Nat) (w0 : World), Below B w0 w → B ≤ g → Below B w0 w') → (∀ (t' : TypeId) (g' : Nat) (zs : List Nat), g' ≠ g → Arr t' w g' zs → Arr t' w' g' zs) → Q .normal F w') :
    ∀ w', S w' → ∀ K : Act → World → Prop, Shut (∀ w'', Q .normal F w'' → K F w'') → if Region.wanted o (yielded ops F.tmps) = true then Oper.wp Try.prog o F w' K (fun _ _ _ => False) else K F w' := fun w hS K hK => by
  rw [if_pos hw]
  unfold Oper.wp
  rw [he w hS]
  show K (F.put o.dst undef) _
  rw [hd]
  exact hK.out _ (hn w _ hS ((hA w hS).at hi hv hAB) (fun B w0 hb hB => Below.setCells hB _ _ hb) (fun t' g' zs hne h' => Arr.setOther hne _ _ h'))

/-! ### a region that builds one and appends it -/

/-- How far the appending has come: ia builds, ib appends. -/
structure AppJ (W : World) (T T' : TypeId) (g m v ia ib : Nat) (A B : Nat → Nat) (γ : Nat) (L : Nat → Bool) (w : World) : Prop where
  before : L ia = false → L ib = false → Bel W w
  built : L ia = true → L ib = false → Bel W w ∧ W.heap.size ≤ γ ∧ Arr T' w γ (row 4 v)
  done : L ib = true → ∃ w1, Bel W w1 ∧ Arr T w g (rows 4 (tab m B)) ∧ (∀ (B : Nat) (w0 : World), Below B w0 w1 → B ≤ g → Below B w0 w) ∧ (∀ (t' : TypeId) (g' : Nat) (zs : List Nat), g' ≠ g → Arr t' w1 g' zs → Arr t' w g' zs)

section
variable {ops : Array Oper} {F : Nat → Act} {W : World} {T T' : TypeId} {g m v ia ib : Nat} {A B : Nat → Nat} {i : Nat} {o : Oper} {d : Tmp} {u : Value}

theorem aj_pure (hd : o.dst = some d) (hw : ∀ γ, Region.wanted o (yielded ops (F γ).tmps) = true) (hv : ∀ γ, (F γ).tmps[d]? = some u) (h : ∀ γ w, (execOp (F γ).eval o).run Try.prog w = .ok (.value u) w)
    (h4 : (ia == i) = false) (h6 : (ib == i) = false) : GStep Try.prog ops F (AppJ W T T' g m v ia ib A B) i o := fun γ L w Kk hJ hcl hL hdep hK => by
  rw [if_pos (hw γ)]
  unfold Oper.wp
  rw [h γ w]
  have e4 : (L ia || ia == i) = L ia := by rw [h4, Bool.or_false]
  have e6 : (L ib || ib == i) = L ib := by rw [h6, Bool.or_false]
  refine hK.out γ u w (by rw [hd, put_same (hv γ)]) ⟨?_, ?_, ?_⟩
  · simp only [e4, e6]; exact hJ.before
  · simp only [e4, e6]; exact hJ.built
  · simp only [e6]; exact hJ.done

theorem aj_val (hd : o.dst = some d) (hw : ∀ γ, Region.wanted o (yielded ops (F γ).tmps) = true) (hv : ∀ γ, (F γ).tmps[d]? = some u) (h : ∀ γ w, Bel W w → (execOp (F γ).eval o).run Try.prog w = .ok (.value u) w)
    (h4 : (ia == i) = false) (h6 : (ib == i) = false) (ha : ∀ L, Shutin ops L → L ia = true → L i = true) (hb : ∀ L, Shutin ops L → L ib = true → L i = true) : GStep Try.prog ops F (AppJ W T T' g m v ia ib A B) i o := fun γ L w Kk hJ hcl hL hdep hK => by
  rw [if_pos (hw γ)]
  have la : L ia = false := by
    cases hq : L ia with
    | false => rfl
    | true => rw [ha L hcl hq] at hL; cases hL
  have lb : L ib = false := by
    cases hq : L ib with
    | false => rfl
    | true => rw [hb L hcl hq] at hL; cases hL
  have hB := hJ.before la lb
  unfold Oper.wp
  rw [h γ w hB]
  have e4 : (L ia || ia == i) = false := by rw [h4, la]; rfl
  have e6 : (L ib || ib == i) = false := by rw [h6, lb]; rfl
  refine hK.out γ u w (by rw [hd, put_same (hv γ)]) ⟨fun _ _ => hB, ?_, ?_⟩
  · simp only [e4]; exact fun h => by cases h
  · simp only [e6]; exact fun h => by cases h

theorem aj_call {f : FuncId} {vs : Array Value} (hd : o.dst = some d) (hw : ∀ γ, Region.wanted o (yielded ops (F γ).tmps) = true) (hv : ∀ γ, (F γ).tmps[d]? = some u) (he : ∀ γ w, (execOp (F γ).eval o).run Try.prog w = .ok (.enter f vs) w)
    (hC : ∀ w, Bel W w → Calls Try.prog f vs w (Is u w))
    (h4 : (ia == i) = false) (h6 : (ib == i) = false) (ha : ∀ L, Shutin ops L → L ia = true → L i = true) (hb : ∀ L, Shutin ops L → L ib = true → L i = true) : GStep Try.prog ops F (AppJ W T T' g m v ia ib A B) i o := fun γ L w Kk hJ hcl hL hdep hK => by
  rw [if_pos (hw γ)]
  have la : L ia = false := by
    cases hq : L ia with
    | false => rfl
    | true => rw [ha L hcl hq] at hL; cases hL
  have lb : L ib = false := by
    cases hq : L ib with
    | false => rfl
    | true => rw [hb L hcl hq] at hL; cases hL
  have hB := hJ.before la lb
  unfold Oper.wp
  rw [he γ w]
  show Calls _ _ _ _ _
  refine (hC w hB).mono ?_
  rintro e w' ⟨rfl, hb'⟩
  have e4 : (L ia || ia == i) = false := by rw [h4, la]; rfl
  have e6 : (L ib || ib == i) = false := by rw [h6, lb]; rfl
  refine hK.out γ u w' (by rw [hd, put_same (hv γ)]) ⟨fun _ _ => below_then hB hb', ?_, ?_⟩
  · simp only [e4]; exact fun h => by cases h
  · simp only [e6]; exact fun h => by cases h

theorem aj_build (hw : ∀ γ, Region.wanted o (yielded ops (F γ).tmps) = true) (hF : ∀ γ n, F n = (F γ).put o.dst (.slice (some ⟨n, 0, none⟩) 1 1))
    (h : ∀ γ w, (execOp (F γ).eval o).run Try.prog w = .ok (.value (.slice (some ⟨w.heap.size, 0, none⟩) 1 1)) (w.alloc (.cells (cellsOf (row 4 v)).toArray T')))
    (hi : i = ia) (h6 : (ib == i) = false) (hb : ∀ L, Shutin ops L → L ib = true → L i = true) : GStep Try.prog ops F (AppJ W T T' g m v ia ib A B) i o := fun γ L w Kk hJ hcl hL hdep hK => by
  rw [if_pos (hw γ)]
  have lb : L ib = false := by
    cases hq : L ib with
    | false => rfl
    | true => rw [hb L hcl hq] at hL; cases hL
  have hB := hJ.before (by rw [← hi]; exact hL) lb
  unfold Oper.wp
  rw [h γ w]
  have hbw : Below w.heap.size w (w.alloc (.cells (cellsOf (row 4 v)).toArray T')) := (Below.refl _ _).alloc (Nat.le_refl _) _
  have e4 : (L ia || ia == i) = true := by rw [hi]; simp
  have e6 : (L ib || ib == i) = false := by rw [h6, lb]; rfl
  refine hK.out w.heap.size _ _ (hF γ w.heap.size) ⟨?_, fun _ _ => ⟨below_then hB hbw, hB.out.size, Arr.boxed T' _ w⟩, ?_⟩
  · simp only [e4]; exact fun h => by cases h
  · simp only [e6]; exact fun h => by cases h

theorem aj_app (hd : o.dst = some d) (hw : ∀ γ, Region.wanted o (yielded ops (F γ).tmps) = true) (hv : ∀ γ, (F γ).tmps[d]? = some u) {k : Nat} (hA : ∀ w, Bel W w → Arr T w g (rows 4 (tab m A))) (hk : k < m) (hB1 : B k = v) (hB2 : ∀ j, j < m → j ≠ k → A j = B j)
    (h : ∀ γ w, Arr T w g (rows 4 (tab m A)) → Arr T' w γ (row 4 v) → (execOp (F γ).eval o).run Try.prog w = .ok (.value u) (w.setCells g (4 * k) (cellsOf (row 4 v))))
    (hi : i = ib) (ho : ops[i]? = some o) (hwa : waitsFor ops i ia = true) : GStep Try.prog ops F (AppJ W T T' g m v ia ib A B) i o := fun γ L w Kk hJ hcl hL hdep hK => by
  rw [if_pos (hw γ)]
  have la : L ia = true := by
    unfold waitsFor at hwa
    simp only [ho] at hwa
    obtain ⟨k, hk, hb⟩ := Array.any_eq_true.1 hwa
    simp only [Bool.and_eq_true, beq_iff_eq] at hb
    rw [← hb.1]
    exact hdep _ (Array.getElem_mem hk) hb.2
  obtain ⟨hB, hle, hR⟩ := hJ.built la (by rw [← hi]; exact hL)
  unfold Oper.wp
  rw [h γ w (hA w hB) hR]
  have e6 : (L ib || ib == i) = true := by rw [hi]; simp
  refine hK.out γ u _ (by rw [hd, put_same (hv γ)]) ⟨?_, ?_, fun _ => ⟨w, hB, (hA w hB).at hk hB1 hB2, fun B w0 hb hB => Below.setCells hB _ _ hb, fun t' g' zs hne h' => Arr.setOther hne _ _ h'⟩⟩
  · simp only [e6]; exact fun _ h => by cases h
  · simp only [e6]; exact fun _ h => by cases h

theorem aj_none (hd : o.dst = none) (hw : ∀ γ, Region.wanted o (yielded ops (F γ).tmps) = true) (h : ∀ γ w, ∃ u, (execOp (F γ).eval o).run Try.prog w = .ok (.value u) w)
    (h4 : (ia == i) = false) (h6 : (ib == i) = false) : GStep Try.prog ops F (AppJ W T T' g m v ia ib A B) i o := fun γ L w Kk hJ hcl hL hdep hK => by
  rw [if_pos (hw γ)]
  unfold Oper.wp
  obtain ⟨u, hu⟩ := h γ w
  rw [hu]
  have e4 : (L ia || ia == i) = L ia := by rw [h4, Bool.or_false]
  have e6 : (L ib || ib == i) = L ib := by rw [h6, Bool.or_false]
  refine hK.out γ u w (by rw [hd]; rfl) ⟨?_, ?_, ?_⟩
  · simp only [e4, e6]; exact hJ.before
  · simp only [e4, e6]; exact hJ.built
  · simp only [e6]; exact hJ.done
end

theorem wanted_none {o : Oper} (h : o.guard = none) (y : Nat → Option Bool) : Region.wanted o y = true := by
  unfold Region.wanted
  rw [h]

theorem Planned.allBut {ops : Array Oper} {F a : Act} {listed : Array Bool} {n : Nat} (h : Planned ops F a listed) (hn : ∀ o, ops[n]? = some o → o.dst = none) (hall : ∀ j, j < ops.size → j ≠ n → listed.getD j true = true) : a = F := by
  obtain ⟨h1, h2, h3⟩ := h
  obtain ⟨at_, ad⟩ := a
  obtain ⟨ft, fd⟩ := F
  simp only at h1 h2 h3
  subst h1
  congr
  apply Array.ext_getElem?
  intro d
  refine h3 d (fun j oj hj hjd => ?_)
  by_cases hjn : j = n
  · subst hjn
    rw [hn oj hj] at hjd
    cases hjd
  · exact hall j (Array.getElem?_eq_some_iff.1 hj).1 hjn

/-- A region whose last operation, an assignment, waits for all others and writes what they may have read. -/
theorem planned_late {P : Program} {ops ops' : Array Oper} {Γ : Type} {F : Γ → Act} {J : Γ → (Nat → Bool) → World → Prop} {Q : Exit → Act → World → Prop} {n : Nat} {ol : Oper} {x : Operand} {d : Tmp}
    (hsz : ops'.size = ops.size) (hops : ∀ i, i ≠ n → ops'[i]? = ops[i]?) (hl : ops[n]? = some ol) (hl' : ∀ o, ops'[n]? = some o → o.dst = none ∧ o.after = ol.after) (hg : ∀ (i : Nat) (o : Oper), ops[i]? = some o → o.guard = none)
    (hp : planOk ops' = true) (hs : Region.noSelect ops' = true) (hwait : ∀ j, j < ops.size → j ≠ n → ∃ e ∈ ol.after, e.on = j ∧ Region.binds .any e = true)
    (hx : ol.op = .assign x) (hd : ol.dst = some d) (hstep : ∀ (i : Nat) (o : Oper), ops'[i]? = some o → GStep P ops' F J i o)
    (hQ : ∀ γ L w', (∀ j, j < ops.size → j ≠ n → L j = true) → J γ L w' → Q .normal ((F γ).put (some d) ((F γ).eval x)) w') :
    ∀ (fuel : Nat) (listed : Array Bool) (γ : Γ) (a : Act) (w : World), listed.size = ops.size → toCome listed ops.size ≤ fuel → listed.getD n true = false → Planned ops' (F γ) a listed → Shutin ops' (onList listed) → J γ (onList listed) w → wpAny P .any ops Q fuel listed a w := by
  have hnlt : n < ops.size := (Array.getElem?_eq_some_iff.1 hl).1
  have hn' : ∀ o, ops'[n]? = some o → o.dst = none := fun o h => (hl' o h).1
  have ready' : ∀ (listed : Array Bool) (i : Nat), i ∈ Region.ready .any ops listed → i ∈ Region.ready .any ops' listed := fun listed i hi => by
    obtain ⟨h0, o, ho, hdep⟩ := mem_ready.1 hi
    by_cases hin : i = n
    · subst hin
      rw [hl] at ho
      cases ho
      have hlt' : i < ops'.size := by omega
      refine mem_ready.2 ⟨h0, ops'[i], Array.getElem?_eq_getElem hlt', fun e he hb => hdep e ?_ hb⟩
      have := (hl' _ (Array.getElem?_eq_getElem hlt')).2
      rw [this] at he
      exact he
    · exact mem_ready.2 ⟨h0, o, by rw [hops i hin]; exact ho, hdep⟩
  have ready'' : ∀ (listed : Array Bool) (i : Nat), i ∈ Region.ready .any ops' listed → i ∈ Region.ready .any ops listed := fun listed i hi => by
    obtain ⟨h0, o, ho, hdep⟩ := mem_ready.1 hi
    by_cases hin : i = n
    · subst hin
      refine mem_ready.2 ⟨h0, ol, hl, fun e he hb => hdep e ?_ hb⟩
      have := (hl' _ ho).2
      rw [this]
      exact he
    · exact mem_ready.2 ⟨h0, o, by rw [← hops i hin]; exact ho, hdep⟩
  have stuck : ∀ listed : Array Bool, listed.size = ops.size → listed.getD n true = false → Region.ready .any ops listed ≠ [] := fun listed hls h0 hr => by
    have hr' : Region.ready .any ops' listed = [] := by
      rw [List.eq_nil_iff_forall_not_mem]
      intro j hj
      have := ready'' listed j hj
      rw [hr] at this
      cases this
    have := listed_all hp (by rw [hls, hsz]) hr' n (by omega)
    rw [this] at h0
    cases h0
  intro fuel
  induction fuel with
  | zero =>
    intro listed γ a w hls hc hn0 hpl hcl hJ
    have := toCome_none (Nat.le_zero.1 hc) hnlt
    rw [this] at hn0
    cases hn0
  | succ fuel ih =>
    intro listed γ a w hls hc hn0 hpl hcl hJ
    refine ⟨fun hr => absurd hr (stuck listed hls hn0), fun i hi => ?_⟩
    obtain ⟨h0, o, ho, hdep⟩ := mem_ready.1 hi
    by_cases hin : i = n
    · subst hin
      rw [hl] at ho
      cases ho
      have hall : ∀ j, j < ops.size → j ≠ i → listed.getD j true = true := fun j hj hne => by
        obtain ⟨e, he, hej, heb⟩ := hwait j hj hne
        have := getD_true (hdep e he heb)
        rwa [hej] at this
      have haF : a = F γ := hpl.allBut hn' (fun j hj hne => hall j (by omega) hne)
      subst haF
      unfold wpOp
      simp only [hl]
      rw [wanted_none (hg i ol hl), if_pos rfl]
      refine .inl ?_
      unfold Oper.wp
      have hex : (execOp (F γ).eval ol).run P w = .ok (.value ((F γ).eval x)) w := by simp [execOp, hx]
      rw [hex]
      show wpAny P .any ops Q fuel _ ((F γ).put ol.dst ((F γ).eval x)) w
      rw [hd]
      have hq := hQ γ (onList listed) w (fun j hj hne => hall j hj hne) hJ
      have hlall : ∀ j, j < ops.size → (listed.setIfInBounds i true).getD j true = true := fun j hj => by
        by_cases hji : i = j
        · subst hji; simp [hls, hnlt]
        · rw [getD_set_ne true hji]; exact hall j hj (fun h => hji h.symm)
      have hnil : Region.ready .any ops (listed.setIfInBounds i true) = [] := by
        rw [List.eq_nil_iff_forall_not_mem]
        intro j hj
        obtain ⟨hj0, oj, hoj, _⟩ := mem_ready.1 hj
        rw [hlall j (Array.getElem?_eq_some_iff.1 hoj).1] at hj0
        cases hj0
      cases fuel with
      | zero => exact ⟨hnil, hq⟩
      | succ f => exact ⟨fun _ => hq, fun j hj => by rw [hnil] at hj; cases hj⟩
    · have ho' : ops'[i]? = some o := by rw [hops i hin]; exact ho
      have hop := hpl.gop (Q := Q) (K := wpAny P .any ops Q fuel (listed.setIfInBounds i true)) hp hs (ready' listed i hi) ho' (hstep i o ho') hJ hcl (fun γ' a' w' hpl' hJ' => by
        refine ih _ γ' _ _ (by simp [hls]) ?_ (by rw [getD_set_ne true hin]; exact hn0) hpl' ?_ hJ'
        · have h1 := toCome_set h0 ops.size
          rw [if_pos (Array.getElem?_eq_some_iff.1 ho).1] at h1
          omega
        · rw [onList_set h0]
          intro j oj hj hLj e he hb
          simp only [Bool.or_eq_true, beq_iff_eq] at hLj ⊢
          rcases hLj with h1 | h1
          · exact .inl (hcl j oj hj h1 e he hb)
          · subst h1
            rw [ho'] at hj
            cases hj
            exact .inl (getD_true (hdep e he hb)))
      unfold wpOp at hop ⊢
      simp only [ho, ho'] at hop ⊢
      rw [wanted_none (hg i o ho), if_pos rfl] at hop ⊢
      exact hop

/-- All edges of the last operation. -/
def waitsAll (ops : Array Oper) (n : Nat) : Bool := (List.range ops.size).all fun j => j == n || waitsFor ops n j

theorem wp_region_app {id : Nat} {l : List Oper} {F G : Nat → Act} {a : Act} {W : World} {Q : Exit → Act → World → Prop} (T T' : TypeId) (g m v ia ib : Nat) (A B : Nat → Nat) (n : Nat) (ol : Oper) (x : Operand) (d : Tmp) (vs : List (Tmp × Value)) (hm : Try.prog.follows .mixedOrders = true)
    (hl : l[n]? = some ol) (hx : ol.op = .assign x) (hd0 : ol.dst = some d) (hg : (l.all fun o => o.guard == none) = true) (hwa : waitsAll l.toArray n = true)
    (hp : planOk (l.set n { ol with dst := none }).toArray = true) (hs : Region.noSelect (l.set n { ol with dst := none }).toArray = true) (hk : (vs.all fun p => (l.set n { ol with dst := none }).toArray.any fun o => o.dst == some p.1) = true)
    (hd : a.defers = (F 0).defers) (hF : putAll a.tmps vs = (F 0).tmps) (hG : ∀ γ, (F γ).put (some d) ((F γ).eval x) = G γ)
    (b4 : Nat.blt ia l.length = true) (b6 : Nat.blt ib l.length = true) (n6 : (ib == n) = false)
    (hsteps : GSteps Try.prog (l.set n { ol with dst := none }).toArray F (AppJ W T T' g m v ia ib A B) 0 (l.set n { ol with dst := none }))
    (hQ : ∀ (γ : Nat) (w1 w' : World), Bel W w1 → Arr T w' g (rows 4 (tab m B)) → (∀ (B : Nat) (w0 : World), Below B w0 w1 → B ≤ g → Below B w0 w') → (∀ (t' : TypeId) (g' : Nat) (zs : List Nat), g' ≠ g → Arr t' w1 g' zs → Arr t' w' g' zs) → Q .normal (G γ) w') : (Code.region id l.toArray true).wp Try.prog Q a W := by
  have lt : ∀ {j}, Nat.blt j l.length = true → j < l.length := fun h => Nat.le_of_ble_eq_true h
  have hnl : n < l.length := (List.getElem?_eq_some_iff.1 hl).1
  refine wp_region_any hm (planned_late (F := F) (J := AppJ W T T' g m v ia ib A B) (ops' := (l.set n { ol with dst := none }).toArray) (n := n) (ol := ol) (x := x) (d := d) (by simp) (fun i hi => ?_) (by simpa using hl) (fun o ho => ?_) (fun i o ho => ?_) hp hs (fun j hj hne => ?_) hx hd0 (fun i o ho => ?_) (fun γ L w' hall hJ => ?_) _ _ 0 _ _ (by simp) ?_ ?_ ?_ ?_ ?_)
  · simp [Ne.symm hi]
  · simp [hnl] at ho
    subst ho
    exact ⟨rfl, rfl⟩
  · have hmem := Array.mem_of_getElem? ho
    have := List.all_eq_true.1 hg o (by simpa using hmem)
    simpa using this
  · have h1 := List.all_eq_true.1 hwa j (List.mem_range.2 hj)
    rcases Bool.or_eq_true_iff.1 h1 with h2 | h2
    · exact absurd (by simpa using h2) hne
    · unfold waitsFor at h2
      simp only [List.getElem?_toArray, hl] at h2
      obtain ⟨k, hk', hb⟩ := Array.any_eq_true.1 h2
      simp only [Bool.and_eq_true, beq_iff_eq] at hb
      exact ⟨_, Array.getElem_mem hk', hb.1, hb.2⟩
  · have := hsteps.at (i := i) (o := o) (by simpa using ho)
    rwa [Nat.zero_add] at this
  · obtain ⟨w1, h1, h2, h3, h4⟩ := hJ.done (hall ib (by simpa using lt b6) (by simpa using n6))
    rw [hG]
    exact hQ γ w1 w' h1 h2 h3 h4
  · unfold toCome
    exact Nat.le_trans List.countP_le_length (by simp)
  · simp [hnl]
  · have h1 := planned_put hd hF hk
    have e : (l.set n { ol with dst := none }).toArray.size = l.toArray.size := by simp
    rwa [e] at h1
  · intro j oj hj hLj
    have hjl := (Array.getElem?_eq_some_iff.1 hj).1
    unfold onList at hLj
    simp at hjl
    simp [hjl] at hLj
  · have f4 : onList (Array.replicate l.toArray.size false) ia = false := by unfold onList; simp [lt b4]
    have f6 : onList (Array.replicate l.toArray.size false) ib = false := by unfold onList; simp [lt b6]
    refine ⟨fun _ _ => Bel.start W, ?_, ?_⟩
    · rw [f4]; exact fun h => by cases h
    · rw [f6]; exact fun h => by cases h

end Go.Proofs.Ytlpaegmnahcbjaa
