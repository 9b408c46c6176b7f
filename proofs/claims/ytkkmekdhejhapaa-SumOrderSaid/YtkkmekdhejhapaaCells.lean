/- What is proved here: what operations on whole numbers of the machine yield; a loop by an invariant over the round's number; values and blocks of any cells, told by segments: numbers of K limbs, bools, whole numbers of the machine; a region that draws its order and makes any number of blocks; what a walk by plans wants beside the regions: boxes, a store's world, what a function answers. -/
import Derived.Test.YtkkmekdhejhapaaAgg
namespace Go.Proofs.Ytkkmekdhejhapaa
open Go.RowKit
theorem wp_loop_by {P : Program} {c : Code} {Q : Exit → Act → World → Prop} {a : Act} {w : World} (n : Nat) (I : Nat → Act → World → Prop) (h0 : I 0 a w)
    (hstep : ∀ k, k < n → ∀ a w, I k a w → ∀ K : Act → World → Prop, Shut (∀ a' w', I (k + 1) a' w' → K a' w') → c.wp P (Exit.then K Q) a w)
    (hend : ∀ a w, I n a w → ∀ K : Act → World → Prop, c.wp P (Exit.then K Q) a w) : (Code.loop c).wp P Q a w := by
  refine wp_loop_rounds (n + 1) ?_
  have key : ∀ m k, k + m = n → ∀ a w, I k a w → Code.rounds P c Q (m + 1) a w := by
    intro m
    induction m with
    | zero =>
      intro k hk a w h
      obtain rfl : k = n := by omega
      exact hend a w h _
    | succ m ih =>
      intro k hk a w h
      exact hstep k (by omega) a w h _ (fun a' w' h' => ih (k + 1) (by omega) a' w' h')
  exact key n 0 (by omega) a w h0
theorem bk_n {id : Nat} {Q : Exit → Act → World → Prop} {a : Act} {w : World} (h : Q .normal a w) : Exit.inBlock id Q .normal a w := h
theorem bk_r {id : Nat} {Q : Exit → Act → World → Prop} {a : Act} {w : World} (h : Q .ret a w) : Exit.inBlock id Q .ret a w := h
theorem th_r {K : Act → World → Prop} {Q : Exit → Act → World → Prop} {a : Act} {w : World} (h : K a w) : Exit.then K Q .normal a w := h
theorem th_e {K : Act → World → Prop} {Q : Exit → Act → World → Prop} {id : Nat} {a : Act} {w : World} (h : Q (.exit id) a w) : Exit.then K Q (.exit id) a w := h
theorem th_ret {K : Act → World → Prop} {Q : Exit → Act → World → Prop} {a : Act} {w : World} (h : Q .ret a w) : Exit.then K Q .ret a w := h
theorem bk_e {id : Nat} {Q : Exit → Act → World → Prop} {a : Act} {w : World} (h : Q .normal a w) : Exit.inBlock id Q (.exit id) a w := by
  show (if id = id then Q .normal a w else Q (.exit id) a w)
  rw [if_pos rfl]
  exact h
section
variable {ρ : Operand → Value} {d : Option Tmp} {ty0 : TypeId} {pos : String} {after : Array Edge} {guard : Option (Nat × Bool)} {w : World}
theorem ex_iadd {t t2 : TypeId} {x y : Operand} {k : IntKind} {a b : Int} (hx : ρ x = .int k a) (hy : ρ y = .int k b) (r : Int) (hr : k.wrap (a + b) = r) :
    (execOp ρ ⟨d, .binOp .add t x y t2, ty0, pos, after, guard⟩).run Try.prog w = .ok (.value (.int k r)) w := by
  subst hr
  simp [execOp, hx, hy, go_sem]
theorem ex_isub {t t2 : TypeId} {x y : Operand} {k : IntKind} {a b : Int} (hx : ρ x = .int k a) (hy : ρ y = .int k b) (r : Int) (hr : k.wrap (a - b) = r) :
    (execOp ρ ⟨d, .binOp .sub t x y t2, ty0, pos, after, guard⟩).run Try.prog w = .ok (.value (.int k r)) w := by
  subst hr
  simp [execOp, hx, hy, go_sem]
theorem ex_imul {t t2 : TypeId} {x y : Operand} {k : IntKind} {a b : Int} (hx : ρ x = .int k a) (hy : ρ y = .int k b) (r : Int) (hr : k.wrap (a * b) = r) :
    (execOp ρ ⟨d, .binOp .mul t x y t2, ty0, pos, after, guard⟩).run Try.prog w = .ok (.value (.int k r)) w := by
  subst hr
  simp [execOp, hx, hy, go_sem]
theorem ex_ilss {t t2 : TypeId} {x y : Operand} {k : IntKind} {a b : Int} (hx : ρ x = .int k a) (hy : ρ y = .int k b) (r : Bool) (hr : r = decide (a < b)) :
    (execOp ρ ⟨d, .binOp .lss t x y t2, ty0, pos, after, guard⟩).run Try.prog w = .ok (.value (.bool r)) w := by
  subst hr
  simp [execOp, hx, hy, eqGuard, binOp, Op.intCmp]
theorem ex_imax {x y : Operand} {tys : Array TypeId} {a b : Int} (hx : ρ x = .int .i64 a) (hy : ρ y = .int .i64 b) :
    (execOp ρ ⟨d, .call ⟨.builtin .max, #[x, y], tys⟩, ty0, pos, after, guard⟩).run Try.prog w = .ok (.value (.int .i64 (max a b))) w := by
  simp [hx, hy, go_sem]
end
theorem wrap64 {a : Int} (h0 : 0 ≤ a) (h1 : a < 18446744073709551616) : IntKind.u64.wrap a = a := by rw [IntKind.wrap_u64]; omega
theorem wrapI64 {a : Int} (h0 : -9223372036854775808 ≤ a) (h1 : a < 9223372036854775808) : IntKind.i64.wrap a = a := by rw [IntKind.wrap_i64]; omega
def Blk (t : TypeId) (w : World) (g : Nat) (cs : List Value) : Prop := w.heap[g]? = some (.cells cs.toArray t (0, 0))
theorem Blk.lt {t : TypeId} {w : World} {g : Nat} {cs : List Value} (h : Blk t w g cs) : g < w.heap.size := (Array.getElem?_eq_some_iff.1 h).1
theorem Blk.below {t : TypeId} {w w' : World} {g : Nat} {cs : List Value} (h : Blk t w g cs) {B : Nat} (hB : g < B) (hb : Below B w w') : Blk t w' g cs := (hb.block g hB).trans h
theorem Blk.keep {t : TypeId} {w w' : World} {g : Nat} {cs : List Value} (h : Blk t w g cs) (hb : Below w.heap.size w w') : Blk t w' g cs := h.below h.lt hb
theorem Blk.cell {t : TypeId} {w : World} {g : Nat} {cs : List Value} (h : Blk t w g cs) {i : Nat} (hi : i < cs.length) : w.cell? ⟨g, i, none⟩ = some cs[i] := by
  rw [cell_of_row w g i _ _ (0, 0) h]; simp [hi]
theorem Blk.frozen {t : TypeId} {w : World} {g : Nat} {cs : List Value} (h : Blk t w g cs) (i : Nat) : w.frozen? ⟨g, i, none⟩ = false := frozen_of_row w g i _ _ h
def cv (cs : List Value) : Value := .agg cs.toArray
theorem run_load_cv {t : TypeId} {w : World} {g : Nat} {cs : List Value} (h : Blk t w g cs) {ty : TypeId} {o n : Nat} (hf : Flat ty n) (ho : o + n ≤ cs.length) :
    (Instr.loadAt ty (.pointer (some ⟨g, o, none⟩))).run Try.prog w = .ok (cv ((cs.drop o).take n)) w := by
  have hl : ((cs.drop o).take n).length = n := by simp; omega
  have hr : w.rangeAt g o ((cs.drop o).take n) := by
    have := World.rangeAt_of_block h o n
    have e : (cs.toArray.extract o (o + n)).toList = (cs.drop o).take n := by simp
    rwa [e] at this
  have hc : (loadCells ⟨g, o, none⟩ n).run Try.prog w = .ok ((cs.drop o).take n).toArray w := by
    have := run_loadCells_list (P := Try.prog) w ⟨g, o, none⟩ ((cs.drop o).take n) (fun j v hv => by rw [Addr.add_mid]; exact hr j v hv)
    rwa [hl] at this
  simp [Instr.loadAt, Instr.sureAddr, loadVar, Sem.run_bind, hf.1 w, hf.2 w, hc, cv]
def Single (ty : TypeId) : Prop := (∀ w, (isAgg ty).run Try.prog w = .ok false w) ∧ ∀ w, (Go.sizeOf ty).run Try.prog w = .ok 1 w
theorem run_load_one {t : TypeId} {w : World} {g : Nat} {cs : List Value} (h : Blk t w g cs) {ty : TypeId} {o : Nat} {v : Value} (hf : Single ty) (ho : cs[o]? = some v) :
    (Instr.loadAt ty (.pointer (some ⟨g, o, none⟩))).run Try.prog w = .ok v w := by
  have hl : o < cs.length := (List.getElem?_eq_some_iff.1 ho).1
  have hc := h.cell hl
  have hv : cs[o] = v := (List.getElem?_eq_some_iff.1 ho).2
  rw [hv] at hc
  simp [Instr.loadAt, Instr.sureAddr, loadVar, Sem.run_bind, hf.1 w, go_sem, hc]
def Ones (cs : List Value) : Prop := ∀ v ∈ cs, v.oneCell' = true
theorem Blk.set {t : TypeId} {w : World} {g : Nat} {cs : List Value} (h : Blk t w g cs) (i : Nat) (v : Value) : Blk t (w.setCell ⟨g, i, none⟩ v) g (cs.set i v) := by
  unfold Blk
  rw [heap_setCell_same w g i _ _ _ h]
  simp
theorem Blk.setCells {t : TypeId} {g : Nat} : ∀ (ys : List Value) {w : World} {cs : List Value} (o : Nat), o + ys.length ≤ cs.length → Blk t w g cs →
    Blk t (w.setCells g o ys) g (cs.take o ++ (ys ++ cs.drop (o + ys.length)))
  | [], w, cs, o, _, h => by
    have e : cs.take o ++ ([] ++ cs.drop (o + ([] : List Value).length)) = cs := by simp
    rw [e]
    exact h
  | y :: ys, w, cs, o, hl, h => by
    have hs := Blk.setCells ys (o + 1) (by simp at hl ⊢; omega) (h.set o y)
    have e : (cs.set o y).take (o + 1) ++ (ys ++ (cs.set o y).drop (o + 1 + ys.length)) = cs.take o ++ (y :: ys ++ cs.drop (o + (y :: ys).length)) := by
      have ho : o < cs.length := by simp at hl; omega
      rw [List.take_add_one, List.take_set_of_le (Nat.le_refl o), List.getElem?_set_self ho, List.drop_set_of_lt (by omega)]
      simp [Nat.add_assoc, Nat.add_comm 1]
    rw [e] at hs
    exact hs
theorem Blk.setOther {t : TypeId} {g b : Nat} {cs : List Value} (hne : g ≠ b) : ∀ (vs : List Value) {w : World} (o : Nat), Blk t w g cs → Blk t (w.setCells b o vs) g cs
  | [], _, _, h => h
  | v :: vs, w, o, h => Blk.setOther hne vs (o + 1) (by unfold Blk at h ⊢; rw [Below.heap_setCell _ _ _ g hne]; exact h)
theorem Blk.there {t : TypeId} {w : World} {g : Nat} {cs : List Value} (h : Blk t w g cs) {o n : Nat} (ho : o + n ≤ cs.length) : w.there g o n := fun j hj => by
  exact ⟨by rw [h.cell (by omega)]; rfl, h.frozen _⟩
theorem run_store_cv {t : TypeId} {w : World} {g : Nat} {cs ys : List Value} (h : Blk t w g cs) {ty : TypeId} {o : Nat} {v : Value} (hv : v.cells = ys.toArray) (hz : ∀ w, (Go.sizeOf ty).run Try.prog w = .ok ys.length w) (hl : o + ys.length ≤ cs.length) (h1 : Ones ys) :
    (Instr.storeAt ty (.pointer (some ⟨g, o, none⟩)) v).run Try.prog w = .ok () (w.setCells g o ys) := by
  have hth := h.there hl
  have hc := run_storeCells_cells (P := Try.prog) g o ys 0 w (fun j hj => by simpa using (hth j hj).1) (fun j hj => by simpa using (hth j hj).2) h1
  simp only [Nat.add_zero] at hc
  simp [Instr.storeAt, Instr.sureAddr, storeVar, Sem.run_bind, hz w, hv, hc]
theorem Blk.boxed (ty : TypeId) (cs : List Value) (w : World) : Blk ty (w.alloc (.cells cs.toArray ty)) w.heap.size cs := heap_alloc_new w _
inductive Seg where
  | n (K a : Nat)
  | b (r : Bool)
  | i (k : IntKind) (x : Int)
  | v (x : Value)
def oneOf (x : Value) : List Value := match x.oneCell' with
  | true => [x]
  | false => [.bool false]
theorem oneOf_len (x : Value) : (oneOf x).length = 1 := by unfold oneOf; split <;> rfl
theorem oneOf_one (x : Value) {y : Value} (h : y ∈ oneOf x) : y.oneCell' = true := by
  unfold oneOf at h
  split at h
  · next hx => rw [List.mem_singleton.1 h]; exact hx
  · rw [List.mem_singleton.1 h]; rfl
def Seg.cells : Seg → List Value
  | .n K a => cellsOf (row K a)
  | .b r => [.bool r]
  | .i k x => [.int k x]
  | .v x => oneOf x
def Seg.size : Seg → Nat
  | .n K _ => K
  | .b _ => 1
  | .i _ _ => 1
  | .v _ => 1
def segs : List Seg → List Value
  | [] => []
  | s :: l => s.cells ++ segs l
def ssize : List Seg → Nat
  | [] => 0
  | s :: l => s.size + ssize l
def szB : List Seg → Nat → Bool
  | [], n => Nat.beq n 0
  | s :: l, n => match Nat.ble s.size n with
    | true => szB l (n - s.size)
    | false => false
def szS : List Seg → List Seg → Bool
  | [], [] => true
  | s :: l, s' :: l' => match Nat.beq s.size s'.size with
    | true => szS l l'
    | false => false
  | _, _ => false
theorem szB_eq : ∀ {l : List Seg} {n : Nat}, szB l n = true → ssize l = n
  | [], n, h => (Nat.eq_of_beq_eq_true h).symm
  | s :: l, n, h => by
    unfold szB at h
    split at h
    · next hb =>
      have := szB_eq h
      have hle := Nat.le_of_ble_eq_true hb
      show s.size + ssize l = n
      omega
    · cases h
theorem szS_eq : ∀ {l l' : List Seg}, szS l l' = true → ssize l = ssize l'
  | [], [], _ => rfl
  | s :: l, s' :: l', h => by
    unfold szS at h
    split at h
    · next hb =>
      have := szS_eq h
      have he := Nat.eq_of_beq_eq_true hb
      show s.size + ssize l = s'.size + ssize l'
      omega
    · cases h
def sv (l : List Seg) : Value := cv (segs l)
theorem seg_len (s : Seg) : s.cells.length = s.size := by
  cases s with
  | n K a => simp [Seg.cells, Seg.size, cellsOf, length_row]
  | b r => rfl
  | i k x => rfl
  | v x => exact oneOf_len x
theorem segs_len : ∀ l : List Seg, (segs l).length = ssize l
  | [] => rfl
  | s :: l => by rw [segs, ssize, List.length_append, seg_len, segs_len l]
theorem segs_app : ∀ a b : List Seg, segs (a ++ b) = segs a ++ segs b
  | [], b => rfl
  | s :: a, b => by rw [List.cons_append, segs, segs, segs_app a b, List.append_assoc]
theorem ssize_app (a b : List Seg) : ssize (a ++ b) = ssize a + ssize b := by rw [← segs_len, segs_app, List.length_append, segs_len, segs_len]
theorem segs_ones : ∀ l : List Seg, Ones (segs l)
  | [] => fun v hv => absurd hv List.not_mem_nil
  | s :: l => fun v hv => by
    rcases List.mem_append.1 hv with h | h
    · cases s with
      | n K a =>
        simp only [Seg.cells, cellsOf, List.mem_map] at h
        obtain ⟨y, _, rfl⟩ := h
        rfl
      | b r => rw [List.mem_singleton.1 h]; rfl
      | i k x => rw [List.mem_singleton.1 h]; rfl
      | v x => exact oneOf_one x h
    · exact segs_ones l v h
theorem cut3 (l : List Seg) (k j : Nat) : l = l.take k ++ ((l.drop k).take j ++ (l.drop k).drop j) := by rw [List.take_append_drop, List.take_append_drop]
theorem segs_cut (l : List Seg) (k j : Nat) : ((segs l).drop (ssize (l.take k))).take (ssize ((l.drop k).take j)) = segs ((l.drop k).take j) := by
  have e := cut3 l k j
  have h1 : segs l = segs (l.take k) ++ (segs ((l.drop k).take j) ++ segs ((l.drop k).drop j)) := by rw [← segs_app, ← segs_app, ← e]
  rw [h1, ← segs_len (l.take k), List.drop_left, ← segs_len, List.take_left]
theorem segs_nums (K : Nat) : ∀ l : List Nat, segs (l.map (Seg.n K)) = cellsOf (rows K l)
  | [] => rfl
  | a :: l => by
    rw [List.map_cons, segs, segs_nums K l, rows_cons]
    simp [Seg.cells, cellsOf]
theorem nv_sv (K : Nat) (l : List Nat) : nv K l = sv (l.map (Seg.n K)) := by
  unfold nv sv lv cv
  rw [segs_nums]
def SB (t : TypeId) (w : World) (g : Nat) (l : List Seg) : Prop := Blk t w g (segs l)
theorem SB.keep {t : TypeId} {w w' : World} {g : Nat} {l : List Seg} (h : SB t w g l) (hb : Below w.heap.size w w') : SB t w' g l := Blk.keep h hb
theorem SB.lt {t : TypeId} {w : World} {g : Nat} {l : List Seg} (h : SB t w g l) : g < w.heap.size := Blk.lt h
section
variable {ρ : Operand → Value} {d : Option Tmp} {ty0 : TypeId} {pos : String} {after : Array Edge} {guard : Option (Nat × Bool)} {w : World}
theorem ex_loads' {ty : TypeId} {x : Operand} {t : TypeId} {g o : Nat} {l : List Seg} (k j : Nat) {m : List Seg} (hf : Flat ty (ssize m)) (hx : ρ x = .pointer (some ⟨g, o, none⟩)) (h : SB t w g l) (ho : szB (l.take k) o = true) (hm : (l.drop k).take j = m) :
    (execOp ρ ⟨d, .load ty x, ty0, pos, after, guard⟩).run Try.prog w = .ok (.value (sv m)) w := by
  obtain rfl := szB_eq ho
  subst hm
  have hle : ssize (l.take k) + ssize ((l.drop k).take j) ≤ (segs l).length := by
    rw [segs_len]
    have e := cut3 l k j
    have : ssize l = ssize (l.take k) + (ssize ((l.drop k).take j) + ssize ((l.drop k).drop j)) := by rw [← ssize_app, ← ssize_app, ← e]
    omega
  have := run_load_cv h hf hle
  rw [segs_cut] at this
  simp [execOp, hx, this, sv]
theorem ex_loads {ty : TypeId} {x : Operand} {t : TypeId} {g o : Nat} {l : List Seg} (k j : Nat) {m : List Seg} {n : Nat} (hf : Flat ty n) (hn : szB m n = true) (hx : ρ x = .pointer (some ⟨g, o, none⟩)) (h : SB t w g l) (ho : szB (l.take k) o = true) (hm : (l.drop k).take j = m) :
    (execOp ρ ⟨d, .load ty x, ty0, pos, after, guard⟩).run Try.prog w = .ok (.value (sv m)) w := by
  obtain rfl := szB_eq hn
  exact ex_loads' k j hf hx h ho hm
theorem ex_loadsn {ty : TypeId} {x : Operand} {t : TypeId} {g o K : Nat} {l : List Seg} (k j : Nat) {m : List Nat} {n : Nat} (hf : Flat ty n) (hn : Nat.beq (K * m.length) n = true) (hx : ρ x = .pointer (some ⟨g, o, none⟩)) (h : SB t w g l) (ho : szB (l.take k) o = true) (hm : (l.drop k).take j = m.map (Seg.n K)) :
    (execOp ρ ⟨d, .load ty x, ty0, pos, after, guard⟩).run Try.prog w = .ok (.value (nv K m)) w := by
  rw [nv_sv]
  obtain rfl := Nat.eq_of_beq_eq_true hn
  exact ex_loads' k j (by rw [← segs_len, segs_nums, cellsOf_len, rows_len]; exact hf) hx h ho hm
theorem seg_at {l : List Seg} {k : Nat} {s : Seg} {v : Value} (hs : l[k]? = some s) (hv : s.cells = [v]) : (segs l)[ssize (l.take k)]? = some v := by
  have hk : k < l.length := (List.getElem?_eq_some_iff.1 hs).1
  have e : l = l.take k ++ s :: l.drop (k + 1) := by
    have h1 := List.take_append_drop k l
    rw [List.drop_eq_getElem_cons hk, (List.getElem?_eq_some_iff.1 hs).2] at h1
    exact h1.symm
  have h1 : segs l = segs (l.take k) ++ ([v] ++ segs (l.drop (k + 1))) := by
    rw [← hv]
    show _ = segs (l.take k) ++ segs (s :: l.drop (k + 1))
    rw [← segs_app, ← e]
  rw [h1, ← segs_len (l.take k), List.getElem?_append_right (Nat.le_refl _), Nat.sub_self]
  rfl
theorem ex_load1 {ty : TypeId} {x : Operand} {t : TypeId} {g o : Nat} {l : List Seg} (k : Nat) {s : Seg} {v : Value} (hf : Single ty) (hx : ρ x = .pointer (some ⟨g, o, none⟩)) (h : SB t w g l) (ho : szB (l.take k) o = true) (hs : l[k]? = some s) (hv : s.cells = [v]) :
    (execOp ρ ⟨d, .load ty x, ty0, pos, after, guard⟩).run Try.prog w = .ok (.value v) w := by
  obtain rfl := szB_eq ho
  simp [execOp, hx, run_load_one h hf (seg_at hs hv)]
theorem ex_boxs {ty : TypeId} {x : Operand} {l : List Seg} (hx : ρ x = sv l) : (execOp ρ ⟨d, .box ty x, ty0, pos, after, guard⟩).run Try.prog w = .ok (.value (.pointer (some ⟨w.heap.size, 0, none⟩))) (w.alloc (.cells (segs l).toArray ty)) := by
  simp [execOp, hx, Instr.box, newVar, newRow, sv, cv, Value.cells, go_sem]
theorem ex_allocs {ty : TypeId} {l : List Seg} (hz : ∀ w, (zeroValue ty).run Try.prog w = .ok (sv l) w) : (execOp ρ ⟨d, .alloc ty, ty0, pos, after, guard⟩).run Try.prog w = .ok (.value (.pointer (some ⟨w.heap.size, 0, none⟩))) (w.alloc (.cells (segs l).toArray ty)) := by
  have h1 : (newVar ty (sv l)).run Try.prog w = .ok ⟨w.heap.size, 0, none⟩ (w.alloc (.cells (segs l).toArray ty)) := by
    simp [newVar, newRow, sv, cv, Value.cells, go_sem]
  simp [execOp, Instr.alloc, Sem.run_bind, hz w, h1]
theorem ex_boxsn {ty : TypeId} {x : Operand} {K : Nat} {l : List Nat} (hx : ρ x = nv K l) : (execOp ρ ⟨d, .box ty x, ty0, pos, after, guard⟩).run Try.prog w = .ok (.value (.pointer (some ⟨w.heap.size, 0, none⟩))) (w.alloc (.cells (segs (l.map (Seg.n K))).toArray ty)) :=
  ex_boxs (by rw [hx, nv_sv])
theorem ex_allocsn {ty : TypeId} {K : Nat} {l : List Nat} (hz : ∀ w, (zeroValue ty).run Try.prog w = .ok (lv (rows K l)) w) : (execOp ρ ⟨d, .alloc ty, ty0, pos, after, guard⟩).run Try.prog w = .ok (.value (.pointer (some ⟨w.heap.size, 0, none⟩))) (w.alloc (.cells (segs (l.map (Seg.n K))).toArray ty)) :=
  ex_allocs (fun w => by rw [hz w, ← nv_sv]; rfl)
theorem ex_stores {ty : TypeId} {x y : Operand} {t : TypeId} {g o : Nat} {l : List Seg} (k j : Nat) {m : List Seg} {v : Value} {n : Nat} (hz : ∀ w, (Go.sizeOf ty).run Try.prog w = .ok n w) (hn : szB m n = true) (hx : ρ x = .pointer (some ⟨g, o, none⟩)) (hy : ρ y = v) (hv : v.cells = (segs m).toArray) (h : SB t w g l) (ho : szB (l.take k) o = true) (hm : szS ((l.drop k).take j) m = true) :
    (execOp ρ ⟨d, .store ty x y, ty0, pos, after, guard⟩).run Try.prog w = .ok .skip (w.setCells g o (segs m)) := by
  obtain rfl := szB_eq hn
  obtain rfl := szB_eq ho
  replace hm := szS_eq hm
  have hle : ssize (l.take k) + (segs m).length ≤ (segs l).length := by
    rw [segs_len, segs_len, ← hm]
    have e := cut3 l k j
    have : ssize l = ssize (l.take k) + (ssize ((l.drop k).take j) + ssize ((l.drop k).drop j)) := by rw [← ssize_app, ← ssize_app, ← e]
    omega
  have := run_store_cv (ty := ty) h hv (fun w => by rw [segs_len]; exact hz w) hle (segs_ones m)
  simp [execOp, hx, hy, this]
theorem SB.stored {t : TypeId} {w : World} {g o : Nat} {l : List Seg} (k j : Nat) {m l' : List Seg} (h : SB t w g l) (ho : szB (l.take k) o = true) (hm : szS ((l.drop k).take j) m = true) (hl : l.take k ++ (m ++ (l.drop k).drop j) = l') : SB t (w.setCells g o (segs m)) g l' := by
  obtain rfl := szB_eq ho
  replace hm := szS_eq hm
  subst hl
  have e := cut3 l k j
  have hsz : ssize l = ssize (l.take k) + (ssize ((l.drop k).take j) + ssize ((l.drop k).drop j)) := by rw [← ssize_app, ← ssize_app, ← e]
  have hs := Blk.setCells (segs m) (ssize (l.take k)) (by rw [segs_len, segs_len]; omega) h
  unfold SB
  rw [segs_app, segs_app]
  have e1 : (segs l).take (ssize (l.take k)) = segs (l.take k) := by
    have h1 : segs l = segs (l.take k) ++ segs (l.drop k) := by rw [← segs_app, List.take_append_drop]
    rw [h1, ← segs_len (l.take k), List.take_left]
  have e2 : (segs l).drop (ssize (l.take k) + (segs m).length) = segs ((l.drop k).drop j) := by
    have h1 : segs l = (segs (l.take k) ++ segs ((l.drop k).take j)) ++ segs ((l.drop k).drop j) := by rw [← segs_app, ← segs_app, List.append_assoc, ← e]
    rw [h1, segs_len, ← hm, show ssize (l.take k) + ssize ((l.drop k).take j) = (segs (l.take k) ++ segs ((l.drop k).take j)).length by rw [List.length_append, segs_len, segs_len], List.drop_left]
  rw [e1, e2] at hs
  exact hs
end
theorem nv_cells (K : Nat) (l : List Nat) : (nv K l).cells = (segs (l.map (Seg.n K))).toArray := by rw [nv_sv]; rfl
theorem bool_cells (r : Bool) : (Value.bool r).cells = (segs [Seg.b r]).toArray := rfl
theorem int_cells (k : IntKind) (x : Int) : (Value.int k x).cells = (segs [Seg.i k x]).toArray := rfl
theorem fill_cells (off : Nat) : ∀ (ys : List Value) (k : Nat) (zs : List Value), off + k + ys.length ≤ zs.length →
    (ys.zipIdx k).foldl (fun (cs : Array Value) (p : Value × Nat) => cs.setIfInBounds (off + p.2) p.1) zs.toArray = (zs.take (off + k) ++ (ys ++ zs.drop (off + k + ys.length))).toArray
  | [], k, zs, _ => by simp
  | y :: ys, k, zs, hl => by
    have hs : zs.toArray.setIfInBounds (off + k) y = (zs.set (off + k) y).toArray := by simp
    have ih := fill_cells off ys (k + 1) (zs.set (off + k) y) (by simp at hl ⊢; omega)
    have e : (zs.set (off + k) y).take (off + (k + 1)) ++ (ys ++ (zs.set (off + k) y).drop (off + (k + 1) + ys.length)) = zs.take (off + k) ++ (y :: ys ++ zs.drop (off + k + (y :: ys).length)) := by
      have ho : off + k < zs.length := by simp at hl; omega
      rw [← Nat.add_assoc, List.take_add_one, List.take_set_of_le (Nat.le_refl _), List.getElem?_set_self ho, List.drop_set_of_lt (by omega)]
      simp [Nat.add_assoc, Nat.add_comm 1]
    rw [e] at ih
    rw [← ih, ← hs]
    rfl
theorem fills_cons {place : Nat → Option (Nat × Nat)} {i off n : Nat} (k j : Nat) {m z z' : List Seg} {v : Value} {rest : List (Nat × Value)} (hp : place i = some (off, n)) (hv : v.cells = (segs m).toArray) (ho : szB (z.take k) off = true) (hn : szB m n = true) (hm : szS ((z.drop k).take j) m = true) (hz : z.take k ++ (m ++ (z.drop k).drop j) = z') :
    Instr.fill place (segs z).toArray ((i, v) :: rest) = Instr.fill place (segs z').toArray rest := by
  obtain rfl := szB_eq ho
  obtain rfl := szB_eq hn
  replace hm := szS_eq hm
  subst hz
  have e := cut3 z k j
  have hsz : ssize z = ssize (z.take k) + (ssize ((z.drop k).take j) + ssize ((z.drop k).drop j)) := by rw [← ssize_app, ← ssize_app, ← e]
  have hf := fill_cells (ssize (z.take k)) (segs m) 0 (segs z) (by rw [segs_len, segs_len]; omega)
  rw [Nat.add_zero] at hf
  have e1 : (segs z).take (ssize (z.take k)) = segs (z.take k) := by
    have h1 : segs z = segs (z.take k) ++ segs (z.drop k) := by rw [← segs_app, List.take_append_drop]
    rw [h1, ← segs_len (z.take k), List.take_left]
  have e2 : (segs z).drop (ssize (z.take k) + (segs m).length) = segs ((z.drop k).drop j) := by
    have h1 : segs z = (segs (z.take k) ++ segs ((z.drop k).take j)) ++ segs ((z.drop k).drop j) := by rw [← segs_app, ← segs_app, List.append_assoc, ← e]
    rw [h1, segs_len, ← hm, show ssize (z.take k) + ssize ((z.drop k).take j) = (segs (z.take k) ++ segs ((z.drop k).take j)).length by rw [List.length_append, segs_len, segs_len], List.drop_left]
  rw [e1, e2, ← segs_app, ← segs_app] at hf
  have h2 : (segs m).toArray.size = ssize m := by simp [segs_len]
  have h3 : (segs z).toArray.size = ssize z := by simp [segs_len]
  rw [Instr.fill, hp]
  simp only [hv, h2, h3]
  rw [if_neg (by simp; omega), ← hf]
  simp
def StructS (ty : TypeId) (z : List Seg) (places : List (Nat × Nat)) : Prop :=
  ∃ fields : Array Field, Try.prog.underlying ty = some (.struct fields) ∧ (∀ w, (zeroValue ty).run Try.prog w = .ok (sv z) w) ∧
    ∀ w, (fields.mapM fun f => do pure (f.offset, ← Go.sizeOf f.type) : Sem (Array (Nat × Nat))).run Try.prog w = .ok places.toArray w
theorem run_build_sv {ty : TypeId} {z : List Seg} {places : List (Nat × Nat)} (hs : StructS ty z places) {parts : Array (Nat × Value)} {l : List Seg}
    (hx : Instr.fill (places.toArray[·]?) (segs z).toArray parts.toList = some (segs l).toArray) (w : World) :
    (Instr.build ty parts).run Try.prog w = .ok (sv l) w := by
  obtain ⟨fields, hu, hz, hm⟩ := hs
  have hc : (sv z).cells = (segs z).toArray := rfl
  simp only [Instr.build, Sem.run_bind, hz w, Result.andThen_ok, run_underlying hu w, hm w, hc, hx, Sem.run_pure]
  rfl
section
variable {ρ : Operand → Value} {d : Option Tmp} {ty0 : TypeId} {pos : String} {after : Array Edge} {guard : Option (Nat × Bool)} {w : World}
theorem ex_builds {ty : TypeId} {parts : List (Nat × Operand)} {vs : List (Nat × Value)} {z : List Seg} {places : List (Nat × Nat)} (hs : StructS ty z places) {l : List Seg}
    (hv : (parts.map fun (p : Nat × Operand) => (p.1, ρ p.2)) = vs)
    (hx : Instr.fill (places.toArray[·]?) (segs z).toArray vs = some (segs l).toArray) :
    (execOp ρ ⟨d, .build ty parts.toArray, ty0, pos, after, guard⟩).run Try.prog w = .ok (.value (sv l)) w := by
  have hv' : (parts.toArray.map fun (i, x) => (i, ρ x)) = vs.toArray := by rw [List.map_toArray]; exact congrArg List.toArray hv
  simp only [execOp, Sem.run_bind, hv', run_build_sv hs hx w, Result.andThen_ok, Sem.run_pure]
end
structure EqT (ty : TypeId) (k j : Nat) (sh : List Seg → Prop) (val : List Seg → Value) : Prop where
  part : ∀ (l : List Seg) (i : Nat) (m : List Seg) (o : Nat) (w : World), ssize (l.take i) = o → (l.drop i).take j = m → sh m → (part ty (segs l).toArray o).run Try.prog w = .ok (val m) w
  eq : ∀ (D : Nat) (a b : List Seg) (w : World), sh a → sh b → ∃ r : Bool, (r = true ↔ a = b) ∧ (Op.equalIn (D + k) ty (val a) (val b)).run Try.prog w = .ok r w
theorem EqT.more {ty : TypeId} {k j : Nat} {sh : List Seg → Prop} {val : List Seg → Value} (h : EqT ty k j sh val) : EqT ty (k + 1) j sh val :=
  ⟨h.part, fun D a b w ha hb => by
    have := h.eq (D + 1) a b w ha hb
    rwa [show D + 1 + k = D + (k + 1) by omega] at this⟩
def Nums (K j : Nat) (m : List Seg) : Prop := ∃ l : List Nat, l.length = j ∧ (∀ x ∈ l, x < 2 ^ (64 * K)) ∧ m = l.map (Seg.n K)
theorem part_flat {ty : TypeId} {n : Nat} (hf : Flat ty n) (cs : List Value) (o : Nat) (w : World) : (part ty cs.toArray o).run Try.prog w = .ok (cv ((cs.drop o).take n)) w := by
  have e : cs.toArray.extract o (o + n) = ((cs.drop o).take n).toArray := by simp
  unfold part
  simp only [Sem.run_bind, hf.1 w, hf.2 w, Result.andThen_ok, e, cv, if_true, Sem.run_pure]
theorem part_segs {ty : TypeId} {j : Nat} (l : List Seg) (i : Nat) {m : List Seg} {o : Nat} (w : World) (hf : Flat ty (ssize m)) (ho : ssize (l.take i) = o) (hm : (l.drop i).take j = m) : (part ty (segs l).toArray o).run Try.prog w = .ok (sv m) w := by
  subst ho hm
  rw [part_flat hf, segs_cut]
  rfl
theorem nums_size {K j : Nat} {m : List Seg} (h : Nums K j m) : m.length = j ∧ ssize m = K * j := by
  obtain ⟨l, rfl, _, rfl⟩ := h
  refine ⟨by simp, ?_⟩
  rw [← segs_len, segs_nums, cellsOf_len, rows_len]
theorem EqT.nums {ty : TypeId} {K j k n : Nat} (he : EqF ty n k) (hf : Flat ty n) (hn : K * j = n) : EqT ty k j (Nums K j) sv where
  part := fun l i m o w ho hm hs => part_segs l i w (by rw [(nums_size hs).2, hn]; exact hf) ho hm
  eq := fun D a b w ha hb => by
    obtain ⟨l, h1, h2, rfl⟩ := ha
    obtain ⟨l', h3, h4, rfl⟩ := hb
    refine ⟨decide (rows K l = rows K l'), ?_, ?_⟩
    · rw [decide_eq_true_iff]
      constructor
      · intro h
        rw [rows_inj h2 h4 (by rw [h1, h3]) h]
      · intro h
        exact lv_inj (by unfold lv; rw [← segs_nums, ← segs_nums, h])
    · have := he.2 D (rows K l) (rows K l') w (by rw [rows_len, h1, hn]) (by rw [rows_len, h3, hn])
      rw [← nv_sv, ← nv_sv]
      exact this
theorem EqT.bool {ty : TypeId} (hu : Try.prog.underlying ty = some .bool) (hs : Single ty) : EqT ty 1 1 (fun m => ∃ r, m = [.b r]) (fun m => match m with | [.b r] => .bool r | _ => undef) where
  part := fun l i m o w ho hm hsm => by
    obtain ⟨r, rfl⟩ := hsm
    have hk : l[i]? = some (.b r) := by
      have := congrArg (fun z => z[0]?) hm
      simpa using this
    have := seg_at hk rfl
    rw [ho] at this
    unfold Go.part
    simp [Sem.run_bind, hs.1 w, this]
  eq := fun D a b w ha hb => by
    obtain ⟨r, rfl⟩ := ha
    obtain ⟨r', rfl⟩ := hb
    refine ⟨r == r', by simp, ?_⟩
    simp only [Op.equalIn, Sem.run_bind, run_underlying hu w, Result.andThen_ok, Sem.run_pure]
theorem EqT.int {ty : TypeId} {k : IntKind} (hu : Try.prog.underlying ty = some (.int k)) (hs : Single ty) : EqT ty 1 1 (fun m => ∃ x, m = [.i k x]) (fun m => match m with | [.i k x] => .int k x | _ => undef) where
  part := fun l i m o w ho hm hsm => by
    obtain ⟨r, rfl⟩ := hsm
    have hk : l[i]? = some (.i k r) := by
      have := congrArg (fun z => z[0]?) hm
      simpa using this
    have := seg_at hk rfl
    rw [ho] at this
    unfold Go.part
    simp [Sem.run_bind, hs.1 w, this]
  eq := fun D a b w ha hb => by
    obtain ⟨r, rfl⟩ := ha
    obtain ⟨r', rfl⟩ := hb
    refine ⟨r == r', by simp, ?_⟩
    simp [go_sem, hu]
inductive FieldsS (k : Nat) : List Field → Nat → (List Seg → Prop) → Prop
  | nil (o : Nat) : FieldsS k [] o (fun l => l = [])
  | cons {f : Field} {fs : List Field} {o n j : Nat} {sh sh' : List Seg → Prop} {val : List Seg → Value} (hn : f.name ≠ "_") (ho : f.offset = o) (hz : ∀ m, sh m → m.length = j ∧ ssize m = n) (he : EqT f.type k j sh val) (h : FieldsS k fs (o + n) sh') :
      FieldsS k (f :: fs) o (fun l => ∃ a b, l = a ++ b ∧ sh a ∧ sh' b)
theorem eqFields_segs {k : Nat} (w : World) (D : Nat) {fs : List Field} {o : Nat} {sh : List Seg → Prop} (h : FieldsS k fs o sh) : ∀ (p p' s s' : List Seg), ssize p = o → ssize p' = o → sh s → sh s' →
    ∃ r : Bool, (r = true ↔ s = s') ∧ (Op.eqFields (D + k) (segs (p ++ s)).toArray (segs (p' ++ s')).toArray fs).run Try.prog w = .ok r w := by
  induction h with
  | nil o =>
    intro p p' s s' _ _ hs hs'
    subst hs hs'
    exact ⟨true, by simp, by simp [Op.eqFields]⟩
  | @cons f fs o n j sh sh' val hn ho hz he h ih =>
    intro p p' s s' h1 h2 hs hs'
    obtain ⟨a, b, rfl, ha, hb⟩ := hs
    obtain ⟨a', b', rfl, ha', hb'⟩ := hs'
    obtain ⟨z1, z2⟩ := hz a ha
    obtain ⟨z1', z2'⟩ := hz a' ha'
    have p1 := he.part (p ++ (a ++ b)) p.length a f.offset w (by rw [List.take_left, h1, ho]) (by rw [List.drop_left, ← z1, List.take_left]) ha
    have p2 := he.part (p' ++ (a' ++ b')) p'.length a' f.offset w (by rw [List.take_left, h2, ho]) (by rw [List.drop_left, ← z1', List.take_left]) ha'
    obtain ⟨q, hq, hqr⟩ := he.eq D a a' w ha ha'
    obtain ⟨r, hr, hrr⟩ := ih (p ++ a) (p' ++ a') b b' (by rw [ssize_app, h1, z2]) (by rw [ssize_app, h2, z2']) hb hb'
    rw [List.append_assoc, List.append_assoc] at hrr
    simp only [Op.eqFields, if_pos hn, Sem.run_bind, p1, p2, Result.andThen_ok, hqr]
    cases hqv : q with
    | true =>
      have e : a = a' := hq.1 hqv
      subst e
      refine ⟨r, by rw [hr, List.append_cancel_left_eq], ?_⟩
      simpa using hrr
    | false =>
      refine ⟨false, ?_, by simp⟩
      constructor
      · intro h; cases h
      · intro h
        exfalso
        have e : a = a' := (List.append_inj h (by rw [z1, z1'])).1
        rw [hq.2 e] at hqv
        cases hqv
theorem EqT.struct {ty : TypeId} {k j : Nat} {sh : List Seg → Prop} {fields : List Field} (hu : Try.prog.underlying ty = some (.struct fields.toArray)) (hst : Try.prog.stoodInHeld ty = false) (hf : ∀ m, sh m → Flat ty (ssize m)) (hfs : FieldsS k fields 0 sh) : EqT ty (k + 1) j sh sv where
  part := fun l i m o w ho hm hs => part_segs l i w (hf m hs) ho hm
  eq := fun D a b w ha hb => by
    have hfo : Try.prog.fieldsOf ty = fields.toArray := by simp [Program.fieldsOf, hu]
    obtain ⟨r, hr, hrr⟩ := eqFields_segs w D hfs [] [] a b rfl rfl ha hb
    refine ⟨r, hr, ?_⟩
    show (Op.equalIn (D + k + 1) ty (.agg _) (.agg _)).run Try.prog w = _
    rw [run_equalIn_struct w (D + k) ty _ _ (by rw [hfo]; exact hu) hst, hfo]
    exact hrr
section
variable {ρ : Operand → Value} {d : Option Tmp} {ty0 : TypeId} {pos : String} {after : Array Edge} {guard : Option (Nat × Bool)} {w : World}
theorem ex_eqs {ty t2 : TypeId} {x y : Operand} {a b : List Seg} {k j : Nat} {sh : List Seg → Prop} (hg : Try.prog.eqGuardType Try.prog.depth ty = false) (he : EqT ty k j sh sv) (hk : Nat.ble k 10000 = true) (hx : ρ x = sv a) (hy : ρ y = sv b) (ha : sh a) (hb : sh b) (r : Bool) (hr : r = true ↔ a = b) :
    (execOp ρ ⟨d, .binOp .eql ty x y t2, ty0, pos, after, guard⟩).run Try.prog w = .ok (.value (.bool r)) w := by
  have hk' : k ≤ 10000 := Nat.le_of_ble_eq_true hk
  obtain ⟨q, hq, hqr⟩ := he.eq (10000 - k) a b w ha hb
  obtain rfl : q = r := by
    cases q <;> cases r <;> simp_all
  have he' : (Op.equal ty (sv a) (sv b)).run Try.prog w = .ok q w := by
    rw [Nat.sub_add_cancel hk'] at hqr
    exact hqr
  have hgd : (eqGuard .eql ty x y (sv a) (sv b)).run Try.prog w = .ok () w := by
    simp [eqGuard, sv, cv, Sem.run_bind, hg, run_program]
  have hb : (binOp .eql ty (sv a) (sv b)).run Try.prog w = .ok (.bool q) w := by
    have : binOp .eql ty (sv a) (sv b) = (do pure (.bool (← Op.equal ty (sv a) (sv b)))) := rfl
    rw [this]
    simp [he']
  simp [execOp, Sem.run_bind, hx, hy, hgd, hb]
end
def upd (γ : Nat → Nat) (i n : Nat) : Nat → Nat := fun j => if j = i then n else γ j
theorem upd_same (γ : Nat → Nat) (i n : Nat) : upd γ i n i = n := if_pos rfl
theorem upd_other (γ : Nat → Nat) {i j : Nat} (n : Nat) (h : j ≠ i) : upd γ i n j = γ j := if_neg h
structure ManyJ (W : World) (m : Nat) (T : Nat → TypeId) (al st : Nat → Nat) (zs xs : Nat → List Value) (γ : Nat → Nat) (L : Nat → Bool) (w : World) : Prop where
  bel : Bel W w
  one : ∀ i, i < m → L (al i) = true → W.heap.size ≤ γ i ∧ Blk (T i) w (γ i) (if L (st i) = true then xs i else zs i)
  ne : ∀ i j, i < m → j < m → i ≠ j → L (al i) = true → L (al j) = true → γ i ≠ γ j
section
variable {ops : Array Oper} {F : (Nat → Nat) → Act} {W : World} {m : Nat} {T : Nat → TypeId} {al st : Nat → Nat} {zs xs : Nat → List Value} {k : Nat} {o : Oper} {d : Tmp} {v : Value}
def noneAt (m : Nat) (al st : Nat → Nat) (k : Nat) : Bool := (List.range m).all fun i => !(al i == k) && !(st i == k)
theorem noneAt_on {m : Nat} {al st : Nat → Nat} {k : Nat} (h : noneAt m al st k = true) {i : Nat} (hi : i < m) : (al i == k) = false ∧ (st i == k) = false := by
  have := List.all_eq_true.1 h i (List.mem_range.2 hi)
  simpa using this
theorem ManyJ.on {γ : Nat → Nat} {L : Nat → Bool} {w w' : World} (h : ManyJ W m T al st zs xs γ L w) (hb : Below w.heap.size w w') (hk : noneAt m al st k = true) :
    ManyJ W m T al st zs xs γ (fun j => L j || j == k) w' := by
  obtain ⟨hB, h1, h2⟩ := h
  have ea : ∀ i, i < m → (L (al i) || al i == k) = L (al i) := fun i hi => by rw [(noneAt_on hk hi).1, Bool.or_false]
  have es : ∀ i, i < m → (L (st i) || st i == k) = L (st i) := fun i hi => by rw [(noneAt_on hk hi).2, Bool.or_false]
  refine ⟨below_then hB hb, fun i hi ha => ?_, fun i j hi hj hij ha hb' => ?_⟩
  · simp only [ea i hi] at ha
    simp only [es i hi]
    exact ⟨(h1 i hi ha).1, (h1 i hi ha).2.keep hb⟩
  · simp only [ea i hi] at ha
    simp only [ea j hj] at hb'
    exact h2 i j hi hj hij ha hb'
theorem gm_val (hd : o.dst = some d) (hw : ∀ γ, Region.wanted o (yielded ops (F γ).tmps) = true) (hv : ∀ γ, (F γ).tmps[d]? = some v) (h : ∀ γ w, Bel W w → (execOp (F γ).eval o).run Try.prog w = .ok (.value v) w)
    (hk : noneAt m al st k = true) : GStep Try.prog ops F (ManyJ W m T al st zs xs) k o := fun γ L w Kk hJ hcl hL hdep hK => by
  rw [if_pos (hw γ)]
  unfold Oper.wp
  rw [h γ w hJ.bel]
  refine hK.out γ v w ?_ (hJ.on (Below.refl _ _) hk)
  rw [hd, put_same (hv γ)]
theorem gm_call {f : FuncId} {vs : Array Value} (hd : o.dst = some d) (hw : ∀ γ, Region.wanted o (yielded ops (F γ).tmps) = true) (hv : ∀ γ, (F γ).tmps[d]? = some v) (he : ∀ γ w, (execOp (F γ).eval o).run Try.prog w = .ok (.enter f vs) w)
    (hC : ∀ w, Bel W w → Calls Try.prog f vs w (Is v w)) (hk : noneAt m al st k = true) : GStep Try.prog ops F (ManyJ W m T al st zs xs) k o := fun γ L w Kk hJ hcl hL hdep hK => by
  rw [if_pos (hw γ)]
  unfold Oper.wp
  rw [he γ w]
  show Calls _ _ _ _ _
  refine (hC w hJ.bel).mono ?_
  rintro e w' ⟨rfl, hb⟩
  refine hK.out γ v w' ?_ (hJ.on hb hk)
  rw [hd, put_same (hv γ)]
theorem gm_valg (vg : (Nat → Nat) → Value) (hd : o.dst = some d) (hw : ∀ γ, Region.wanted o (yielded ops (F γ).tmps) = true) (hv : ∀ γ, (F γ).tmps[d]? = some (vg γ)) (h : ∀ γ w, Bel W w → (execOp (F γ).eval o).run Try.prog w = .ok (.value (vg γ)) w)
    (hk : noneAt m al st k = true) : GStep Try.prog ops F (ManyJ W m T al st zs xs) k o := fun γ L w Kk hJ hcl hL hdep hK => by
  rw [if_pos (hw γ)]
  unfold Oper.wp
  rw [h γ w hJ.bel]
  refine hK.out γ (vg γ) w ?_ (hJ.on (Below.refl _ _) hk)
  rw [hd, put_same (hv γ)]
def onlyAt (m : Nat) (al st : Nat → Nat) (i k : Nat) : Bool := (al i == k) && !(st i == k) && (List.range m).all fun j => j == i || (!(al j == k) && !(st j == k))
theorem onlyAt_on {m : Nat} {al st : Nat → Nat} {i k : Nat} (h : onlyAt m al st i k = true) : al i = k ∧ (st i == k) = false ∧ ∀ j, j < m → j ≠ i → (al j == k) = false ∧ (st j == k) = false := by
  unfold onlyAt at h
  simp only [Bool.and_eq_true, beq_iff_eq] at h
  refine ⟨h.1.1, by simpa using h.1.2, fun j hj hne => ?_⟩
  have := List.all_eq_true.1 h.2 j (List.mem_range.2 hj)
  simpa [hne] using this
theorem gm_new (i : Nat) (him : Nat.blt i m = true) (hw : ∀ γ, Region.wanted o (yielded ops (F γ).tmps) = true) (hF : ∀ γ n, F (upd γ i n) = (F γ).put o.dst (.pointer (some ⟨n, 0, none⟩)))
    (h : ∀ γ w, (execOp (F γ).eval o).run Try.prog w = .ok (.value (.pointer (some ⟨w.heap.size, 0, none⟩))) (w.alloc (.cells (zs i).toArray (T i))))
    (hk : onlyAt m al st i k = true) (hwait : waitsFor ops (st i) (al i) = true) : GStep Try.prog ops F (ManyJ W m T al st zs xs) k o := fun γ L w Kk hJ hcl hL hdep hK => by
  have him' : i < m := Nat.le_of_ble_eq_true him
  obtain ⟨rfl, hs, ho⟩ := onlyAt_on hk
  rw [if_pos (hw γ)]
  unfold Oper.wp
  rw [h γ w]
  obtain ⟨hB, h1, h2⟩ := hJ
  have hb : Below w.heap.size w (w.alloc (.cells (zs i).toArray (T i))) := (Below.refl _ _).alloc (Nat.le_refl _) _
  have ls : L (st i) = false := by
    cases hq : L (st i) with
    | false => rfl
    | true => rw [waitsFor_on hcl hwait hq] at hL; cases hL
  refine hK.out (upd γ i w.heap.size) _ _ (hF γ w.heap.size) ⟨below_then hB hb, fun j hj ha => ?_, fun j j' hj hj' hne ha ha' => ?_⟩
  · by_cases hji : j = i
    · subst hji
      rw [upd_same]
      simp only [ls, hs, Bool.false_or, Bool.false_eq_true, if_false]
      exact ⟨hB.out.size, Blk.boxed _ _ w⟩
    · rw [upd_other _ _ hji]
      obtain ⟨ea, es⟩ := ho j hj hji
      simp only [ea, Bool.or_false] at ha
      simp only [es, Bool.or_false]
      exact ⟨(h1 j hj ha).1, (h1 j hj ha).2.keep hb⟩
  · by_cases hji : j = i
    · subst hji
      have hn : j' ≠ j := fun e => hne e.symm
      rw [upd_same, upd_other _ _ hn]
      simp only [(ho j' hj' hn).1, Bool.or_false] at ha'
      exact Ne.symm (Nat.ne_of_lt (h1 j' hj' ha').2.lt)
    · by_cases hji' : j' = i
      · subst hji'
        rw [upd_same, upd_other _ _ hji]
        simp only [(ho j hj hji).1, Bool.or_false] at ha
        exact Nat.ne_of_lt (h1 j hj ha).2.lt
      · rw [upd_other _ _ hji, upd_other _ _ hji']
        simp only [(ho j hj hji).1, Bool.or_false] at ha
        simp only [(ho j' hj' hji').1, Bool.or_false] at ha'
        exact h2 j j' hj hj' hne ha ha'
def writeAt (m : Nat) (al st : Nat → Nat) (i k : Nat) : Bool := (st i == k) && !(al i == k) && (List.range m).all fun j => j == i || (!(al j == k) && !(st j == k))
theorem writeAt_on {m : Nat} {al st : Nat → Nat} {i k : Nat} (h : writeAt m al st i k = true) : st i = k ∧ (al i == k) = false ∧ ∀ j, j < m → j ≠ i → (al j == k) = false ∧ (st j == k) = false := by
  unfold writeAt at h
  simp only [Bool.and_eq_true, beq_iff_eq] at h
  refine ⟨h.1.1, by simpa using h.1.2, fun j hj hne => ?_⟩
  have := List.all_eq_true.1 h.2 j (List.mem_range.2 hj)
  simpa [hne] using this
theorem gm_store (i : Nat) (him : Nat.blt i m = true) (hd : o.dst = none) (hw : ∀ γ, Region.wanted o (yielded ops (F γ).tmps) = true) (hlen : (xs i).length = (zs i).length)
    (h : ∀ (γ : Nat → Nat) w, Blk (T i) w (γ i) (zs i) → (execOp (F γ).eval o).run Try.prog w = .ok .skip (w.setCells (γ i) 0 (xs i)))
    (hk : writeAt m al st i k = true) (ho : ops[k]? = some o) (w4 : waitsFor ops k (al i) = true) :
    GStep Try.prog ops F (ManyJ W m T al st zs xs) k o := fun γ L w Kk hJ hcl hL hdep hK => by
  have him' : i < m := Nat.le_of_ble_eq_true him
  obtain ⟨rfl, hs, hoth⟩ := writeAt_on hk
  rw [if_pos (hw γ)]
  have l4 : L (al i) = true := by
    unfold waitsFor at w4
    simp only [ho] at w4
    obtain ⟨q, hq, hb⟩ := Array.any_eq_true.1 w4
    simp only [Bool.and_eq_true, beq_iff_eq] at hb
    rw [← hb.1]
    exact hdep _ (Array.getElem_mem hq) hb.2
  obtain ⟨hB, h1, h2⟩ := hJ
  obtain ⟨hle, hA⟩ := h1 i him' l4
  rw [hL, if_neg Bool.false_ne_true] at hA
  unfold Oper.wp
  rw [h γ w hA]
  have ea : ∀ j, j < m → (L (al j) || al j == st i) = L (al j) := fun j hj => by
    by_cases hji : j = i
    · subst hji; rw [hs, Bool.or_false]
    · rw [(hoth j hj hji).1, Bool.or_false]
  refine hK.out γ undef _ (by rw [hd]; rfl) ⟨Below.setCells hle _ 0 hB, fun j hj ha => ?_, fun j j' hj hj' hne ha ha' => ?_⟩
  · simp only [ea j hj] at ha
    by_cases hji : j = i
    · subst hji
      simp only [beq_self_eq_true, Bool.or_true, if_true]
      refine ⟨hle, ?_⟩
      have := Blk.setCells (xs j) 0 (by omega) hA
      simpa [hlen] using this
    · simp only [(hoth j hj hji).2, Bool.or_false]
      exact ⟨(h1 j hj ha).1, (h1 j hj ha).2.setOther (h2 j i hj him' hji ha l4) _ 0⟩
  · simp only [ea j hj] at ha
    simp only [ea j' hj'] at ha'
    exact h2 j j' hj hj' hne ha ha'
end
theorem wp_region_d {P : Program} {id : Nat} {l : List Oper} {Γ : Type} {F : Γ → Act} {J : Γ → (Nat → Bool) → World → Prop} (γ : Γ) {draw : Bool} {a : Act} {w : World} {Q : Exit → Act → World → Prop} (vs : List (Tmp × Value))
    (hm : (draw = true ∧ P.follows .mixedOrders = true) ∨ (draw = false ∧ Region.linearise .any l.toArray 0 = List.range l.toArray.size))
    (hp : planOk l.toArray = true) (hs : Region.noSelect l.toArray = true) (hk : (vs.all fun p => l.toArray.any fun o => o.dst == some p.1) = true)
    (hd : a.defers = (F γ).defers) (hF : putAll a.tmps vs = (F γ).tmps) (hJ : ∀ w', w' = w ∨ w' = w.drew → J γ (fun j => decide (l.toArray.size ≤ j)) w')
    (hsteps : GSteps P l.toArray F J 0 l) (hQ : ∀ γ L w', (∀ j, j < l.toArray.size → L j = true) → J γ L w' → Q .normal (F γ) w') : (Code.region id l.toArray draw).wp P Q a w := by
  rcases hm with ⟨rfl, hm⟩ | ⟨rfl, hl⟩
  · exact wp_region_g γ vs hm hp hs hk hd hF (hJ _ (.inr rfl)) hsteps hQ
  · have hL : onList (Array.replicate l.toArray.size false) = fun j => decide (l.toArray.size ≤ j) := by
      funext j
      unfold onList
      rcases Nat.lt_or_ge j l.toArray.size with h | h
      · simp at h; simp [h]
      · simp at h; simp [h]
    refine wp_region ?_
    rw [← hl]
    refine wpAny_sound _ 0 _ _ _ (planned_gany hp hs (fun i o ho => ?_) hQ _ _ γ _ _ (by simp) ?_ (planned_put hd hF hk) ?_ ?_)
    · have := hsteps.at (i := i) (o := o) (by simpa using ho)
      rwa [Nat.zero_add] at this
    · unfold toCome
      exact Nat.le_trans List.countP_le_length (by simp)
    · intro j oj hj hLj
      rw [hL] at hLj
      have := (Array.getElem?_eq_some_iff.1 hj).1
      simp only [decide_eq_true_eq] at hLj
      omega
    · rw [hL]; exact hJ _ (.inl rfl)
theorem wp_region_m {id : Nat} {l : List Oper} {draw : Bool} {F : (Nat → Nat) → Act} {a : Act} {W : World} {Q : Exit → Act → World → Prop} (m : Nat) (T : Nat → TypeId) (al st : Nat → Nat) (zs xs : Nat → List Value) (vs : List (Tmp × Value))
    (hm : (draw = true ∧ Try.prog.follows .mixedOrders = true) ∨ (draw = false ∧ Region.linearise .any l.toArray 0 = List.range l.toArray.size))
    (hp : planOk l.toArray = true) (hs : Region.noSelect l.toArray = true) (hk : (vs.all fun p => l.toArray.any fun o => o.dst == some p.1) = true)
    (hd : a.defers = (F fun _ => 0).defers) (hF : putAll a.tmps vs = (F fun _ => 0).tmps)
    (hb : ((List.range m).all fun i => Nat.blt (al i) l.length && Nat.blt (st i) l.length) = true)
    (hsteps : GSteps Try.prog l.toArray F (ManyJ W m T al st zs xs) 0 l)
    (hQ : ∀ (γ : Nat → Nat) (w' : World), Bel W w' → (∀ i, i < m → W.heap.size ≤ γ i ∧ Blk (T i) w' (γ i) (xs i)) → (∀ i j, i < m → j < m → i ≠ j → γ i ≠ γ j) → Q .normal (F γ) w') : (Code.region id l.toArray draw).wp Try.prog Q a W := by
  have lt : ∀ i, i < m → al i < l.length ∧ st i < l.length := fun i hi => by
    have := List.all_eq_true.1 hb i (List.mem_range.2 hi)
    simp only [Bool.and_eq_true] at this
    exact ⟨Nat.le_of_ble_eq_true this.1, Nat.le_of_ble_eq_true this.2⟩
  refine wp_region_d (J := ManyJ W m T al st zs xs) (fun _ => 0) vs hm hp hs hk hd hF ?_ hsteps ?_
  · have fa : ∀ i, i < m → decide (l.toArray.size ≤ al i) = false := fun i hi => decide_eq_false (by have := (lt i hi).1; simp; omega)
    refine fun w' hw' => ⟨by rcases hw' with rfl | rfl; exact Below.refl _ _; exact Bel.start W, fun i hi ha => ?_, fun i j hi hj hij ha _ => ?_⟩
    · rw [fa i hi] at ha; cases ha
    · rw [fa i hi] at ha; cases ha
  · rintro γ L w' hall ⟨hB, h1, h2⟩
    have la : ∀ i, i < m → L (al i) = true := fun i hi => hall _ (by simpa using (lt i hi).1)
    have ls : ∀ i, i < m → L (st i) = true := fun i hi => hall _ (by simpa using (lt i hi).2)
    refine hQ γ w' hB (fun i hi => ?_) (fun i j hi hj hij => h2 i j hi hj hij (la i hi) (la j hj))
    obtain ⟨a1, a2⟩ := h1 i hi (la i hi)
    rw [ls i hi, if_pos rfl] at a2
    exact ⟨a1, a2⟩
def LateJ {Γ : Type} (J : Γ → (Nat → Bool) → World → Prop) (s : Nat) (g o : Nat) (ys : List Value) (γ : Γ) (L : Nat → Bool) (w : World) : Prop :=
  (L s = false → J γ L w) ∧ (L s = true → ∃ w0, J γ L w0 ∧ w = w0.setCells g o ys)
theorem late_step {P : Program} {ops : Array Oper} {Γ : Type} {F : Γ → Act} {J : Γ → (Nat → Bool) → World → Prop} {s g p : Nat} {ys : List Value} {k : Nat} {o : Oper} (h : GStep P ops F J k o) (hw : waitsFor ops s k = true) (hne : (s == k) = false) : GStep P ops F (LateJ J s g p ys) k o := fun γ L w Kk hJ hcl hL hdep hK => by
  have ls : L s = false := by
    cases hq : L s with
    | false => rfl
    | true => rw [waitsFor_on hcl hw hq] at hL; cases hL
  refine h γ L w Kk (hJ.1 ls) hcl hL hdep (fun γ' v w' hF hJ' => hK.out γ' v w' hF ⟨fun _ => hJ', fun h1 => ?_⟩)
  simp [ls, hne] at h1
theorem late_store {ops : Array Oper} {F : (Nat → Nat) → Act} {W : World} {m : Nat} {T : Nat → TypeId} {al st : Nat → Nat} {zs xs : Nat → List Value} {k g p : Nat} {ys : List Value} {o : Oper} (hd : o.dst = none) (hw : ∀ γ, Region.wanted o (yielded ops (F γ).tmps) = true)
    (h : ∀ γ w, Bel W w → (execOp (F γ).eval o).run Try.prog w = .ok .skip (w.setCells g p ys)) (hk : noneAt m al st k = true) :
    GStep Try.prog ops F (LateJ (ManyJ W m T al st zs xs) k g p ys) k o := fun γ L w Kk hJ hcl hL hdep hK => by
  have hJ' := hJ.1 hL
  rw [if_pos (hw γ)]
  unfold Oper.wp
  rw [h γ w hJ'.bel]
  refine hK.out γ undef _ (by rw [hd]; rfl) ⟨fun h1 => ?_, fun _ => ⟨w, hJ'.on (Below.refl _ _) hk, rfl⟩⟩
  simp at h1
theorem wp_region_ms {id : Nat} {l : List Oper} {draw : Bool} {F : (Nat → Nat) → Act} {a : Act} {W : World} {Q : Exit → Act → World → Prop} (s g p : Nat) (ys : List Value) (m : Nat) (T : Nat → TypeId) (al st : Nat → Nat) (zs xs : Nat → List Value) (vs : List (Tmp × Value))
    (hm : (draw = true ∧ Try.prog.follows .mixedOrders = true) ∨ (draw = false ∧ Region.linearise .any l.toArray 0 = List.range l.toArray.size))
    (hp : planOk l.toArray = true) (hs : Region.noSelect l.toArray = true) (hk : (vs.all fun p => l.toArray.any fun o => o.dst == some p.1) = true)
    (hd : a.defers = (F fun _ => 0).defers) (hF : putAll a.tmps vs = (F fun _ => 0).tmps)
    (hb : ((List.range m).all fun i => Nat.blt (al i) l.length && Nat.blt (st i) l.length) = true) (hbs : Nat.blt s l.length = true)
    (hsteps : GSteps Try.prog l.toArray F (LateJ (ManyJ W m T al st zs xs) s g p ys) 0 l)
    (hQ : ∀ (γ : Nat → Nat) (w' : World), Bel W w' → (∀ i, i < m → W.heap.size ≤ γ i ∧ Blk (T i) w' (γ i) (xs i)) → (∀ i j, i < m → j < m → i ≠ j → γ i ≠ γ j) → Q .normal (F γ) (w'.setCells g p ys)) : (Code.region id l.toArray draw).wp Try.prog Q a W := by
  have lt : ∀ i, i < m → al i < l.length ∧ st i < l.length := fun i hi => by
    have := List.all_eq_true.1 hb i (List.mem_range.2 hi)
    simp only [Bool.and_eq_true] at this
    exact ⟨Nat.le_of_ble_eq_true this.1, Nat.le_of_ble_eq_true this.2⟩
  have hsl : s < l.length := Nat.le_of_ble_eq_true hbs
  refine wp_region_d (J := LateJ (ManyJ W m T al st zs xs) s g p ys) (fun _ => 0) vs hm hp hs hk hd hF ?_ hsteps ?_
  · have fa : ∀ i, i < m → decide (l.toArray.size ≤ al i) = false := fun i hi => decide_eq_false (by have := (lt i hi).1; simp; omega)
    have fs : decide (l.toArray.size ≤ s) = false := decide_eq_false (by simp; omega)
    refine fun w' hw' => ⟨fun _ => ⟨by rcases hw' with rfl | rfl; exact Below.refl _ _; exact Bel.start W, fun i hi ha => ?_, fun i j hi hj hij ha _ => ?_⟩, fun h => ?_⟩
    · rw [fa i hi] at ha; cases ha
    · rw [fa i hi] at ha; cases ha
    · have h' : decide (l.toArray.size ≤ s) = true := h
      rw [fs] at h'
      cases h'
  · rintro γ L w' hall ⟨_, hJ⟩
    obtain ⟨w0, ⟨hB, h1, h2⟩, rfl⟩ := hJ (hall s (by simpa using hsl))
    have la : ∀ i, i < m → L (al i) = true := fun i hi => hall _ (by simpa using (lt i hi).1)
    have ls : ∀ i, i < m → L (st i) = true := fun i hi => hall _ (by simpa using (lt i hi).2)
    refine hQ γ w0 hB (fun i hi => ?_) (fun i j hi hj hij => h2 i j hi hj hij (la i hi) (la j hj))
    obtain ⟨a1, a2⟩ := h1 i hi (la i hi)
    rw [ls i hi, if_pos rfl] at a2
    exact ⟨a1, a2⟩
def St (w w' : World) (g o : Nat) (ys : List Value) : Prop := w' = w.setCells g o ys
theorem St.below {w w' : World} {g o : Nat} {ys : List Value} (h : St w w' g o ys) {B : Nat} {w0 : World} (hb : Below B w0 w) (hg : B ≤ g) : Below B w0 w' := by
  rw [show w' = _ from h]; exact Below.setCells hg _ _ hb
theorem St.other {w w' : World} {g o : Nat} {ys : List Value} (h : St w w' g o ys) {t : TypeId} {g' : Nat} {l : List Seg} (hne : g' ≠ g) (k : SB t w g' l) : SB t w' g' l := by
  rw [show w' = _ from h]; exact Blk.setOther hne _ _ k
theorem St.here {w w' : World} {g o : Nat} {m : List Seg} (h : St w w' g o (segs m)) {t : TypeId} {l l' : List Seg} (k j : Nat) (hA : SB t w g l) (ho : szB (l.take k) o = true) (hm : szS ((l.drop k).take j) m = true) (hl : l.take k ++ (m ++ (l.drop k).drop j) = l') : SB t w' g l' := by
  rw [show w' = _ from h]; exact hA.stored k j ho hm hl
theorem len_segs {l l' : List Seg} (h : szS l l' = true) : (segs l).length = (segs l').length := by
  rw [segs_len, segs_len, szS_eq h]
section
variable {ops : Array Oper} {F : (Nat → Nat) → Act} {W : World} {m : Nat} {T : Nat → TypeId} {al st : Nat → Nat} {zs xs : Nat → List Value} {k : Nat} {o : Oper} {d : Tmp} {v : Value}
theorem gm_box (i : Nat) (him : Nat.blt i m = true) (hw : ∀ γ, Region.wanted o (yielded ops (F γ).tmps) = true) (hF : ∀ γ n, F (upd γ i n) = (F γ).put o.dst (.pointer (some ⟨n, 0, none⟩)))
    (h : ∀ γ w, Bel W w → (execOp (F γ).eval o).run Try.prog w = .ok (.value (.pointer (some ⟨w.heap.size, 0, none⟩))) (w.alloc (.cells (xs i).toArray (T i))))
    (hal : al i = k) (hst : st i = k) (hk : ((List.range m).all fun j => j == i || (!(al j == k) && !(st j == k))) = true) : GStep Try.prog ops F (ManyJ W m T al st zs xs) k o := fun γ L w Kk hJ hcl hL hdep hK => by
  have him' : i < m := Nat.le_of_ble_eq_true him
  have ho : ∀ j, j < m → j ≠ i → (al j == k) = false ∧ (st j == k) = false := fun j hj hne => by
    have := List.all_eq_true.1 hk j (List.mem_range.2 hj)
    simpa [hne] using this
  rw [if_pos (hw γ)]
  unfold Oper.wp
  rw [h γ w hJ.bel]
  obtain ⟨hB, h1, h2⟩ := hJ
  have hb : Below w.heap.size w (w.alloc (.cells (xs i).toArray (T i))) := (Below.refl _ _).alloc (Nat.le_refl _) _
  refine hK.out (upd γ i w.heap.size) _ _ (hF γ w.heap.size) ⟨below_then hB hb, fun j hj ha => ?_, fun j j' hj hj' hne ha ha' => ?_⟩
  · by_cases hji : j = i
    · subst hji
      rw [upd_same]
      simp only [hst, beq_self_eq_true, Bool.or_true, if_true]
      exact ⟨hB.out.size, Blk.boxed _ _ w⟩
    · rw [upd_other _ _ hji]
      obtain ⟨ea, es⟩ := ho j hj hji
      simp only [ea, Bool.or_false] at ha
      simp only [es, Bool.or_false]
      exact ⟨(h1 j hj ha).1, (h1 j hj ha).2.keep hb⟩
  · by_cases hji : j = i
    · subst hji
      have hn : j' ≠ j := fun e => hne e.symm
      rw [upd_same, upd_other _ _ hn]
      simp only [(ho j' hj' hn).1, Bool.or_false] at ha'
      exact Ne.symm (Nat.ne_of_lt (h1 j' hj' ha').2.lt)
    · by_cases hji' : j' = i
      · subst hji'
        rw [upd_same, upd_other _ _ hji]
        simp only [(ho j hj hji).1, Bool.or_false] at ha
        exact Nat.ne_of_lt (h1 j hj ha).2.lt
      · rw [upd_other _ _ hji, upd_other _ _ hji']
        simp only [(ho j hj hji).1, Bool.or_false] at ha
        simp only [(ho j' hj' hji').1, Bool.or_false] at ha'
        exact h2 j j' hj hj' hne ha ha'
end
def takes (F : Act) (ds : List Tmp) : List (Tmp × Value) := ds.map fun d => (d, F.tmps.getD d undef)
def merge (ds : List Tmp) : Nat → List Value → List Value → List Value
  | k, x :: xs, y :: ys => (match ds.elem k with | true => y | false => x) :: merge ds (k + 1) xs ys
  | _, _, _ => []
theorem merge_get (ds : List Tmp) : ∀ (xs ys : List Value) (k i : Nat), i < xs.length → xs.length = ys.length → (merge ds k xs ys)[i]? = if ds.elem (k + i) = true then ys[i]? else xs[i]?
  | [], _, _, _, h, _ => absurd h (Nat.not_lt_zero _)
  | x :: xs, [], _, _, _, h => by simp at h
  | x :: xs, y :: ys, k, 0, _, _ => by
    show some (match ds.elem k with | true => y | false => x) = _
    rw [Nat.add_zero]
    cases ds.elem k <;> rfl
  | x :: xs, y :: ys, k, i + 1, h, hl => by
    show (merge ds (k + 1) xs ys)[i]? = _
    rw [merge_get ds xs ys (k + 1) i (by simpa using h) (by simpa using hl), show k + 1 + i = k + (i + 1) by omega]
    rfl
theorem putAll_takes (F : Act) : ∀ (ds : List Tmp) (ts : Array Value) (i : Nat), (putAll ts (takes F ds))[i]? = if ds.elem i = true ∧ i < ts.size then some (F.tmps.getD i undef) else ts[i]?
  | [], ts, i => by simp [takes, putAll]
  | d :: ds, ts, i => by
    show (putAll (ts.setIfInBounds d (F.tmps.getD d undef)) (takes F ds))[i]? = _
    rw [putAll_takes F ds]
    rw [Array.size_setIfInBounds, Array.getElem?_setIfInBounds]
    by_cases h : d = i
    · subst h
      by_cases hs : d < ts.size <;> simp [hs]
    · have h' : ¬ i = d := fun e => h e.symm
      simp [h, h']
theorem put_merge {a F : Act} {ds : List Tmp} (hs : Nat.beq a.tmps.size F.tmps.size = true) (h : merge ds 0 a.tmps.toList F.tmps.toList = F.tmps.toList) : putAll a.tmps (takes F ds) = F.tmps := by
  have hs' := Nat.eq_of_beq_eq_true hs
  apply Array.ext_getElem?
  intro i
  rw [putAll_takes]
  by_cases hi : i < a.tmps.size
  · have h1 : (merge ds 0 a.tmps.toList F.tmps.toList)[i]? = F.tmps.toList[i]? := by rw [h]
    rw [merge_get ds _ _ 0 i (by simpa using hi) (by simpa using hs'), Nat.zero_add] at h1
    by_cases hd : ds.elem i = true
    · rw [if_pos ⟨hd, hi⟩]
      rw [Array.getD_eq_getD_getElem?, Array.getElem?_eq_getElem (by omega)]
      rfl
    · rw [if_neg (fun h => hd h.1)]
      rw [if_neg hd] at h1
      simpa using h1
  · rw [if_neg (fun h => hi h.2), Array.getElem?_eq_none (by omega), Array.getElem?_eq_none (by omega)]
theorem region_m {id : Nat} {l : List Oper} {draw : Bool} {F : (Nat → Nat) → Act} {a : Act} {W : World} {Q : Exit → Act → World → Prop} (m : Nat) (T : Nat → TypeId) (al st : Nat → Nat) (zs xs : Nat → List Value) (ds : List Tmp)
    (hm : (draw = true ∧ Try.prog.follows .mixedOrders = true) ∨ (draw = false ∧ Region.linearise .any l.toArray 0 = List.range l.toArray.size))
    (hp : (planOk l.toArray && Region.noSelect l.toArray && (ds.all fun d => l.toArray.any fun o => o.dst == some d) && ((List.range m).all fun i => Nat.blt (al i) l.length && Nat.blt (st i) l.length)) = true)
    (hd : a.defers = (F fun _ => 0).defers) (hsz : Nat.beq a.tmps.size (F fun _ => 0).tmps.size = true) (hF : merge ds 0 a.tmps.toList (F fun _ => 0).tmps.toList = (F fun _ => 0).tmps.toList)
    (hsteps : GSteps Try.prog l.toArray F (ManyJ W m T al st zs xs) 0 l)
    (hQ : ∀ (γ : Nat → Nat) (w' : World), Bel W w' → (∀ i, i < m → W.heap.size ≤ γ i ∧ Blk (T i) w' (γ i) (xs i)) → (∀ i j, i < m → j < m → i ≠ j → γ i ≠ γ j) → Q .normal (F γ) w') : (Code.region id l.toArray draw).wp Try.prog Q a W := by
  simp only [Bool.and_eq_true] at hp
  obtain ⟨⟨⟨h1, h2⟩, h3⟩, h4⟩ := hp
  exact wp_region_m m T al st zs xs _ hm h1 h2 (by simpa [takes] using h3) hd (put_merge hsz hF) h4 hsteps hQ
theorem region_ms {id : Nat} {l : List Oper} {draw : Bool} {F : (Nat → Nat) → Act} {a : Act} {W : World} {Q : Exit → Act → World → Prop} (s g p : Nat) (ys : List Value) (m : Nat) (T : Nat → TypeId) (al st : Nat → Nat) (zs xs : Nat → List Value) (ds : List Tmp)
    (hm : (draw = true ∧ Try.prog.follows .mixedOrders = true) ∨ (draw = false ∧ Region.linearise .any l.toArray 0 = List.range l.toArray.size))
    (hp : (planOk l.toArray && Region.noSelect l.toArray && (ds.all fun d => l.toArray.any fun o => o.dst == some d) && ((List.range m).all fun i => Nat.blt (al i) l.length && Nat.blt (st i) l.length) && Nat.blt s l.length) = true)
    (hd : a.defers = (F fun _ => 0).defers) (hsz : Nat.beq a.tmps.size (F fun _ => 0).tmps.size = true) (hF : merge ds 0 a.tmps.toList (F fun _ => 0).tmps.toList = (F fun _ => 0).tmps.toList)
    (hsteps : GSteps Try.prog l.toArray F (LateJ (ManyJ W m T al st zs xs) s g p ys) 0 l)
    (hQ : ∀ (γ : Nat → Nat) (w' w'' : World), Bel W w' → (∀ i, i < m → W.heap.size ≤ γ i ∧ Blk (T i) w' (γ i) (xs i)) → (∀ i j, i < m → j < m → i ≠ j → γ i ≠ γ j) → St w' w'' g p ys → Q .normal (F γ) w'') : (Code.region id l.toArray draw).wp Try.prog Q a W := by
  simp only [Bool.and_eq_true] at hp
  obtain ⟨⟨⟨⟨h1, h2⟩, h3⟩, h4⟩, h5⟩ := hp
  exact wp_region_ms s g p ys m T al st zs xs _ hm h1 h2 (by simpa [takes] using h3) hd (put_merge hsz hF) h4 h5 hsteps (fun γ w' hB h1 h2 => hQ γ w' _ hB h1 h2 rfl)
def resG (tmps : Array Value) : ResultVar → Sem Value
  | .tmp t => pure (tmps.getD t undef)
  | .cell a t => do loadVar t (← asAddr (tmps.getD a undef))
def ResOk (r : ResultVar) (tmps : Array Value) (w : World) (v : Value) : Prop := (resG tmps r).run Try.prog w = .ok v w
theorem res_tmp {k : Nat} {tmps : Array Value} {w : World} {v : Value} (hk : tmps.getD k undef = v) : ResOk (.tmp k) tmps w v := by
  subst hk; rfl
theorem res_sv' {k g : Nat} {t ty : TypeId} {tmps : Array Value} {w : World} {l : List Seg} (hk : tmps.getD k undef = .pointer (some ⟨g, 0, none⟩)) (h : SB t w g l) (hf : Flat ty (ssize l)) : ResOk (.cell k ty) tmps w (sv l) := by
  have h1 := run_load_cv (o := 0) h hf (by rw [segs_len]; omega)
  have h2 : ((segs l).drop 0).take (ssize l) = segs l := by rw [List.drop_zero, ← segs_len, List.take_length]
  rw [h2] at h1
  simp [ResOk, resG, hk, asAddr]
  simpa [Instr.loadAt, Instr.sureAddr, Sem.run_bind, sv] using h1
theorem res_sv {k g : Nat} {t ty : TypeId} {tmps : Array Value} {w : World} {l : List Seg} (hk : tmps.getD k undef = .pointer (some ⟨g, 0, none⟩)) (h : SB t w g l) {n : Nat} (hf : Flat ty n) (hn : szB l n = true) : ResOk (.cell k ty) tmps w (sv l) := by
  obtain rfl := szB_eq hn
  exact res_sv' hk h hf
theorem res_nv {k g K : Nat} {t ty : TypeId} {tmps : Array Value} {w : World} {l : List Nat} (hk : tmps.getD k undef = .pointer (some ⟨g, 0, none⟩)) (h : SB t w g (l.map (Seg.n K))) {n : Nat} (hf : Flat ty n) (hn : Nat.beq (K * l.length) n = true) : ResOk (.cell k ty) tmps w (nv K l) := by
  rw [nv_sv]
  obtain rfl := Nat.eq_of_beq_eq_true hn
  exact res_sv' hk h (by rw [← segs_len, segs_nums, cellsOf_len, rows_len]; exact hf)
theorem results_g (fn : Func) (tmps : Array Value) : results fn tmps = (do let vs ← fn.results.mapM (resG tmps); pure (if h : vs.size = 1 then vs[0] else .tuple vs)) := by
  have e : (fun r : ResultVar => (match r with | .tmp t => pure (tmps.getD t undef) | .cell a t => do loadVar t (← asAddr (tmps.getD a undef)) : Sem Value)) = resG tmps := by
    funext r
    cases r <;> rfl
  rw [← e]
  rfl
theorem ret1 {fn : Func} {tmps : Array Value} {w : World} {r : ResultVar} {v : Value} (hr : fn.results = #[r]) (h : ResOk r tmps w v) : (results fn tmps).run Try.prog w = .ok v w := by
  unfold ResOk at h
  rw [results_g, hr]
  simp [h]
theorem ret2 {fn : Func} {tmps : Array Value} {w : World} {r r' : ResultVar} {v v' : Value} (hr : fn.results = #[r, r']) (h : ResOk r tmps w v) (h' : ResOk r' tmps w v') : (results fn tmps).run Try.prog w = .ok (.tuple #[v, v']) w := by
  unfold ResOk at h h'
  rw [results_g, hr]
  simp [Sem.run_bind, h, h']
end Go.Proofs.Ytkkmekdhejhapaa
