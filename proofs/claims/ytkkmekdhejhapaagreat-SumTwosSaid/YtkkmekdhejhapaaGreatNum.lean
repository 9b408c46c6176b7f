/- What is proved here: blocks of memory that hold a row of limbs, of whatever type; numbers as rows of limbs; what a call leaves that makes memory and answers a value. -/
import Derived.Test.YtkkmekdhejhapaaGreatOwn
import Derived.Test.YtkkmekdhejhapaaGreatShort
import Derived.Test.YtkkmekdhejhapaaGreatMontRow
namespace Go.Proofs.YtkkmekdhejhapaaGreat
open Go.RowKit
def Arr (t : TypeId) (w : World) (g : Nat) (xs : List Nat) : Prop := w.heap[g]? = some (.cells (cellsOf xs).toArray t (0, 0))
theorem Arr.lt {t : TypeId} {w : World} {g : Nat} {xs : List Nat} (h : Arr t w g xs) : g < w.heap.size := (Array.getElem?_eq_some_iff.1 h).1
theorem Arr.cell {t : TypeId} {w : World} {g : Nat} {xs : List Nat} (h : Arr t w g xs) {i : Nat} (hi : i < xs.length) : w.cell? ⟨g, i, none⟩ = some (.int .u64 ((lm xs i : Nat) : Int)) := by
  rw [cell_of_row w g i _ _ (0, 0) h]
  simpa using cellsOf_get hi
theorem Arr.frozen {t : TypeId} {w : World} {g : Nat} {xs : List Nat} (h : Arr t w g xs) (i : Nat) : w.frozen? ⟨g, i, none⟩ = false := frozen_of_row w g i _ _ h
theorem Arr.set {t : TypeId} {w : World} {g : Nat} {xs : List Nat} (h : Arr t w g xs) (i x : Nat) : Arr t (w.setCell ⟨g, i, none⟩ (.int .u64 (x : Int))) g (xs.set i x) := by
  unfold Arr
  rw [heap_setCell_same w g i _ _ _ h]
  simp [cellsOf, List.map_set]
theorem Arr.below {t : TypeId} {w w' : World} {g : Nat} {xs : List Nat} (h : Arr t w g xs) {B : Nat} (hB : g < B) (hb : Below B w w') : Arr t w' g xs := by
  unfold Arr; rw [hb.block g hB]; exact h
theorem Arr.keep {t : TypeId} {w w' : World} {g : Nat} {xs : List Nat} (h : Arr t w g xs) (hb : Below w.heap.size w w') : Arr t w' g xs := h.below h.lt hb
theorem Arr.alloc {t : TypeId} {w : World} {g : Nat} {xs : List Nat} (h : Arr t w g xs) (o : Obj) : Arr t (w.alloc o) g xs := by
  unfold Arr; rw [Below.heap_alloc _ _ _ h.lt]; exact h
def lb (n i : Nat) : Nat := n / 2 ^ (64 * i) % 2 ^ 64
theorem lb_lt (n i : Nat) : lb n i < 2 ^ 64 := Nat.mod_lt _ (by decide)
theorem lb_hi {N : Nat} (h : N < 2 ^ 64) (i : Nat) : lb N (i + 1) = 0 := by
  unfold lb
  rw [Nat.div_eq_of_lt, Nat.zero_mod]
  exact Nat.lt_of_lt_of_le h (Nat.pow_le_pow_right (by decide) (by omega))
theorem lb_row {K v i : Nat} (h : i < K) : lm (row K v) i = lb v i := lm_row K v i h
def Is (v : Value) (w : World) (e : Ending) (w' : World) : Prop := e = .returned v ∧ Below w.heap.size w w'
theorem Arr.rc {t : TypeId} {w : World} {g K v : Nat} (h : Arr t w g (row K v)) (i : Nat) (hi : i < K) : w.cell? ⟨g, i, none⟩ = some (.int .u64 ((lb v i : Nat) : Int)) := by
  have := h.cell (i := i) (by rw [length_row]; exact hi)
  rwa [lb_row hi] at this
theorem Arr.vrow {t : TypeId} {w : World} {g K v : Nat} (h : Arr t w g (row K v)) : View w (some ⟨g, 0, none⟩) K (row K v) := by
  refine ⟨length_row _ _, small_row _ _, fun i hi => ⟨g, 0, rfl, h.lt, ?_⟩⟩
  rw [Nat.zero_add]
  exact h.cell (by rw [length_row]; exact hi)
theorem View.drew {w : World} {a : Option Addr} {n : Nat} {xs : List Nat} (h : View w a n xs) : View w.drew a n xs := h.below (Nat.le_refl _) (Below.refl _ _).drew
theorem View.drewN {w : World} {a : Option Addr} {n : Nat} {xs : List Nat} (h : View w a n xs) (k : Nat) : View (w.drewN k) a n xs := h.below (Nat.le_refl _) (below_drewN (Below.refl _ _) k)
theorem row_sub {K a m : Nat} (h : m ≤ a) : row K (a + 2 ^ (64 * K) - m) = row K (a - m) := by
  rw [← row_mod K (a + 2 ^ (64 * K) - m), ← row_mod K (a - m)]
  congr 1
  generalize 2 ^ (64 * K) = P
  rw [show a + P - m = (a - m) + P by omega, Nat.add_mod_right]
theorem Arr.drew {t : TypeId} {w : World} {g : Nat} {xs : List Nat} (h : Arr t w g xs) : Arr t w.drew g xs := h
def AddsTo (K v : Nat) (w : World) (e : Ending) (w' : World) : Prop :=
  ∃ g c : Nat, e = .returned (.tuple #[.slice (some ⟨g, 0, none⟩) K K, .int .u64 (c : Int)]) ∧ Own w' g (row K v) ∧ w.heap.size ≤ g ∧ Below w.heap.size w w'
theorem natAdd_of (a a' : Option Addr) {K : Nat} (x y : Nat) (w : World) (hK : K ≤ 16) (hx : x < 2 ^ (64 * K)) (hy : y < 2 ^ (64 * K)) (hv : View w a K (row K x)) (hv' : View w a' K (row K y)) :
    Calls Tryz.prog 168 #[.slice a K K, .slice a' K K] w (AddsTo K (x + y) w) := by
  have hm : K ≤ maxLen := by unfold maxLen; omega
  have := add_short a K K (row K x) a' K K (row K y) w (Nat.le_refl _) hm (Nat.le_refl _) hm hv hv' hK hK
  rw [val_row_of hx, val_row_of hy, Nat.max_self] at this
  exact this.mono fun e w' ⟨g, h1, h2, h3, h4⟩ => ⟨g, _, h1, h2, h3, h4⟩
theorem natSub_ge (a a' : Option Addr) {K : Nat} (x y : Nat) (w : World) (hK : K ≤ 16) (hx : x < 2 ^ (64 * K)) (hy : y < 2 ^ (64 * K)) (hv : View w a K (row K x)) (hv' : View w a' K (row K y)) (h : y ≤ x) :
    Calls Tryz.prog 173 #[.slice a K K, .slice a' K K] w (Makes2 K (x - y) 0 w) := by
  have hm : K ≤ maxLen := by unfold maxLen; omega
  have := sub_short a K K (row K x) a' K K (row K y) w (Nat.le_refl _) hm (Nat.le_refl _) hm hv hv' hK hK
  rw [val_row_of hx, val_row_of hy, Nat.max_self, show ltN x y = 0 from if_neg (by omega)] at this
  refine this.mono ?_
  rintro e w' ⟨g, rfl, ho, hg, hb⟩
  rw [row_sub h] at ho
  exact ⟨g, rfl, ho, hg, hb⟩
theorem natSub_lt (a a' : Option Addr) {K : Nat} (x y : Nat) (w : World) (hK : K ≤ 16) (hx : x < 2 ^ (64 * K)) (hy : y < 2 ^ (64 * K)) (hv : View w a K (row K x)) (hv' : View w a' K (row K y)) (h : x < y) :
    Calls Tryz.prog 173 #[.slice a K K, .slice a' K K] w (Makes2 K (x + 2 ^ (64 * K) - y) 1 w) := by
  have hm : K ≤ maxLen := by unfold maxLen; omega
  have := sub_short a K K (row K x) a' K K (row K y) w (Nat.le_refl _) hm (Nat.le_refl _) hm hv hv' hK hK
  rwa [val_row_of hx, val_row_of hy, Nat.max_self, show ltN x y = 1 from if_pos h] at this
theorem row_sub_add {K x y v m : Nat} (hv : v = x + m - y) (hm : y ≤ m) (hp : y < 2 ^ (64 * K)) : row K (x + 2 ^ (64 * K) - y + m) = row K v := by
  rw [← row_mod K (x + 2 ^ (64 * K) - y + m), ← row_mod K v]
  congr 1
  revert hp
  generalize 2 ^ (64 * K) = P
  intro hp
  rw [show x + P - y + m = v + P by omega, Nat.add_mod_right]
theorem wpList_copy_arr (w : World) {ops : Array Oper} {rest : List Oper} {o : Oper} {a : Act} {Q : Exit → Act → World → Prop} (hgd : o.guard = none) (d s : Operand)
    (ho : o.op = .call { callee := .builtin .copy, args := #[d, s], argTypes := #[103, 103] })
    (t : TypeId) (g N K cd : Nat) (ds xs : List Nat) (ad : Option Addr) (cs : Nat) (hd : a.eval d = .slice (some ⟨g, 0, none⟩) K cd) (hs : a.eval s = .slice ad N cs) (hN : N = K)
    (hg : Arr t w g ds) (hl : ds.length = K) (hv : View w ad N xs) (hK : 1 ≤ K)
    (h : ∀ w', Arr t w' g xs → Below g w w' → wpList Tryz.prog ops Q rest (a.put o.dst (goInt K)) w') :
    wpList Tryz.prog ops Q (o :: rest) a w := by
  subst hN
  have hcl : (cellsOf xs).length = N := by simp [cellsOf, hv.len]
  obtain ⟨b, off, rfl, _, _⟩ := hv.cell 0 (by omega)
  refine wpList_copy_own hgd d s _ _ ho 22 Tryz.underlying103 Tryz.sizeU g 0 N cd ⟨b, off, none⟩ N cs hd hs (cellsOf ds).toArray t hg (cellsOf xs) (by rw [hcl]; exact (Nat.min_self N).symm) ?_ (by simp [cellsOf, hl, hv.len]) ?_ ?_
  · intro j v hj
    have hjn : j < xs.length := by
      have := (List.getElem?_eq_some_iff.1 hj).1
      rw [hcl, ← hv.len] at this
      exact this
    rw [cellsOf_get hjn] at hj
    cases hj
    obtain ⟨_, _, e, _, hc⟩ := hv.cell j (by rw [← hv.len]; exact hjn)
    cases e
    rw [Go.WideShapes.add_plain]
    exact hc
  · intro v hv'
    simp only [cellsOf, List.mem_map] at hv'
    obtain ⟨y, _, rfl⟩ := hv'
    rfl
  · have e : (cellsOf ds).toArray.toList.take 0 ++ (cellsOf xs ++ (cellsOf ds).toArray.toList.drop (0 + (cellsOf xs).length)) = cellsOf xs := by
      rw [List.take_zero, List.nil_append, Nat.zero_add, hcl, List.drop_eq_nil_of_le (by simp [cellsOf, hl]), List.append_nil]
    rw [e, hcl]
    refine h _ ?_ ?_
    · unfold Arr
      rw [setRow_heap w g _ _ _ _ hg]
    · refine ⟨rfl, rfl, rfl, by simp, fun k hk => ?_⟩
      rw [setRow_other w g k _ (by omega)]
end Go.Proofs.YtkkmekdhejhapaaGreat
