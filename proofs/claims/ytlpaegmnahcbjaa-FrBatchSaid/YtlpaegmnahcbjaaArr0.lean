/- What is proved here: blocks of memory that hold a row of limbs, of whatever type. -/
import Derived.Test.YtlpaegmnahcbjaaOwn
namespace Go.Proofs.Ytlpaegmnahcbjaa
open Go.RowKit

/-- A block holds a row of limbs. -/
def Arr (t : TypeId) (w : World) (g : Nat) (xs : List Nat) : Prop := w.heap[g]? = some (.cells (cellsOf xs).toArray t (0, 0))

theorem Arr.lt {t : TypeId} {w : World} {g : Nat} {xs : List Nat} (h : Arr t w g xs) : g < w.heap.size := (Array.getElem?_eq_some_iff.1 h).1

theorem Arr.cell {t : TypeId} {w : World} {g : Nat} {xs : List Nat} (h : Arr t w g xs) {i : Nat} (hi : i < xs.length) : w.cell? ⟨g, i, none⟩ = some (.int .u64 ((lm xs i : Nat) : Int)) := by
  rw [cell_of_row w g i _ _ (0, 0) h]
  simpa using cellsOf_get hi

theorem Arr.frozen {t : TypeId} {w : World} {g : Nat} {xs : List Nat} (h : Arr t w g xs) (i : Nat) : w.frozen? ⟨g, i, none⟩ = false := frozen_of_row w g i _ _ h

theorem Arr.set {t : TypeId} {w : World} {g : Nat} {xs : List Nat} (h : Arr t w g xs) (i x : Nat) : Arr t (w.setCell ⟨g, i, none⟩ (.int .u64 (x : Int))) g (xs.set i x) := by
  unfold Arr
  rw [heap_setCell_same w g i _ _ _ h]
  simp [cellsOf, List.map_set]

theorem Arr.below {t : TypeId} {w w' : World} {g : Nat} {xs : List Nat} (h : Arr t w g xs) {B : Nat} (hB : g < B) (hb : Below B w w') : Arr t w' g xs := by
  unfold Arr; rw [hb.block g hB]; exact h

theorem Arr.keep {t : TypeId} {w w' : World} {g : Nat} {xs : List Nat} (h : Arr t w g xs) (hb : Below w.heap.size w w') : Arr t w' g xs := h.below h.lt hb

theorem Arr.alloc {t : TypeId} {w : World} {g : Nat} {xs : List Nat} (h : Arr t w g xs) (o : Obj) : Arr t (w.alloc o) g xs := by
  unfold Arr; rw [Below.heap_alloc _ _ _ h.lt]; exact h
end Go.Proofs.Ytlpaegmnahcbjaa
