/- What is proved here: rows of limbs that a call has made itself; a law for making one; laws of the calls of math/bits.Add64 and Sub64. -/
import Derived.Test.YtkkmekdhejhapaaView
import Derived.Laws.Externs
import Derived.Shelf.Spec.BitsCarry
namespace Go.Proofs.Ytkkmekdhejhapaa
open Go.RowKit
def cellsOf (xs : List Nat) : List Value := xs.map fun (x : Nat) => Value.int .u64 (x : Int)
def Own (w : World) (g : Nat) (xs : List Nat) : Prop := w.heap[g]? = some (.cells (cellsOf xs).toArray 24 (0, 0))
theorem Own.lt {w : World} {g : Nat} {xs : List Nat} (h : Own w g xs) : g < w.heap.size := by
  rcases Nat.lt_or_ge g w.heap.size with hl | hl
  · exact hl
  · unfold Own at h; rw [Array.getElem?_eq_none hl] at h; cases h
theorem cellsOf_get {xs : List Nat} {i : Nat} (hi : i < xs.length) : (cellsOf xs)[i]? = some (.int .u64 ((lm xs i : Nat) : Int)) := by
  simp [cellsOf, lm, hi]
theorem Own.cell {w : World} {g : Nat} {xs : List Nat} (h : Own w g xs) {i : Nat} (hi : i < xs.length) : w.cell? ⟨g, i, none⟩ = some (.int .u64 ((lm xs i : Nat) : Int)) := by
  rw [cell_of_row w g i _ _ (0, 0) h]
  simpa using cellsOf_get hi
theorem Own.frozen {w : World} {g : Nat} {xs : List Nat} (h : Own w g xs) (i : Nat) : w.frozen? ⟨g, i, none⟩ = false := frozen_of_row w g i _ _ h
theorem Own.view {w : World} {g : Nat} {xs : List Nat} (h : Own w g xs) (hs : Small xs) : View w (some ⟨g, 0, none⟩) xs.length xs :=
  ⟨rfl, hs, fun i hi => ⟨g, 0, rfl, h.lt, by rw [Nat.zero_add]; exact h.cell hi⟩⟩
theorem Own.set {w : World} {g : Nat} {xs : List Nat} (h : Own w g xs) (i x : Nat) : Own (w.setCell ⟨g, i, none⟩ (.int .u64 (x : Int))) g (xs.set i x) := by
  unfold Own
  rw [heap_setCell_same w g i _ _ _ h]
  simp [cellsOf, List.map_set]
theorem Own.below {w w' : World} {g : Nat} {xs : List Nat} (h : Own w g xs) {B : Nat} (hB : g < B) (hb : Below B w w') : Own w' g xs := by
  unfold Own; rw [hb.block g hB]; exact h
theorem Own.drew {w : World} {g : Nat} {xs : List Nat} (h : Own w g xs) : Own w.drew g xs := h
theorem Own.alloc {w : World} {g : Nat} {xs : List Nat} (h : Own w g xs) (o : Obj) : Own (w.alloc o) g xs := by
  unfold Own; rw [Below.heap_alloc _ _ _ h.lt]; exact h
theorem below_alloc (w : World) (o : Obj) : Below w.heap.size w (w.alloc o) := (Below.refl _ _).alloc (Nat.le_refl _) o
theorem Own.vrow {w : World} {g K v : Nat} (h : Own w g (row K v)) : View w (some ⟨g, 0, none⟩) K (row K v) := by
  have := h.view (small_row K v)
  rwa [length_row] at this
theorem below_then {w w1 w2 : World} (h : Below w.heap.size w w1) (k : Below w1.heap.size w1 w2) : Below w.heap.size w w2 := h.trans (k.mono h.size)
theorem Try.infoU : (Try.prog.info? 24).map (fun i => (i.zero, i.size, i.bytes)) = some (some (.int .u64 0), 1, 8) := by kernel_rfl
theorem wpList_make_limbs (w : World) {ops : Array Oper} {rest : List Oper} {o : Oper} {a : Act} {Q : Exit → Act → World → Prop}
    (hg : o.guard = none) (l c : Operand) (hop : o.op = Op.makeSlice 64 l c)
    (n : Nat) (L C : Int) (hl : a.eval l = .int .i64 L) (hc : a.eval c = .int .i64 C) (hL : L = (n : Int)) (hC : C = (n : Int)) (b2 : n ≤ 1000000)
    (hK : ∀ w', Own w' w.heap.size (List.replicate n 0) → Below w.heap.size w w' → wpList Try.prog ops Q rest (a.put o.dst (.slice (some ⟨w.heap.size, 0, none⟩) n n)) w') :
    wpList Try.prog ops Q (o :: rest) a w := by
  obtain ⟨i, hi, hz0, hz1, hz2⟩ := info_parts Try.infoU
  refine wpList_make_full w hg l c _ hop w.heap.size 24 i (.int .u64 0) 1 Try.underlying64 hi hz0 hz1 .i64 .i64 L C n hl hc hL hC (by rw [hz2]; omega) (by unfold maxLen; omega) (Nat.le_refl _) ?_
  intro w' hown hgrow
  refine hK w' ?_ ((Below.refl _ _).grown hgrow (Nat.le_refl _) (fun k hk => by cases hk))
  rcases hown.2 with ⟨h, _⟩ | ⟨g, cap, cur, h, _, hh, _, _, hsz, htake⟩
  · cases h
  · simp only [Value.slice.injEq, Option.some.injEq, Addr.mk.injEq, and_true, true_and] at h
    obtain ⟨rfl, rfl⟩ := h
    unfold Own
    rw [hh]
    have e : cur.toList = (cellsOf (List.replicate n 0)) := by
      rw [List.take_of_length_le (by simp [hsz])] at htake
      rw [htake, show Value.cells (.int .u64 0) = #[.int .u64 0] from rfl, toList_madeCells_one]
      simp [cellsOf]
    rw [← e]
theorem add64_run (x y c : Nat) (hc : c ≤ 1) (w : World) :
    (callFunc 50 #[.int .u64 (x : Int), .int .u64 (y : Int), .int .u64 (c : Int)]).run Try.prog w =
      .ok (.value (.tuple #[.int .u64 ((sumLo x y c : Nat) : Int), .int .u64 ((sumHi x y c : Nat) : Int)])) w := by
  rw [run_callFunc_extern Try.func50 (by kernel_rfl) (by kernel_rfl) (by kernel_rfl) (e := add64Entry) (by kernel_rfl)]
  have : c = 0 ∨ c = 1 := by omega
  rcases this with rfl | rfl <;> rfl
theorem add64_run0 (x y : Nat) (w : World) :
    (callFunc 50 #[.int .u64 (x : Int), .int .u64 (y : Int), .int .u64 0]).run Try.prog w =
      .ok (.value (.tuple #[.int .u64 ((sumLo x y 0 : Nat) : Int), .int .u64 ((sumHi x y 0 : Nat) : Int)])) w := add64_run x y 0 (by decide) w
theorem sub64_run (x y b : Nat) (hb : b ≤ 1) (w : World) :
    (callFunc 95 #[.int .u64 (x : Int), .int .u64 (y : Int), .int .u64 (b : Int)]).run Try.prog w =
      .ok (.value (.tuple #[.int .u64 ((subLo x y b : Nat) : Int), .int .u64 ((subHi x y b : Nat) : Int)])) w := by
  rw [run_callFunc_extern Try.func95 (by kernel_rfl) (by kernel_rfl) (by kernel_rfl) (e := sub64Entry) (by kernel_rfl)]
  have : b = 0 ∨ b = 1 := by omega
  rcases this with rfl | rfl <;> rfl
end Go.Proofs.Ytkkmekdhejhapaa
