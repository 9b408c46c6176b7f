/- What is proved here: numbers of 6 limbs as array values (api.Fp) and as blocks of memory; contracts of fp.modulus, square, number, Right, lessModulus and Clean; contracts of the reference's Less, minus and Rem; sums and differences of limbs, as the references reckon them; contracts of the reference's P, Less, minus and plus (layer 4). -/
import Derived.Test.YtplbcdafelejbaaGreatDoorNum
import Derived.ChangeKeysEq
import Derived.Test.YtplbcdafelejbaaGreatDoorMontFns
import Derived.Test.YtplbcdafelejbaaGreatDoorPrime
import Derived.BigQuiet
import Derived.Deep.CutBlock
import Derived.Test.YtplbcdafelejbaaGreatDoorOwn
import Derived.Test.YtplbcdafelejbaaGreatDoorCmp
import Derived.WalkSmall
import Derived.Deep.RegionHeld3
namespace Go.Proofs.YtplbcdafelejbaaGreatDoor
section
open Go.RowKit
def fpB : Nat := 2 ^ (64 * 6)
theorem fpB_eq : fpB = 2 ^ (64 * 6) := by delta fpB; exact Eq.refl _
abbrev fpV (v : Nat) : Value := .agg #[.int .u64 ((lb v 0 : Nat) : Int), .int .u64 ((lb v 1 : Nat) : Int), .int .u64 ((lb v 2 : Nat) : Int), .int .u64 ((lb v 3 : Nat) : Int), .int .u64 ((lb v 4 : Nat) : Int), .int .u64 ((lb v 5 : Nat) : Int)]
theorem fprow (v : Nat) : row 6 v = [lb v 0, lb v 1, lb v 2, lb v 3, lb v 4, lb v 5] := by
  have h : (row 6 v).length = 6 := length_row _ _
  apply List.ext_getElem (by rw [h]; rfl)
  intro i h1 h2
  have e := lb_row (K := 6) (v := v) (i := i) (by omega)
  rw [lm, List.getD_eq_getElem?_getD, List.getElem?_eq_getElem h1] at e
  rw [show (row 6 v)[i] = lb v i from e]
  have : i = 0 ∨ i = 1 ∨ i = 2 ∨ i = 3 ∨ i = 4 ∨ i = 5 := by simp at h2; omega
  rcases this with rfl | rfl | rfl | rfl | rfl | rfl <;> rfl
theorem fpval {v : Nat} (h : v < fpB) : val (row 6 v) = v := val_row_of (K := 6) (Nat.lt_of_lt_of_eq h fpB_eq)
theorem fp_cells (v : Nat) : (cellsOf (row 6 v)).toArray = #[.int .u64 ((lb v 0 : Nat) : Int), .int .u64 ((lb v 1 : Nat) : Int), .int .u64 ((lb v 2 : Nat) : Int), .int .u64 ((lb v 3 : Nat) : Int), .int .u64 ((lb v 4 : Nat) : Int), .int .u64 ((lb v 5 : Nat) : Int)] := by rw [fprow]; rfl
theorem fp_new (t : TypeId) (w : World) (v : Nat) : Arr t (w.alloc (.cells #[.int .u64 ((lb v 0 : Nat) : Int), .int .u64 ((lb v 1 : Nat) : Int), .int .u64 ((lb v 2 : Nat) : Int), .int .u64 ((lb v 3 : Nat) : Int), .int .u64 ((lb v 4 : Nat) : Int), .int .u64 ((lb v 5 : Nat) : Int)] t)) w.heap.size (row 6 v) := by
  unfold Arr
  rw [fp_cells]
  exact heap_alloc_new w _
theorem fplb_0 (i : Nat) : lb 0 i = 0 := by simp [lb]
theorem fp_zero (t : TypeId) (w : World) : Arr t (w.alloc (.cells #[.int .u64 0, .int .u64 0, .int .u64 0, .int .u64 0, .int .u64 0, .int .u64 0] t)) w.heap.size (row 6 0) := by
  have := fp_new t w 0
  simp only [fplb_0] at this
  exact this
theorem Arr.fpc0 {t : TypeId} {w : World} {g v : Nat} (h : Arr t w g (row 6 v)) : w.cell? ⟨g, 0, none⟩ = some (.int .u64 ((lb v 0 : Nat) : Int)) := h.rc 0 (by decide)
theorem Arr.fpc1 {t : TypeId} {w : World} {g v : Nat} (h : Arr t w g (row 6 v)) : w.cell? ⟨g, 1, none⟩ = some (.int .u64 ((lb v 1 : Nat) : Int)) := h.rc 1 (by decide)
theorem Arr.fpc2 {t : TypeId} {w : World} {g v : Nat} (h : Arr t w g (row 6 v)) : w.cell? ⟨g, 2, none⟩ = some (.int .u64 ((lb v 2 : Nat) : Int)) := h.rc 2 (by decide)
theorem Arr.fpc3 {t : TypeId} {w : World} {g v : Nat} (h : Arr t w g (row 6 v)) : w.cell? ⟨g, 3, none⟩ = some (.int .u64 ((lb v 3 : Nat) : Int)) := h.rc 3 (by decide)
theorem Arr.fpc4 {t : TypeId} {w : World} {g v : Nat} (h : Arr t w g (row 6 v)) : w.cell? ⟨g, 4, none⟩ = some (.int .u64 ((lb v 4 : Nat) : Int)) := h.rc 4 (by decide)
theorem Arr.fpc5 {t : TypeId} {w : World} {g v : Nat} (h : Arr t w g (row 6 v)) : w.cell? ⟨g, 5, none⟩ = some (.int .u64 ((lb v 5 : Nat) : Int)) := h.rc 5 (by decide)
theorem fp_small {N : Nat} (h : N < 2 ^ 64) : fpV N = .agg #[.int .u64 (N : Int), .int .u64 0, .int .u64 0, .int .u64 0, .int .u64 0, .int .u64 0] := by
  show Value.agg #[.int .u64 ((lb N 0 : Nat) : Int), .int .u64 ((lb N 1 : Nat) : Int), .int .u64 ((lb N 2 : Nat) : Int), .int .u64 ((lb N 3 : Nat) : Int), .int .u64 ((lb N 4 : Nat) : Int), .int .u64 ((lb N 5 : Nat) : Int)] = _
  rw [show lb N 0 = N from by simp only [lb, Nat.mul_zero, Nat.pow_zero, Nat.div_one]; exact Nat.mod_eq_of_lt h, lb_hi h 0, lb_hi h 1, lb_hi h 2, lb_hi h 3, lb_hi h 4]
  rfl
theorem fp_lit0 : fpV 0 = .agg #[.int .u64 0, .int .u64 0, .int .u64 0, .int .u64 0, .int .u64 0, .int .u64 0] := fp_small (by decide)
theorem fp_lit1 : fpV 1 = .agg #[.int .u64 1, .int .u64 0, .int .u64 0, .int .u64 0, .int .u64 0, .int .u64 0] := fp_small (by decide)
theorem fp_ltB {N : Nat} (h : N < 2 ^ 64) : N < fpB := Nat.lt_trans h (by decide +kernel)
theorem fp_set (v z : Nat) : ((((((row 6 v).set 0 (lb z 0)).set 1 (lb z 1)).set 2 (lb z 2)).set 3 (lb z 3)).set 4 (lb z 4)).set 5 (lb z 5) = row 6 z := by rw [fprow, fprow]; rfl
theorem Arr.fpstore {t : TypeId} {w : World} {g v : Nat} (h : Arr t w g (row 6 v)) (z : Nat) : Arr t ((((((w.setCell ⟨g, 0, none⟩ (.int .u64 ((lb z 0 : Nat) : Int))).setCell ⟨g, 1, none⟩ (.int .u64 ((lb z 1 : Nat) : Int))).setCell ⟨g, 2, none⟩ (.int .u64 ((lb z 2 : Nat) : Int))).setCell ⟨g, 3, none⟩ (.int .u64 ((lb z 3 : Nat) : Int))).setCell ⟨g, 4, none⟩ (.int .u64 ((lb z 4 : Nat) : Int))).setCell ⟨g, 5, none⟩ (.int .u64 ((lb z 5 : Nat) : Int))) g (row 6 z) := by
  have := (((((h.set 0 (lb z 0)).set 1 (lb z 1)).set 2 (lb z 2)).set 3 (lb z 3)).set 4 (lb z 4)).set 5 (lb z 5)
  rwa [fp_set] at this
theorem fp_below {B : Nat} {w0 w : World} (hb : Below B w0 w) {b : Nat} (hg : B ≤ b) (u0 u1 u2 u3 u4 u5 : Value) : Below B w0 ((((((w.setCell ⟨b, 0, none⟩ u0).setCell ⟨b, 1, none⟩ u1).setCell ⟨b, 2, none⟩ u2).setCell ⟨b, 3, none⟩ u3).setCell ⟨b, 4, none⟩ u4).setCell ⟨b, 5, none⟩ u5) :=
  (((((hb.setCell (p := ⟨b, 0, none⟩) hg _).setCell (p := ⟨b, 1, none⟩) hg _).setCell (p := ⟨b, 2, none⟩) hg _).setCell (p := ⟨b, 3, none⟩) hg _).setCell (p := ⟨b, 4, none⟩) hg _).setCell (p := ⟨b, 5, none⟩) hg _
theorem Arr.fpother {t : TypeId} {w : World} {g b : Nat} {xs : List Nat} (h : Arr t w g xs) (hne : g ≠ b) (u0 u1 u2 u3 u4 u5 : Value) : Arr t ((((((w.setCell ⟨b, 0, none⟩ u0).setCell ⟨b, 1, none⟩ u1).setCell ⟨b, 2, none⟩ u2).setCell ⟨b, 3, none⟩ u3).setCell ⟨b, 4, none⟩ u4).setCell ⟨b, 5, none⟩ u5) g xs := by
  unfold Arr
  rw [Below.heap_setCell _ _ _ g hne, Below.heap_setCell _ _ _ g hne, Below.heap_setCell _ _ _ g hne, Below.heap_setCell _ _ _ g hne, Below.heap_setCell _ _ _ g hne, Below.heap_setCell _ _ _ g hne]
  exact h
theorem fp_lay_v (t : TypeId) (w : World) (v0 : Nat) : ∃ w', w.alloc (.cells #[.int .u64 ((lb v0 0 : Nat) : Int), .int .u64 ((lb v0 1 : Nat) : Int), .int .u64 ((lb v0 2 : Nat) : Int), .int .u64 ((lb v0 3 : Nat) : Int), .int .u64 ((lb v0 4 : Nat) : Int), .int .u64 ((lb v0 5 : Nat) : Int)] t) = w' ∧ Arr t w' (w.heap.size) (row 6 v0) ∧ Below w.heap.size w w' ∧ w'.heap.size = w.heap.size + 1 := by
  have a0 := fp_new t (w) v0
  exact ⟨_, rfl, a0, ((Below.refl w.heap.size w).alloc (by simp <;> omega) (.cells #[.int .u64 ((lb v0 0 : Nat) : Int), .int .u64 ((lb v0 1 : Nat) : Int), .int .u64 ((lb v0 2 : Nat) : Int), .int .u64 ((lb v0 3 : Nat) : Int), .int .u64 ((lb v0 4 : Nat) : Int), .int .u64 ((lb v0 5 : Nat) : Int)] t)), by simp⟩
theorem fp_lay_z (t : TypeId) (w : World) : ∃ w', w.alloc (.cells #[.int .u64 0, .int .u64 0, .int .u64 0, .int .u64 0, .int .u64 0, .int .u64 0] t) = w' ∧ Arr t w' (w.heap.size) (row 6 0) ∧ Below w.heap.size w w' ∧ w'.heap.size = w.heap.size + 1 := by
  have a0 := fp_zero t (w)
  exact ⟨_, rfl, a0, ((Below.refl w.heap.size w).alloc (by simp <;> omega) (.cells #[.int .u64 0, .int .u64 0, .int .u64 0, .int .u64 0, .int .u64 0, .int .u64 0] t)), by simp⟩
theorem fp_lay_vz (t : TypeId) (w : World) (v0 : Nat) : ∃ w', (w.alloc (.cells #[.int .u64 ((lb v0 0 : Nat) : Int), .int .u64 ((lb v0 1 : Nat) : Int), .int .u64 ((lb v0 2 : Nat) : Int), .int .u64 ((lb v0 3 : Nat) : Int), .int .u64 ((lb v0 4 : Nat) : Int), .int .u64 ((lb v0 5 : Nat) : Int)] t)).alloc (.cells #[.int .u64 0, .int .u64 0, .int .u64 0, .int .u64 0, .int .u64 0, .int .u64 0] t) = w' ∧ Arr t w' (w.heap.size) (row 6 v0) ∧ Arr t w' (w.heap.size + 1) (row 6 0) ∧ Below w.heap.size w w' ∧ w'.heap.size = w.heap.size + 2 := by
  have a0 := fp_new t (w) v0
  have a1 := fp_zero t ((w).alloc (.cells #[.int .u64 ((lb v0 0 : Nat) : Int), .int .u64 ((lb v0 1 : Nat) : Int), .int .u64 ((lb v0 2 : Nat) : Int), .int .u64 ((lb v0 3 : Nat) : Int), .int .u64 ((lb v0 4 : Nat) : Int), .int .u64 ((lb v0 5 : Nat) : Int)] t))
  simp only [World.size_alloc] at a1
  have a0 := a0.alloc (.cells #[.int .u64 0, .int .u64 0, .int .u64 0, .int .u64 0, .int .u64 0, .int .u64 0] t)
  exact ⟨_, rfl, a0, a1, (((Below.refl w.heap.size w).alloc (by simp <;> omega) (.cells #[.int .u64 ((lb v0 0 : Nat) : Int), .int .u64 ((lb v0 1 : Nat) : Int), .int .u64 ((lb v0 2 : Nat) : Int), .int .u64 ((lb v0 3 : Nat) : Int), .int .u64 ((lb v0 4 : Nat) : Int), .int .u64 ((lb v0 5 : Nat) : Int)] t)).alloc (by simp <;> omega) (.cells #[.int .u64 0, .int .u64 0, .int .u64 0, .int .u64 0, .int .u64 0, .int .u64 0] t)), by simp⟩
theorem fp_lay_vv (t : TypeId) (w : World) (v0 v1 : Nat) : ∃ w', (w.alloc (.cells #[.int .u64 ((lb v0 0 : Nat) : Int), .int .u64 ((lb v0 1 : Nat) : Int), .int .u64 ((lb v0 2 : Nat) : Int), .int .u64 ((lb v0 3 : Nat) : Int), .int .u64 ((lb v0 4 : Nat) : Int), .int .u64 ((lb v0 5 : Nat) : Int)] t)).alloc (.cells #[.int .u64 ((lb v1 0 : Nat) : Int), .int .u64 ((lb v1 1 : Nat) : Int), .int .u64 ((lb v1 2 : Nat) : Int), .int .u64 ((lb v1 3 : Nat) : Int), .int .u64 ((lb v1 4 : Nat) : Int), .int .u64 ((lb v1 5 : Nat) : Int)] t) = w' ∧ Arr t w' (w.heap.size) (row 6 v0) ∧ Arr t w' (w.heap.size + 1) (row 6 v1) ∧ Below w.heap.size w w' ∧ w'.heap.size = w.heap.size + 2 := by
  have a0 := fp_new t (w) v0
  have a1 := fp_new t ((w).alloc (.cells #[.int .u64 ((lb v0 0 : Nat) : Int), .int .u64 ((lb v0 1 : Nat) : Int), .int .u64 ((lb v0 2 : Nat) : Int), .int .u64 ((lb v0 3 : Nat) : Int), .int .u64 ((lb v0 4 : Nat) : Int), .int .u64 ((lb v0 5 : Nat) : Int)] t)) v1
  simp only [World.size_alloc] at a1
  have a0 := a0.alloc (.cells #[.int .u64 ((lb v1 0 : Nat) : Int), .int .u64 ((lb v1 1 : Nat) : Int), .int .u64 ((lb v1 2 : Nat) : Int), .int .u64 ((lb v1 3 : Nat) : Int), .int .u64 ((lb v1 4 : Nat) : Int), .int .u64 ((lb v1 5 : Nat) : Int)] t)
  exact ⟨_, rfl, a0, a1, (((Below.refl w.heap.size w).alloc (by simp <;> omega) (.cells #[.int .u64 ((lb v0 0 : Nat) : Int), .int .u64 ((lb v0 1 : Nat) : Int), .int .u64 ((lb v0 2 : Nat) : Int), .int .u64 ((lb v0 3 : Nat) : Int), .int .u64 ((lb v0 4 : Nat) : Int), .int .u64 ((lb v0 5 : Nat) : Int)] t)).alloc (by simp <;> omega) (.cells #[.int .u64 ((lb v1 0 : Nat) : Int), .int .u64 ((lb v1 1 : Nat) : Int), .int .u64 ((lb v1 2 : Nat) : Int), .int .u64 ((lb v1 3 : Nat) : Int), .int .u64 ((lb v1 4 : Nat) : Int), .int .u64 ((lb v1 5 : Nat) : Int)] t)), by simp⟩
theorem fp_lay_vvz (t : TypeId) (w : World) (v0 v1 : Nat) : ∃ w', ((w.alloc (.cells #[.int .u64 ((lb v0 0 : Nat) : Int), .int .u64 ((lb v0 1 : Nat) : Int), .int .u64 ((lb v0 2 : Nat) : Int), .int .u64 ((lb v0 3 : Nat) : Int), .int .u64 ((lb v0 4 : Nat) : Int), .int .u64 ((lb v0 5 : Nat) : Int)] t)).alloc (.cells #[.int .u64 ((lb v1 0 : Nat) : Int), .int .u64 ((lb v1 1 : Nat) : Int), .int .u64 ((lb v1 2 : Nat) : Int), .int .u64 ((lb v1 3 : Nat) : Int), .int .u64 ((lb v1 4 : Nat) : Int), .int .u64 ((lb v1 5 : Nat) : Int)] t)).alloc (.cells #[.int .u64 0, .int .u64 0, .int .u64 0, .int .u64 0, .int .u64 0, .int .u64 0] t) = w' ∧ Arr t w' (w.heap.size) (row 6 v0) ∧ Arr t w' (w.heap.size + 1) (row 6 v1) ∧ Arr t w' (w.heap.size + 1 + 1) (row 6 0) ∧ Below w.heap.size w w' ∧ w'.heap.size = w.heap.size + 3 := by
  have a0 := fp_new t (w) v0
  have a1 := fp_new t ((w).alloc (.cells #[.int .u64 ((lb v0 0 : Nat) : Int), .int .u64 ((lb v0 1 : Nat) : Int), .int .u64 ((lb v0 2 : Nat) : Int), .int .u64 ((lb v0 3 : Nat) : Int), .int .u64 ((lb v0 4 : Nat) : Int), .int .u64 ((lb v0 5 : Nat) : Int)] t)) v1
  simp only [World.size_alloc] at a1
  have a0 := a0.alloc (.cells #[.int .u64 ((lb v1 0 : Nat) : Int), .int .u64 ((lb v1 1 : Nat) : Int), .int .u64 ((lb v1 2 : Nat) : Int), .int .u64 ((lb v1 3 : Nat) : Int), .int .u64 ((lb v1 4 : Nat) : Int), .int .u64 ((lb v1 5 : Nat) : Int)] t)
  have a2 := fp_zero t (((w).alloc (.cells #[.int .u64 ((lb v0 0 : Nat) : Int), .int .u64 ((lb v0 1 : Nat) : Int), .int .u64 ((lb v0 2 : Nat) : Int), .int .u64 ((lb v0 3 : Nat) : Int), .int .u64 ((lb v0 4 : Nat) : Int), .int .u64 ((lb v0 5 : Nat) : Int)] t)).alloc (.cells #[.int .u64 ((lb v1 0 : Nat) : Int), .int .u64 ((lb v1 1 : Nat) : Int), .int .u64 ((lb v1 2 : Nat) : Int), .int .u64 ((lb v1 3 : Nat) : Int), .int .u64 ((lb v1 4 : Nat) : Int), .int .u64 ((lb v1 5 : Nat) : Int)] t))
  simp only [World.size_alloc] at a2
  have a0 := a0.alloc (.cells #[.int .u64 0, .int .u64 0, .int .u64 0, .int .u64 0, .int .u64 0, .int .u64 0] t)
  have a1 := a1.alloc (.cells #[.int .u64 0, .int .u64 0, .int .u64 0, .int .u64 0, .int .u64 0, .int .u64 0] t)
  exact ⟨_, rfl, a0, a1, a2, ((((Below.refl w.heap.size w).alloc (by simp <;> omega) (.cells #[.int .u64 ((lb v0 0 : Nat) : Int), .int .u64 ((lb v0 1 : Nat) : Int), .int .u64 ((lb v0 2 : Nat) : Int), .int .u64 ((lb v0 3 : Nat) : Int), .int .u64 ((lb v0 4 : Nat) : Int), .int .u64 ((lb v0 5 : Nat) : Int)] t)).alloc (by simp <;> omega) (.cells #[.int .u64 ((lb v1 0 : Nat) : Int), .int .u64 ((lb v1 1 : Nat) : Int), .int .u64 ((lb v1 2 : Nat) : Int), .int .u64 ((lb v1 3 : Nat) : Int), .int .u64 ((lb v1 4 : Nat) : Int), .int .u64 ((lb v1 5 : Nat) : Int)] t)).alloc (by simp <;> omega) (.cells #[.int .u64 0, .int .u64 0, .int .u64 0, .int .u64 0, .int .u64 0, .int .u64 0] t)), by simp⟩
theorem fp_lay_zz (t : TypeId) (w : World) : ∃ w', (w.alloc (.cells #[.int .u64 0, .int .u64 0, .int .u64 0, .int .u64 0, .int .u64 0, .int .u64 0] t)).alloc (.cells #[.int .u64 0, .int .u64 0, .int .u64 0, .int .u64 0, .int .u64 0, .int .u64 0] t) = w' ∧ Arr t w' (w.heap.size) (row 6 0) ∧ Arr t w' (w.heap.size + 1) (row 6 0) ∧ Below w.heap.size w w' ∧ w'.heap.size = w.heap.size + 2 := by
  have a0 := fp_zero t (w)
  have a1 := fp_zero t ((w).alloc (.cells #[.int .u64 0, .int .u64 0, .int .u64 0, .int .u64 0, .int .u64 0, .int .u64 0] t))
  simp only [World.size_alloc] at a1
  have a0 := a0.alloc (.cells #[.int .u64 0, .int .u64 0, .int .u64 0, .int .u64 0, .int .u64 0, .int .u64 0] t)
  exact ⟨_, rfl, a0, a1, (((Below.refl w.heap.size w).alloc (by simp <;> omega) (.cells #[.int .u64 0, .int .u64 0, .int .u64 0, .int .u64 0, .int .u64 0, .int .u64 0] t)).alloc (by simp <;> omega) (.cells #[.int .u64 0, .int .u64 0, .int .u64 0, .int .u64 0, .int .u64 0, .int .u64 0] t)), by simp⟩
theorem fp_lay_vvzz (t : TypeId) (w : World) (v0 v1 : Nat) : ∃ w', (((w.alloc (.cells #[.int .u64 ((lb v0 0 : Nat) : Int), .int .u64 ((lb v0 1 : Nat) : Int), .int .u64 ((lb v0 2 : Nat) : Int), .int .u64 ((lb v0 3 : Nat) : Int), .int .u64 ((lb v0 4 : Nat) : Int), .int .u64 ((lb v0 5 : Nat) : Int)] t)).alloc (.cells #[.int .u64 ((lb v1 0 : Nat) : Int), .int .u64 ((lb v1 1 : Nat) : Int), .int .u64 ((lb v1 2 : Nat) : Int), .int .u64 ((lb v1 3 : Nat) : Int), .int .u64 ((lb v1 4 : Nat) : Int), .int .u64 ((lb v1 5 : Nat) : Int)] t)).alloc (.cells #[.int .u64 0, .int .u64 0, .int .u64 0, .int .u64 0, .int .u64 0, .int .u64 0] t)).alloc (.cells #[.int .u64 0, .int .u64 0, .int .u64 0, .int .u64 0, .int .u64 0, .int .u64 0] t) = w' ∧ Arr t w' (w.heap.size) (row 6 v0) ∧ Arr t w' (w.heap.size + 1) (row 6 v1) ∧ Arr t w' (w.heap.size + 1 + 1) (row 6 0) ∧ Arr t w' (w.heap.size + 1 + 1 + 1) (row 6 0) ∧ Below w.heap.size w w' ∧ w'.heap.size = w.heap.size + 4 := by
  have a0 := fp_new t (w) v0
  have a1 := fp_new t ((w).alloc (.cells #[.int .u64 ((lb v0 0 : Nat) : Int), .int .u64 ((lb v0 1 : Nat) : Int), .int .u64 ((lb v0 2 : Nat) : Int), .int .u64 ((lb v0 3 : Nat) : Int), .int .u64 ((lb v0 4 : Nat) : Int), .int .u64 ((lb v0 5 : Nat) : Int)] t)) v1
  simp only [World.size_alloc] at a1
  have a0 := a0.alloc (.cells #[.int .u64 ((lb v1 0 : Nat) : Int), .int .u64 ((lb v1 1 : Nat) : Int), .int .u64 ((lb v1 2 : Nat) : Int), .int .u64 ((lb v1 3 : Nat) : Int), .int .u64 ((lb v1 4 : Nat) : Int), .int .u64 ((lb v1 5 : Nat) : Int)] t)
  have a2 := fp_zero t (((w).alloc (.cells #[.int .u64 ((lb v0 0 : Nat) : Int), .int .u64 ((lb v0 1 : Nat) : Int), .int .u64 ((lb v0 2 : Nat) : Int), .int .u64 ((lb v0 3 : Nat) : Int), .int .u64 ((lb v0 4 : Nat) : Int), .int .u64 ((lb v0 5 : Nat) : Int)] t)).alloc (.cells #[.int .u64 ((lb v1 0 : Nat) : Int), .int .u64 ((lb v1 1 : Nat) : Int), .int .u64 ((lb v1 2 : Nat) : Int), .int .u64 ((lb v1 3 : Nat) : Int), .int .u64 ((lb v1 4 : Nat) : Int), .int .u64 ((lb v1 5 : Nat) : Int)] t))
  simp only [World.size_alloc] at a2
  have a0 := a0.alloc (.cells #[.int .u64 0, .int .u64 0, .int .u64 0, .int .u64 0, .int .u64 0, .int .u64 0] t)
  have a1 := a1.alloc (.cells #[.int .u64 0, .int .u64 0, .int .u64 0, .int .u64 0, .int .u64 0, .int .u64 0] t)
  have a3 := fp_zero t ((((w).alloc (.cells #[.int .u64 ((lb v0 0 : Nat) : Int), .int .u64 ((lb v0 1 : Nat) : Int), .int .u64 ((lb v0 2 : Nat) : Int), .int .u64 ((lb v0 3 : Nat) : Int), .int .u64 ((lb v0 4 : Nat) : Int), .int .u64 ((lb v0 5 : Nat) : Int)] t)).alloc (.cells #[.int .u64 ((lb v1 0 : Nat) : Int), .int .u64 ((lb v1 1 : Nat) : Int), .int .u64 ((lb v1 2 : Nat) : Int), .int .u64 ((lb v1 3 : Nat) : Int), .int .u64 ((lb v1 4 : Nat) : Int), .int .u64 ((lb v1 5 : Nat) : Int)] t)).alloc (.cells #[.int .u64 0, .int .u64 0, .int .u64 0, .int .u64 0, .int .u64 0, .int .u64 0] t))
  simp only [World.size_alloc] at a3
  have a0 := a0.alloc (.cells #[.int .u64 0, .int .u64 0, .int .u64 0, .int .u64 0, .int .u64 0, .int .u64 0] t)
  have a1 := a1.alloc (.cells #[.int .u64 0, .int .u64 0, .int .u64 0, .int .u64 0, .int .u64 0, .int .u64 0] t)
  have a2 := a2.alloc (.cells #[.int .u64 0, .int .u64 0, .int .u64 0, .int .u64 0, .int .u64 0, .int .u64 0] t)
  exact ⟨_, rfl, a0, a1, a2, a3, (((((Below.refl w.heap.size w).alloc (by simp <;> omega) (.cells #[.int .u64 ((lb v0 0 : Nat) : Int), .int .u64 ((lb v0 1 : Nat) : Int), .int .u64 ((lb v0 2 : Nat) : Int), .int .u64 ((lb v0 3 : Nat) : Int), .int .u64 ((lb v0 4 : Nat) : Int), .int .u64 ((lb v0 5 : Nat) : Int)] t)).alloc (by simp <;> omega) (.cells #[.int .u64 ((lb v1 0 : Nat) : Int), .int .u64 ((lb v1 1 : Nat) : Int), .int .u64 ((lb v1 2 : Nat) : Int), .int .u64 ((lb v1 3 : Nat) : Int), .int .u64 ((lb v1 4 : Nat) : Int), .int .u64 ((lb v1 5 : Nat) : Int)] t)).alloc (by simp <;> omega) (.cells #[.int .u64 0, .int .u64 0, .int .u64 0, .int .u64 0, .int .u64 0, .int .u64 0] t)).alloc (by simp <;> omega) (.cells #[.int .u64 0, .int .u64 0, .int .u64 0, .int .u64 0, .int .u64 0, .int .u64 0] t)), by simp⟩
theorem fp_lay_vvzv (t : TypeId) (w : World) (v0 v1 v3 : Nat) : ∃ w', (((w.alloc (.cells #[.int .u64 ((lb v0 0 : Nat) : Int), .int .u64 ((lb v0 1 : Nat) : Int), .int .u64 ((lb v0 2 : Nat) : Int), .int .u64 ((lb v0 3 : Nat) : Int), .int .u64 ((lb v0 4 : Nat) : Int), .int .u64 ((lb v0 5 : Nat) : Int)] t)).alloc (.cells #[.int .u64 ((lb v1 0 : Nat) : Int), .int .u64 ((lb v1 1 : Nat) : Int), .int .u64 ((lb v1 2 : Nat) : Int), .int .u64 ((lb v1 3 : Nat) : Int), .int .u64 ((lb v1 4 : Nat) : Int), .int .u64 ((lb v1 5 : Nat) : Int)] t)).alloc (.cells #[.int .u64 0, .int .u64 0, .int .u64 0, .int .u64 0, .int .u64 0, .int .u64 0] t)).alloc (.cells #[.int .u64 ((lb v3 0 : Nat) : Int), .int .u64 ((lb v3 1 : Nat) : Int), .int .u64 ((lb v3 2 : Nat) : Int), .int .u64 ((lb v3 3 : Nat) : Int), .int .u64 ((lb v3 4 : Nat) : Int), .int .u64 ((lb v3 5 : Nat) : Int)] t) = w' ∧ Arr t w' (w.heap.size) (row 6 v0) ∧ Arr t w' (w.heap.size + 1) (row 6 v1) ∧ Arr t w' (w.heap.size + 1 + 1) (row 6 0) ∧ Arr t w' (w.heap.size + 1 + 1 + 1) (row 6 v3) ∧ Below w.heap.size w w' ∧ w'.heap.size = w.heap.size + 4 := by
  have a0 := fp_new t (w) v0
  have a1 := fp_new t ((w).alloc (.cells #[.int .u64 ((lb v0 0 : Nat) : Int), .int .u64 ((lb v0 1 : Nat) : Int), .int .u64 ((lb v0 2 : Nat) : Int), .int .u64 ((lb v0 3 : Nat) : Int), .int .u64 ((lb v0 4 : Nat) : Int), .int .u64 ((lb v0 5 : Nat) : Int)] t)) v1
  simp only [World.size_alloc] at a1
  have a0 := a0.alloc (.cells #[.int .u64 ((lb v1 0 : Nat) : Int), .int .u64 ((lb v1 1 : Nat) : Int), .int .u64 ((lb v1 2 : Nat) : Int), .int .u64 ((lb v1 3 : Nat) : Int), .int .u64 ((lb v1 4 : Nat) : Int), .int .u64 ((lb v1 5 : Nat) : Int)] t)
  have a2 := fp_zero t (((w).alloc (.cells #[.int .u64 ((lb v0 0 : Nat) : Int), .int .u64 ((lb v0 1 : Nat) : Int), .int .u64 ((lb v0 2 : Nat) : Int), .int .u64 ((lb v0 3 : Nat) : Int), .int .u64 ((lb v0 4 : Nat) : Int), .int .u64 ((lb v0 5 : Nat) : Int)] t)).alloc (.cells #[.int .u64 ((lb v1 0 : Nat) : Int), .int .u64 ((lb v1 1 : Nat) : Int), .int .u64 ((lb v1 2 : Nat) : Int), .int .u64 ((lb v1 3 : Nat) : Int), .int .u64 ((lb v1 4 : Nat) : Int), .int .u64 ((lb v1 5 : Nat) : Int)] t))
  simp only [World.size_alloc] at a2
  have a0 := a0.alloc (.cells #[.int .u64 0, .int .u64 0, .int .u64 0, .int .u64 0, .int .u64 0, .int .u64 0] t)
  have a1 := a1.alloc (.cells #[.int .u64 0, .int .u64 0, .int .u64 0, .int .u64 0, .int .u64 0, .int .u64 0] t)
  have a3 := fp_new t ((((w).alloc (.cells #[.int .u64 ((lb v0 0 : Nat) : Int), .int .u64 ((lb v0 1 : Nat) : Int), .int .u64 ((lb v0 2 : Nat) : Int), .int .u64 ((lb v0 3 : Nat) : Int), .int .u64 ((lb v0 4 : Nat) : Int), .int .u64 ((lb v0 5 : Nat) : Int)] t)).alloc (.cells #[.int .u64 ((lb v1 0 : Nat) : Int), .int .u64 ((lb v1 1 : Nat) : Int), .int .u64 ((lb v1 2 : Nat) : Int), .int .u64 ((lb v1 3 : Nat) : Int), .int .u64 ((lb v1 4 : Nat) : Int), .int .u64 ((lb v1 5 : Nat) : Int)] t)).alloc (.cells #[.int .u64 0, .int .u64 0, .int .u64 0, .int .u64 0, .int .u64 0, .int .u64 0] t)) v3
  simp only [World.size_alloc] at a3
  have a0 := a0.alloc (.cells #[.int .u64 ((lb v3 0 : Nat) : Int), .int .u64 ((lb v3 1 : Nat) : Int), .int .u64 ((lb v3 2 : Nat) : Int), .int .u64 ((lb v3 3 : Nat) : Int), .int .u64 ((lb v3 4 : Nat) : Int), .int .u64 ((lb v3 5 : Nat) : Int)] t)
  have a1 := a1.alloc (.cells #[.int .u64 ((lb v3 0 : Nat) : Int), .int .u64 ((lb v3 1 : Nat) : Int), .int .u64 ((lb v3 2 : Nat) : Int), .int .u64 ((lb v3 3 : Nat) : Int), .int .u64 ((lb v3 4 : Nat) : Int), .int .u64 ((lb v3 5 : Nat) : Int)] t)
  have a2 := a2.alloc (.cells #[.int .u64 ((lb v3 0 : Nat) : Int), .int .u64 ((lb v3 1 : Nat) : Int), .int .u64 ((lb v3 2 : Nat) : Int), .int .u64 ((lb v3 3 : Nat) : Int), .int .u64 ((lb v3 4 : Nat) : Int), .int .u64 ((lb v3 5 : Nat) : Int)] t)
  exact ⟨_, rfl, a0, a1, a2, a3, (((((Below.refl w.heap.size w).alloc (by simp <;> omega) (.cells #[.int .u64 ((lb v0 0 : Nat) : Int), .int .u64 ((lb v0 1 : Nat) : Int), .int .u64 ((lb v0 2 : Nat) : Int), .int .u64 ((lb v0 3 : Nat) : Int), .int .u64 ((lb v0 4 : Nat) : Int), .int .u64 ((lb v0 5 : Nat) : Int)] t)).alloc (by simp <;> omega) (.cells #[.int .u64 ((lb v1 0 : Nat) : Int), .int .u64 ((lb v1 1 : Nat) : Int), .int .u64 ((lb v1 2 : Nat) : Int), .int .u64 ((lb v1 3 : Nat) : Int), .int .u64 ((lb v1 4 : Nat) : Int), .int .u64 ((lb v1 5 : Nat) : Int)] t)).alloc (by simp <;> omega) (.cells #[.int .u64 0, .int .u64 0, .int .u64 0, .int .u64 0, .int .u64 0, .int .u64 0] t)).alloc (by simp <;> omega) (.cells #[.int .u64 ((lb v3 0 : Nat) : Int), .int .u64 ((lb v3 1 : Nat) : Int), .int .u64 ((lb v3 2 : Nat) : Int), .int .u64 ((lb v3 3 : Nat) : Int), .int .u64 ((lb v3 4 : Nat) : Int), .int .u64 ((lb v3 5 : Nat) : Int)] t)), by simp⟩
theorem fp_one {t : TypeId} {Y : World} {g u : Nat} (h : Arr t Y g (row 6 u)) (x : Nat) :
    ∃ W, (((((Y.setCell ⟨g, 0, none⟩ (.int .u64 ((lb x 0 : Nat) : Int))).setCell ⟨g, 1, none⟩ (.int .u64 ((lb x 1 : Nat) : Int))).setCell ⟨g, 2, none⟩ (.int .u64 ((lb x 2 : Nat) : Int))).setCell ⟨g, 3, none⟩ (.int .u64 ((lb x 3 : Nat) : Int))).setCell ⟨g, 4, none⟩ (.int .u64 ((lb x 4 : Nat) : Int))).setCell ⟨g, 5, none⟩ (.int .u64 ((lb x 5 : Nat) : Int)) = W ∧ Arr t W g (row 6 x) ∧ (∀ t' g' xs, g' ≠ g → Arr t' Y g' xs → Arr t' W g' xs) ∧ (∀ B w0, Below B w0 Y → B ≤ g → Below B w0 W) ∧ W.heap.size = Y.heap.size :=
  ⟨_, rfl, h.fpstore x, fun _ _ _ hne ha => ha.fpother hne _ _ _ _ _ _, fun _ _ hb hg => fp_below hb hg _ _ _ _ _ _, by simp⟩
theorem fp_two {t : TypeId} {Y : World} {g1 g2 u1 u2 : Nat} (h1 : Arr t Y g1 (row 6 u1)) (h2 : Arr t Y g2 (row 6 u2)) (hne : g1 ≠ g2) (x y : Nat) :
    ∃ W, (((((((((((Y.setCell ⟨g1, 0, none⟩ (.int .u64 ((lb x 0 : Nat) : Int))).setCell ⟨g1, 1, none⟩ (.int .u64 ((lb x 1 : Nat) : Int))).setCell ⟨g1, 2, none⟩ (.int .u64 ((lb x 2 : Nat) : Int))).setCell ⟨g1, 3, none⟩ (.int .u64 ((lb x 3 : Nat) : Int))).setCell ⟨g1, 4, none⟩ (.int .u64 ((lb x 4 : Nat) : Int))).setCell ⟨g1, 5, none⟩ (.int .u64 ((lb x 5 : Nat) : Int))).setCell ⟨g2, 0, none⟩ (.int .u64 ((lb y 0 : Nat) : Int))).setCell ⟨g2, 1, none⟩ (.int .u64 ((lb y 1 : Nat) : Int))).setCell ⟨g2, 2, none⟩ (.int .u64 ((lb y 2 : Nat) : Int))).setCell ⟨g2, 3, none⟩ (.int .u64 ((lb y 3 : Nat) : Int))).setCell ⟨g2, 4, none⟩ (.int .u64 ((lb y 4 : Nat) : Int))).setCell ⟨g2, 5, none⟩ (.int .u64 ((lb y 5 : Nat) : Int)) = W ∧ Arr t W g1 (row 6 x) ∧ Arr t W g2 (row 6 y) ∧ (∀ t' g' xs, g' ≠ g1 → g' ≠ g2 → Arr t' Y g' xs → Arr t' W g' xs) ∧ (∀ B w0, Below B w0 Y → B ≤ g1 → B ≤ g2 → Below B w0 W) ∧ W.heap.size = Y.heap.size := by
  obtain ⟨W1, e1, a1, o1, b1, s1⟩ := fp_one h1 x
  obtain ⟨W2, e2, a2, o2, b2, s2⟩ := fp_one (o1 _ _ _ hne.symm h2) y
  refine ⟨W2, ?_, o2 _ _ _ hne a1, a2, fun t' g' xs n1 n2 ha => o2 _ _ _ n2 (o1 _ _ _ n1 ha), fun B w0 hb h1 h2 => b2 _ _ (b1 _ _ hb h1) h2, s2.trans s1⟩
  rw [e1]
  exact e2
end

section
section
open Go.RowKit
theorem fpM_lt : pN < fpB := by decide +kernel
theorem fpM_pos : 0 < pN := by decide +kernel
theorem fpM_odd : pN % 2 = 1 := by decide +kernel
theorem fpM_two : pN + pN < fpB := by decide +kernel
theorem fpM_mod (a : Nat) : a % pN < pN := Nat.mod_lt _ fpM_pos
theorem fpM_modB (a : Nat) : a % pN < fpB := Nat.lt_trans (fpM_mod a) fpM_lt
theorem fpval_M : val (row 6 pN) = pN := fpval fpM_lt
theorem fpM_lit : fpV pN = .agg #[.int .u64 13402431016077863595, .int .u64 2210141511517208575, .int .u64 7435674573564081700, .int .u64 7239337960414712511, .int .u64 5412103778470702295, .int .u64 1873798617647539866] := by
  show Value.agg #[.int .u64 ((lb pN 0 : Nat) : Int), .int .u64 ((lb pN 1 : Nat) : Int), .int .u64 ((lb pN 2 : Nat) : Int), .int .u64 ((lb pN 3 : Nat) : Int), .int .u64 ((lb pN 4 : Nat) : Int), .int .u64 ((lb pN 5 : Nat) : Int)] = _
  rw [show lb pN 0 = 13402431016077863595 by decide +kernel, show lb pN 1 = 2210141511517208575 by decide +kernel, show lb pN 2 = 7435674573564081700 by decide +kernel, show lb pN 3 = 7239337960414712511 by decide +kernel, show lb pN 4 = 5412103778470702295 by decide +kernel, show lb pN 5 = 1873798617647539866 by decide +kernel]
  rfl
def fpSq : Nat := 2708263910654730174793787626328176511836455197166317677006154293982164122222515399004018013397331347120527951271750
theorem fpSq_lt : fpSq < pN := by decide +kernel
theorem fpSq_ltB : fpSq < fpB := Nat.lt_trans fpSq_lt fpM_lt
theorem fpSq_eq : fpSq = 2 ^ (64 * 6) * 2 ^ (64 * 6) % pN := by decide +kernel
theorem fpSq_lit : fpV fpSq = .agg #[.int .u64 17644856173732828998, .int .u64 754043588434789617, .int .u64 10224657059481499349, .int .u64 7488229067341005760, .int .u64 11130996698012816685, .int .u64 1267921511277847466] := by
  show Value.agg #[.int .u64 ((lb fpSq 0 : Nat) : Int), .int .u64 ((lb fpSq 1 : Nat) : Int), .int .u64 ((lb fpSq 2 : Nat) : Int), .int .u64 ((lb fpSq 3 : Nat) : Int), .int .u64 ((lb fpSq 4 : Nat) : Int), .int .u64 ((lb fpSq 5 : Nat) : Int)] = _
  rw [show lb fpSq 0 = 17644856173732828998 by decide +kernel, show lb fpSq 1 = 754043588434789617 by decide +kernel, show lb fpSq 2 = 10224657059481499349 by decide +kernel, show lb fpSq 3 = 7488229067341005760 by decide +kernel, show lb fpSq 4 = 11130996698012816685 by decide +kernel, show lb fpSq 5 = 1267921511277847466 by decide +kernel]
  rfl
theorem fpmodulus_v (w : World) : Calls Tryz.prog 86 #[] w (Is (fpV pN) w) := by
  rw [fpM_lit]
  go_enter Tryz.func86, Tryz.ntmps86
  go_wp2
  refine bodyPost_ret (v := .agg #[.int .u64 13402431016077863595, .int .u64 2210141511517208575, .int .u64 7435674573564081700, .int .u64 7239337960414712511, .int .u64 5412103778470702295, .int .u64 1873798617647539866]) (by simp [results, Tryz.results86, go_sem]) rfl ⟨rfl, below_alloc w _⟩
theorem fpsquare_v (w : World) : Calls Tryz.prog 89 #[] w (Is (fpV fpSq) w) := by
  rw [fpSq_lit]
  go_enter Tryz.func89, Tryz.ntmps89
  go_wp2
  refine bodyPost_ret (v := .agg #[.int .u64 17644856173732828998, .int .u64 754043588434789617, .int .u64 10224657059481499349, .int .u64 7488229067341005760, .int .u64 11130996698012816685, .int .u64 1267921511277847466]) (by simp [results, Tryz.results89, go_sem]) rfl ⟨rfl, below_alloc w _⟩
set_option maxRecDepth 20000 in
set_option maxHeartbeats 1000000 in
theorem fpnumber_v (a : Option Addr) (N c v : Nat) (w : World) (hN : N = 6) (hv : View w a N (row 6 v)) :
    Calls Tryz.prog 88 #[.slice a N c] w (Is (fpV v) w) := by
  obtain ⟨w2, hw2, a1, a2, hb0, hsz⟩ := fp_lay_zz 24 w
  have HV := Lib.hid (hv.below (Nat.le_refl _) hb0)
  have A1 := Lib.hid a1
  have A2 := Lib.hid a2
  have HB0 := Lib.hid hb0
  have HN := Lib.hid hN
  have HK := Lib.hid (show 1 ≤ 6 by decide)
  have HL := Lib.hid (length_row 6 0)
  subst hw2
  clear a1 a2 hb0 hv hN hsz
  go_enter Tryz.func88, Tryz.ntmps88
  go_wp2_with (with_reducible refine wpList_copy_arr _ rfl (.tmp 4) (.tmp 5) rfl 24 (w.heap.size + 1) N 6 _ (row 6 0) (row 6 v) _ _ rfl rfl HN.out A2.out HL.out HV.out HK.out ?_; intro w3 ho3 hb3; have c0 := ho3.fpc0; have c1 := ho3.fpc1; have c2 := ho3.fpc2; have c3 := ho3.fpc3; have c4 := ho3.fpc4; have c5 := ho3.fpc5; have a3 := A1.out.below (Nat.lt_succ_self _) hb3; have d0 := a3.fpc0; have d1 := a3.fpc1; have d2 := a3.fpc2; have d3 := a3.fpc3; have d4 := a3.fpc4; have d5 := a3.fpc5; have f0 := a3.frozen 0; have f1 := a3.frozen 1; have f2 := a3.frozen 2; have f3 := a3.frozen 3; have f4 := a3.frozen 4; have f5 := a3.frozen 5; have HB3 := Lib.hid (HB0.out.trans (hb3.mono (Nat.le_succ _))); clear ho3 hb3 a3)
  go_wp2
  refine bodyPost_ret (v := fpV v) (by simp [results, Tryz.results88, go_sem, d0, d1, d2, d3, d4, d5]) rfl ⟨rfl, ?_⟩
  exact fp_below HB3.out (Nat.le_refl _) _ _ _ _ _ _
theorem fpCmp_lt (a : Nat) (ha : a < fpB) : cmpI (val (row 6 a)) (val (row 6 pN)) = cmpI a pN := by rw [fpval ha, fpval_M]
theorem fpCmpM (a : Nat) : decide (cmpI a pN < 0) = decide (a < pN) := by
  unfold cmpI
  by_cases h : a < pN
  · simp [h]
  · by_cases h' : pN < a <;> simp [h, h']
set_option maxRecDepth 20000 in
set_option maxHeartbeats 1000000 in
theorem fpRight_v (a : Nat) (w : World) (ha : a < fpB) (r : Bool) (hr : r = decide (a < pN)) :
    Calls Tryz.prog 84 #[fpV a] w (Is (.bool r) w) := by
  obtain ⟨w1, hw1, a1, hb1, hs1⟩ := fp_lay_v 24 w a
  have HW := Lib.hid hw1
  have HB1 := Lib.hid hb1
  have A1 := Lib.hid a1
  have HC := Lib.hid (fpCmp_lt a ha)
  have HR := Lib.hid (hr.trans (fpCmpM a).symm)
  clear hw1 hb1 a1 hr hs1 ha
  go_enter Tryz.func84, Tryz.ntmps84
  go_wp2_with fail
  rw [HW.out]
  refine (fpmodulus_v _).mono ?_
  rintro e w2 ⟨rfl, hb2⟩
  obtain ⟨w3, hw3, a3, hb3, hs3⟩ := fp_lay_v 24 w2 pN
  have HW3 := Lib.hid hw3
  have V1 := Lib.hid ((A1.out.keep hb2).keep hb3).vrow
  have V3 := Lib.hid a3.vrow
  have HB3 := Lib.hid (below_then HB1.out (below_then hb2 hb3))
  clear HW A1 HB1 hb2 a3 hb3 hs3 hw3
  go_wp2_with fail
  rw [HW3.out]
  clear HW3
  obtain ⟨r', hr', hd⟩ : ∃ r' : Int, r' = cmpI (val (row 6 a)) (val (row 6 pN)) ∧ decide (r' < 0) = r := ⟨_, rfl, by rw [HC.out, HR.out]⟩
  have HR' := Lib.hid hr'
  clear hr' HC HR
  go_quiet ((go_at_call 91; exact Calls.quiet_of_same ((cmp_short _ 6 6 _ _ 6 6 _ _ (by decide) (by decide) (by decide) (by decide) (V1.out.drewN _) (V3.out.drewN _) (by decide) (by decide) HR'.out).mono fun _ _ h => ⟨h.1, h.2.symm⟩)))
  go_wp2
  go_ret
  exact ⟨by first | rfl | rw [hd], below_drewN HB3.out _⟩
theorem fplessM {a : Nat} (h : pN ≤ a) (ha : a < fpB) : row 6 (val (row 6 a) + 2 ^ (64 * 6) - val (row 6 pN)) = row 6 (a - pN) := by
  rw [fpval ha, fpval_M, row_sub h]
set_option maxRecDepth 20000 in
set_option maxHeartbeats 1000000 in
theorem fpless_v (a : Nat) (w : World) (ha : a < fpB) (h : pN ≤ a) (v : Nat) (hv : v = a - pN) :
    Calls Tryz.prog 85 #[fpV a] w (Is (fpV v) w) := by
  obtain ⟨w1, hw1, a1, z1, hb1, hs1⟩ := fp_lay_vz 24 w a
  have HW := Lib.hid hw1
  have HB1 := Lib.hid hb1
  have A1 := Lib.hid a1
  have Z1 := Lib.hid z1
  have HR := Lib.hid (fplessM h ha)
  have HV := Lib.hid hv
  clear hw1 hb1 a1 z1 hs1 ha h hv
  go_enter Tryz.func85, Tryz.ntmps85
  go_wp2_with fail
  rw [HW.out]
  refine (fpmodulus_v _).mono ?_
  rintro e w2 ⟨rfl, hb2⟩
  obtain ⟨w3, hw3, a3, hb3, hs3⟩ := fp_lay_v 24 w2 pN
  have HW3 := Lib.hid hw3
  have V1 := Lib.hid ((A1.out.keep hb2).keep hb3).vrow
  have Z3 := Lib.hid ((Z1.out.keep hb2).keep hb3)
  have V3 := Lib.hid a3.vrow
  have HB3 := Lib.hid (below_then HB1.out (below_then hb2 hb3))
  clear HW A1 HB1 hb2 a3 hb3 hs3 hw3 Z1
  go_wp2_with fail
  rw [HW3.out]
  clear HW3
  go_region_with (go_at_call 132; refine (sub_short _ 6 6 _ _ 6 6 _ _ (by decide) (by decide) (by decide) (by decide) V1.out.drew V3.out.drew (by decide) (by decide)).mono ?_; rintro e w4 ⟨g, rfl, ho, hg, hb4⟩; have hb4' : Below w3.heap.size w3 w4 := (Below.refl w3.heap.size w3).drew.trans hb4; rw [show max 6 6 = 6 from rfl, HR.out, ← HV.out] at ho; have V4 := Lib.hid ho.vrow; have Z4 := Lib.hid (Z3.out.keep hb4'); have HB4 := Lib.hid (below_then HB3.out hb4'); clear ho hg hb4 hb4')
  all_goals
    go_wp2_with fail
    refine (fpnumber_v _ 6 6 v _ rfl V4.out).mono ?_
    rintro e w5 ⟨rfl, hb5⟩
    have Z5 := Z4.out.keep hb5
    have m0 := Z5.fpc0
    have m1 := Z5.fpc1
    have m2 := Z5.fpc2
    have m3 := Z5.fpc3
    have m4 := Z5.fpc4
    have m5 := Z5.fpc5
    have q0 := Z5.frozen 0
    have q1 := Z5.frozen 1
    have q2 := Z5.frozen 2
    have q3 := Z5.frozen 3
    have q4 := Z5.frozen 4
    have q5 := Z5.frozen 5
    have HB5 := Lib.hid (below_then HB4.out hb5)
    clear hb5 Z5
    go_wp2
    refine bodyPost_ret (v := fpV v) (by simp [results, Tryz.results85, go_sem, m0, m1, m2, m3, m4, m5]) rfl ⟨rfl, ?_⟩
    exact fp_below HB5.out (by omega) _ _ _ _ _ _
set_option maxRecDepth 20000 in
set_option maxHeartbeats 4000000 in
theorem fpClean_v (a : Nat) (w : World) (ha : a < fpB) (v : Nat) (hv : v = a % pN) :
    Calls Tryz.prog 40 #[fpV a] w (Is (fpV v) w) := by
  go_enter Tryz.func40, Tryz.ntmps40
  go_wp2_with fail
  obtain ⟨w2, hw2, a1, a2, hb0, hsz⟩ := fp_lay_vz 24 w a
  rw [hw2]
  have HA := Lib.hid ha
  have HV := Lib.hid hv
  have A1 := Lib.hid a1
  have A2 := Lib.hid a2
  have HB0 := Lib.hid hb0
  clear hw2 ha hv a1 a2 hb0 hsz
  go_loopg [] a (fun V wr => V < fpB ∧ V % pN = a % pN ∧ Arr 24 wr w.heap.size (row 6 V) ∧ Arr 24 wr (w.heap.size + 1) (row 6 0) ∧ Below w.heap.size w wr)
  case atStart => exact ⟨HA.out, rfl, A1.out, A2.out, HB0.out⟩
  case round =>
    obtain ⟨hlt, hm, ha, hr, hbl⟩ := hrel
    clear A1 A2 HA
    have c0 := ha.fpc0
    have c1 := ha.fpc1
    have c2 := ha.fpc2
    have c3 := ha.fpc3
    have c4 := ha.fpc4
    have c5 := ha.fpc5
    have hp := ha.lt
    have HM := Lib.hid hm
    have HA := Lib.hid ha
    have HR := Lib.hid hr
    have HB := Lib.hid hbl
    have HL := Lib.hid hlt
    clear hm ha hr hbl hlt
    go_wp2_with fail
    by_cases h : gk < pN
    · refine (fpRight_v gk _ HL.out true (decide_eq_true h).symm).mono ?_
      rintro e y2 ⟨rfl, hb2⟩
      have HA2 := HA.out.keep hb2
      have HR2 := HR.out.keep hb2
      have d0 := HA2.fpc0
      have d1 := HA2.fpc1
      have d2 := HA2.fpc2
      have d3 := HA2.fpc3
      have d4 := HA2.fpc4
      have d5 := HA2.fpc5
      have e0 := HR2.fpc0
      have e1 := HR2.fpc1
      have e2 := HR2.fpc2
      have e3 := HR2.fpc3
      have e4 := HR2.fpc4
      have e5 := HR2.fpc5
      have f0 := HR2.frozen 0
      have f1 := HR2.frozen 1
      have f2 := HR2.frozen 2
      have f3 := HR2.frozen 3
      have f4 := HR2.frozen 4
      have f5 := HR2.frozen 5
      have HE := Lib.hid (show v = gk from by rw [HV.out, ← HM.out, Nat.mod_eq_of_lt h])
      have HB3 := Lib.hid (below_then HB.out hb2)
      clear h HA2 HR2 hb2 c0 c1 c2 c3 c4 c5
      go_wp2
      refine bodyPost_ret (v := fpV gk) (by simp [results, Tryz.results40, go_sem, e0, e1, e2, e3, e4, e5]) rfl ⟨by rw [HE.out], ?_⟩
      exact fp_below HB3.out (by omega) _ _ _ _ _ _
    · refine (fpRight_v gk _ HL.out false (decide_eq_false h).symm).mono ?_
      rintro e y2 ⟨rfl, hb2⟩
      have HA2 := HA.out.keep hb2
      have HR2 := Lib.hid (HR.out.keep hb2)
      have HB2 := Lib.hid (below_then HB.out hb2)
      have HN := Lib.hid (show pN ≤ gk by omega)
      have d0 := HA2.fpc0
      have d1 := HA2.fpc1
      have d2 := HA2.fpc2
      have d3 := HA2.fpc3
      have d4 := HA2.fpc4
      have d5 := HA2.fpc5
      have A3 := Lib.hid HA2
      clear h HA2 hb2 c0 c1 c2 c3 c4 c5
      go_wp2_with fail
      obtain ⟨x, hx⟩ : ∃ x, x = gk - pN := ⟨_, rfl⟩
      refine (fpless_v gk _ HL.out HN.out x hx).mono ?_
      rintro e y3 ⟨rfl, hb3⟩
      have HX := Lib.hid hx
      have HA4 := A3.out.keep hb3
      have k0 := HA4.fpc0
      have k1 := HA4.fpc1
      have k2 := HA4.fpc2
      have k3 := HA4.fpc3
      have k4 := HA4.fpc4
      have k5 := HA4.fpc5
      have q0 := HA4.frozen 0
      have q1 := HA4.frozen 1
      have q2 := HA4.frozen 2
      have q3 := HA4.frozen 3
      have q4 := HA4.frozen 4
      have q5 := HA4.frozen 5
      have A4 := Lib.hid HA4
      have R4 := Lib.hid (HR2.out.keep hb3)
      have HB4 := Lib.hid (below_then HB2.out hb3)
      clear hx HA4 hb3 d0 d1 d2 d3 d4 d5
      go_wp2
      go_roundg (gk - pN)
      case measure => exact Nat.sub_lt (Nat.lt_of_lt_of_le fpM_pos HN.out) fpM_pos
      case rel =>
        rw [← HX.out]
        exact ⟨by have := HL.out; have := HX.out; omega, by rw [HX.out, ← HM.out, ← Nat.mod_eq_sub_mod HN.out], A4.out.fpstore x, R4.out.fpother (by omega) _ _ _ _ _ _, fp_below HB4.out (Nat.le_refl _) _ _ _ _ _ _⟩
end

section
section
section
open Go.RowKit
theorem less_limb {zs ts : List Nat} {q : Nat} (s1 : Small zs) (s2 : Small ts) (h : ∀ j, q + 1 ≤ j → lm zs j = lm ts j) (hne : lm zs q ≠ lm ts q) : (lm zs q < lm ts q) = (val zs < val ts) := by
  rcases Nat.lt_or_ge (lm zs q) (lm ts q) with g | g
  · exact propext ⟨fun _ => val_lt_of_limb s1 s2 q (fun j hj => h j hj) g, fun _ => g⟩
  · have := val_lt_of_limb s2 s1 q (fun j hj => (h j hj).symm) (by omega)
    exact propext ⟨fun h1 => absurd h1 (by omega), fun h1 => absurd h1 (by omega)⟩
def ltB (x y : Nat) : Bool := decide (x < y)
theorem subLimb_step2 {zs ts : List Nat} (s1 : Small zs) (s2 : Small ts) {K k : Nat} (hk : k < K) :
    (row K (difLo (val zs) (val ts) (2 ^ (64 * k)))).set k (subLo (lm zs k) (lm ts k) (difHi (val zs) (val ts) (2 ^ (64 * k)))) = row K (difLo (val zs) (val ts) (2 ^ (64 * (k + 1)))) ∧
    subHi (lm zs k) (lm ts k) (difHi (val zs) (val ts) (2 ^ (64 * k))) = difHi (val zs) (val ts) (2 ^ (64 * (k + 1))) := by
  have hp := Nat.two_pow_pos (64 * k)
  obtain ⟨e1, e2⟩ := dif_digit (val zs) (val ts) (2 ^ (64 * k)) (2 ^ 64) hp (by decide)
  rw [← lm_val s1, ← lm_val s2, Nat.mul_comm, ← pow64] at e1
  rw [← lm_val s1, ← lm_val s2, Nat.mul_comm, ← pow64] at e2
  refine ⟨?_, e2.symm⟩
  rw [row_set _ _ _ (subLo _ _ _) (difLo_lt _ _ _ hp) (Nat.mod_lt _ (by decide)) hk, e1]
  rfl
end

section
open Go.RowKit
theorem minus_forms (x y b : Nat) (hx : x < 2 ^ 64) (hy : y < 2 ^ 64) (hb : b ≤ 1) : ∃ d : Nat, IntKind.u64.wrap ((x : Int) - (y : Int)) = (d : Int) ∧ IntKind.u64.wrap ((d : Int) - (b : Int)) = ((subLo x y b : Nat) : Int) := by
  refine ⟨(x + 2 ^ 64 - y) % 2 ^ 64, by rw [IntKind.wrap_u64]; omega, ?_⟩
  rw [IntKind.wrap_u64]
  unfold subLo
  omega
theorem plus_forms (x y b : Nat) (_hx : x < 2 ^ 64) (_hy : y < 2 ^ 64) (_hb : b ≤ 1) : ∃ d : Nat, IntKind.u64.wrap ((x : Int) + (y : Int)) = (d : Int) ∧ IntKind.u64.wrap ((d : Int) + (b : Int)) = ((sumLo x y b : Nat) : Int) := by
  refine ⟨(x + y) % 2 ^ 64, by rw [IntKind.wrap_u64]; omega, ?_⟩
  rw [IntKind.wrap_u64]
  unfold sumLo
  omega
theorem minus_more (x y b : Nat) (_hx : x < 2 ^ 64) (_hy : y < 2 ^ 64) (hb : b ≤ 1) : (x < y → subHi x y b = 1) ∧ (x = y → b = 1 → subHi x y b = 1) ∧ (x = y → b = 0 → subHi x y b = 0) ∧ (y < x → subHi x y b = 0) := by
  unfold subHi
  refine ⟨fun h => if_pos (by omega), fun h h2 => if_pos (by omega), fun h h2 => if_neg (by omega), fun h => if_neg (by omega)⟩
theorem plus_more (x y b : Nat) (hx : x < 2 ^ 64) (hy : y < 2 ^ 64) (hb : b ≤ 1) : (sumLo x y b < x → sumHi x y b = 1) ∧ (sumLo x y b = x → b = 1 → sumHi x y b = 1) ∧ (sumLo x y b = x → b = 0 → sumHi x y b = 0) ∧ (x < sumLo x y b → sumHi x y b = 0) := by
  unfold sumHi sumLo
  refine ⟨fun h => by omega, fun h h2 => by omega, fun h h2 => by omega, fun h => by omega⟩
end
end

section
open Go.RowKit
theorem r4P_v (w : World) : Calls Tryz.prog 39 #[] w (Is (fpV pN) w) := by
  rw [fpM_lit]
  go_enter Tryz.func39, Tryz.ntmps39
  go_wp2
  refine bodyPost_ret (v := .agg #[.int .u64 13402431016077863595, .int .u64 2210141511517208575, .int .u64 7435674573564081700, .int .u64 7239337960414712511, .int .u64 5412103778470702295, .int .u64 1873798617647539866]) (by simp [results, Tryz.results39, go_sem]) rfl ⟨rfl, below_alloc w _⟩
theorem fp_ltE2 {x : Nat} (h : x < fpB) : x < 2 ^ (64 * 6) := Nat.lt_of_lt_of_eq h fpB_eq
theorem fpdif {a b : Nat} (ha : a < fpB) (h : b ≤ a) : difLo (val (row 6 a)) (val (row 6 b)) (2 ^ (64 * 6)) = a - b := by
  rw [fpval ha, fpval (Nat.lt_of_le_of_lt h ha)]
  have := fp_ltE2 ha
  unfold difLo
  revert this
  generalize 2 ^ (64 * 6) = P
  intro hP
  rw [Nat.mod_eq_of_lt hP, Nat.mod_eq_of_lt (show b < P by omega), show a + P - b = (a - b) + P by omega, Nat.add_mod_right, Nat.mod_eq_of_lt (by omega)]
theorem fpsumE {a b : Nat} (h : a + b < fpB) : addLo (val (row 6 a)) (val (row 6 b)) (2 ^ (64 * 6)) = a + b := by
  rw [fpval (show a < fpB by omega), fpval (show b < fpB by omega)]
  have := fp_ltE2 h
  unfold addLo
  revert this
  generalize 2 ^ (64 * 6) = P
  intro hP
  rw [Nat.mod_eq_of_lt (show a < P by omega), Nat.mod_eq_of_lt (show b < P by omega), Nat.mod_eq_of_lt hP]
set_option maxRecDepth 20000 in
set_option maxHeartbeats 4000000 in
theorem r4Less_v (a b : Nat) (w : World) (ha : a < fpB) (hb : b < fpB) (r : Bool) (hr : r = decide (a < b)) :
    Calls Tryz.prog 46 #[fpV a, fpV b] w (Is (.bool r) w) := by
  go_enter Tryz.func46, Tryz.ntmps46
  go_wp2
  obtain ⟨w2, hw2, a1, a2, hb0, hsz⟩ := fp_lay_vv 24 w a b
  rw [hw2]
  clear hw2
  have l1 := length_row 6 a
  have l2 := length_row 6 b
  have hx := small_row 6 a
  have hy := small_row 6 b
  have EX2 := Lib.hid (show r = ltB (val (row 6 a)) (val (row 6 b)) by rw [fpval ha, fpval hb, hr]; rfl)
  generalize row 6 a = xs at *
  generalize row 6 b = ys at *
  have HZ := Lib.hid (show ∀ j, 6 ≤ j → lm xs j = lm ys j from fun j hj => by rw [lm_zero (by omega), lm_zero (by omega)])
  have s1 := Lib.hid hx
  have s2 := Lib.hid hy
  have A1 := Lib.hid a1
  have A2 := Lib.hid a2
  have HB0 := Lib.hid hb0
  have L1 := Lib.hid l1
  have L2 := Lib.hid l2
  clear hx hy a1 a2 hb0 l1 l2 ha hb hr hsz
  go_loopw [5] (fun i wr => ∃ k : Nat, k ≤ 6 ∧ i = .int .i64 ((k : Int) - 1) ∧ Hid (∀ j, k ≤ j → lm xs j = lm ys j) ∧ Below w2.heap.size w2 wr) (fun i _ => ((intOf i) + 1).toNat)
  case atStart => exact ⟨6, Nat.le_refl _, rfl, HZ, Below.refl _ _⟩
  case round =>
    clear HZ
    obtain ⟨k, hk, rfl, HA, hbl⟩ := hrel
    by_cases hlt : 1 ≤ k
    · obtain ⟨q, rfl⟩ : ∃ q, k = q + 1 := ⟨k - 1, by omega⟩
      have hc := (A1.out.keep hbl).cell (i := q) (by have := L1.out; omega)
      have hc' := (A2.out.keep hbl).cell (i := q) (by have := L2.out; omega)
      have HB := Lib.hid hbl
      have hlt' : (q : Int) < 6 := by omega
      clear hbl
      by_cases he : lm xs q = lm ys q
      · have R := Lib.hid (show ∀ j, q ≤ j → lm xs j = lm ys j from fun j hj => by
          by_cases e : j = q
          · rw [e, he]
          · exact HA.out j (by omega))
        have hne : (((lm xs q : Nat) : Int) != ((lm ys q : Nat) : Int)) = false := by simp [he]
        clear he
        go_wp2
        go_quiet (fail)
        go_wp2
        go_roundw
        case rel => exact ⟨q, by omega, by go_num, R, below_drewN HB.out _⟩
        case measure => simp [intOf]
      · have R : Hid (decide (lm xs q < lm ys q) = ltB (val xs) (val ys)) := by
          unfold ltB
          rw [Hid, decide_eq_decide, less_limb s1.out s2.out HA.out he]
        have hne : (((lm xs q : Nat) : Int) != ((lm ys q : Nat) : Int)) = true := by simp; omega
        clear he
        go_wp2
        go_quiet (fail)
        go_wp2
        go_quiet (fail)
        go_wp2
        go_ret
        exact ⟨by rw [EX2.out, ← R.out] <;> rfl, below_then HB0.out (below_drewN (below_drewN HB.out _) _)⟩
    · obtain rfl : k = 0 := by omega
      have R : Hid (false = ltB (val xs) (val ys)) := by
        unfold ltB
        rw [Hid, val_eq_of_limbs s1.out s2.out (fun j => HA.out j (Nat.zero_le _))]
        simp
      have HB := Lib.hid hbl
      clear hbl
      go_wp2
      go_ret
      exact ⟨by rw [EX2.out, ← R.out] <;> rfl, below_then HB0.out HB.out⟩
set_option maxRecDepth 20000 in
set_option maxHeartbeats 4000000 in
theorem r4minus_v (a b : Nat) (w : World) (ha : a < fpB) (h : b ≤ a) (V : Nat) (hv : V = a - b) :
    Calls Tryz.prog 47 #[fpV a, fpV b] w (Is (fpV V) w) := by
  go_enter Tryz.func47, Tryz.ntmps47
  go_wp2_with fail
  obtain ⟨w4, hw4, a1, a2, a3, a4, hb0, hsz⟩ := fp_lay_vvzz 24 w a b
  rw [hw4]
  clear hw4
  have l1 := length_row 6 a
  have l2 := length_row 6 b
  have hx := small_row 6 a
  have hy := small_row 6 b
  have EX := Lib.hid (show difLo (val (row 6 a)) (val (row 6 b)) (2 ^ (64 * 6)) = V by rw [hv, fpdif ha h])
  generalize row 6 a = xs at *
  generalize row 6 b = ys at *
  have s1 := Lib.hid hx
  have s2 := Lib.hid hy
  have A1 := Lib.hid a1
  have A2 := Lib.hid a2
  have A3 := Lib.hid a3
  have A4 := Lib.hid a4
  have HB0 := Lib.hid hb0
  have L1 := Lib.hid l1
  have L2 := Lib.hid l2
  clear hx hy a1 a2 a3 a4 hb0 l1 l2 hsz ha h hv
  go_loopw [6, 7] (fun cr i wr => ∃ k : Nat, k ≤ 6 ∧ i = .int .i64 (k : Int) ∧ cr = .int .u64 ((difHi (val xs) (val ys) (2 ^ (64 * k)) : Nat) : Int) ∧ Arr 24 wr (w.heap.size + 1 + 1 + 1) (row 6 (difLo (val xs) (val ys) (2 ^ (64 * k)))) ∧ Below (w.heap.size + 1 + 1 + 1) w4 wr) (fun _ i _ => 6 - (intOf i).toNat)
  case atStart => exact ⟨0, Nat.zero_le _, rfl, by rw [show 2 ^ (64 * 0) = 1 from rfl, difHi_one]; rfl, by rw [show 2 ^ (64 * 0) = 1 from rfl, difLo_one]; exact A4.out, Below.refl _ _⟩
  case round =>
    obtain ⟨k, hk, rfl, rfl, ho, hbl⟩ := hrel
    clear A4
    by_cases hlt : k < 6
    · have S := Lib.hid (subLimb_step2 s1.out s2.out (K := 6) hlt)
      have hca := (A1.out.below (by omega) hbl).cell (i := k) (by have := L1.out; omega)
      have hcb := (A2.out.below (by omega) hbl).cell (i := k) (by have := L2.out; omega)
      have hco := ho.cell (i := k) (by rw [length_row]; exact hlt)
      have hfo := ho.frozen k
      have hx := lm_lt s1.out k
      have hy := lm_lt s2.out k
      have hb1 := difHi_le (val xs) (val ys) (2 ^ (64 * k))
      generalize hz : lm (row 6 (difLo (val xs) (val ys) (2 ^ (64 * k)))) k = z at hco
      clear hz
      have HO := Lib.hid ho
      have HB := Lib.hid hbl
      clear ho hbl
      obtain ⟨d, f1, f2⟩ := minus_forms (lm xs k) (lm ys k) (difHi (val xs) (val ys) (2 ^ (64 * k))) hx hy hb1
      have MM := Lib.hid (minus_more (lm xs k) (lm ys k) (difHi (val xs) (val ys) (2 ^ (64 * k))) hx hy hb1)
      have hk4 : (k : Int) < 6 := by omega
      generalize lm xs k = x at *
      generalize lm ys k = y at *
      generalize difHi (val xs) (val ys) (2 ^ (64 * k)) = bo at *
      generalize subLo x y bo = v at *
      generalize subHi x y bo = hi at *
      go_wp2_with fail
      have hst : ∀ u, (wr.setCell ⟨w.heap.size + 1 + 1 + 1, k, none⟩ u).drew.cell? ⟨w.heap.size, k, none⟩ = some (.int .u64 (x : Int)) ∧ (wr.setCell ⟨w.heap.size + 1 + 1 + 1, k, none⟩ u).drew.cell? ⟨w.heap.size + 1, k, none⟩ = some (.int .u64 (y : Int)) := fun u => by
        have B1 : Below (w.heap.size + 1 + 1 + 1) wr (wr.setCell ⟨w.heap.size + 1 + 1 + 1, k, none⟩ u).drew := ((Below.refl _ _).setCell (p := ⟨w.heap.size + 1 + 1 + 1, k, none⟩) (Nat.le_refl _) _).drew
        exact ⟨(B1.cell (p := ⟨w.heap.size, k, none⟩) (show w.heap.size < w.heap.size + 1 + 1 + 1 by omega)).trans hca, (B1.cell (p := ⟨w.heap.size + 1, k, none⟩) (show w.heap.size + 1 < w.heap.size + 1 + 1 + 1 by omega)).trans hcb⟩
      go_region_held3 (fun w' => w'.cell? ⟨w.heap.size, k, none⟩ = some (.int .u64 (x : Int)) ∧ w'.cell? ⟨w.heap.size + 1, k, none⟩ = some (.int .u64 (y : Int))) (first | exact ⟨hca, hcb⟩ | exact hst _) (fail)
      all_goals
        clear hst
        have B1 : Below (w.heap.size + 1 + 1 + 1) wr (wr.setCell ⟨w.heap.size + 1 + 1 + 1, k, none⟩ (.int .u64 (v : Int))).drew := ((Below.refl _ _).setCell (p := ⟨w.heap.size + 1 + 1 + 1, k, none⟩) (Nat.le_refl _) _).drew
        have ga := (B1.cell (p := ⟨w.heap.size, k, none⟩) (show w.heap.size < w.heap.size + 1 + 1 + 1 by omega)).trans hca
        have gb := (B1.cell (p := ⟨w.heap.size + 1, k, none⟩) (show w.heap.size + 1 < w.heap.size + 1 + 1 + 1 by omega)).trans hcb
        have HO2 : Hid (Arr 24 (wr.setCell ⟨w.heap.size + 1 + 1 + 1, k, none⟩ (.int .u64 (v : Int))).drew (w.heap.size + 1 + 1 + 1) (row 6 (difLo (val xs) (val ys) (2 ^ (64 * (k + 1)))))) := by rw [← S.out.1]; exact HO.out.set k v
        have go := HO2.out.cell (i := k) (by rw [length_row]; exact hlt)
        rw [← S.out.1, lm_set _ _ _ _ (by rw [length_row]; exact hlt), if_pos rfl] at go
        have HB2 := Lib.hid (HB.out.trans B1)
        clear HO HB B1 hca hcb hco hfo f1 f2
        go_wp2_with fail
        generalize (wr.setCell ⟨w.heap.size + 1 + 1 + 1, k, none⟩ (.int .u64 (v : Int))).drew = W1 at *
        rcases Nat.lt_trichotomy x y with h1 | h1 | h1
        · have E := Lib.hid (MM.out.1 h1)
          have hbb : decide (x < y) = true := decide_eq_true h1
          clear h1
          go_quiet (fail)
          go_wp2
          go_roundw
          case rel => exact ⟨k + 1, by omega, by go_num, by rw [← S.out.2, E.out] <;> rfl, HO2.out, below_drewN HB2.out _⟩
          case measure => simp [intOf]; omega
        · have hbb : decide (x < y) = false := decide_eq_false (by omega)
          have hbc : ((x : Int) == (y : Int)) = true := by simp; omega
          have hbc2 : (x == y) = true := by simp; omega
          rcases (show bo = 1 ∨ bo = 0 by omega) with h2 | h2
          · have E := Lib.hid (MM.out.2.1 h1 h2)
            have hbd : ((bo : Int) == 1) = true := by simp; omega
            clear h1 h2
            go_quiet (fail)
            go_wp2
            go_roundw
            case rel => exact ⟨k + 1, by omega, by go_num, by rw [← S.out.2, E.out] <;> rfl, HO2.out, below_drewN HB2.out _⟩
            case measure => simp [intOf]; omega
          · have E := Lib.hid (MM.out.2.2.1 h1 h2)
            have hbd : ((bo : Int) == 1) = false := by simp; omega
            clear h1 h2
            go_quiet (fail)
            go_wp2
            go_roundw
            case rel => exact ⟨k + 1, by omega, by go_num, by rw [← S.out.2, E.out] <;> rfl, HO2.out, below_drewN HB2.out _⟩
            case measure => simp [intOf]; omega
        · have E := Lib.hid (MM.out.2.2.2 h1)
          have hbb : decide (x < y) = false := decide_eq_false (by omega)
          have hbc : ((x : Int) == (y : Int)) = false := by simp; omega
          have hbc2 : (x == y) = false := by simp; omega
          clear h1
          go_quiet (fail)
          go_wp2
          go_roundw
          case rel => exact ⟨k + 1, by omega, by go_num, by rw [← S.out.2, E.out] <;> rfl, HO2.out, below_drewN HB2.out _⟩
          case measure => simp [intOf]; omega
    · obtain rfl : k = 6 := by omega
      rw [EX.out] at ho
      generalize difHi (val xs) (val ys) (2 ^ (64 * 6)) = hi at *
      have c0 := ho.fpc0
      have c1 := ho.fpc1
      have c2 := ho.fpc2
      have c3 := ho.fpc3
      have c4 := ho.fpc4
      have c5 := ho.fpc5
      have a3 := A3.out.below (by omega) hbl
      have d0 := a3.fpc0
      have d1 := a3.fpc1
      have d2 := a3.fpc2
      have d3 := a3.fpc3
      have d4 := a3.fpc4
      have d5 := a3.fpc5
      have f0 := a3.frozen 0
      have f1 := a3.frozen 1
      have f2 := a3.frozen 2
      have f3 := a3.frozen 3
      have f4 := a3.frozen 4
      have f5 := a3.frozen 5
      have HB := Lib.hid (HB0.out.trans (hbl.mono (show w.heap.size ≤ w.heap.size + 1 + 1 + 1 by omega)))
      clear ho hbl a3
      go_wp2
      refine bodyPost_ret (v := fpV V) (by simp [results, Tryz.results47, go_sem, d0, d1, d2, d3, d4, d5]) rfl ⟨rfl, ?_⟩
      exact fp_below HB.out (by omega) _ _ _ _ _ _
set_option maxRecDepth 20000 in
set_option maxHeartbeats 4000000 in
theorem r4plus_v (a b : Nat) (w : World) (h : a + b < fpB) (V : Nat) (hv : V = a + b) :
    Calls Tryz.prog 82 #[fpV a, fpV b] w (Is (fpV V) w) := by
  go_enter Tryz.func82, Tryz.ntmps82
  go_wp2_with fail
  obtain ⟨w4, hw4, a1, a2, a3, a4, hb0, hsz⟩ := fp_lay_vvzz 24 w a b
  rw [hw4]
  clear hw4
  have l1 := length_row 6 a
  have l2 := length_row 6 b
  have hx := small_row 6 a
  have hy := small_row 6 b
  have EX := Lib.hid (show addLo (val (row 6 a)) (val (row 6 b)) (2 ^ (64 * 6)) = V by rw [hv, fpsumE h])
  generalize row 6 a = xs at *
  generalize row 6 b = ys at *
  have s1 := Lib.hid hx
  have s2 := Lib.hid hy
  have A1 := Lib.hid a1
  have A2 := Lib.hid a2
  have A3 := Lib.hid a3
  have A4 := Lib.hid a4
  have HB0 := Lib.hid hb0
  have L1 := Lib.hid l1
  have L2 := Lib.hid l2
  clear hx hy a1 a2 a3 a4 hb0 l1 l2 hsz h hv
  go_loopw [6, 7] (fun cr i wr => ∃ k : Nat, k ≤ 6 ∧ i = .int .i64 (k : Int) ∧ cr = .int .u64 ((addHi (val xs) (val ys) (2 ^ (64 * k)) : Nat) : Int) ∧ Arr 24 wr (w.heap.size + 1 + 1 + 1) (row 6 (addLo (val xs) (val ys) (2 ^ (64 * k)))) ∧ Below (w.heap.size + 1 + 1 + 1) w4 wr) (fun _ i _ => 6 - (intOf i).toNat)
  case atStart => exact ⟨0, Nat.zero_le _, rfl, by rw [show 2 ^ (64 * 0) = 1 from rfl, addHi_one]; rfl, by rw [show 2 ^ (64 * 0) = 1 from rfl, addLo_one]; exact A4.out, Below.refl _ _⟩
  case round =>
    obtain ⟨k, hk, rfl, rfl, ho, hbl⟩ := hrel
    clear A4
    by_cases hlt : k < 6
    · have S := Lib.hid (addLimb_step s1.out s2.out (K := 6) hlt)
      have hca := (A1.out.below (by omega) hbl).cell (i := k) (by have := L1.out; omega)
      have hcb := (A2.out.below (by omega) hbl).cell (i := k) (by have := L2.out; omega)
      have hco := ho.cell (i := k) (by rw [length_row]; exact hlt)
      have hfo := ho.frozen k
      have hx := lm_lt s1.out k
      have hy := lm_lt s2.out k
      have hb1 := addHi_le (val xs) (val ys) (2 ^ (64 * k)) (Nat.two_pow_pos _)
      generalize hz : lm (row 6 (addLo (val xs) (val ys) (2 ^ (64 * k)))) k = z at hco
      clear hz
      have HO := Lib.hid ho
      have HB := Lib.hid hbl
      clear ho hbl
      obtain ⟨d, f1, f2⟩ := plus_forms (lm xs k) (lm ys k) (addHi (val xs) (val ys) (2 ^ (64 * k))) hx hy hb1
      have MM := Lib.hid (plus_more (lm xs k) (lm ys k) (addHi (val xs) (val ys) (2 ^ (64 * k))) hx hy hb1)
      have hk4 : (k : Int) < 6 := by omega
      generalize lm xs k = x at *
      generalize lm ys k = y at *
      generalize addHi (val xs) (val ys) (2 ^ (64 * k)) = bo at *
      generalize sumLo x y bo = v at *
      generalize sumHi x y bo = hi at *
      go_wp2_with fail
      have hst : ∀ u, (wr.setCell ⟨w.heap.size + 1 + 1 + 1, k, none⟩ u).drew.cell? ⟨w.heap.size, k, none⟩ = some (.int .u64 (x : Int)) ∧ (wr.setCell ⟨w.heap.size + 1 + 1 + 1, k, none⟩ u).drew.cell? ⟨w.heap.size + 1, k, none⟩ = some (.int .u64 (y : Int)) := fun u => by
        have B1 : Below (w.heap.size + 1 + 1 + 1) wr (wr.setCell ⟨w.heap.size + 1 + 1 + 1, k, none⟩ u).drew := ((Below.refl _ _).setCell (p := ⟨w.heap.size + 1 + 1 + 1, k, none⟩) (Nat.le_refl _) _).drew
        exact ⟨(B1.cell (p := ⟨w.heap.size, k, none⟩) (show w.heap.size < w.heap.size + 1 + 1 + 1 by omega)).trans hca, (B1.cell (p := ⟨w.heap.size + 1, k, none⟩) (show w.heap.size + 1 < w.heap.size + 1 + 1 + 1 by omega)).trans hcb⟩
      go_region_held3 (fun w' => w'.cell? ⟨w.heap.size, k, none⟩ = some (.int .u64 (x : Int)) ∧ w'.cell? ⟨w.heap.size + 1, k, none⟩ = some (.int .u64 (y : Int))) (first | exact ⟨hca, hcb⟩ | exact hst _) (fail)
      all_goals
        clear hst
        have B1 : Below (w.heap.size + 1 + 1 + 1) wr (wr.setCell ⟨w.heap.size + 1 + 1 + 1, k, none⟩ (.int .u64 (v : Int))).drew := ((Below.refl _ _).setCell (p := ⟨w.heap.size + 1 + 1 + 1, k, none⟩) (Nat.le_refl _) _).drew
        have ga := (B1.cell (p := ⟨w.heap.size, k, none⟩) (show w.heap.size < w.heap.size + 1 + 1 + 1 by omega)).trans hca
        have gb := (B1.cell (p := ⟨w.heap.size + 1, k, none⟩) (show w.heap.size + 1 < w.heap.size + 1 + 1 + 1 by omega)).trans hcb
        have HO2 : Hid (Arr 24 (wr.setCell ⟨w.heap.size + 1 + 1 + 1, k, none⟩ (.int .u64 (v : Int))).drew (w.heap.size + 1 + 1 + 1) (row 6 (addLo (val xs) (val ys) (2 ^ (64 * (k + 1)))))) := by rw [← S.out.1]; exact HO.out.set k v
        have go := HO2.out.cell (i := k) (by rw [length_row]; exact hlt)
        rw [← S.out.1, lm_set _ _ _ _ (by rw [length_row]; exact hlt), if_pos rfl] at go
        have HB2 := Lib.hid (HB.out.trans B1)
        clear HO HB B1 hca hcb hco hfo f1 f2
        go_wp2_with fail
        generalize (wr.setCell ⟨w.heap.size + 1 + 1 + 1, k, none⟩ (.int .u64 (v : Int))).drew = W1 at *
        rcases Nat.lt_trichotomy v x with h1 | h1 | h1
        · have E := Lib.hid (MM.out.1 h1)
          have hbb : decide (v < x) = true := decide_eq_true h1
          clear h1
          go_quiet (fail)
          go_wp2
          go_roundw
          case rel => exact ⟨k + 1, by omega, by go_num, by rw [← S.out.2, E.out] <;> rfl, HO2.out, below_drewN HB2.out _⟩
          case measure => simp [intOf]; omega
        · have hbb : decide (v < x) = false := decide_eq_false (by omega)
          have hbc : ((v : Int) == (x : Int)) = true := by simp; omega
          have hbc2 : (v == x) = true := by simp; omega
          rcases (show bo = 1 ∨ bo = 0 by omega) with h2 | h2
          · have E := Lib.hid (MM.out.2.1 h1 h2)
            have hbd : ((bo : Int) == 1) = true := by simp; omega
            clear h1 h2
            go_quiet (fail)
            go_wp2
            go_roundw
            case rel => exact ⟨k + 1, by omega, by go_num, by rw [← S.out.2, E.out] <;> rfl, HO2.out, below_drewN HB2.out _⟩
            case measure => simp [intOf]; omega
          · have E := Lib.hid (MM.out.2.2.1 h1 h2)
            have hbd : ((bo : Int) == 1) = false := by simp; omega
            clear h1 h2
            go_quiet (fail)
            go_wp2
            go_roundw
            case rel => exact ⟨k + 1, by omega, by go_num, by rw [← S.out.2, E.out] <;> rfl, HO2.out, below_drewN HB2.out _⟩
            case measure => simp [intOf]; omega
        · have E := Lib.hid (MM.out.2.2.2 h1)
          have hbb : decide (v < x) = false := decide_eq_false (by omega)
          have hbc : ((v : Int) == (x : Int)) = false := by simp; omega
          have hbc2 : (v == x) = false := by simp; omega
          clear h1
          go_quiet (fail)
          go_wp2
          go_roundw
          case rel => exact ⟨k + 1, by omega, by go_num, by rw [← S.out.2, E.out] <;> rfl, HO2.out, below_drewN HB2.out _⟩
          case measure => simp [intOf]; omega
    · obtain rfl : k = 6 := by omega
      rw [EX.out] at ho
      generalize addHi (val xs) (val ys) (2 ^ (64 * 6)) = hi at *
      have c0 := ho.fpc0
      have c1 := ho.fpc1
      have c2 := ho.fpc2
      have c3 := ho.fpc3
      have c4 := ho.fpc4
      have c5 := ho.fpc5
      have a3 := A3.out.below (by omega) hbl
      have d0 := a3.fpc0
      have d1 := a3.fpc1
      have d2 := a3.fpc2
      have d3 := a3.fpc3
      have d4 := a3.fpc4
      have d5 := a3.fpc5
      have f0 := a3.frozen 0
      have f1 := a3.frozen 1
      have f2 := a3.frozen 2
      have f3 := a3.frozen 3
      have f4 := a3.frozen 4
      have f5 := a3.frozen 5
      have HB := Lib.hid (HB0.out.trans (hbl.mono (show w.heap.size ≤ w.heap.size + 1 + 1 + 1 by omega)))
      clear ho hbl a3
      go_wp2
      refine bodyPost_ret (v := fpV V) (by simp [results, Tryz.results82, go_sem, d0, d1, d2, d3, d4, d5]) rfl ⟨rfl, ?_⟩
      exact fp_below HB.out (by omega) _ _ _ _ _ _
end
end
end
end Go.Proofs.YtplbcdafelejbaaGreatDoor
