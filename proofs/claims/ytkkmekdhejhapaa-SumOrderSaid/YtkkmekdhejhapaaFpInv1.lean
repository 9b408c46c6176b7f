/- What is proved here: numbers of 6 limbs as array values (api.Fp) and as blocks of memory; contracts of fp.modulus, square, number, Right, lessModulus and Clean; whole numbers modulo 2^448, as seven limbs: sums, products by a limb, negatives, quotients by 2^60, limb by limb; nothing of any program; arrays of seven limbs with a sign, pairs of factors, as segments of blocks; a limb in a block; what operations on words and counts yield; what the steps of fp's inverse make of whole numbers; the contract of widen. -/
import Derived.Test.YtkkmekdhejhapaaAgg
import Derived.ChangeKeysEq
import Derived.Test.YtkkmekdhejhapaaMontFns
import Derived.Test.YtkkmekdhejhapaaPrime
import Derived.BigQuiet
import Derived.Deep.CutBlock
import Derived.Test.YtkkmekdhejhapaaComp
import Derived.Test.YtkkmekdhejhapaaMulAdd
import Derived.Test.YtkkmekdhejhapaaWalkMath
import Derived.Test.YtkkmekdhejhapaaNeg
namespace Go.Proofs.Ytkkmekdhejhapaa
section
open Go.RowKit
def fpB : Nat := 2 ^ (64 * 6)
theorem fpB_eq : fpB = 2 ^ (64 * 6) := by delta fpB; exact Eq.refl _
abbrev fpV (v : Nat) : Value := .agg #[.int .u64 ((lb v 0 : Nat) : Int), .int .u64 ((lb v 1 : Nat) : Int), .int .u64 ((lb v 2 : Nat) : Int), .int .u64 ((lb v 3 : Nat) : Int), .int .u64 ((lb v 4 : Nat) : Int), .int .u64 ((lb v 5 : Nat) : Int)]
theorem fprow (v : Nat) : row 6 v = [lb v 0, lb v 1, lb v 2, lb v 3, lb v 4, lb v 5] := by
  have h : (row 6 v).length = 6 := length_row _ _
  apply List.ext_getElem (by rw [h]; rfl)
  intro i h1 h2
  have e := lb_row (K := 6) (v := v) (i := i) (by omega)
  rw [lm, List.getD_eq_getElem?_getD, List.getElem?_eq_getElem h1] at e
  rw [show (row 6 v)[i] = lb v i from e]
  have : i = 0 ∨ i = 1 ∨ i = 2 ∨ i = 3 ∨ i = 4 ∨ i = 5 := by simp at h2; omega
  rcases this with rfl | rfl | rfl | rfl | rfl | rfl <;> rfl
theorem fpval {v : Nat} (h : v < fpB) : val (row 6 v) = v := val_row_of (K := 6) (Nat.lt_of_lt_of_eq h fpB_eq)
theorem fp_cells (v : Nat) : (cellsOf (row 6 v)).toArray = #[.int .u64 ((lb v 0 : Nat) : Int), .int .u64 ((lb v 1 : Nat) : Int), .int .u64 ((lb v 2 : Nat) : Int), .int .u64 ((lb v 3 : Nat) : Int), .int .u64 ((lb v 4 : Nat) : Int), .int .u64 ((lb v 5 : Nat) : Int)] := by rw [fprow]; rfl
theorem fp_new (t : TypeId) (w : World) (v : Nat) : Arr t (w.alloc (.cells #[.int .u64 ((lb v 0 : Nat) : Int), .int .u64 ((lb v 1 : Nat) : Int), .int .u64 ((lb v 2 : Nat) : Int), .int .u64 ((lb v 3 : Nat) : Int), .int .u64 ((lb v 4 : Nat) : Int), .int .u64 ((lb v 5 : Nat) : Int)] t)) w.heap.size (row 6 v) := by
  unfold Arr
  rw [fp_cells]
  exact heap_alloc_new w _
theorem fplb_0 (i : Nat) : lb 0 i = 0 := by simp [lb]
theorem fp_zero (t : TypeId) (w : World) : Arr t (w.alloc (.cells #[.int .u64 0, .int .u64 0, .int .u64 0, .int .u64 0, .int .u64 0, .int .u64 0] t)) w.heap.size (row 6 0) := by
  have := fp_new t w 0
  simp only [fplb_0] at this
  exact this
theorem Arr.fpc0 {t : TypeId} {w : World} {g v : Nat} (h : Arr t w g (row 6 v)) : w.cell? ⟨g, 0, none⟩ = some (.int .u64 ((lb v 0 : Nat) : Int)) := h.rc 0 (by decide)
theorem Arr.fpc1 {t : TypeId} {w : World} {g v : Nat} (h : Arr t w g (row 6 v)) : w.cell? ⟨g, 1, none⟩ = some (.int .u64 ((lb v 1 : Nat) : Int)) := h.rc 1 (by decide)
theorem Arr.fpc2 {t : TypeId} {w : World} {g v : Nat} (h : Arr t w g (row 6 v)) : w.cell? ⟨g, 2, none⟩ = some (.int .u64 ((lb v 2 : Nat) : Int)) := h.rc 2 (by decide)
theorem Arr.fpc3 {t : TypeId} {w : World} {g v : Nat} (h : Arr t w g (row 6 v)) : w.cell? ⟨g, 3, none⟩ = some (.int .u64 ((lb v 3 : Nat) : Int)) := h.rc 3 (by decide)
theorem Arr.fpc4 {t : TypeId} {w : World} {g v : Nat} (h : Arr t w g (row 6 v)) : w.cell? ⟨g, 4, none⟩ = some (.int .u64 ((lb v 4 : Nat) : Int)) := h.rc 4 (by decide)
theorem Arr.fpc5 {t : TypeId} {w : World} {g v : Nat} (h : Arr t w g (row 6 v)) : w.cell? ⟨g, 5, none⟩ = some (.int .u64 ((lb v 5 : Nat) : Int)) := h.rc 5 (by decide)
theorem fp_small {N : Nat} (h : N < 2 ^ 64) : fpV N = .agg #[.int .u64 (N : Int), .int .u64 0, .int .u64 0, .int .u64 0, .int .u64 0, .int .u64 0] := by
  show Value.agg #[.int .u64 ((lb N 0 : Nat) : Int), .int .u64 ((lb N 1 : Nat) : Int), .int .u64 ((lb N 2 : Nat) : Int), .int .u64 ((lb N 3 : Nat) : Int), .int .u64 ((lb N 4 : Nat) : Int), .int .u64 ((lb N 5 : Nat) : Int)] = _
  rw [show lb N 0 = N from by simp only [lb, Nat.mul_zero, Nat.pow_zero, Nat.div_one]; exact Nat.mod_eq_of_lt h, lb_hi h 0, lb_hi h 1, lb_hi h 2, lb_hi h 3, lb_hi h 4]
  rfl
theorem fp_lit1 : fpV 1 = .agg #[.int .u64 1, .int .u64 0, .int .u64 0, .int .u64 0, .int .u64 0, .int .u64 0] := fp_small (by decide)
theorem fp_ltB {N : Nat} (h : N < 2 ^ 64) : N < fpB := Nat.lt_trans h (by decide +kernel)
theorem fp_set (v z : Nat) : ((((((row 6 v).set 0 (lb z 0)).set 1 (lb z 1)).set 2 (lb z 2)).set 3 (lb z 3)).set 4 (lb z 4)).set 5 (lb z 5) = row 6 z := by rw [fprow, fprow]; rfl
theorem Arr.fpstore {t : TypeId} {w : World} {g v : Nat} (h : Arr t w g (row 6 v)) (z : Nat) : Arr t ((((((w.setCell ⟨g, 0, none⟩ (.int .u64 ((lb z 0 : Nat) : Int))).setCell ⟨g, 1, none⟩ (.int .u64 ((lb z 1 : Nat) : Int))).setCell ⟨g, 2, none⟩ (.int .u64 ((lb z 2 : Nat) : Int))).setCell ⟨g, 3, none⟩ (.int .u64 ((lb z 3 : Nat) : Int))).setCell ⟨g, 4, none⟩ (.int .u64 ((lb z 4 : Nat) : Int))).setCell ⟨g, 5, none⟩ (.int .u64 ((lb z 5 : Nat) : Int))) g (row 6 z) := by
  have := (((((h.set 0 (lb z 0)).set 1 (lb z 1)).set 2 (lb z 2)).set 3 (lb z 3)).set 4 (lb z 4)).set 5 (lb z 5)
  rwa [fp_set] at this
theorem fp_below {B : Nat} {w0 w : World} (hb : Below B w0 w) {b : Nat} (hg : B ≤ b) (u0 u1 u2 u3 u4 u5 : Value) : Below B w0 ((((((w.setCell ⟨b, 0, none⟩ u0).setCell ⟨b, 1, none⟩ u1).setCell ⟨b, 2, none⟩ u2).setCell ⟨b, 3, none⟩ u3).setCell ⟨b, 4, none⟩ u4).setCell ⟨b, 5, none⟩ u5) :=
  (((((hb.setCell (p := ⟨b, 0, none⟩) hg _).setCell (p := ⟨b, 1, none⟩) hg _).setCell (p := ⟨b, 2, none⟩) hg _).setCell (p := ⟨b, 3, none⟩) hg _).setCell (p := ⟨b, 4, none⟩) hg _).setCell (p := ⟨b, 5, none⟩) hg _
theorem Arr.fpother {t : TypeId} {w : World} {g b : Nat} {xs : List Nat} (h : Arr t w g xs) (hne : g ≠ b) (u0 u1 u2 u3 u4 u5 : Value) : Arr t ((((((w.setCell ⟨b, 0, none⟩ u0).setCell ⟨b, 1, none⟩ u1).setCell ⟨b, 2, none⟩ u2).setCell ⟨b, 3, none⟩ u3).setCell ⟨b, 4, none⟩ u4).setCell ⟨b, 5, none⟩ u5) g xs := by
  unfold Arr
  rw [Below.heap_setCell _ _ _ g hne, Below.heap_setCell _ _ _ g hne, Below.heap_setCell _ _ _ g hne, Below.heap_setCell _ _ _ g hne, Below.heap_setCell _ _ _ g hne, Below.heap_setCell _ _ _ g hne]
  exact h
theorem fp_lay_v (t : TypeId) (w : World) (v0 : Nat) : ∃ w', w.alloc (.cells #[.int .u64 ((lb v0 0 : Nat) : Int), .int .u64 ((lb v0 1 : Nat) : Int), .int .u64 ((lb v0 2 : Nat) : Int), .int .u64 ((lb v0 3 : Nat) : Int), .int .u64 ((lb v0 4 : Nat) : Int), .int .u64 ((lb v0 5 : Nat) : Int)] t) = w' ∧ Arr t w' (w.heap.size) (row 6 v0) ∧ Below w.heap.size w w' ∧ w'.heap.size = w.heap.size + 1 := by
  have a0 := fp_new t (w) v0
  exact ⟨_, rfl, a0, ((Below.refl w.heap.size w).alloc (by simp <;> omega) (.cells #[.int .u64 ((lb v0 0 : Nat) : Int), .int .u64 ((lb v0 1 : Nat) : Int), .int .u64 ((lb v0 2 : Nat) : Int), .int .u64 ((lb v0 3 : Nat) : Int), .int .u64 ((lb v0 4 : Nat) : Int), .int .u64 ((lb v0 5 : Nat) : Int)] t)), by simp⟩
theorem fp_lay_vz (t : TypeId) (w : World) (v0 : Nat) : ∃ w', (w.alloc (.cells #[.int .u64 ((lb v0 0 : Nat) : Int), .int .u64 ((lb v0 1 : Nat) : Int), .int .u64 ((lb v0 2 : Nat) : Int), .int .u64 ((lb v0 3 : Nat) : Int), .int .u64 ((lb v0 4 : Nat) : Int), .int .u64 ((lb v0 5 : Nat) : Int)] t)).alloc (.cells #[.int .u64 0, .int .u64 0, .int .u64 0, .int .u64 0, .int .u64 0, .int .u64 0] t) = w' ∧ Arr t w' (w.heap.size) (row 6 v0) ∧ Arr t w' (w.heap.size + 1) (row 6 0) ∧ Below w.heap.size w w' ∧ w'.heap.size = w.heap.size + 2 := by
  have a0 := fp_new t (w) v0
  have a1 := fp_zero t ((w).alloc (.cells #[.int .u64 ((lb v0 0 : Nat) : Int), .int .u64 ((lb v0 1 : Nat) : Int), .int .u64 ((lb v0 2 : Nat) : Int), .int .u64 ((lb v0 3 : Nat) : Int), .int .u64 ((lb v0 4 : Nat) : Int), .int .u64 ((lb v0 5 : Nat) : Int)] t))
  simp only [World.size_alloc] at a1
  have a0 := a0.alloc (.cells #[.int .u64 0, .int .u64 0, .int .u64 0, .int .u64 0, .int .u64 0, .int .u64 0] t)
  exact ⟨_, rfl, a0, a1, (((Below.refl w.heap.size w).alloc (by simp <;> omega) (.cells #[.int .u64 ((lb v0 0 : Nat) : Int), .int .u64 ((lb v0 1 : Nat) : Int), .int .u64 ((lb v0 2 : Nat) : Int), .int .u64 ((lb v0 3 : Nat) : Int), .int .u64 ((lb v0 4 : Nat) : Int), .int .u64 ((lb v0 5 : Nat) : Int)] t)).alloc (by simp <;> omega) (.cells #[.int .u64 0, .int .u64 0, .int .u64 0, .int .u64 0, .int .u64 0, .int .u64 0] t)), by simp⟩
theorem fp_lay_vv (t : TypeId) (w : World) (v0 v1 : Nat) : ∃ w', (w.alloc (.cells #[.int .u64 ((lb v0 0 : Nat) : Int), .int .u64 ((lb v0 1 : Nat) : Int), .int .u64 ((lb v0 2 : Nat) : Int), .int .u64 ((lb v0 3 : Nat) : Int), .int .u64 ((lb v0 4 : Nat) : Int), .int .u64 ((lb v0 5 : Nat) : Int)] t)).alloc (.cells #[.int .u64 ((lb v1 0 : Nat) : Int), .int .u64 ((lb v1 1 : Nat) : Int), .int .u64 ((lb v1 2 : Nat) : Int), .int .u64 ((lb v1 3 : Nat) : Int), .int .u64 ((lb v1 4 : Nat) : Int), .int .u64 ((lb v1 5 : Nat) : Int)] t) = w' ∧ Arr t w' (w.heap.size) (row 6 v0) ∧ Arr t w' (w.heap.size + 1) (row 6 v1) ∧ Below w.heap.size w w' ∧ w'.heap.size = w.heap.size + 2 := by
  have a0 := fp_new t (w) v0
  have a1 := fp_new t ((w).alloc (.cells #[.int .u64 ((lb v0 0 : Nat) : Int), .int .u64 ((lb v0 1 : Nat) : Int), .int .u64 ((lb v0 2 : Nat) : Int), .int .u64 ((lb v0 3 : Nat) : Int), .int .u64 ((lb v0 4 : Nat) : Int), .int .u64 ((lb v0 5 : Nat) : Int)] t)) v1
  simp only [World.size_alloc] at a1
  have a0 := a0.alloc (.cells #[.int .u64 ((lb v1 0 : Nat) : Int), .int .u64 ((lb v1 1 : Nat) : Int), .int .u64 ((lb v1 2 : Nat) : Int), .int .u64 ((lb v1 3 : Nat) : Int), .int .u64 ((lb v1 4 : Nat) : Int), .int .u64 ((lb v1 5 : Nat) : Int)] t)
  exact ⟨_, rfl, a0, a1, (((Below.refl w.heap.size w).alloc (by simp <;> omega) (.cells #[.int .u64 ((lb v0 0 : Nat) : Int), .int .u64 ((lb v0 1 : Nat) : Int), .int .u64 ((lb v0 2 : Nat) : Int), .int .u64 ((lb v0 3 : Nat) : Int), .int .u64 ((lb v0 4 : Nat) : Int), .int .u64 ((lb v0 5 : Nat) : Int)] t)).alloc (by simp <;> omega) (.cells #[.int .u64 ((lb v1 0 : Nat) : Int), .int .u64 ((lb v1 1 : Nat) : Int), .int .u64 ((lb v1 2 : Nat) : Int), .int .u64 ((lb v1 3 : Nat) : Int), .int .u64 ((lb v1 4 : Nat) : Int), .int .u64 ((lb v1 5 : Nat) : Int)] t)), by simp⟩
theorem fp_lay_vvz (t : TypeId) (w : World) (v0 v1 : Nat) : ∃ w', ((w.alloc (.cells #[.int .u64 ((lb v0 0 : Nat) : Int), .int .u64 ((lb v0 1 : Nat) : Int), .int .u64 ((lb v0 2 : Nat) : Int), .int .u64 ((lb v0 3 : Nat) : Int), .int .u64 ((lb v0 4 : Nat) : Int), .int .u64 ((lb v0 5 : Nat) : Int)] t)).alloc (.cells #[.int .u64 ((lb v1 0 : Nat) : Int), .int .u64 ((lb v1 1 : Nat) : Int), .int .u64 ((lb v1 2 : Nat) : Int), .int .u64 ((lb v1 3 : Nat) : Int), .int .u64 ((lb v1 4 : Nat) : Int), .int .u64 ((lb v1 5 : Nat) : Int)] t)).alloc (.cells #[.int .u64 0, .int .u64 0, .int .u64 0, .int .u64 0, .int .u64 0, .int .u64 0] t) = w' ∧ Arr t w' (w.heap.size) (row 6 v0) ∧ Arr t w' (w.heap.size + 1) (row 6 v1) ∧ Arr t w' (w.heap.size + 1 + 1) (row 6 0) ∧ Below w.heap.size w w' ∧ w'.heap.size = w.heap.size + 3 := by
  have a0 := fp_new t (w) v0
  have a1 := fp_new t ((w).alloc (.cells #[.int .u64 ((lb v0 0 : Nat) : Int), .int .u64 ((lb v0 1 : Nat) : Int), .int .u64 ((lb v0 2 : Nat) : Int), .int .u64 ((lb v0 3 : Nat) : Int), .int .u64 ((lb v0 4 : Nat) : Int), .int .u64 ((lb v0 5 : Nat) : Int)] t)) v1
  simp only [World.size_alloc] at a1
  have a0 := a0.alloc (.cells #[.int .u64 ((lb v1 0 : Nat) : Int), .int .u64 ((lb v1 1 : Nat) : Int), .int .u64 ((lb v1 2 : Nat) : Int), .int .u64 ((lb v1 3 : Nat) : Int), .int .u64 ((lb v1 4 : Nat) : Int), .int .u64 ((lb v1 5 : Nat) : Int)] t)
  have a2 := fp_zero t (((w).alloc (.cells #[.int .u64 ((lb v0 0 : Nat) : Int), .int .u64 ((lb v0 1 : Nat) : Int), .int .u64 ((lb v0 2 : Nat) : Int), .int .u64 ((lb v0 3 : Nat) : Int), .int .u64 ((lb v0 4 : Nat) : Int), .int .u64 ((lb v0 5 : Nat) : Int)] t)).alloc (.cells #[.int .u64 ((lb v1 0 : Nat) : Int), .int .u64 ((lb v1 1 : Nat) : Int), .int .u64 ((lb v1 2 : Nat) : Int), .int .u64 ((lb v1 3 : Nat) : Int), .int .u64 ((lb v1 4 : Nat) : Int), .int .u64 ((lb v1 5 : Nat) : Int)] t))
  simp only [World.size_alloc] at a2
  have a0 := a0.alloc (.cells #[.int .u64 0, .int .u64 0, .int .u64 0, .int .u64 0, .int .u64 0, .int .u64 0] t)
  have a1 := a1.alloc (.cells #[.int .u64 0, .int .u64 0, .int .u64 0, .int .u64 0, .int .u64 0, .int .u64 0] t)
  exact ⟨_, rfl, a0, a1, a2, ((((Below.refl w.heap.size w).alloc (by simp <;> omega) (.cells #[.int .u64 ((lb v0 0 : Nat) : Int), .int .u64 ((lb v0 1 : Nat) : Int), .int .u64 ((lb v0 2 : Nat) : Int), .int .u64 ((lb v0 3 : Nat) : Int), .int .u64 ((lb v0 4 : Nat) : Int), .int .u64 ((lb v0 5 : Nat) : Int)] t)).alloc (by simp <;> omega) (.cells #[.int .u64 ((lb v1 0 : Nat) : Int), .int .u64 ((lb v1 1 : Nat) : Int), .int .u64 ((lb v1 2 : Nat) : Int), .int .u64 ((lb v1 3 : Nat) : Int), .int .u64 ((lb v1 4 : Nat) : Int), .int .u64 ((lb v1 5 : Nat) : Int)] t)).alloc (by simp <;> omega) (.cells #[.int .u64 0, .int .u64 0, .int .u64 0, .int .u64 0, .int .u64 0, .int .u64 0] t)), by simp⟩
theorem fp_lay_zz (t : TypeId) (w : World) : ∃ w', (w.alloc (.cells #[.int .u64 0, .int .u64 0, .int .u64 0, .int .u64 0, .int .u64 0, .int .u64 0] t)).alloc (.cells #[.int .u64 0, .int .u64 0, .int .u64 0, .int .u64 0, .int .u64 0, .int .u64 0] t) = w' ∧ Arr t w' (w.heap.size) (row 6 0) ∧ Arr t w' (w.heap.size + 1) (row 6 0) ∧ Below w.heap.size w w' ∧ w'.heap.size = w.heap.size + 2 := by
  have a0 := fp_zero t (w)
  have a1 := fp_zero t ((w).alloc (.cells #[.int .u64 0, .int .u64 0, .int .u64 0, .int .u64 0, .int .u64 0, .int .u64 0] t))
  simp only [World.size_alloc] at a1
  have a0 := a0.alloc (.cells #[.int .u64 0, .int .u64 0, .int .u64 0, .int .u64 0, .int .u64 0, .int .u64 0] t)
  exact ⟨_, rfl, a0, a1, (((Below.refl w.heap.size w).alloc (by simp <;> omega) (.cells #[.int .u64 0, .int .u64 0, .int .u64 0, .int .u64 0, .int .u64 0, .int .u64 0] t)).alloc (by simp <;> omega) (.cells #[.int .u64 0, .int .u64 0, .int .u64 0, .int .u64 0, .int .u64 0, .int .u64 0] t)), by simp⟩
theorem fp_one {t : TypeId} {Y : World} {g u : Nat} (h : Arr t Y g (row 6 u)) (x : Nat) :
    ∃ W, (((((Y.setCell ⟨g, 0, none⟩ (.int .u64 ((lb x 0 : Nat) : Int))).setCell ⟨g, 1, none⟩ (.int .u64 ((lb x 1 : Nat) : Int))).setCell ⟨g, 2, none⟩ (.int .u64 ((lb x 2 : Nat) : Int))).setCell ⟨g, 3, none⟩ (.int .u64 ((lb x 3 : Nat) : Int))).setCell ⟨g, 4, none⟩ (.int .u64 ((lb x 4 : Nat) : Int))).setCell ⟨g, 5, none⟩ (.int .u64 ((lb x 5 : Nat) : Int)) = W ∧ Arr t W g (row 6 x) ∧ (∀ t' g' xs, g' ≠ g → Arr t' Y g' xs → Arr t' W g' xs) ∧ (∀ B w0, Below B w0 Y → B ≤ g → Below B w0 W) ∧ W.heap.size = Y.heap.size :=
  ⟨_, rfl, h.fpstore x, fun _ _ _ hne ha => ha.fpother hne _ _ _ _ _ _, fun _ _ hb hg => fp_below hb hg _ _ _ _ _ _, by simp⟩
theorem fp_two {t : TypeId} {Y : World} {g1 g2 u1 u2 : Nat} (h1 : Arr t Y g1 (row 6 u1)) (h2 : Arr t Y g2 (row 6 u2)) (hne : g1 ≠ g2) (x y : Nat) :
    ∃ W, (((((((((((Y.setCell ⟨g1, 0, none⟩ (.int .u64 ((lb x 0 : Nat) : Int))).setCell ⟨g1, 1, none⟩ (.int .u64 ((lb x 1 : Nat) : Int))).setCell ⟨g1, 2, none⟩ (.int .u64 ((lb x 2 : Nat) : Int))).setCell ⟨g1, 3, none⟩ (.int .u64 ((lb x 3 : Nat) : Int))).setCell ⟨g1, 4, none⟩ (.int .u64 ((lb x 4 : Nat) : Int))).setCell ⟨g1, 5, none⟩ (.int .u64 ((lb x 5 : Nat) : Int))).setCell ⟨g2, 0, none⟩ (.int .u64 ((lb y 0 : Nat) : Int))).setCell ⟨g2, 1, none⟩ (.int .u64 ((lb y 1 : Nat) : Int))).setCell ⟨g2, 2, none⟩ (.int .u64 ((lb y 2 : Nat) : Int))).setCell ⟨g2, 3, none⟩ (.int .u64 ((lb y 3 : Nat) : Int))).setCell ⟨g2, 4, none⟩ (.int .u64 ((lb y 4 : Nat) : Int))).setCell ⟨g2, 5, none⟩ (.int .u64 ((lb y 5 : Nat) : Int)) = W ∧ Arr t W g1 (row 6 x) ∧ Arr t W g2 (row 6 y) ∧ (∀ t' g' xs, g' ≠ g1 → g' ≠ g2 → Arr t' Y g' xs → Arr t' W g' xs) ∧ (∀ B w0, Below B w0 Y → B ≤ g1 → B ≤ g2 → Below B w0 W) ∧ W.heap.size = Y.heap.size := by
  obtain ⟨W1, e1, a1, o1, b1, s1⟩ := fp_one h1 x
  obtain ⟨W2, e2, a2, o2, b2, s2⟩ := fp_one (o1 _ _ _ hne.symm h2) y
  refine ⟨W2, ?_, o2 _ _ _ hne a1, a2, fun t' g' xs n1 n2 ha => o2 _ _ _ n2 (o1 _ _ _ n1 ha), fun B w0 hb h1 h2 => b2 _ _ (b1 _ _ hb h1) h2, s2.trans s1⟩
  rw [e1]
  exact e2
end

section
section
open Go.RowKit
theorem fpM_lt : pN < fpB := by decide +kernel
theorem fpM_pos : 0 < pN := by decide +kernel
theorem fpM_odd : pN % 2 = 1 := by decide +kernel
theorem fpM_two : pN + pN < fpB := by decide +kernel
theorem fpM_mod (a : Nat) : a % pN < pN := Nat.mod_lt _ fpM_pos
theorem fpval_M : val (row 6 pN) = pN := fpval fpM_lt
theorem fpM_lit : fpV pN = .agg #[.int .u64 13402431016077863595, .int .u64 2210141511517208575, .int .u64 7435674573564081700, .int .u64 7239337960414712511, .int .u64 5412103778470702295, .int .u64 1873798617647539866] := by
  show Value.agg #[.int .u64 ((lb pN 0 : Nat) : Int), .int .u64 ((lb pN 1 : Nat) : Int), .int .u64 ((lb pN 2 : Nat) : Int), .int .u64 ((lb pN 3 : Nat) : Int), .int .u64 ((lb pN 4 : Nat) : Int), .int .u64 ((lb pN 5 : Nat) : Int)] = _
  rw [show lb pN 0 = 13402431016077863595 by decide +kernel, show lb pN 1 = 2210141511517208575 by decide +kernel, show lb pN 2 = 7435674573564081700 by decide +kernel, show lb pN 3 = 7239337960414712511 by decide +kernel, show lb pN 4 = 5412103778470702295 by decide +kernel, show lb pN 5 = 1873798617647539866 by decide +kernel]
  rfl
def fpSq : Nat := 2708263910654730174793787626328176511836455197166317677006154293982164122222515399004018013397331347120527951271750
theorem fpSq_lt : fpSq < pN := by decide +kernel
theorem fpSq_ltB : fpSq < fpB := Nat.lt_trans fpSq_lt fpM_lt
theorem fpSq_eq : fpSq = 2 ^ (64 * 6) * 2 ^ (64 * 6) % pN := by decide +kernel
theorem fpSq_lit : fpV fpSq = .agg #[.int .u64 17644856173732828998, .int .u64 754043588434789617, .int .u64 10224657059481499349, .int .u64 7488229067341005760, .int .u64 11130996698012816685, .int .u64 1267921511277847466] := by
  show Value.agg #[.int .u64 ((lb fpSq 0 : Nat) : Int), .int .u64 ((lb fpSq 1 : Nat) : Int), .int .u64 ((lb fpSq 2 : Nat) : Int), .int .u64 ((lb fpSq 3 : Nat) : Int), .int .u64 ((lb fpSq 4 : Nat) : Int), .int .u64 ((lb fpSq 5 : Nat) : Int)] = _
  rw [show lb fpSq 0 = 17644856173732828998 by decide +kernel, show lb fpSq 1 = 754043588434789617 by decide +kernel, show lb fpSq 2 = 10224657059481499349 by decide +kernel, show lb fpSq 3 = 7488229067341005760 by decide +kernel, show lb fpSq 4 = 11130996698012816685 by decide +kernel, show lb fpSq 5 = 1267921511277847466 by decide +kernel]
  rfl
theorem fpmodulus_v (w : World) : Calls Try.prog 31 #[] w (Is (fpV pN) w) := by
  rw [fpM_lit]
  go_enter Try.func31, Try.ntmps31
  go_wp2
  refine bodyPost_ret (v := .agg #[.int .u64 13402431016077863595, .int .u64 2210141511517208575, .int .u64 7435674573564081700, .int .u64 7239337960414712511, .int .u64 5412103778470702295, .int .u64 1873798617647539866]) (by simp [results, Try.results31, go_sem]) rfl ⟨rfl, below_alloc w _⟩
theorem fpsquare_v (w : World) : Calls Try.prog 53 #[] w (Is (fpV fpSq) w) := by
  rw [fpSq_lit]
  go_enter Try.func53, Try.ntmps53
  go_wp2
  refine bodyPost_ret (v := .agg #[.int .u64 17644856173732828998, .int .u64 754043588434789617, .int .u64 10224657059481499349, .int .u64 7488229067341005760, .int .u64 11130996698012816685, .int .u64 1267921511277847466]) (by simp [results, Try.results53, go_sem]) rfl ⟨rfl, below_alloc w _⟩
set_option maxRecDepth 20000 in
set_option maxHeartbeats 1000000 in
theorem fpnumber_v (a : Option Addr) (N c v : Nat) (w : World) (hN : N = 6) (hv : View w a N (row 6 v)) :
    Calls Try.prog 55 #[.slice a N c] w (Is (fpV v) w) := by
  obtain ⟨w2, hw2, a1, a2, hb0, hsz⟩ := fp_lay_zz 26 w
  have HV := Lib.hid (hv.below (Nat.le_refl _) hb0)
  have A1 := Lib.hid a1
  have A2 := Lib.hid a2
  have HB0 := Lib.hid hb0
  have HN := Lib.hid hN
  have HK := Lib.hid (show 1 ≤ 6 by decide)
  have HL := Lib.hid (length_row 6 0)
  subst hw2
  clear a1 a2 hb0 hv hN hsz
  go_enter Try.func55, Try.ntmps55
  go_wp2_with (with_reducible refine wpList_copy_arr _ rfl (.tmp 4) (.tmp 5) rfl 26 (w.heap.size + 1) N 6 _ (row 6 0) (row 6 v) _ _ rfl rfl HN.out A2.out HL.out HV.out HK.out ?_; intro w3 ho3 hb3; have c0 := ho3.fpc0; have c1 := ho3.fpc1; have c2 := ho3.fpc2; have c3 := ho3.fpc3; have c4 := ho3.fpc4; have c5 := ho3.fpc5; have a3 := A1.out.below (Nat.lt_succ_self _) hb3; have d0 := a3.fpc0; have d1 := a3.fpc1; have d2 := a3.fpc2; have d3 := a3.fpc3; have d4 := a3.fpc4; have d5 := a3.fpc5; have f0 := a3.frozen 0; have f1 := a3.frozen 1; have f2 := a3.frozen 2; have f3 := a3.frozen 3; have f4 := a3.frozen 4; have f5 := a3.frozen 5; have HB3 := Lib.hid (HB0.out.trans (hb3.mono (Nat.le_succ _))); clear ho3 hb3 a3)
  go_wp2
  refine bodyPost_ret (v := fpV v) (by simp [results, Try.results55, go_sem, d0, d1, d2, d3, d4, d5]) rfl ⟨rfl, ?_⟩
  exact fp_below HB3.out (Nat.le_refl _) _ _ _ _ _ _
theorem fpCmp_lt (a : Nat) (ha : a < fpB) : cmpI (val (row 6 a)) (val (row 6 pN)) = cmpI a pN := by rw [fpval ha, fpval_M]
theorem fpCmpM (a : Nat) : decide (cmpI a pN < 0) = decide (a < pN) := by
  unfold cmpI
  by_cases h : a < pN
  · simp [h]
  · by_cases h' : pN < a <;> simp [h, h']
set_option maxRecDepth 20000 in
set_option maxHeartbeats 1000000 in
theorem fpRight_v (a : Nat) (w : World) (ha : a < fpB) (r : Bool) (hr : r = decide (a < pN)) :
    Calls Try.prog 15 #[fpV a] w (Is (.bool r) w) := by
  obtain ⟨w1, hw1, a1, hb1, hs1⟩ := fp_lay_v 26 w a
  have HW := Lib.hid hw1
  have HB1 := Lib.hid hb1
  have A1 := Lib.hid a1
  have HC := Lib.hid (fpCmp_lt a ha)
  have HR := Lib.hid (hr.trans (fpCmpM a).symm)
  clear hw1 hb1 a1 hr hs1 ha
  go_enter Try.func15, Try.ntmps15
  go_wp2_with fail
  rw [HW.out]
  refine (fpmodulus_v _).mono ?_
  rintro e w2 ⟨rfl, hb2⟩
  obtain ⟨w3, hw3, a3, hb3, hs3⟩ := fp_lay_v 26 w2 pN
  have HW3 := Lib.hid hw3
  have V1 := Lib.hid ((A1.out.keep hb2).keep hb3).vrow
  have V3 := Lib.hid a3.vrow
  have HB3 := Lib.hid (below_then HB1.out (below_then hb2 hb3))
  clear HW A1 HB1 hb2 a3 hb3 hs3 hw3
  go_wp2_with fail
  rw [HW3.out]
  clear HW3
  obtain ⟨r', hr', hd⟩ : ∃ r' : Int, r' = cmpI (val (row 6 a)) (val (row 6 pN)) ∧ decide (r' < 0) = r := ⟨_, rfl, by rw [HC.out, HR.out]⟩
  have HR' := Lib.hid hr'
  clear hr' HC HR
  go_quiet ((go_at_call 32; exact Calls.quiet_of_same ((cmp_short _ 6 6 _ _ 6 6 _ _ (by decide) (by decide) (by decide) (by decide) (V1.out.drewN _) (V3.out.drewN _) (by decide) (by decide) HR'.out).mono fun _ _ h => ⟨h.1, h.2.symm⟩)))
  go_wp2
  go_ret
  exact ⟨by first | rfl | rw [hd], below_drewN HB3.out _⟩
theorem fplessM {a : Nat} (h : pN ≤ a) (ha : a < fpB) : row 6 (val (row 6 a) + 2 ^ (64 * 6) - val (row 6 pN)) = row 6 (a - pN) := by
  rw [fpval ha, fpval_M, row_sub h]
set_option maxRecDepth 20000 in
set_option maxHeartbeats 1000000 in
theorem fpless_v (a : Nat) (w : World) (ha : a < fpB) (h : pN ≤ a) (v : Nat) (hv : v = a - pN) :
    Calls Try.prog 74 #[fpV a] w (Is (fpV v) w) := by
  obtain ⟨w1, hw1, a1, z1, hb1, hs1⟩ := fp_lay_vz 26 w a
  have HW := Lib.hid hw1
  have HB1 := Lib.hid hb1
  have A1 := Lib.hid a1
  have Z1 := Lib.hid z1
  have HR := Lib.hid (fplessM h ha)
  have HV := Lib.hid hv
  clear hw1 hb1 a1 z1 hs1 ha h hv
  go_enter Try.func74, Try.ntmps74
  go_wp2_with fail
  rw [HW.out]
  refine (fpmodulus_v _).mono ?_
  rintro e w2 ⟨rfl, hb2⟩
  obtain ⟨w3, hw3, a3, hb3, hs3⟩ := fp_lay_v 26 w2 pN
  have HW3 := Lib.hid hw3
  have V1 := Lib.hid ((A1.out.keep hb2).keep hb3).vrow
  have Z3 := Lib.hid ((Z1.out.keep hb2).keep hb3)
  have V3 := Lib.hid a3.vrow
  have HB3 := Lib.hid (below_then HB1.out (below_then hb2 hb3))
  clear HW A1 HB1 hb2 a3 hb3 hs3 hw3 Z1
  go_wp2_with fail
  rw [HW3.out]
  clear HW3
  go_region_with (go_at_call 72; refine (sub_short _ 6 6 _ _ 6 6 _ _ (by decide) (by decide) (by decide) (by decide) V1.out.drew V3.out.drew (by decide) (by decide)).mono ?_; rintro e w4 ⟨g, rfl, ho, hg, hb4⟩; have hb4' : Below w3.heap.size w3 w4 := (Below.refl w3.heap.size w3).drew.trans hb4; rw [show max 6 6 = 6 from rfl, HR.out, ← HV.out] at ho; have V4 := Lib.hid ho.vrow; have Z4 := Lib.hid (Z3.out.keep hb4'); have HB4 := Lib.hid (below_then HB3.out hb4'); clear ho hg hb4 hb4')
  all_goals
    go_wp2_with fail
    refine (fpnumber_v _ 6 6 v _ rfl V4.out).mono ?_
    rintro e w5 ⟨rfl, hb5⟩
    have Z5 := Z4.out.keep hb5
    have m0 := Z5.fpc0
    have m1 := Z5.fpc1
    have m2 := Z5.fpc2
    have m3 := Z5.fpc3
    have m4 := Z5.fpc4
    have m5 := Z5.fpc5
    have q0 := Z5.frozen 0
    have q1 := Z5.frozen 1
    have q2 := Z5.frozen 2
    have q3 := Z5.frozen 3
    have q4 := Z5.frozen 4
    have q5 := Z5.frozen 5
    have HB5 := Lib.hid (below_then HB4.out hb5)
    clear hb5 Z5
    go_wp2
    refine bodyPost_ret (v := fpV v) (by simp [results, Try.results74, go_sem, m0, m1, m2, m3, m4, m5]) rfl ⟨rfl, ?_⟩
    exact fp_below HB5.out (by omega) _ _ _ _ _ _
set_option maxRecDepth 20000 in
set_option maxHeartbeats 4000000 in
theorem fpClean_v (a : Nat) (w : World) (ha : a < fpB) (v : Nat) (hv : v = a % pN) :
    Calls Try.prog 52 #[fpV a] w (Is (fpV v) w) := by
  go_enter Try.func52, Try.ntmps52
  go_wp2_with fail
  obtain ⟨w2, hw2, a1, a2, hb0, hsz⟩ := fp_lay_vz 26 w a
  rw [hw2]
  have HA := Lib.hid ha
  have HV := Lib.hid hv
  have A1 := Lib.hid a1
  have A2 := Lib.hid a2
  have HB0 := Lib.hid hb0
  clear hw2 ha hv a1 a2 hb0 hsz
  go_loopg [] a (fun V wr => V < fpB ∧ V % pN = a % pN ∧ Arr 26 wr w.heap.size (row 6 V) ∧ Arr 26 wr (w.heap.size + 1) (row 6 0) ∧ Below w.heap.size w wr)
  case atStart => exact ⟨HA.out, rfl, A1.out, A2.out, HB0.out⟩
  case round =>
    obtain ⟨hlt, hm, ha, hr, hbl⟩ := hrel
    clear A1 A2 HA
    have c0 := ha.fpc0
    have c1 := ha.fpc1
    have c2 := ha.fpc2
    have c3 := ha.fpc3
    have c4 := ha.fpc4
    have c5 := ha.fpc5
    have hp := ha.lt
    have HM := Lib.hid hm
    have HA := Lib.hid ha
    have HR := Lib.hid hr
    have HB := Lib.hid hbl
    have HL := Lib.hid hlt
    clear hm ha hr hbl hlt
    go_wp2_with fail
    by_cases h : gk < pN
    · refine (fpRight_v gk _ HL.out true (decide_eq_true h).symm).mono ?_
      rintro e y2 ⟨rfl, hb2⟩
      have HA2 := HA.out.keep hb2
      have HR2 := HR.out.keep hb2
      have d0 := HA2.fpc0
      have d1 := HA2.fpc1
      have d2 := HA2.fpc2
      have d3 := HA2.fpc3
      have d4 := HA2.fpc4
      have d5 := HA2.fpc5
      have e0 := HR2.fpc0
      have e1 := HR2.fpc1
      have e2 := HR2.fpc2
      have e3 := HR2.fpc3
      have e4 := HR2.fpc4
      have e5 := HR2.fpc5
      have f0 := HR2.frozen 0
      have f1 := HR2.frozen 1
      have f2 := HR2.frozen 2
      have f3 := HR2.frozen 3
      have f4 := HR2.frozen 4
      have f5 := HR2.frozen 5
      have HE := Lib.hid (show v = gk from by rw [HV.out, ← HM.out, Nat.mod_eq_of_lt h])
      have HB3 := Lib.hid (below_then HB.out hb2)
      clear h HA2 HR2 hb2 c0 c1 c2 c3 c4 c5
      go_wp2
      refine bodyPost_ret (v := fpV gk) (by simp [results, Try.results52, go_sem, e0, e1, e2, e3, e4, e5]) rfl ⟨by rw [HE.out], ?_⟩
      exact fp_below HB3.out (by omega) _ _ _ _ _ _
    · refine (fpRight_v gk _ HL.out false (decide_eq_false h).symm).mono ?_
      rintro e y2 ⟨rfl, hb2⟩
      have HA2 := HA.out.keep hb2
      have HR2 := Lib.hid (HR.out.keep hb2)
      have HB2 := Lib.hid (below_then HB.out hb2)
      have HN := Lib.hid (show pN ≤ gk by omega)
      have d0 := HA2.fpc0
      have d1 := HA2.fpc1
      have d2 := HA2.fpc2
      have d3 := HA2.fpc3
      have d4 := HA2.fpc4
      have d5 := HA2.fpc5
      have A3 := Lib.hid HA2
      clear h HA2 hb2 c0 c1 c2 c3 c4 c5
      go_wp2_with fail
      obtain ⟨x, hx⟩ : ∃ x, x = gk - pN := ⟨_, rfl⟩
      refine (fpless_v gk _ HL.out HN.out x hx).mono ?_
      rintro e y3 ⟨rfl, hb3⟩
      have HX := Lib.hid hx
      have HA4 := A3.out.keep hb3
      have k0 := HA4.fpc0
      have k1 := HA4.fpc1
      have k2 := HA4.fpc2
      have k3 := HA4.fpc3
      have k4 := HA4.fpc4
      have k5 := HA4.fpc5
      have q0 := HA4.frozen 0
      have q1 := HA4.frozen 1
      have q2 := HA4.frozen 2
      have q3 := HA4.frozen 3
      have q4 := HA4.frozen 4
      have q5 := HA4.frozen 5
      have A4 := Lib.hid HA4
      have R4 := Lib.hid (HR2.out.keep hb3)
      have HB4 := Lib.hid (below_then HB2.out hb3)
      clear hx HA4 hb3 d0 d1 d2 d3 d4 d5
      go_wp2
      go_roundg (gk - pN)
      case measure => exact Nat.sub_lt (Nat.lt_of_lt_of_le fpM_pos HN.out) fpM_pos
      case rel =>
        rw [← HX.out]
        exact ⟨by have := HL.out; have := HX.out; omega, by rw [HX.out, ← HM.out, ← Nat.mod_eq_sub_mod HN.out], A4.out.fpstore x, R4.out.fpother (by omega) _ _ _ _ _ _, fp_below HB4.out (Nat.le_refl _) _ _ _ _ _ _⟩
end

section
section
open Go.RowKit
def wB : Nat := 2 ^ (64 * 7)
theorem wB_eq : wB = 2 ^ (64 * 7) := by delta wB; exact Eq.refl _
theorem wB_ex : ∃ n, wB = 2 ^ n ∧ n = 448 := ⟨64 * 7, wB_eq, rfl⟩
theorem wB_split {a b : Nat} (h : a + b = 448) : wB = 2 ^ a * 2 ^ b := by
  obtain ⟨n, h1, h2⟩ := wB_ex
  rw [h1, ← Nat.pow_add, show a + b = n by omega]
theorem div_60 {W R : Nat} (h : W = 2 ^ 60 * R) : W / 2 ^ 60 = R := by rw [h, Nat.mul_div_cancel_left _ (by decide)]
def qB : Nat := 2 ^ (64 * 6)
theorem qB_eq {a : Nat} (h : a = 64 * 6) : qB = 2 ^ a := by subst h; delta qB; exact Eq.refl _
theorem qB_ex : ∃ a, qB = 2 ^ a ∧ a = 384 := ⟨64 * 6, qB_eq rfl, rfl⟩
theorem qB_pos : 0 < qB := by
  obtain ⟨a, h, _⟩ := qB_ex
  rw [h]
  exact Nat.two_pow_pos _
theorem lb_def {n i P : Nat} (h : P = 2 ^ (64 * i)) : lb n i = n / P % 2 ^ 64 := by subst h; exact rfl
theorem lb_q (n : Nat) : lb n 6 = n / qB % 2 ^ 64 := lb_def (by delta qB; exact Eq.refl _)
theorem wB_q : wB = qB * 2 ^ 64 := by
  obtain ⟨a, h, e⟩ := qB_ex
  rw [h]
  exact wB_split (by omega)
def hB : Nat := qB * 2 ^ 63
theorem hB_q : hB = qB * 2 ^ 63 := rfl
theorem wB_half : wB = hB + hB := by
  rw [wB_q, hB_q]
  generalize qB = Q
  omega
theorem wB_pos : 0 < wB := by
  obtain ⟨n, h, _⟩ := wB_ex
  rw [h]
  exact Nat.two_pow_pos _
theorem top_lt {n : Nat} (h : n < wB) : n / qB < 2 ^ 64 := by
  rw [wB_q, Nat.mul_comm] at h
  exact (Nat.div_lt_iff_lt_mul qB_pos).2 h
theorem q60 {P : Nat} (hp : 0 < P) (n m : Nat) : (n / 2 ^ 60 + P * m) / P = n / P / 2 ^ 60 + m := by
  rw [Nat.add_mul_div_left _ _ hp, Nat.div_div_eq_div_mul, Nat.div_div_eq_div_mul, Nat.mul_comm]
def wr (x : Int) : Nat := (x % (wB : Int)).toNat
theorem wr_cast (x : Int) : (wr x : Int) = x % (wB : Int) := Int.toNat_of_nonneg (Int.emod_nonneg _ (by have := wB_pos; omega))
theorem wr_lt (x : Int) : wr x < wB := by
  have h1 := Int.emod_lt_of_pos x (show (0 : Int) < (wB : Int) by have := wB_pos; omega)
  have h2 := wr_cast x
  omega
theorem wr_form (x : Int) : ∃ q : Int, x = (wr x : Int) + (wB : Int) * q := ⟨x / (wB : Int), by rw [wr_cast]; exact (Int.emod_add_mul_ediv x _).symm⟩
theorem wr_of {x : Int} {n : Nat} (q : Int) (h : x = (n : Int) + (wB : Int) * q) : wr x = n % wB := by
  have : (wr x : Int) = ((n % wB : Nat) : Int) := by
    rw [wr_cast, h, Int.add_mul_emod_self_left, Int.natCast_emod]
  omega
theorem wr_nat {n : Nat} (h : n < wB) : wr (n : Int) = n := by rw [wr_of (n := n) 0 (by simp), Nat.mod_eq_of_lt h]
theorem wr_zero : wr 0 = 0 := wr_nat wB_pos
theorem wr_plus (x y : Int) (k : Nat) : (wr x + wr y * k) % wB = wr (x + y * k) := by
  obtain ⟨q, hq⟩ := wr_form x
  obtain ⟨r, hr⟩ := wr_form y
  refine (wr_of (q + r * k) ?_).symm
  generalize wr x = a at *
  generalize wr y = b at *
  generalize (wB : Int) = W at *
  subst hq hr
  simp only [Int.natCast_add, Int.natCast_mul]
  grind
theorem wr_turn (x : Int) : (wB - wr x) % wB = wr (-x) := by
  obtain ⟨q, hq⟩ := wr_form x
  refine (wr_of (-q - 1) ?_).symm
  have h := wr_lt x
  rw [Int.natCast_sub (by omega)]
  generalize (wr x : Int) = a at *
  generalize (wB : Int) = W at *
  subst hq
  grind
def mix (T a i : Nat) : Nat := T % 2 ^ (64 * i) + 2 ^ (64 * i) * (a / 2 ^ (64 * i))
theorem mix_zero (T a : Nat) : mix T a 0 = a := by simp [mix, Nat.mod_one]
theorem mix_full {T a K : Nat} (h : a < 2 ^ (64 * K)) : mix T a K = T % 2 ^ (64 * K) := by rw [mix, Nat.div_eq_of_lt h, Nat.mul_zero, Nat.add_zero]
theorem pow_split (i j : Nat) : 2 ^ (64 * (i + j)) = 2 ^ (64 * i) * 2 ^ (64 * j) := by rw [Nat.mul_add, Nat.pow_add]
theorem lb_mod {v i j : Nat} (h : j < i) : lb (v % 2 ^ (64 * i)) j = lb v j := by
  rw [lb, lb, show i = j + (1 + (i - j - 1)) by omega, pow_split, Nat.mod_mul_right_div_self, pow_split, Nat.mod_mul_right_mod]
theorem lb_div {v i j : Nat} : lb (v / 2 ^ (64 * i)) j = lb v (i + j) := by
  rw [lb, lb, Nat.div_div_eq_div_mul, pow_split]
theorem mix_lo {T a i j : Nat} (h : j < i) : lb (mix T a i) j = lb T j := by
  rw [← lb_mod h, mix, Nat.add_mul_mod_self_left, lb_mod h, lb_mod h]
theorem mix_hi {T a i j : Nat} (h : i ≤ j) : lb (mix T a i) j = lb a j := by
  rw [show j = i + (j - i) by omega, ← lb_div, ← lb_div, mix, Nat.add_mul_div_left _ _ (Nat.two_pow_pos _), Nat.div_eq_of_lt (Nat.mod_lt _ (Nat.two_pow_pos _)), Nat.zero_add]
theorem mix_step {T a K k x : Nat} (hk : k < K) (hx : x = lb T k) : (row K (mix T a k)).set k x = row K (mix T a (k + 1)) := by
  subst hx
  apply List.ext_getElem (by rw [List.length_set, length_row, length_row])
  intro j h1 h2
  rw [length_row] at h2
  have e1 := lm_set (row K (mix T a k)) k (lb T k) j (by rw [length_row]; exact hk)
  have e2 := lb_row (K := K) (v := mix T a (k + 1)) (i := j) h2
  rw [lb_row h2] at e1
  rw [lm, List.getD_eq_getElem?_getD, List.getElem?_eq_getElem h1, Option.getD_some] at e1
  rw [lm, List.getD_eq_getElem?_getD, List.getElem?_eq_getElem (by rw [length_row]; exact h2), Option.getD_some] at e2
  rw [e1, e2]
  by_cases c : j = k
  · rw [if_pos c, c, mix_lo (by omega)]
  · rw [if_neg c]
    by_cases c2 : j < k
    · rw [mix_lo c2, mix_lo (by omega)]
    · rw [mix_hi (by omega), mix_hi (by omega)]
def ovr (a b k i : Nat) : Nat := (a % 2 ^ (64 * i) + b % 2 ^ (64 * i) * k) / 2 ^ (64 * i)
theorem ovr_zero (a b k : Nat) : ovr a b k 0 = 0 := by simp [ovr, Nat.mod_one]
theorem ovr_lt {a b k i : Nat} (hk : k < 2 ^ 63) : ovr a b k i < 2 ^ 64 := by
  unfold ovr
  have hp := Nat.two_pow_pos (64 * i)
  rw [Nat.div_lt_iff_lt_mul hp]
  have h1 := Nat.mod_lt a hp
  have h2 := Nat.mod_lt b hp
  generalize 2 ^ (64 * i) = P at *
  have h3 : b % P * k ≤ P * k := Nat.mul_le_mul_right _ (by omega)
  have h4 : P * k ≤ P * (2 ^ 63 - 1) := Nat.mul_le_mul_left _ (by omega)
  omega
theorem plus_digit (a b k i : Nat) :
    (lb b i * k + lb a i + ovr a b k i) % 2 ^ 64 = lb (a + b * k) i ∧ (lb b i * k + lb a i + ovr a b k i) / 2 ^ 64 = ovr a b k (i + 1) := by
  have hp := Nat.two_pow_pos (64 * i)
  have ha : a % 2 ^ (64 * (i + 1)) = a % 2 ^ (64 * i) + 2 ^ (64 * i) * lb a i := by rw [pow_split, Nat.mod_mul]; rfl
  have hb : b % 2 ^ (64 * (i + 1)) = b % 2 ^ (64 * i) + 2 ^ (64 * i) * lb b i := by rw [pow_split, Nat.mod_mul]; rfl
  have e : (a % 2 ^ (64 * (i + 1)) + b % 2 ^ (64 * (i + 1)) * k) / 2 ^ (64 * i) = lb b i * k + lb a i + ovr a b k i := by
    rw [ha, hb, ovr]
    generalize 2 ^ (64 * i) = P at *
    rw [show a % P + P * lb a i + (b % P + P * lb b i) * k = a % P + b % P * k + P * (lb b i * k + lb a i) by grind, Nat.add_mul_div_left _ _ hp, Nat.add_comm]
  constructor
  · rw [← e, ← Nat.mod_mul_right_div_self, show 2 ^ (64 * i) * 2 ^ 64 = 2 ^ (64 * (i + 1)) from (pow_split i 1).symm]
    have em : ∀ M, (a % M + b % M * k) % M = (a + b * k) % M := fun M => by simp [Nat.add_mod, Nat.mul_mod]
    rw [em, pow_split, Nat.mod_mul_right_div_self]
    rfl
  · rw [← e, Nat.div_div_eq_div_mul, show 2 ^ (64 * i) * 2 ^ 64 = 2 ^ (64 * (i + 1)) from (pow_split i 1).symm]
    rfl
theorem turn_digit {a i : Nat} (hi : i < 7) :
    subLo 0 (lb a i) (difHi 0 a (2 ^ (64 * i))) = lb (wB - a % wB) i ∧ subHi 0 (lb a i) (difHi 0 a (2 ^ (64 * i))) = difHi 0 a (2 ^ (64 * (i + 1))) := by
  have hp := Nat.two_pow_pos (64 * i)
  obtain ⟨e1, e2⟩ := dif_digit 0 a (2 ^ (64 * i)) (2 ^ 64) hp (by decide)
  rw [show 2 ^ (64 * i) * 2 ^ 64 = 2 ^ (64 * (i + 1)) from (pow_split i 1).symm] at e1 e2
  rw [Nat.zero_div, Nat.zero_mod] at e1 e2
  refine ⟨?_, by rw [e2]; rfl⟩
  have e3 : difLo 0 a (2 ^ (64 * (i + 1))) = (wB - a % wB) % 2 ^ (64 * (i + 1)) := by
    have hm : wB = 2 ^ (64 * (i + 1)) * 2 ^ (64 * (6 - i)) := by rw [wB_eq, show 7 = (i + 1) + (6 - i) by omega, pow_split]
    unfold difLo
    rw [Nat.zero_mod, Nat.zero_add]
    have h1 := Nat.mod_lt a wB_pos
    have h2 : a % 2 ^ (64 * (i + 1)) = a % wB % 2 ^ (64 * (i + 1)) := by rw [hm, Nat.mod_mul_right_mod]
    rw [h2]
    generalize a % wB = x at *
    have hq := Nat.two_pow_pos (64 * (i + 1))
    generalize 2 ^ (64 * (i + 1)) = P at *
    generalize 2 ^ (64 * (6 - i)) = Q at *
    rw [hm]
    have h3 := Nat.mod_lt x hq
    have h4 := Nat.div_add_mod x P
    have h5 : x / P < Q := by rw [Nat.div_lt_iff_lt_mul hq, Nat.mul_comm, ← hm]; exact h1
    have h6 : P * Q - x = P * (Q - 1 - x / P) + (P - x % P) := by
      rw [Nat.mul_sub, Nat.mul_sub, Nat.mul_one]
      have : P * (x / P) + P ≤ P * Q := by
        calc P * (x / P) + P = P * (x / P + 1) := by rw [Nat.mul_add, Nat.mul_one]
          _ ≤ P * Q := Nat.mul_le_mul_left _ (by omega)
      omega
    rw [h6, Nat.mul_add_mod]
  have e4 : lb (wB - a % wB) i = difLo 0 a (2 ^ (64 * (i + 1))) / 2 ^ (64 * i) := by
    rw [e3, show 2 ^ (64 * (i + 1)) = 2 ^ (64 * i) * 2 ^ 64 from pow_split i 1, Nat.mod_mul_right_div_self]
    rfl
  rw [e4, e1, Nat.add_mul_div_right _ _ hp, Nat.div_eq_of_lt (difLo_lt _ _ _ hp), Nat.zero_add]
  unfold subLo
  rw [Nat.zero_add]
  rfl
theorem wr_sign {x : Int} (h1 : -(hB : Nat) ≤ x) (h2 : x < (hB : Nat)) : (2 ^ 63 ≤ lb (wr x) 6 ↔ x < 0) ∧ lb (wr x) 6 = wr x / qB := by
  have hW := wB_half
  have hP := hB_q
  have hp := qB_pos
  have e1 : lb (wr x) 6 = wr x / qB := by
    rw [lb_q]
    exact Nat.mod_eq_of_lt (top_lt (wr_lt x))
  refine ⟨?_, e1⟩
  rw [e1, Nat.le_div_iff_mul_le hp, Nat.mul_comm, ← hP]
  obtain ⟨q, hq⟩ := wr_form x
  have hl := wr_lt x
  generalize wr x = n at *
  generalize hB = H at *
  rw [hW] at hq hl
  have : q = 0 ∨ q = -1 := by
    rcases Int.lt_trichotomy q 0 with c | c | c
    · right
      by_cases d : q = -1
      · exact d
      · exfalso
        have : ((H + H : Nat) : Int) * q ≤ ((H + H : Nat) : Int) * (-2) := Int.mul_le_mul_of_nonneg_left (by omega) (by omega)
        omega
    · exact .inl c
    · exfalso
      have : ((H + H : Nat) : Int) * 1 ≤ ((H + H : Nat) : Int) * q := Int.mul_le_mul_of_nonneg_left (by omega) (by omega)
      omega
  rcases this with rfl | rfl <;> omega
theorem wr_down {x : Int} (h1 : -(hB : Nat) ≤ x) (h2 : x < (hB : Nat)) :
    wr (x / 2 ^ 60) = wr x / 2 ^ 60 + (if x < 0 then wB - wB / 2 ^ 60 else 0) := by
  obtain ⟨s, e⟩ := wr_sign h1 h2
  obtain ⟨q, hq⟩ := wr_form x
  have hl := wr_lt x
  obtain ⟨c, hc⟩ : ∃ c, 60 + c = 448 := ⟨388, rfl⟩
  have hW := wB_split hc
  have hH := wB_half
  have hQ := div_60 hW
  rw [hQ]
  generalize hB = H at *
  have hp := Nat.two_pow_pos c
  generalize 2 ^ c = R at *
  clear s e hQ
  have hR : (wB : Int) = 1152921504606846976 * (R : Int) := by rw [hW]; simp
  have hR2 : wB = 1152921504606846976 * R := hW
  have hq2 : q = if x < 0 then -1 else 0 := by
    generalize wr x = n at *
    generalize wB = W at *
    split
    · have c1 : ¬ 0 ≤ q := fun c => by have : 0 ≤ (W : Int) * q := Int.mul_nonneg (by omega) c; omega
      by_cases d : q = -1
      · exact d
      · exfalso
        have : (W : Int) * q ≤ (W : Int) * (-2) := Int.mul_le_mul_of_nonneg_left (by omega) (by omega)
        omega
    · rcases Int.lt_trichotomy q 0 with c | c | c
      · exfalso
        have : (W : Int) * q ≤ (W : Int) * (-1) := Int.mul_le_mul_of_nonneg_left (by omega) (by omega)
        omega
      · exact c
      · exfalso
        have : (W : Int) * 1 ≤ (W : Int) * q := Int.mul_le_mul_of_nonneg_left (by omega) (by omega)
        omega
  by_cases c : x < 0
  · rw [if_pos c] at hq2 ⊢
    subst hq2
    have e : x / 2 ^ 60 = ((wr x / 2 ^ 60 + (wB - R) : Nat) : Int) + (wB : Int) * (-1) := by
      generalize wr x = n at *
      generalize wB = W at *
      have : (2 : Int) ^ 60 = 1152921504606846976 := by decide
      have : 2 ^ 60 = 1152921504606846976 := by decide
      omega
    rw [wr_of _ e, Nat.mod_eq_of_lt]
    generalize wr x = n at *
    have : 2 ^ 60 = 1152921504606846976 := by decide
    omega
  · rw [if_neg c] at hq2 ⊢
    subst hq2
    have e : x / 2 ^ 60 = ((wr x / 2 ^ 60 : Nat) : Int) + (wB : Int) * 0 := by
      generalize wr x = n at *
      have : (2 : Int) ^ 60 = 1152921504606846976 := by decide
      have : 2 ^ 60 = 1152921504606846976 := by decide
      omega
    rw [wr_of _ e, Nat.mod_eq_of_lt, Nat.add_zero]
    generalize wr x = n at *
    have : 2 ^ 60 = 1152921504606846976 := by decide
    omega
theorem down_limb {x : Int} (h1 : -(hB : Nat) ≤ x) (h2 : x < (hB : Nat)) (i : Nat) (hi : i < 6) :
    lb (wr x) i / 2 ^ 60 + lb (wr x) (i + 1) * 2 ^ 4 % 2 ^ 64 = lb (wr (x / 2 ^ 60)) i := by
  obtain ⟨m, hm⟩ : ∃ m, wB - wB / 2 ^ 60 = 2 ^ (64 * (i + 1)) * m := by
    obtain ⟨c, hc⟩ : ∃ c, 60 + c = 448 := ⟨388, rfl⟩
    refine ⟨2 ^ (c - 64 * (i + 1)) * (2 ^ 60 - 1), ?_⟩
    rw [div_60 (wB_split hc), ← Nat.mul_assoc, ← Nat.pow_add, show 64 * (i + 1) + (c - 64 * (i + 1)) = c by omega, Nat.mul_sub, Nat.mul_one, wB_split (a := c) (b := 60) (by omega)]
  have hd : ∀ n : Nat, lb n i / 2 ^ 60 + lb n (i + 1) * 2 ^ 4 % 2 ^ 64 = lb (n / 2 ^ 60) i := by
    intro n
    rw [lb, lb, lb, Nat.div_div_eq_div_mul, Nat.mul_comm (2 ^ 60), ← Nat.div_div_eq_div_mul, pow_split, ← Nat.div_div_eq_div_mul]
    generalize n / 2 ^ (64 * i) = m
    simp only [Nat.mul_one]
    omega
  rw [hd, wr_down h1 h2]
  split
  · rw [hm, ← lb_mod (i := i + 1) (by omega), ← lb_mod (v := _ + _) (i := i + 1) (by omega), Nat.add_mul_mod_self_left]
  · rfl
theorem lb_60 {n l : Nat} (m : Nat) (h : n / qB = l) : lb (n / 2 ^ 60 + qB * m) 6 = (l / 2 ^ 60 + m) % 2 ^ 64 := by
  rw [lb_q, q60 qB_pos, h]
theorem down_top {x : Int} (h1 : -(hB : Nat) ≤ x) (h2 : x < (hB : Nat)) :
    lb (wr x) 6 / 2 ^ 60 + (if 2 ^ 63 ≤ lb (wr x) 6 then 2 ^ 64 - 2 ^ 4 else 0) = lb (wr (x / 2 ^ 60)) 6 := by
  obtain ⟨s, e⟩ := wr_sign h1 h2
  have hm : wB - wB / 2 ^ 60 = qB * (2 ^ 64 - 2 ^ 4) := by
    have e6 : wB = 2 ^ 60 * (qB * 2 ^ 4) := by
      rw [wB_q]
      generalize qB = Q
      omega
    rw [div_60 e6, wB_q]
    generalize qB = Q
    omega
  have hl : lb (wr x) 6 < 2 ^ 64 := lb_lt _ _
  rw [wr_down h1 h2, hm]
  by_cases c : x < 0
  · rw [if_pos c, if_pos (s.2 c), lb_60 _ e.symm]
    have := s.2 c
    omega
  · rw [if_neg c, if_neg (fun q => c (s.1 q)), ← Nat.mul_zero qB, lb_60 _ e.symm]
    omega
end

section
section
open Go.RowKit
theorem flWd : Flat 114 (7 * 1) := ⟨Try.isAgg114, Try.sizeOf114⟩
theorem eqWd : EqF 114 7 2 := EqF.array Try.eqGuardType114 Try.underlying114
theorem flFpI : Flat 26 (6 * 1) := ⟨Try.isAgg26, Try.sizeOf26⟩
theorem cells0I (n : Nat) : cellsOf (List.replicate n 0) = List.replicate n (Value.int .u64 0) := by simp [cellsOf]
theorem zFpI (w : World) : (zeroValue 26).run Try.prog w = .ok (lv (rows 6 [0])) w := by
  rw [Try.zeroValue26 w, show [0] = List.replicate 1 0 from rfl, rows_zero, lv, cells0I]
  rfl
theorem zWd (w : World) : (zeroValue 114).run Try.prog w = .ok (lv (rows 7 [0])) w := by
  rw [Try.zeroValue114 w, show [0] = List.replicate 1 0 from rfl, rows_zero, lv, cells0I]
  rfl
theorem nv6I (v : Nat) : fpV v = nv 6 [v] := by rw [nv_row, fp_cells]
theorem nv7 (e : Nat) : nv 7 [e] = .agg #[.int .u64 ((lb e 0 : Nat) : Int), .int .u64 ((lb e 1 : Nat) : Int), .int .u64 ((lb e 2 : Nat) : Int), .int .u64 ((lb e 3 : Nat) : Int), .int .u64 ((lb e 4 : Nat) : Int), .int .u64 ((lb e 5 : Nat) : Int), .int .u64 ((lb e 6 : Nat) : Int)] := by
  have hr : row 7 e = [lb e 0, lb e 1, lb e 2, lb e 3, lb e 4, lb e 5, lb e 6] := by
    apply List.ext_getElem (by rw [length_row]; rfl)
    intro i h1 h2
    rw [length_row] at h1
    have e1 := lb_row (K := 7) (v := e) (i := i) h1
    rw [lm, List.getD_eq_getElem?_getD, List.getElem?_eq_getElem (by rw [length_row]; exact h1), Option.getD_some] at e1
    rw [e1]
    have : i = 0 ∨ i = 1 ∨ i = 2 ∨ i = 3 ∨ i = 4 ∨ i = 5 ∨ i = 6 := by omega
    rcases this with rfl | rfl | rfl | rfl | rfl | rfl | rfl <;> rfl
  rw [nv_row, hr]
  rfl
theorem nv7_small {e : Nat} (he : e < 2 ^ 64) : nv 7 [e] = .agg #[.int .u64 e, .int .u64 0, .int .u64 0, .int .u64 0, .int .u64 0, .int .u64 0, .int .u64 0] := by
  have h : ∀ i, lb e (i + 1) = 0 := fun i => lb_hi he i
  have h0 : lb e 0 = e := by rw [lb, Nat.mul_zero, Nat.pow_zero, Nat.div_one, Nat.mod_eq_of_lt he]
  rw [nv7, h 0, h 1, h 2, h 3, h 4, h 5, h0]
  rfl
theorem fa_fields : Try.prog.underlying 118 = some (.struct (List.toArray [⟨"first", 116, 0, false, "", "chirograph/fp", 0⟩, ⟨"second", 116, 2, false, "", "chirograph/fp", 16⟩])) := Try.underlying118
theorem flFa : Flat 118 4 := ⟨Try.isAgg118, Try.sizeOf118⟩
theorem flPr : Flat 116 2 := ⟨Try.isAgg116, Try.sizeOf116⟩
theorem faFa_0 : FieldAt 118 0 0 := ⟨_, _, 1, fa_fields, rfl, rfl, Try.sizeOf116⟩
theorem faFa_1 : FieldAt 118 1 2 := ⟨_, _, 1, fa_fields, rfl, rfl, Try.sizeOf116⟩
theorem zFa (w : World) : (zeroValue 118).run Try.prog w = .ok (sv [.i .i64 0, .i .i64 0, .i .i64 0, .i .i64 0]) w := Try.zeroValue118 w
theorem stFa : StructS 118 [.i .i64 0, .i .i64 0, .i .i64 0, .i .i64 0] [(0, 2), (2, 2)] := by
  refine ⟨_, fa_fields, zFa, fun w => ?_⟩
  simp [Sem.run_bind, Try.sizeOf116]
theorem sgI64 : Single 2 := ⟨Try.isAgg2, Try.sizeOf2⟩
theorem sgW64 : Single 24 := ⟨Try.isAgg24, Try.sizeOf24⟩
section
variable {ρ : Operand → Value} {d : Option Tmp} {ty0 : TypeId} {pos : String} {after : Array Edge} {guard : Option (Nat × Bool)} {w : World}
theorem ex_zeroW : (execOp ρ ⟨d, .build 114 #[], ty0, pos, after, guard⟩).run Try.prog w = .ok (.value (nv 7 [0])) w := by
  rw [nv7_small (by decide)]
  simp [execOp, Instr.build, Instr.fill, Sem.run_bind, Value.cells, go_sem]
theorem ex_limbW {x : Operand} {e : Nat} (he : e < 2 ^ 64) (hx : ρ x = .int .u64 (e : Int)) :
    (execOp ρ ⟨d, .build 114 #[(0, x)], ty0, pos, after, guard⟩).run Try.prog w = .ok (.value (nv 7 [e])) w := by
  rw [nv7_small he]
  simp [execOp, Instr.build, Instr.fill, Sem.run_bind, Value.cells, go_sem, hx]
theorem ex_zeroQ : (execOp ρ ⟨d, .build 114 #[], ty0, pos, after, guard⟩).run Try.prog w = .ok (.value (nv 7 [wr 0])) w := by
  rw [wr_zero]
  exact ex_zeroW
theorem ex_oneQ {x : Operand} (hx : ρ x = .int .u64 1) :
    (execOp ρ ⟨d, .build 114 #[(0, x)], ty0, pos, after, guard⟩).run Try.prog w = .ok (.value (nv 7 [wr 1])) w := by
  rw [show wr 1 = 1 from wr_nat (n := 1) (by have := wB_q; have := qB_pos; omega)]
  exact ex_limbW (e := 1) (by decide) hx
theorem ex_pairI {x y : Operand} {a b : Int} (hx : ρ x = .int .i64 a) (hy : ρ y = .int .i64 b) :
    (execOp ρ ⟨d, .build 116 #[(0, x), (1, y)], ty0, pos, after, guard⟩).run Try.prog w = .ok (.value (sv [.i .i64 a, .i .i64 b])) w := by
  have e : sv [.i .i64 a, .i .i64 b] = .agg #[.int .i64 a, .int .i64 b] := rfl
  rw [e]
  simp [execOp, Instr.build, Instr.fill, Sem.run_bind, Value.cells, go_sem, hx, hy]
theorem ex_at {t e : TypeId} {x ix : Operand} {n g i : Nat} (hu : Try.prog.underlying t = some (.array n e)) (hz : ∀ w, (Go.sizeOf e).run Try.prog w = .ok 1 w) (hx : ρ x = .pointer (some ⟨g, 0, none⟩)) (hi : ρ ix = .int .i64 (i : Int)) (hlt : i < n) :
    (execOp ρ ⟨d, .indexAddr t x ix, ty0, pos, after, guard⟩).run Try.prog w = .ok (.value (.pointer (some ⟨g, i, none⟩))) w := by
  have h1 : (0 : Int) ≤ (i : Int) ∧ (i : Int) < (n : Int) := ⟨by omega, by omega⟩
  simp [execOp, Sem.run_bind, hx, hi, Instr.indexAt, asIntOf, Instr.sureAddr, run_underlying hu w, hz w, hlt, Addr.add_mid]
theorem ex_ldl {x : Operand} {t : TypeId} {g o K v : Nat} (h : SB t w g [.n K v]) (ho : o < K) (hx : ρ x = .pointer (some ⟨g, o, none⟩)) :
    (execOp ρ ⟨d, .load 24 x, ty0, pos, after, guard⟩).run Try.prog w = .ok (.value (.int .u64 ((lb v o : Nat) : Int))) w := by
  have hv : (segs [.n K v])[o]? = some (.int .u64 ((lb v o : Nat) : Int)) := by
    have e : segs [.n K v] = cellsOf (row K v) := by
      show cellsOf (row K v) ++ [] = _
      rw [List.append_nil]
    have h1 := (show Arr t w g (row K v) from by unfold SB at h; rw [e] at h; exact h).rc o ho
    have h2 := Blk.cell h (i := o) (by rw [segs_len]; exact ho)
    rw [List.getElem?_eq_getElem (by rw [segs_len]; exact ho), ← h2, h1]
  simp [execOp, hx, run_load_one h sgW64 hv]
theorem ex_ldm {x : Operand} {t : TypeId} {g o K v u : Nat} (h : SB t w g [.n K v]) (ho : o < K) (hx : ρ x = .pointer (some ⟨g, o, none⟩)) (hu : lb v o = lb u o) :
    (execOp ρ ⟨d, .load 24 x, ty0, pos, after, guard⟩).run Try.prog w = .ok (.value (.int .u64 ((lb u o : Nat) : Int))) w := by
  rw [← hu]
  exact ex_ldl h ho hx
theorem ex_cutW {x : Operand} {g : Nat} (hx : ρ x = .pointer (some ⟨g, 0, none⟩)) (hc : ∀ v, ρ (.const v) = v) :
    (execOp ρ ⟨d, .slice 114 x none (some (.const (.int .i64 6))) none, ty0, pos, after, guard⟩).run Try.prog w = .ok (.value (.slice (some ⟨g, 0, none⟩) 6 7)) w := by
  simp [execOp, hx, hc, go_sem, Try.underlying114]
theorem ex_stl {x y : Operand} {t : TypeId} {g o K v : Nat} {z : Int} (h : SB t w g [.n K v]) (ho : o < K) (hx : ρ x = .pointer (some ⟨g, o, none⟩)) (hy : ρ y = .int .u64 z) :
    (execOp ρ ⟨d, .store 24 x y, ty0, pos, after, guard⟩).run Try.prog w = .ok .skip (w.setCells g o (segs [.i .u64 z])) := by
  have := run_store_cv (ys := [.int .u64 z]) h (ty := 24) (o := o) (v := .int .u64 z) rfl sgW64.2 (by rw [segs_len]; show o + 1 ≤ K + 0; omega) (segs_ones [.i .u64 z])
  have e : segs [.i .u64 z] = [.int .u64 z] := rfl
  rw [e]
  simp [execOp, hx, hy, this]
theorem ex_ext {x : Operand} {xs : List Operand} {tys : Array TypeId} {f : FuncId} {vs : List Value} {r : Value} (hx : ρ x = .func (.func f) #[] #[]) (hc : ∀ w, (callFunc f vs.toArray).run Try.prog w = .ok (.value r) w) (hv : xs.map ρ = vs) :
    (execOp ρ ⟨d, .call ⟨.value x, xs.toArray, tys⟩, ty0, pos, after, guard⟩).run Try.prog w = .ok (.value r) w := by
  subst hv
  simp [execOp, resolve, hx, Deferred.ofValue, invoke, hc]
theorem ex_ineg {t : TypeId} {x : Operand} {k : IntKind} {a : Int} (hx : ρ x = .int k a) (r : Int) (hr : k.wrap (-a) = r) :
    (execOp ρ ⟨d, .unOp .neg t x, ty0, pos, after, guard⟩).run Try.prog w = .ok (.value (.int k r)) w := by
  subst hr
  simp [execOp, hx, go_sem]
theorem ex_iremu {t t2 : TypeId} {x y : Operand} {k : IntKind} {a b : Int} (hx : ρ x = .int k a) (hy : ρ y = .int k b) (h0 : 0 < b) (ha : 0 ≤ a) :
    (execOp ρ ⟨d, .binOp .rem t x y t2, ty0, pos, after, guard⟩).run Try.prog w = .ok (.value (.int k (a % b))) w := by
  have h1 : ¬ (b = 0) := by omega
  simp only [execOp, hx, hy, eqGuard, binOp, Op.intDiv, Sem.run_bind]
  rw [if_neg h1, Int.tmod_eq_emod_of_nonneg ha]
  simp
theorem ex_iquou {t t2 : TypeId} {x y : Operand} {k : IntKind} {a b : Int} (hx : ρ x = .int k a) (hy : ρ y = .int k b) (h0 : 0 < b) (ha : 0 ≤ a) (r : Int) (hr : k.wrap (a / b) = r) :
    (execOp ρ ⟨d, .binOp .quo t x y t2, ty0, pos, after, guard⟩).run Try.prog w = .ok (.value (.int k r)) w := by
  have h1 : ¬ (b = 0) := by omega
  simp only [execOp, hx, hy, eqGuard, binOp, Op.intDiv, Sem.run_bind]
  rw [if_neg h1, Int.tdiv_eq_ediv_of_nonneg ha, hr]
  simp
theorem ex_shrU {t t2 : TypeId} {x y : Operand} {k k2 : IntKind} {a : Int} {s : Nat} (hx : ρ x = .int k a) (hy : ρ y = .int k2 (s : Int)) (hs : s ≤ k.bits) :
    (execOp ρ ⟨d, .binOp .shr t x y t2, ty0, pos, after, guard⟩).run Try.prog w = .ok (.value (.int k (a / 2 ^ s))) w := by
  have h1 : ¬ ((s : Int) < 0) := by omega
  have h2 : min (s : Int).toNat k.bits = s := by
    rw [Int.toNat_natCast]
    exact Nat.min_eq_left hs
  have h3 : a.fdiv (2 ^ s) = a / 2 ^ s := Int.fdiv_eq_ediv_of_nonneg _ (Int.pow_nonneg (by decide))
  simp only [execOp, hx, hy, eqGuard, binOp, Op.shift, Sem.run_bind]
  rw [if_neg h1, h2, h3]
  rfl
theorem ex_shlU {t t2 : TypeId} {x y : Operand} {k k2 : IntKind} {a : Int} {s : Nat} (hx : ρ x = .int k a) (hy : ρ y = .int k2 (s : Int)) (hs : s ≤ k.bits) (r : Int) (hr : k.wrap (a * 2 ^ s) = r) :
    (execOp ρ ⟨d, .binOp .shl t x y t2, ty0, pos, after, guard⟩).run Try.prog w = .ok (.value (.int k r)) w := by
  have h1 : ¬ ((s : Int) < 0) := by omega
  have h2 : min (s : Int).toNat k.bits = s := by
    rw [Int.toNat_natCast]
    exact Nat.min_eq_left hs
  simp only [execOp, hx, hy, eqGuard, binOp, Op.shift, Sem.run_bind]
  rw [if_neg h1, h2, hr]
  rfl
theorem ex_cvUI {x : Operand} {a : Int} (hx : ρ x = .int .u64 a) (r : Int) (hr : IntKind.i64.wrap a = r) :
    (execOp ρ ⟨d, .convert 24 2 x, ty0, pos, after, guard⟩).run Try.prog w = .ok (.value (.int .i64 r)) w := by
  subst hr
  simp [execOp, hx, go_sem]
theorem ex_cvIU {x : Operand} {a : Int} (hx : ρ x = .int .i64 a) (r : Int) (hr : IntKind.u64.wrap a = r) :
    (execOp ρ ⟨d, .convert 2 24 x, ty0, pos, after, guard⟩).run Try.prog w = .ok (.value (.int .u64 r)) w := by
  subst hr
  simp [execOp, hx, go_sem]
end
def chainW (ops : Array Oper) (s : Nat) : List Nat → Nat → Bool
  | [], k => waitsFor ops s k
  | m :: ms, k => waitsFor ops s m && chainW ops m ms k
theorem chainW_on {ops : Array Oper} {L : Nat → Bool} (hcl : Shutin ops L) {k : Nat} : ∀ (ms : List Nat) (s : Nat), chainW ops s ms k = true → L s = true → L k = true
  | [], _, h, hs => waitsFor_on hcl h hs
  | m :: ms, s, h, hs => by
    simp only [chainW, Bool.and_eq_true] at h
    exact chainW_on hcl ms m h.2 (waitsFor_on hcl h.1 hs)
theorem late_chain {P : Program} {ops : Array Oper} {Γ : Type} {F : Γ → Act} {J : Γ → (Nat → Bool) → World → Prop} {s g p : Nat} {ys : List Value} {k : Nat} {o : Oper} (ms : List Nat) (h : GStep P ops F J k o) (hw : chainW ops s ms k = true) (hne : (s == k) = false) : GStep P ops F (LateJ J s g p ys) k o := fun γ L w Kk hJ hcl hL hdep hK => by
  have ls : L s = false := by
    cases hq : L s with
    | false => rfl
    | true => rw [chainW_on hcl ms s hw hq] at hL; cases hL
  refine h γ L w Kk (hJ.1 ls) hcl hL hdep (fun γ' v w' hF hJ' => hK.out γ' v w' hF ⟨fun _ => hJ', fun h1 => ?_⟩)
  simp [ls, hne] at h1
theorem St.limb {w w' : World} {g o K v v' z : Nat} {t : TypeId} (h : St w w' g o (segs [.i .u64 (z : Int)])) (hA : SB t w g [.n K v]) (hr : (row K v).set o z = row K v') : SB t w' g [.n K v'] := by
  have e : ∀ u, segs [.n K u] = cellsOf (row K u) := fun u => by
    show cellsOf (row K u) ++ [] = _
    rw [List.append_nil]
  rw [show w' = _ from h]
  unfold SB at hA ⊢
  rw [e] at hA ⊢
  have h1 := Blk.set hA o (.int .u64 (z : Int))
  rw [← hr]
  rw [show cellsOf ((row K v).set o z) = (cellsOf (row K v)).set o (.int .u64 (z : Int)) from by simp [cellsOf, List.map_set]]
  exact h1
end

section
open Go.RowKit
structure WS where
  t : Int
  f : Int
  g : Int
  a : Int
  b : Int
  c : Int
  d : Int
def wstep (s : WS) : WS :=
  if s.g % 2 = 1 ∧ 0 < s.t then ⟨-s.t + 1, s.g, ((-s.f) % 18446744073709551616 + s.g) % 18446744073709551616 / 2, 2 * s.c, 2 * s.d, -s.a + s.c, -s.b + s.d⟩
  else if s.g % 2 = 1 then ⟨s.t + 1, s.f, (s.g + s.f) % 18446744073709551616 / 2, 2 * s.a, 2 * s.b, s.c + s.a, s.d + s.b⟩
  else ⟨s.t + 1, s.f, s.g / 2, 2 * s.a, 2 * s.b, s.c, s.d⟩
def wsn : Nat → WS → WS
  | 0, s => s
  | n + 1, s => wstep (wsn n s)
def WalkOf (f0 g0 : Int) (s : WS) : Prop := f0 % 2 = 1 ∧ WK f0 g0 s.t 0 s.t s.f s.g s.a s.b s.c s.d
theorem WalkOf.at {f0 g0 : Int} {s : WS} (h : WalkOf f0 g0 s) : ∀ k, k ≤ 60 → WK f0 g0 s.t k (wsn k s).t (wsn k s).f (wsn k s).g (wsn k s).a (wsn k s).b (wsn k s).c (wsn k s).d := by
  have hodd : ∀ k, (dsn k ⟨s.t, f0, g0⟩).f % 2 = 1 := fun k => by
    have hi : DIn (f0.natAbs + g0.natAbs : Int) ⟨s.t, f0, g0⟩ := ⟨h.1, by show _ ≤ f0; omega, by show f0 ≤ _; omega, by show _ ≤ g0; omega, by show g0 ≤ _; omega⟩
    exact (hi.steps k).1
  intro k
  induction k with
  | zero => intro _; exact h.2
  | succ k ih =>
    intro hk
    have w := ih (by omega)
    have ho := hodd k
    show WK f0 g0 s.t (k + 1) (wstep (wsn k s)).t (wstep (wsn k s)).f (wstep (wsn k s)).g (wstep (wsn k s)).a (wstep (wsn k s)).b (wstep (wsn k s)).c (wstep (wsn k s)).d
    by_cases c1 : (wsn k s).g % 2 = 1 ∧ 0 < (wsn k s).t
    · rw [show wstep (wsn k s) = _ from if_pos c1]
      exact w.swap ho (by omega) c1.1 c1.2
    · by_cases c2 : (wsn k s).g % 2 = 1
      · rw [show wstep (wsn k s) = _ from (if_neg c1).trans (if_pos c2)]
        exact w.stay ho (by omega) c2 (fun q => c1 ⟨c2, q⟩)
      · rw [show wstep (wsn k s) = _ from (if_neg c1).trans (if_neg c2)]
        exact w.even (by omega) c2
structure WIn (s : WS) : Prop where
  t0 : -1060 ≤ s.t
  t1 : s.t ≤ 1060
  u0 : 0 ≤ s.f
  u1 : s.f ≤ 18446744073709551615
  v0 : 0 ≤ s.g
  v1 : s.g ≤ 18446744073709551615
  a0 : -1152921504606846976 ≤ s.a
  a1 : s.a ≤ 1152921504606846976
  b0 : -1152921504606846976 ≤ s.b
  b1 : s.b ≤ 1152921504606846976
  c0 : -1152921504606846976 ≤ s.c
  c1 : s.c ≤ 1152921504606846976
  d0 : -1152921504606846976 ≤ s.d
  d1 : s.d ≤ 1152921504606846976
theorem WalkOf.inn {f0 g0 : Int} {s : WS} (h : WalkOf f0 g0 s) {k : Nat} (hk : k ≤ 60) : WIn (wsn k s) ∧ (k < 60 → (wsn k s).f % 2 = 1) := by
  have w := h.at k hk
  have ho : (dsn k ⟨s.t, f0, g0⟩).f % 2 = 1 := by
    have hi : DIn (f0.natAbs + g0.natAbs : Int) ⟨s.t, f0, g0⟩ := ⟨h.1, by show _ ≤ f0; omega, by show f0 ≤ _; omega, by show _ ≤ g0; omega, by show g0 ≤ _; omega⟩
    exact (hi.steps k).1
  have hp : 2 ^ k ≤ 2 ^ 60 := Nat.pow_le_pow_right (by decide) hk
  have e : (2 : Nat) ^ 60 = 1152921504606846976 := by decide
  have b := w.hb
  have b1 := w.b1
  have b2 := w.b2
  have u0 := w.u0
  have u1 := w.u1
  have v0 := w.v0
  have v1 := w.v1
  refine ⟨⟨?_, ?_, u0, u1, v0, v1, ?_, ?_, ?_, ?_, ?_, ?_, ?_, ?_⟩, fun c => (w.oddf c).trans ho⟩ <;> omega
structure IS where
  t : Int
  f : Int
  g : Int
  d : Int
  e : Int
def kkOf (n : Nat) (x : Int) : Int := ((lb (wr x) 0 : Nat) : Int) * (n : Int) % 18446744073709551616 % 1152921504606846976 - (if x < 0 then 0 else 1152921504606846976)
def dv (n : Nat) (x : Int) : Int := (x + (pN : Int) * kkOf n x) / 2 ^ 60
def iw (s : IS) : WS := wsn 60 ⟨s.t, ((lb (wr s.f) 0 : Nat) : Int), ((lb (wr s.g) 0 : Nat) : Int), 1, 0, 0, 1⟩
theorem iw_eq (s : IS) : wsn 60 ⟨s.t, ((lb (wr s.f) 0 : Nat) : Int), ((lb (wr s.g) 0 : Nat) : Int), 1, 0, 0, 1⟩ = iw s := rfl
def isw (n : Nat) (s : IS) (W : WS) : IS := ⟨W.t, (s.f * W.a + s.g * W.b) / 2 ^ 60, (s.f * W.c + s.g * W.d) / 2 ^ 60, dv n (s.d * W.a + s.e * W.b), dv n (s.d * W.c + s.e * W.d)⟩
def istep (n : Nat) (s : IS) : IS := isw n s (iw s)
theorem isw_t (n : Nat) (s : IS) (W : WS) : (isw n s W).t = W.t := rfl
def isn (n A : Nat) : Nat → IS
  | 0 => ⟨1, pN, A, 0, 1⟩
  | k + 1 => istep n (isn n A k)
theorem istep_t (n : Nat) (s : IS) : (istep n s).t = (iw s).t := by rw [istep, isw_t]
theorem isn_succ (n A k : Nat) : isn n A (k + 1) = istep n (isn n A k) := rfl
theorem lb0_dvd (x : Int) : ∃ u : Int, x = ((lb (wr x) 0 : Nat) : Int) + 18446744073709551616 * u := by
  obtain ⟨q, hq⟩ := wr_form x
  have h1 : lb (wr x) 0 = wr x % 18446744073709551616 := by rw [lb, Nat.mul_zero, Nat.pow_zero, Nat.div_one]
  have h2 : (wB : Int) = 18446744073709551616 * (qB : Int) := by
    rw [wB_q, Int.natCast_mul, Int.mul_comm]
    rfl
  refine ⟨((wr x / 18446744073709551616 : Nat) : Int) + (qB : Int) * q, ?_⟩
  rw [h1]
  generalize (qB : Int) = R at *
  rw [h2] at hq
  have h3 : (wr x : Int) = ((wr x % 18446744073709551616 : Nat) : Int) + 18446744073709551616 * ((wr x / 18446744073709551616 : Nat) : Int) := by omega
  rw [Int.mul_add, ← Int.mul_assoc, ← Int.add_assoc, ← h3]
  exact hq
theorem dv_ok {n : Nat} (hn : NegOf (lb pN 0) n) (x : Int) (h1 : -1152921504606846976 * (pN : Int) ≤ x) (h2 : x ≤ 1152921504606846976 * (pN : Int)) :
    1152921504606846976 * dv n x = x + (pN : Int) * kkOf n x ∧ -(pN : Int) ≤ dv n x ∧ dv n x ≤ pN ∧ -1152921504606846976 ≤ kkOf n x ∧ kkOf n x < 1152921504606846976 := by
  obtain ⟨u, hu⟩ := lb0_dvd x
  obtain ⟨v, hv⟩ : ∃ v : Int, (pN : Int) = ((lb pN 0 : Nat) : Int) + 18446744073709551616 * v := ⟨((pN / 18446744073709551616 : Nat) : Int), by
    have : lb pN 0 = pN % 18446744073709551616 := by rw [lb, Nat.mul_zero, Nat.pow_zero, Nat.div_one]
    rw [this]
    omega⟩
  have hm := hn.2.2 (by decide +kernel)
  obtain ⟨s, hs⟩ : ∃ s : Int, ((lb pN 0 : Nat) : Int) * (n : Int) + 1 = 18446744073709551616 * s := ⟨((lb pN 0 * n / 18446744073709551616 : Nat) : Int) + 1, by
    rw [← Int.natCast_mul]
    generalize lb pN 0 * n = z at *
    omega⟩
  have hk : ∃ t : Int, kkOf n x = ((lb (wr x) 0 : Nat) : Int) * (n : Int) - 1152921504606846976 * t := by
    unfold kkOf
    generalize ((lb (wr x) 0 : Nat) : Int) * (n : Int) = z
    split
    · exact ⟨16 * (z / 18446744073709551616) + z % 18446744073709551616 / 1152921504606846976, by omega⟩
    · exact ⟨16 * (z / 18446744073709551616) + z % 18446744073709551616 / 1152921504606846976 + 1, by omega⟩
  obtain ⟨t, ht⟩ := hk
  have hd := div_sixty hu hv hs ht
  have hb : -1152921504606846976 ≤ kkOf n x ∧ kkOf n x < 1152921504606846976 ∧ (x < 0 → 0 ≤ kkOf n x) ∧ (¬ x < 0 → kkOf n x < 0) := by
    unfold kkOf
    generalize ((lb (wr x) 0 : Nat) : Int) * (n : Int) = z
    split <;> omega
  have e : 1152921504606846976 * dv n x = x + (pN : Int) * kkOf n x := by
    unfold dv
    rw [show (2 : Int) ^ 60 = 1152921504606846976 from rfl, Int.mul_comm]
    exact Int.ediv_mul_cancel hd
  refine ⟨e, ?_, ?_, hb.1, hb.2.1⟩
  · have h3 : (pN : Int) * (-1152921504606846976) ≤ (pN : Int) * kkOf n x := Int.mul_le_mul_of_nonneg_left hb.1 (by omega)
    by_cases c : x < 0
    · have h4 : 0 ≤ (pN : Int) * kkOf n x := Int.mul_nonneg (by omega) (hb.2.2.1 c)
      omega
    · omega
  · have h3 : (pN : Int) * kkOf n x ≤ (pN : Int) * 1152921504606846976 := Int.mul_le_mul_of_nonneg_left (by omega) (by omega)
    by_cases c : x < 0
    · omega
    · have h4 : (pN : Int) * kkOf n x ≤ 0 := Int.mul_nonpos_of_nonneg_of_nonpos (by omega) (by have := hb.2.2.2 c; omega)
      omega
theorem fac_bound {x y a b P : Int} (hx0 : -P ≤ x) (hx1 : x ≤ P) (hy0 : -P ≤ y) (hy1 : y ≤ P) (h : a.natAbs + b.natAbs ≤ 2 ^ 60) : -1152921504606846976 * P ≤ x * a + y * b ∧ x * a + y * b ≤ 1152921504606846976 * P := by
  have e : (2 : Nat) ^ 60 = 1152921504606846976 := by decide
  rw [e] at h
  have key : ∀ z c : Int, -P ≤ z → z ≤ P → -(P * (c.natAbs : Int)) ≤ z * c ∧ z * c ≤ P * (c.natAbs : Int) := by
    intro z c h1 h2
    rcases Int.le_total 0 c with q | q
    · rw [Int.natAbs_of_nonneg q]
      exact ⟨by rw [← Int.neg_mul]; exact Int.mul_le_mul_of_nonneg_right h1 q, Int.mul_le_mul_of_nonneg_right h2 q⟩
    · rw [Int.ofNat_natAbs_of_nonpos q]
      refine ⟨?_, ?_⟩
      · rw [Int.mul_neg, Int.neg_neg]; exact Int.mul_le_mul_of_nonpos_right h2 q
      · rw [Int.mul_neg, ← Int.neg_mul]; exact Int.mul_le_mul_of_nonpos_right h1 q
  have k1 := key x a hx0 hx1
  have k2 := key y b hy0 hy1
  have hs : P * (a.natAbs : Int) + P * (b.natAbs : Int) ≤ P * 1152921504606846976 := by
    rw [← Int.mul_add]
    exact Int.mul_le_mul_of_nonneg_left (by omega) (by omega)
  omega
structure IA (n A k : Nat) : Prop where
  iv : IV A k ⟨(isn n A k).t, (isn n A k).f, (isn n A k).g⟩ (isn n A k).d (isn n A k).e
structure IT (n : Nat) (s : IS) : Prop where
  walk : WalkOf s.f s.g ⟨s.t, ((lb (wr s.f) 0 : Nat) : Int), ((lb (wr s.g) 0 : Nat) : Int), 1, 0, 0, 1⟩
  f0 : -(pN : Int) ≤ s.f
  f1 : s.f ≤ pN
  g0 : -(pN : Int) ≤ s.g
  g1 : s.g ≤ pN
  d0 : -(pN : Int) ≤ s.d
  d1 : s.d ≤ pN
  e0 : -(pN : Int) ≤ s.e
  e1 : s.e ≤ pN
  b1 : (iw s).a.natAbs + (iw s).b.natAbs ≤ 2 ^ 60
  b2 : (iw s).c.natAbs + (iw s).d.natAbs ≤ 2 ^ 60
theorem IA.turn {n A k : Nat} (h : IA n A k) (hA : A < pN) (hz : (isn n A k).g ≠ 0) : IT n (isn n A k) := by
  have hi := h.iv.inn hA
  have ht := h.iv.turn hA hz
  obtain ⟨u, hu⟩ := lb0_dvd (isn n A k).f
  obtain ⟨v, hv⟩ := lb0_dvd (isn n A k).g
  have l1 : lb (wr (isn n A k).f) 0 < 2 ^ 64 := lb_lt _ _
  have l2 : lb (wr (isn n A k).g) 0 < 2 ^ 64 := lb_lt _ _
  have hwk : WK (isn n A k).f (isn n A k).g (isn n A k).t 0 (isn n A k).t ((lb (wr (isn n A k).f) 0 : Nat) : Int) ((lb (wr (isn n A k).g) 0 : Nat) : Int) 1 0 0 1 :=
    WK.start _ _ _ ht ⟨-u, by omega⟩ ⟨-v, by omega⟩ (by omega) (by omega) (by omega) (by omega)
  have hw : WalkOf (isn n A k).f (isn n A k).g ⟨(isn n A k).t, ((lb (wr (isn n A k).f) 0 : Nat) : Int), ((lb (wr (isn n A k).g) 0 : Nat) : Int), 1, 0, 0, 1⟩ := ⟨hi.1, hwk⟩
  have hw6 := hw.at 60 (Nat.le_refl _)
  rw [iw_eq] at hw6
  exact ⟨hw, hi.2.1, hi.2.2.1, hi.2.2.2.1, hi.2.2.2.2, h.iv.d1, h.iv.d2, h.iv.e1, h.iv.e2, hw6.b1, hw6.b2⟩
theorem IA.next {n A k : Nat} (hn : NegOf (lb pN 0) n) (h : IA n A k) (hA : A < pN) (hz : (isn n A k).g ≠ 0) : IA n A (k + 1) := by
  have T := h.turn hA hz
  have hw6 := T.walk.at 60 (Nat.le_refl _)
  rw [iw_eq] at hw6
  have q1 := dv_ok hn _ (fac_bound T.d0 T.d1 T.e0 T.e1 T.b1).1 (fac_bound T.d0 T.d1 T.e0 T.e1 T.b1).2
  have q2 := dv_ok hn _ (fac_bound T.d0 T.d1 T.e0 T.e1 T.b2).1 (fac_bound T.d0 T.d1 T.e0 T.e1 T.b2).2
  have e60 : (2 : Int) ^ 60 = 1152921504606846976 := rfl
  have r1 := hw6.h1
  have r2 := hw6.h2
  have r3 := hw6.ht
  rw [e60] at r1 r2
  obtain ⟨W, hW⟩ : ∃ W, W = iw (isn n A k) := ⟨_, rfl⟩
  have c1 : (isn n A (k + 1)).f = (dsn 60 ⟨(isn n A k).t, (isn n A k).f, (isn n A k).g⟩).f := by
    show ((isn n A k).f * (iw (isn n A k)).a + (isn n A k).g * (iw (isn n A k)).b) / 2 ^ 60 = _
    rw [← hW] at r1 ⊢
    rw [e60, Int.mul_comm, Int.mul_comm (isn n A k).g, r1, Int.mul_ediv_cancel_left _ (by decide)]
  have c2 : (isn n A (k + 1)).g = (dsn 60 ⟨(isn n A k).t, (isn n A k).f, (isn n A k).g⟩).g := by
    show ((isn n A k).f * (iw (isn n A k)).c + (isn n A k).g * (iw (isn n A k)).d) / 2 ^ 60 = _
    rw [← hW] at r2 ⊢
    rw [e60, Int.mul_comm, Int.mul_comm (isn n A k).g, r2, Int.mul_ediv_cancel_left _ (by decide)]
  have c3 : (isn n A (k + 1)).t = (dsn 60 ⟨(isn n A k).t, (isn n A k).f, (isn n A k).g⟩).t := by
    rw [isn_succ, istep_t]
    exact r3
  refine ⟨h.iv.next (a := (iw (isn n A k)).a) (b := (iw (isn n A k)).b) (c := (iw (isn n A k)).c) (f := (iw (isn n A k)).d) ?_ ?_ ?_ ?_ ?_ q1.2.1 q1.2.2.1 q2.2.1 q2.2.2.1⟩
  · rw [c1, c2, c3]
  · simp only []
    rw [c1]
    exact r1
  · simp only []
    rw [c2]
    exact r2
  · have : (1152921504606846976 : Int) * (isn n A (k + 1)).d = _ := q1.1
    rw [this]
    rw [Int.add_comm, Int.add_sub_cancel]
    exact Int.dvd_mul_right _ _
  · have : (1152921504606846976 : Int) * (isn n A (k + 1)).e = _ := q2.1
    rw [this]
    rw [Int.add_comm, Int.add_sub_cancel]
    exact Int.dvd_mul_right _ _
theorem IA.first (n A : Nat) : IA n A 0 := ⟨IV.start A⟩
theorem turns (n A : Nat) (hn : NegOf (lb pN 0) n) (hA : A < pN) : ∃ N, (∀ k, k ≤ N → IA n A k) ∧ (∀ k, k < N → (isn n A k).g ≠ 0) ∧ (isn n A N).g = 0 ∧ (A = 0 → N = 0) := by
  obtain ⟨N, h1, h2⟩ := ds_turns (start_in A hA) 60 (by decide)
  have key : ∀ k, k ≤ N → IA n A k := by
    intro k
    induction k with
    | zero => intro _; exact IA.first n A
    | succ k ih =>
      intro hk
      have h := ih (by omega)
      refine h.next hn hA ?_
      have := h2 k (by omega)
      rwa [← h.iv.hs] at this
  refine ⟨N, key, fun k hk => ?_, ?_, fun c => ?_⟩
  · have := h2 k hk
    rwa [← (key k (by omega)).iv.hs] at this
  · rwa [← (key N (Nat.le_refl _)).iv.hs] at h1
  · subst c
    rcases Nat.eq_zero_or_pos N with h | h
    · exact h
    · exact absurd rfl (h2 0 h)
end
end
end
end
end Go.Proofs.Ytkkmekdhejhapaa
