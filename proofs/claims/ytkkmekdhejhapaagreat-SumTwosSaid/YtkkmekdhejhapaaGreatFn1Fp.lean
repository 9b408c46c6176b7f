/- What is proved here: numbers of 6 limbs as array values (api.Fp) and as blocks of memory; contracts of fp.modulus, square, number, Right, lessModulus and Clean. -/
import Derived.Test.YtkkmekdhejhapaaGreatNum
import Derived.ChangeKeysEq
import Derived.Test.YtkkmekdhejhapaaGreatMontFns
import Derived.Test.YtkkmekdhejhapaaGreatPrime
import Derived.BigQuiet
import Derived.Deep.CutBlock
namespace Go.Proofs.YtkkmekdhejhapaaGreat
section
open Go.RowKit
def fpB : Nat := 2 ^ (64 * 6)
theorem fpB_eq : fpB = 2 ^ (64 * 6) := by delta fpB; exact Eq.refl _
abbrev fpV (v : Nat) : Value := .agg #[.int .u64 ((lb v 0 : Nat) : Int), .int .u64 ((lb v 1 : Nat) : Int), .int .u64 ((lb v 2 : Nat) : Int), .int .u64 ((lb v 3 : Nat) : Int), .int .u64 ((lb v 4 : Nat) : Int), .int .u64 ((lb v 5 : Nat) : Int)]
theorem fprow (v : Nat) : row 6 v = [lb v 0, lb v 1, lb v 2, lb v 3, lb v 4, lb v 5] := by
  have h : (row 6 v).length = 6 := length_row _ _
  apply List.ext_getElem (by rw [h]; rfl)
  intro i h1 h2
  have e := lb_row (K := 6) (v := v) (i := i) (by omega)
  rw [lm, List.getD_eq_getElem?_getD, List.getElem?_eq_getElem h1] at e
  rw [show (row 6 v)[i] = lb v i from e]
  have : i = 0 ∨ i = 1 ∨ i = 2 ∨ i = 3 ∨ i = 4 ∨ i = 5 := by simp at h2; omega
  rcases this with rfl | rfl | rfl | rfl | rfl | rfl <;> rfl
theorem fpval {v : Nat} (h : v < fpB) : val (row 6 v) = v := val_row_of (K := 6) (Nat.lt_of_lt_of_eq h fpB_eq)
theorem fp_cells (v : Nat) : (cellsOf (row 6 v)).toArray = #[.int .u64 ((lb v 0 : Nat) : Int), .int .u64 ((lb v 1 : Nat) : Int), .int .u64 ((lb v 2 : Nat) : Int), .int .u64 ((lb v 3 : Nat) : Int), .int .u64 ((lb v 4 : Nat) : Int), .int .u64 ((lb v 5 : Nat) : Int)] := by rw [fprow]; rfl
theorem fp_new (t : TypeId) (w : World) (v : Nat) : Arr t (w.alloc (.cells #[.int .u64 ((lb v 0 : Nat) : Int), .int .u64 ((lb v 1 : Nat) : Int), .int .u64 ((lb v 2 : Nat) : Int), .int .u64 ((lb v 3 : Nat) : Int), .int .u64 ((lb v 4 : Nat) : Int), .int .u64 ((lb v 5 : Nat) : Int)] t)) w.heap.size (row 6 v) := by
  unfold Arr
  rw [fp_cells]
  exact heap_alloc_new w _
theorem fplb_0 (i : Nat) : lb 0 i = 0 := by simp [lb]
theorem fp_zero (t : TypeId) (w : World) : Arr t (w.alloc (.cells #[.int .u64 0, .int .u64 0, .int .u64 0, .int .u64 0, .int .u64 0, .int .u64 0] t)) w.heap.size (row 6 0) := by
  have := fp_new t w 0
  simp only [fplb_0] at this
  exact this
theorem Arr.fpc0 {t : TypeId} {w : World} {g v : Nat} (h : Arr t w g (row 6 v)) : w.cell? ⟨g, 0, none⟩ = some (.int .u64 ((lb v 0 : Nat) : Int)) := h.rc 0 (by decide)
theorem Arr.fpc1 {t : TypeId} {w : World} {g v : Nat} (h : Arr t w g (row 6 v)) : w.cell? ⟨g, 1, none⟩ = some (.int .u64 ((lb v 1 : Nat) : Int)) := h.rc 1 (by decide)
theorem Arr.fpc2 {t : TypeId} {w : World} {g v : Nat} (h : Arr t w g (row 6 v)) : w.cell? ⟨g, 2, none⟩ = some (.int .u64 ((lb v 2 : Nat) : Int)) := h.rc 2 (by decide)
theorem Arr.fpc3 {t : TypeId} {w : World} {g v : Nat} (h : Arr t w g (row 6 v)) : w.cell? ⟨g, 3, none⟩ = some (.int .u64 ((lb v 3 : Nat) : Int)) := h.rc 3 (by decide)
theorem Arr.fpc4 {t : TypeId} {w : World} {g v : Nat} (h : Arr t w g (row 6 v)) : w.cell? ⟨g, 4, none⟩ = some (.int .u64 ((lb v 4 : Nat) : Int)) := h.rc 4 (by decide)
theorem Arr.fpc5 {t : TypeId} {w : World} {g v : Nat} (h : Arr t w g (row 6 v)) : w.cell? ⟨g, 5, none⟩ = some (.int .u64 ((lb v 5 : Nat) : Int)) := h.rc 5 (by decide)
theorem fp_small {N : Nat} (h : N < 2 ^ 64) : fpV N = .agg #[.int .u64 (N : Int), .int .u64 0, .int .u64 0, .int .u64 0, .int .u64 0, .int .u64 0] := by
  show Value.agg #[.int .u64 ((lb N 0 : Nat) : Int), .int .u64 ((lb N 1 : Nat) : Int), .int .u64 ((lb N 2 : Nat) : Int), .int .u64 ((lb N 3 : Nat) : Int), .int .u64 ((lb N 4 : Nat) : Int), .int .u64 ((lb N 5 : Nat) : Int)] = _
  rw [show lb N 0 = N from by simp only [lb, Nat.mul_zero, Nat.pow_zero, Nat.div_one]; exact Nat.mod_eq_of_lt h, lb_hi h 0, lb_hi h 1, lb_hi h 2, lb_hi h 3, lb_hi h 4]
  rfl
theorem fp_lit0 : fpV 0 = .agg #[.int .u64 0, .int .u64 0, .int .u64 0, .int .u64 0, .int .u64 0, .int .u64 0] := fp_small (by decide)
theorem fp_lit1 : fpV 1 = .agg #[.int .u64 1, .int .u64 0, .int .u64 0, .int .u64 0, .int .u64 0, .int .u64 0] := fp_small (by decide)
theorem fp_ltB {N : Nat} (h : N < 2 ^ 64) : N < fpB := Nat.lt_trans h (by decide +kernel)
theorem fp_set (v z : Nat) : ((((((row 6 v).set 0 (lb z 0)).set 1 (lb z 1)).set 2 (lb z 2)).set 3 (lb z 3)).set 4 (lb z 4)).set 5 (lb z 5) = row 6 z := by rw [fprow, fprow]; rfl
theorem Arr.fpstore {t : TypeId} {w : World} {g v : Nat} (h : Arr t w g (row 6 v)) (z : Nat) : Arr t ((((((w.setCell ⟨g, 0, none⟩ (.int .u64 ((lb z 0 : Nat) : Int))).setCell ⟨g, 1, none⟩ (.int .u64 ((lb z 1 : Nat) : Int))).setCell ⟨g, 2, none⟩ (.int .u64 ((lb z 2 : Nat) : Int))).setCell ⟨g, 3, none⟩ (.int .u64 ((lb z 3 : Nat) : Int))).setCell ⟨g, 4, none⟩ (.int .u64 ((lb z 4 : Nat) : Int))).setCell ⟨g, 5, none⟩ (.int .u64 ((lb z 5 : Nat) : Int))) g (row 6 z) := by
  have := (((((h.set 0 (lb z 0)).set 1 (lb z 1)).set 2 (lb z 2)).set 3 (lb z 3)).set 4 (lb z 4)).set 5 (lb z 5)
  rwa [fp_set] at this
theorem fp_below {B : Nat} {w0 w : World} (hb : Below B w0 w) {b : Nat} (hg : B ≤ b) (u0 u1 u2 u3 u4 u5 : Value) : Below B w0 ((((((w.setCell ⟨b, 0, none⟩ u0).setCell ⟨b, 1, none⟩ u1).setCell ⟨b, 2, none⟩ u2).setCell ⟨b, 3, none⟩ u3).setCell ⟨b, 4, none⟩ u4).setCell ⟨b, 5, none⟩ u5) :=
  (((((hb.setCell (p := ⟨b, 0, none⟩) hg _).setCell (p := ⟨b, 1, none⟩) hg _).setCell (p := ⟨b, 2, none⟩) hg _).setCell (p := ⟨b, 3, none⟩) hg _).setCell (p := ⟨b, 4, none⟩) hg _).setCell (p := ⟨b, 5, none⟩) hg _
theorem Arr.fpother {t : TypeId} {w : World} {g b : Nat} {xs : List Nat} (h : Arr t w g xs) (hne : g ≠ b) (u0 u1 u2 u3 u4 u5 : Value) : Arr t ((((((w.setCell ⟨b, 0, none⟩ u0).setCell ⟨b, 1, none⟩ u1).setCell ⟨b, 2, none⟩ u2).setCell ⟨b, 3, none⟩ u3).setCell ⟨b, 4, none⟩ u4).setCell ⟨b, 5, none⟩ u5) g xs := by
  unfold Arr
  rw [Below.heap_setCell _ _ _ g hne, Below.heap_setCell _ _ _ g hne, Below.heap_setCell _ _ _ g hne, Below.heap_setCell _ _ _ g hne, Below.heap_setCell _ _ _ g hne, Below.heap_setCell _ _ _ g hne]
  exact h
theorem fp_lay_v (t : TypeId) (w : World) (v0 : Nat) : ∃ w', w.alloc (.cells #[.int .u64 ((lb v0 0 : Nat) : Int), .int .u64 ((lb v0 1 : Nat) : Int), .int .u64 ((lb v0 2 : Nat) : Int), .int .u64 ((lb v0 3 : Nat) : Int), .int .u64 ((lb v0 4 : Nat) : Int), .int .u64 ((lb v0 5 : Nat) : Int)] t) = w' ∧ Arr t w' (w.heap.size) (row 6 v0) ∧ Below w.heap.size w w' ∧ w'.heap.size = w.heap.size + 1 := by
  have a0 := fp_new t (w) v0
  exact ⟨_, rfl, a0, ((Below.refl w.heap.size w).alloc (by simp <;> omega) (.cells #[.int .u64 ((lb v0 0 : Nat) : Int), .int .u64 ((lb v0 1 : Nat) : Int), .int .u64 ((lb v0 2 : Nat) : Int), .int .u64 ((lb v0 3 : Nat) : Int), .int .u64 ((lb v0 4 : Nat) : Int), .int .u64 ((lb v0 5 : Nat) : Int)] t)), by simp⟩
theorem fp_lay_vz (t : TypeId) (w : World) (v0 : Nat) : ∃ w', (w.alloc (.cells #[.int .u64 ((lb v0 0 : Nat) : Int), .int .u64 ((lb v0 1 : Nat) : Int), .int .u64 ((lb v0 2 : Nat) : Int), .int .u64 ((lb v0 3 : Nat) : Int), .int .u64 ((lb v0 4 : Nat) : Int), .int .u64 ((lb v0 5 : Nat) : Int)] t)).alloc (.cells #[.int .u64 0, .int .u64 0, .int .u64 0, .int .u64 0, .int .u64 0, .int .u64 0] t) = w' ∧ Arr t w' (w.heap.size) (row 6 v0) ∧ Arr t w' (w.heap.size + 1) (row 6 0) ∧ Below w.heap.size w w' ∧ w'.heap.size = w.heap.size + 2 := by
  have a0 := fp_new t (w) v0
  have a1 := fp_zero t ((w).alloc (.cells #[.int .u64 ((lb v0 0 : Nat) : Int), .int .u64 ((lb v0 1 : Nat) : Int), .int .u64 ((lb v0 2 : Nat) : Int), .int .u64 ((lb v0 3 : Nat) : Int), .int .u64 ((lb v0 4 : Nat) : Int), .int .u64 ((lb v0 5 : Nat) : Int)] t))
  simp only [World.size_alloc] at a1
  have a0 := a0.alloc (.cells #[.int .u64 0, .int .u64 0, .int .u64 0, .int .u64 0, .int .u64 0, .int .u64 0] t)
  exact ⟨_, rfl, a0, a1, (((Below.refl w.heap.size w).alloc (by simp <;> omega) (.cells #[.int .u64 ((lb v0 0 : Nat) : Int), .int .u64 ((lb v0 1 : Nat) : Int), .int .u64 ((lb v0 2 : Nat) : Int), .int .u64 ((lb v0 3 : Nat) : Int), .int .u64 ((lb v0 4 : Nat) : Int), .int .u64 ((lb v0 5 : Nat) : Int)] t)).alloc (by simp <;> omega) (.cells #[.int .u64 0, .int .u64 0, .int .u64 0, .int .u64 0, .int .u64 0, .int .u64 0] t)), by simp⟩
theorem fp_lay_vv (t : TypeId) (w : World) (v0 v1 : Nat) : ∃ w', (w.alloc (.cells #[.int .u64 ((lb v0 0 : Nat) : Int), .int .u64 ((lb v0 1 : Nat) : Int), .int .u64 ((lb v0 2 : Nat) : Int), .int .u64 ((lb v0 3 : Nat) : Int), .int .u64 ((lb v0 4 : Nat) : Int), .int .u64 ((lb v0 5 : Nat) : Int)] t)).alloc (.cells #[.int .u64 ((lb v1 0 : Nat) : Int), .int .u64 ((lb v1 1 : Nat) : Int), .int .u64 ((lb v1 2 : Nat) : Int), .int .u64 ((lb v1 3 : Nat) : Int), .int .u64 ((lb v1 4 : Nat) : Int), .int .u64 ((lb v1 5 : Nat) : Int)] t) = w' ∧ Arr t w' (w.heap.size) (row 6 v0) ∧ Arr t w' (w.heap.size + 1) (row 6 v1) ∧ Below w.heap.size w w' ∧ w'.heap.size = w.heap.size + 2 := by
  have a0 := fp_new t (w) v0
  have a1 := fp_new t ((w).alloc (.cells #[.int .u64 ((lb v0 0 : Nat) : Int), .int .u64 ((lb v0 1 : Nat) : Int), .int .u64 ((lb v0 2 : Nat) : Int), .int .u64 ((lb v0 3 : Nat) : Int), .int .u64 ((lb v0 4 : Nat) : Int), .int .u64 ((lb v0 5 : Nat) : Int)] t)) v1
  simp only [World.size_alloc] at a1
  have a0 := a0.alloc (.cells #[.int .u64 ((lb v1 0 : Nat) : Int), .int .u64 ((lb v1 1 : Nat) : Int), .int .u64 ((lb v1 2 : Nat) : Int), .int .u64 ((lb v1 3 : Nat) : Int), .int .u64 ((lb v1 4 : Nat) : Int), .int .u64 ((lb v1 5 : Nat) : Int)] t)
  exact ⟨_, rfl, a0, a1, (((Below.refl w.heap.size w).alloc (by simp <;> omega) (.cells #[.int .u64 ((lb v0 0 : Nat) : Int), .int .u64 ((lb v0 1 : Nat) : Int), .int .u64 ((lb v0 2 : Nat) : Int), .int .u64 ((lb v0 3 : Nat) : Int), .int .u64 ((lb v0 4 : Nat) : Int), .int .u64 ((lb v0 5 : Nat) : Int)] t)).alloc (by simp <;> omega) (.cells #[.int .u64 ((lb v1 0 : Nat) : Int), .int .u64 ((lb v1 1 : Nat) : Int), .int .u64 ((lb v1 2 : Nat) : Int), .int .u64 ((lb v1 3 : Nat) : Int), .int .u64 ((lb v1 4 : Nat) : Int), .int .u64 ((lb v1 5 : Nat) : Int)] t)), by simp⟩
theorem fp_lay_vvz (t : TypeId) (w : World) (v0 v1 : Nat) : ∃ w', ((w.alloc (.cells #[.int .u64 ((lb v0 0 : Nat) : Int), .int .u64 ((lb v0 1 : Nat) : Int), .int .u64 ((lb v0 2 : Nat) : Int), .int .u64 ((lb v0 3 : Nat) : Int), .int .u64 ((lb v0 4 : Nat) : Int), .int .u64 ((lb v0 5 : Nat) : Int)] t)).alloc (.cells #[.int .u64 ((lb v1 0 : Nat) : Int), .int .u64 ((lb v1 1 : Nat) : Int), .int .u64 ((lb v1 2 : Nat) : Int), .int .u64 ((lb v1 3 : Nat) : Int), .int .u64 ((lb v1 4 : Nat) : Int), .int .u64 ((lb v1 5 : Nat) : Int)] t)).alloc (.cells #[.int .u64 0, .int .u64 0, .int .u64 0, .int .u64 0, .int .u64 0, .int .u64 0] t) = w' ∧ Arr t w' (w.heap.size) (row 6 v0) ∧ Arr t w' (w.heap.size + 1) (row 6 v1) ∧ Arr t w' (w.heap.size + 1 + 1) (row 6 0) ∧ Below w.heap.size w w' ∧ w'.heap.size = w.heap.size + 3 := by
  have a0 := fp_new t (w) v0
  have a1 := fp_new t ((w).alloc (.cells #[.int .u64 ((lb v0 0 : Nat) : Int), .int .u64 ((lb v0 1 : Nat) : Int), .int .u64 ((lb v0 2 : Nat) : Int), .int .u64 ((lb v0 3 : Nat) : Int), .int .u64 ((lb v0 4 : Nat) : Int), .int .u64 ((lb v0 5 : Nat) : Int)] t)) v1
  simp only [World.size_alloc] at a1
  have a0 := a0.alloc (.cells #[.int .u64 ((lb v1 0 : Nat) : Int), .int .u64 ((lb v1 1 : Nat) : Int), .int .u64 ((lb v1 2 : Nat) : Int), .int .u64 ((lb v1 3 : Nat) : Int), .int .u64 ((lb v1 4 : Nat) : Int), .int .u64 ((lb v1 5 : Nat) : Int)] t)
  have a2 := fp_zero t (((w).alloc (.cells #[.int .u64 ((lb v0 0 : Nat) : Int), .int .u64 ((lb v0 1 : Nat) : Int), .int .u64 ((lb v0 2 : Nat) : Int), .int .u64 ((lb v0 3 : Nat) : Int), .int .u64 ((lb v0 4 : Nat) : Int), .int .u64 ((lb v0 5 : Nat) : Int)] t)).alloc (.cells #[.int .u64 ((lb v1 0 : Nat) : Int), .int .u64 ((lb v1 1 : Nat) : Int), .int .u64 ((lb v1 2 : Nat) : Int), .int .u64 ((lb v1 3 : Nat) : Int), .int .u64 ((lb v1 4 : Nat) : Int), .int .u64 ((lb v1 5 : Nat) : Int)] t))
  simp only [World.size_alloc] at a2
  have a0 := a0.alloc (.cells #[.int .u64 0, .int .u64 0, .int .u64 0, .int .u64 0, .int .u64 0, .int .u64 0] t)
  have a1 := a1.alloc (.cells #[.int .u64 0, .int .u64 0, .int .u64 0, .int .u64 0, .int .u64 0, .int .u64 0] t)
  exact ⟨_, rfl, a0, a1, a2, ((((Below.refl w.heap.size w).alloc (by simp <;> omega) (.cells #[.int .u64 ((lb v0 0 : Nat) : Int), .int .u64 ((lb v0 1 : Nat) : Int), .int .u64 ((lb v0 2 : Nat) : Int), .int .u64 ((lb v0 3 : Nat) : Int), .int .u64 ((lb v0 4 : Nat) : Int), .int .u64 ((lb v0 5 : Nat) : Int)] t)).alloc (by simp <;> omega) (.cells #[.int .u64 ((lb v1 0 : Nat) : Int), .int .u64 ((lb v1 1 : Nat) : Int), .int .u64 ((lb v1 2 : Nat) : Int), .int .u64 ((lb v1 3 : Nat) : Int), .int .u64 ((lb v1 4 : Nat) : Int), .int .u64 ((lb v1 5 : Nat) : Int)] t)).alloc (by simp <;> omega) (.cells #[.int .u64 0, .int .u64 0, .int .u64 0, .int .u64 0, .int .u64 0, .int .u64 0] t)), by simp⟩
theorem fp_lay_zz (t : TypeId) (w : World) : ∃ w', (w.alloc (.cells #[.int .u64 0, .int .u64 0, .int .u64 0, .int .u64 0, .int .u64 0, .int .u64 0] t)).alloc (.cells #[.int .u64 0, .int .u64 0, .int .u64 0, .int .u64 0, .int .u64 0, .int .u64 0] t) = w' ∧ Arr t w' (w.heap.size) (row 6 0) ∧ Arr t w' (w.heap.size + 1) (row 6 0) ∧ Below w.heap.size w w' ∧ w'.heap.size = w.heap.size + 2 := by
  have a0 := fp_zero t (w)
  have a1 := fp_zero t ((w).alloc (.cells #[.int .u64 0, .int .u64 0, .int .u64 0, .int .u64 0, .int .u64 0, .int .u64 0] t))
  simp only [World.size_alloc] at a1
  have a0 := a0.alloc (.cells #[.int .u64 0, .int .u64 0, .int .u64 0, .int .u64 0, .int .u64 0, .int .u64 0] t)
  exact ⟨_, rfl, a0, a1, (((Below.refl w.heap.size w).alloc (by simp <;> omega) (.cells #[.int .u64 0, .int .u64 0, .int .u64 0, .int .u64 0, .int .u64 0, .int .u64 0] t)).alloc (by simp <;> omega) (.cells #[.int .u64 0, .int .u64 0, .int .u64 0, .int .u64 0, .int .u64 0, .int .u64 0] t)), by simp⟩
theorem fp_one {t : TypeId} {Y : World} {g u : Nat} (h : Arr t Y g (row 6 u)) (x : Nat) :
    ∃ W, (((((Y.setCell ⟨g, 0, none⟩ (.int .u64 ((lb x 0 : Nat) : Int))).setCell ⟨g, 1, none⟩ (.int .u64 ((lb x 1 : Nat) : Int))).setCell ⟨g, 2, none⟩ (.int .u64 ((lb x 2 : Nat) : Int))).setCell ⟨g, 3, none⟩ (.int .u64 ((lb x 3 : Nat) : Int))).setCell ⟨g, 4, none⟩ (.int .u64 ((lb x 4 : Nat) : Int))).setCell ⟨g, 5, none⟩ (.int .u64 ((lb x 5 : Nat) : Int)) = W ∧ Arr t W g (row 6 x) ∧ (∀ t' g' xs, g' ≠ g → Arr t' Y g' xs → Arr t' W g' xs) ∧ (∀ B w0, Below B w0 Y → B ≤ g → Below B w0 W) ∧ W.heap.size = Y.heap.size :=
  ⟨_, rfl, h.fpstore x, fun _ _ _ hne ha => ha.fpother hne _ _ _ _ _ _, fun _ _ hb hg => fp_below hb hg _ _ _ _ _ _, by simp⟩
theorem fp_two {t : TypeId} {Y : World} {g1 g2 u1 u2 : Nat} (h1 : Arr t Y g1 (row 6 u1)) (h2 : Arr t Y g2 (row 6 u2)) (hne : g1 ≠ g2) (x y : Nat) :
    ∃ W, (((((((((((Y.setCell ⟨g1, 0, none⟩ (.int .u64 ((lb x 0 : Nat) : Int))).setCell ⟨g1, 1, none⟩ (.int .u64 ((lb x 1 : Nat) : Int))).setCell ⟨g1, 2, none⟩ (.int .u64 ((lb x 2 : Nat) : Int))).setCell ⟨g1, 3, none⟩ (.int .u64 ((lb x 3 : Nat) : Int))).setCell ⟨g1, 4, none⟩ (.int .u64 ((lb x 4 : Nat) : Int))).setCell ⟨g1, 5, none⟩ (.int .u64 ((lb x 5 : Nat) : Int))).setCell ⟨g2, 0, none⟩ (.int .u64 ((lb y 0 : Nat) : Int))).setCell ⟨g2, 1, none⟩ (.int .u64 ((lb y 1 : Nat) : Int))).setCell ⟨g2, 2, none⟩ (.int .u64 ((lb y 2 : Nat) : Int))).setCell ⟨g2, 3, none⟩ (.int .u64 ((lb y 3 : Nat) : Int))).setCell ⟨g2, 4, none⟩ (.int .u64 ((lb y 4 : Nat) : Int))).setCell ⟨g2, 5, none⟩ (.int .u64 ((lb y 5 : Nat) : Int)) = W ∧ Arr t W g1 (row 6 x) ∧ Arr t W g2 (row 6 y) ∧ (∀ t' g' xs, g' ≠ g1 → g' ≠ g2 → Arr t' Y g' xs → Arr t' W g' xs) ∧ (∀ B w0, Below B w0 Y → B ≤ g1 → B ≤ g2 → Below B w0 W) ∧ W.heap.size = Y.heap.size := by
  obtain ⟨W1, e1, a1, o1, b1, s1⟩ := fp_one h1 x
  obtain ⟨W2, e2, a2, o2, b2, s2⟩ := fp_one (o1 _ _ _ hne.symm h2) y
  refine ⟨W2, ?_, o2 _ _ _ hne a1, a2, fun t' g' xs n1 n2 ha => o2 _ _ _ n2 (o1 _ _ _ n1 ha), fun B w0 hb h1 h2 => b2 _ _ (b1 _ _ hb h1) h2, s2.trans s1⟩
  rw [e1]
  exact e2
end

section
open Go.RowKit
theorem fpM_lt : pN < fpB := by decide +kernel
theorem fpM_pos : 0 < pN := by decide +kernel
theorem fpM_odd : pN % 2 = 1 := by decide +kernel
theorem fpM_two : pN + pN < fpB := by decide +kernel
theorem fpM_mod (a : Nat) : a % pN < pN := Nat.mod_lt _ fpM_pos
theorem fpval_M : val (row 6 pN) = pN := fpval fpM_lt
theorem fpM_lit : fpV pN = .agg #[.int .u64 13402431016077863595, .int .u64 2210141511517208575, .int .u64 7435674573564081700, .int .u64 7239337960414712511, .int .u64 5412103778470702295, .int .u64 1873798617647539866] := by
  show Value.agg #[.int .u64 ((lb pN 0 : Nat) : Int), .int .u64 ((lb pN 1 : Nat) : Int), .int .u64 ((lb pN 2 : Nat) : Int), .int .u64 ((lb pN 3 : Nat) : Int), .int .u64 ((lb pN 4 : Nat) : Int), .int .u64 ((lb pN 5 : Nat) : Int)] = _
  rw [show lb pN 0 = 13402431016077863595 by decide +kernel, show lb pN 1 = 2210141511517208575 by decide +kernel, show lb pN 2 = 7435674573564081700 by decide +kernel, show lb pN 3 = 7239337960414712511 by decide +kernel, show lb pN 4 = 5412103778470702295 by decide +kernel, show lb pN 5 = 1873798617647539866 by decide +kernel]
  rfl
def fpSq : Nat := 2708263910654730174793787626328176511836455197166317677006154293982164122222515399004018013397331347120527951271750
theorem fpSq_lt : fpSq < pN := by decide +kernel
theorem fpSq_ltB : fpSq < fpB := Nat.lt_trans fpSq_lt fpM_lt
theorem fpSq_eq : fpSq = 2 ^ (64 * 6) * 2 ^ (64 * 6) % pN := by decide +kernel
theorem fpSq_lit : fpV fpSq = .agg #[.int .u64 17644856173732828998, .int .u64 754043588434789617, .int .u64 10224657059481499349, .int .u64 7488229067341005760, .int .u64 11130996698012816685, .int .u64 1267921511277847466] := by
  show Value.agg #[.int .u64 ((lb fpSq 0 : Nat) : Int), .int .u64 ((lb fpSq 1 : Nat) : Int), .int .u64 ((lb fpSq 2 : Nat) : Int), .int .u64 ((lb fpSq 3 : Nat) : Int), .int .u64 ((lb fpSq 4 : Nat) : Int), .int .u64 ((lb fpSq 5 : Nat) : Int)] = _
  rw [show lb fpSq 0 = 17644856173732828998 by decide +kernel, show lb fpSq 1 = 754043588434789617 by decide +kernel, show lb fpSq 2 = 10224657059481499349 by decide +kernel, show lb fpSq 3 = 7488229067341005760 by decide +kernel, show lb fpSq 4 = 11130996698012816685 by decide +kernel, show lb fpSq 5 = 1267921511277847466 by decide +kernel]
  rfl
theorem fpmodulus_v (w : World) : Calls Tryz.prog 111 #[] w (Is (fpV pN) w) := by
  rw [fpM_lit]
  go_enter Tryz.func111, Tryz.ntmps111
  go_wp2
  refine bodyPost_ret (v := .agg #[.int .u64 13402431016077863595, .int .u64 2210141511517208575, .int .u64 7435674573564081700, .int .u64 7239337960414712511, .int .u64 5412103778470702295, .int .u64 1873798617647539866]) (by simp [results, Tryz.results111, go_sem]) rfl ⟨rfl, below_alloc w _⟩
theorem fpsquare_v (w : World) : Calls Tryz.prog 166 #[] w (Is (fpV fpSq) w) := by
  rw [fpSq_lit]
  go_enter Tryz.func166, Tryz.ntmps166
  go_wp2
  refine bodyPost_ret (v := .agg #[.int .u64 17644856173732828998, .int .u64 754043588434789617, .int .u64 10224657059481499349, .int .u64 7488229067341005760, .int .u64 11130996698012816685, .int .u64 1267921511277847466]) (by simp [results, Tryz.results166, go_sem]) rfl ⟨rfl, below_alloc w _⟩
set_option maxRecDepth 20000 in
set_option maxHeartbeats 1000000 in
theorem fpnumber_v (a : Option Addr) (N c v : Nat) (w : World) (hN : N = 6) (hv : View w a N (row 6 v)) :
    Calls Tryz.prog 132 #[.slice a N c] w (Is (fpV v) w) := by
  obtain ⟨w2, hw2, a1, a2, hb0, hsz⟩ := fp_lay_zz 24 w
  have HV := Lib.hid (hv.below (Nat.le_refl _) hb0)
  have A1 := Lib.hid a1
  have A2 := Lib.hid a2
  have HB0 := Lib.hid hb0
  have HN := Lib.hid hN
  have HK := Lib.hid (show 1 ≤ 6 by decide)
  have HL := Lib.hid (length_row 6 0)
  subst hw2
  clear a1 a2 hb0 hv hN hsz
  go_enter Tryz.func132, Tryz.ntmps132
  go_wp2_with (with_reducible refine wpList_copy_arr _ rfl (.tmp 4) (.tmp 5) rfl 24 (w.heap.size + 1) N 6 _ (row 6 0) (row 6 v) _ _ rfl rfl HN.out A2.out HL.out HV.out HK.out ?_; intro w3 ho3 hb3; have c0 := ho3.fpc0; have c1 := ho3.fpc1; have c2 := ho3.fpc2; have c3 := ho3.fpc3; have c4 := ho3.fpc4; have c5 := ho3.fpc5; have a3 := A1.out.below (Nat.lt_succ_self _) hb3; have d0 := a3.fpc0; have d1 := a3.fpc1; have d2 := a3.fpc2; have d3 := a3.fpc3; have d4 := a3.fpc4; have d5 := a3.fpc5; have f0 := a3.frozen 0; have f1 := a3.frozen 1; have f2 := a3.frozen 2; have f3 := a3.frozen 3; have f4 := a3.frozen 4; have f5 := a3.frozen 5; have HB3 := Lib.hid (HB0.out.trans (hb3.mono (Nat.le_succ _))); clear ho3 hb3 a3)
  go_wp2
  refine bodyPost_ret (v := fpV v) (by simp [results, Tryz.results132, go_sem, d0, d1, d2, d3, d4, d5]) rfl ⟨rfl, ?_⟩
  exact fp_below HB3.out (Nat.le_refl _) _ _ _ _ _ _
theorem fpCmp_lt (a : Nat) (ha : a < fpB) : cmpI (val (row 6 a)) (val (row 6 pN)) = cmpI a pN := by rw [fpval ha, fpval_M]
theorem fpCmpM (a : Nat) : decide (cmpI a pN < 0) = decide (a < pN) := by
  unfold cmpI
  by_cases h : a < pN
  · simp [h]
  · by_cases h' : pN < a <;> simp [h, h']
set_option maxRecDepth 20000 in
set_option maxHeartbeats 1000000 in
theorem fpRight_v (a : Nat) (w : World) (ha : a < fpB) (r : Bool) (hr : r = decide (a < pN)) :
    Calls Tryz.prog 61 #[fpV a] w (Is (.bool r) w) := by
  obtain ⟨w1, hw1, a1, hb1, hs1⟩ := fp_lay_v 24 w a
  have HW := Lib.hid hw1
  have HB1 := Lib.hid hb1
  have A1 := Lib.hid a1
  have HC := Lib.hid (fpCmp_lt a ha)
  have HR := Lib.hid (hr.trans (fpCmpM a).symm)
  clear hw1 hb1 a1 hr hs1 ha
  go_enter Tryz.func61, Tryz.ntmps61
  go_wp2_with fail
  rw [HW.out]
  refine (fpmodulus_v _).mono ?_
  rintro e w2 ⟨rfl, hb2⟩
  obtain ⟨w3, hw3, a3, hb3, hs3⟩ := fp_lay_v 24 w2 pN
  have HW3 := Lib.hid hw3
  have V1 := Lib.hid ((A1.out.keep hb2).keep hb3).vrow
  have V3 := Lib.hid a3.vrow
  have HB3 := Lib.hid (below_then HB1.out (below_then hb2 hb3))
  clear HW A1 HB1 hb2 a3 hb3 hs3 hw3
  go_wp2_with fail
  rw [HW3.out]
  clear HW3
  obtain ⟨r', hr', hd⟩ : ∃ r' : Int, r' = cmpI (val (row 6 a)) (val (row 6 pN)) ∧ decide (r' < 0) = r := ⟨_, rfl, by rw [HC.out, HR.out]⟩
  have HR' := Lib.hid hr'
  clear hr' HC HR
  go_quiet ((go_at_call 112; exact Calls.quiet_of_same ((cmp_short _ 6 6 _ _ 6 6 _ _ (by decide) (by decide) (by decide) (by decide) (V1.out.drewN _) (V3.out.drewN _) (by decide) (by decide) HR'.out).mono fun _ _ h => ⟨h.1, h.2.symm⟩)))
  go_wp2
  go_ret
  exact ⟨by first | rfl | rw [hd], below_drewN HB3.out _⟩
theorem fplessM {a : Nat} (h : pN ≤ a) (ha : a < fpB) : row 6 (val (row 6 a) + 2 ^ (64 * 6) - val (row 6 pN)) = row 6 (a - pN) := by
  rw [fpval ha, fpval_M, row_sub h]
set_option maxRecDepth 20000 in
set_option maxHeartbeats 1000000 in
theorem fpless_v (a : Nat) (w : World) (ha : a < fpB) (h : pN ≤ a) (v : Nat) (hv : v = a - pN) :
    Calls Tryz.prog 179 #[fpV a] w (Is (fpV v) w) := by
  obtain ⟨w1, hw1, a1, z1, hb1, hs1⟩ := fp_lay_vz 24 w a
  have HW := Lib.hid hw1
  have HB1 := Lib.hid hb1
  have A1 := Lib.hid a1
  have Z1 := Lib.hid z1
  have HR := Lib.hid (fplessM h ha)
  have HV := Lib.hid hv
  clear hw1 hb1 a1 z1 hs1 ha h hv
  go_enter Tryz.func179, Tryz.ntmps179
  go_wp2_with fail
  rw [HW.out]
  refine (fpmodulus_v _).mono ?_
  rintro e w2 ⟨rfl, hb2⟩
  obtain ⟨w3, hw3, a3, hb3, hs3⟩ := fp_lay_v 24 w2 pN
  have HW3 := Lib.hid hw3
  have V1 := Lib.hid ((A1.out.keep hb2).keep hb3).vrow
  have Z3 := Lib.hid ((Z1.out.keep hb2).keep hb3)
  have V3 := Lib.hid a3.vrow
  have HB3 := Lib.hid (below_then HB1.out (below_then hb2 hb3))
  clear HW A1 HB1 hb2 a3 hb3 hs3 hw3 Z1
  go_wp2_with fail
  rw [HW3.out]
  clear HW3
  go_region_with (go_at_call 173; refine (sub_short _ 6 6 _ _ 6 6 _ _ (by decide) (by decide) (by decide) (by decide) V1.out.drew V3.out.drew (by decide) (by decide)).mono ?_; rintro e w4 ⟨g, rfl, ho, hg, hb4⟩; have hb4' : Below w3.heap.size w3 w4 := (Below.refl w3.heap.size w3).drew.trans hb4; rw [show max 6 6 = 6 from rfl, HR.out, ← HV.out] at ho; have V4 := Lib.hid ho.vrow; have Z4 := Lib.hid (Z3.out.keep hb4'); have HB4 := Lib.hid (below_then HB3.out hb4'); clear ho hg hb4 hb4')
  all_goals
    go_wp2_with fail
    refine (fpnumber_v _ 6 6 v _ rfl V4.out).mono ?_
    rintro e w5 ⟨rfl, hb5⟩
    have Z5 := Z4.out.keep hb5
    have m0 := Z5.fpc0
    have m1 := Z5.fpc1
    have m2 := Z5.fpc2
    have m3 := Z5.fpc3
    have m4 := Z5.fpc4
    have m5 := Z5.fpc5
    have q0 := Z5.frozen 0
    have q1 := Z5.frozen 1
    have q2 := Z5.frozen 2
    have q3 := Z5.frozen 3
    have q4 := Z5.frozen 4
    have q5 := Z5.frozen 5
    have HB5 := Lib.hid (below_then HB4.out hb5)
    clear hb5 Z5
    go_wp2
    refine bodyPost_ret (v := fpV v) (by simp [results, Tryz.results179, go_sem, m0, m1, m2, m3, m4, m5]) rfl ⟨rfl, ?_⟩
    exact fp_below HB5.out (by omega) _ _ _ _ _ _
set_option maxRecDepth 20000 in
set_option maxHeartbeats 4000000 in
theorem fpClean_v (a : Nat) (w : World) (ha : a < fpB) (v : Nat) (hv : v = a % pN) :
    Calls Tryz.prog 129 #[fpV a] w (Is (fpV v) w) := by
  go_enter Tryz.func129, Tryz.ntmps129
  go_wp2_with fail
  obtain ⟨w2, hw2, a1, a2, hb0, hsz⟩ := fp_lay_vz 24 w a
  rw [hw2]
  have HA := Lib.hid ha
  have HV := Lib.hid hv
  have A1 := Lib.hid a1
  have A2 := Lib.hid a2
  have HB0 := Lib.hid hb0
  clear hw2 ha hv a1 a2 hb0 hsz
  go_loopg [] a (fun V wr => V < fpB ∧ V % pN = a % pN ∧ Arr 24 wr w.heap.size (row 6 V) ∧ Arr 24 wr (w.heap.size + 1) (row 6 0) ∧ Below w.heap.size w wr)
  case atStart => exact ⟨HA.out, rfl, A1.out, A2.out, HB0.out⟩
  case round =>
    obtain ⟨hlt, hm, ha, hr, hbl⟩ := hrel
    clear A1 A2 HA
    have c0 := ha.fpc0
    have c1 := ha.fpc1
    have c2 := ha.fpc2
    have c3 := ha.fpc3
    have c4 := ha.fpc4
    have c5 := ha.fpc5
    have hp := ha.lt
    have HM := Lib.hid hm
    have HA := Lib.hid ha
    have HR := Lib.hid hr
    have HB := Lib.hid hbl
    have HL := Lib.hid hlt
    clear hm ha hr hbl hlt
    go_wp2_with fail
    by_cases h : gk < pN
    · refine (fpRight_v gk _ HL.out true (decide_eq_true h).symm).mono ?_
      rintro e y2 ⟨rfl, hb2⟩
      have HA2 := HA.out.keep hb2
      have HR2 := HR.out.keep hb2
      have d0 := HA2.fpc0
      have d1 := HA2.fpc1
      have d2 := HA2.fpc2
      have d3 := HA2.fpc3
      have d4 := HA2.fpc4
      have d5 := HA2.fpc5
      have e0 := HR2.fpc0
      have e1 := HR2.fpc1
      have e2 := HR2.fpc2
      have e3 := HR2.fpc3
      have e4 := HR2.fpc4
      have e5 := HR2.fpc5
      have f0 := HR2.frozen 0
      have f1 := HR2.frozen 1
      have f2 := HR2.frozen 2
      have f3 := HR2.frozen 3
      have f4 := HR2.frozen 4
      have f5 := HR2.frozen 5
      have HE := Lib.hid (show v = gk from by rw [HV.out, ← HM.out, Nat.mod_eq_of_lt h])
      have HB3 := Lib.hid (below_then HB.out hb2)
      clear h HA2 HR2 hb2 c0 c1 c2 c3 c4 c5
      go_wp2
      refine bodyPost_ret (v := fpV gk) (by simp [results, Tryz.results129, go_sem, e0, e1, e2, e3, e4, e5]) rfl ⟨by rw [HE.out], ?_⟩
      exact fp_below HB3.out (by omega) _ _ _ _ _ _
    · refine (fpRight_v gk _ HL.out false (decide_eq_false h).symm).mono ?_
      rintro e y2 ⟨rfl, hb2⟩
      have HA2 := HA.out.keep hb2
      have HR2 := Lib.hid (HR.out.keep hb2)
      have HB2 := Lib.hid (below_then HB.out hb2)
      have HN := Lib.hid (show pN ≤ gk by omega)
      have d0 := HA2.fpc0
      have d1 := HA2.fpc1
      have d2 := HA2.fpc2
      have d3 := HA2.fpc3
      have d4 := HA2.fpc4
      have d5 := HA2.fpc5
      have A3 := Lib.hid HA2
      clear h HA2 hb2 c0 c1 c2 c3 c4 c5
      go_wp2_with fail
      obtain ⟨x, hx⟩ : ∃ x, x = gk - pN := ⟨_, rfl⟩
      refine (fpless_v gk _ HL.out HN.out x hx).mono ?_
      rintro e y3 ⟨rfl, hb3⟩
      have HX := Lib.hid hx
      have HA4 := A3.out.keep hb3
      have k0 := HA4.fpc0
      have k1 := HA4.fpc1
      have k2 := HA4.fpc2
      have k3 := HA4.fpc3
      have k4 := HA4.fpc4
      have k5 := HA4.fpc5
      have q0 := HA4.frozen 0
      have q1 := HA4.frozen 1
      have q2 := HA4.frozen 2
      have q3 := HA4.frozen 3
      have q4 := HA4.frozen 4
      have q5 := HA4.frozen 5
      have A4 := Lib.hid HA4
      have R4 := Lib.hid (HR2.out.keep hb3)
      have HB4 := Lib.hid (below_then HB2.out hb3)
      clear hx HA4 hb3 d0 d1 d2 d3 d4 d5
      go_wp2
      go_roundg (gk - pN)
      case measure => exact Nat.sub_lt (Nat.lt_of_lt_of_le fpM_pos HN.out) fpM_pos
      case rel =>
        rw [← HX.out]
        exact ⟨by have := HL.out; have := HX.out; omega, by rw [HX.out, ← HM.out, ← Nat.mod_eq_sub_mod HN.out], A4.out.fpstore x, R4.out.fpother (by omega) _ _ _ _ _ _, fp_below HB4.out (Nat.le_refl _) _ _ _ _ _ _⟩
end
end Go.Proofs.YtkkmekdhejhapaaGreat
