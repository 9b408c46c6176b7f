/- What is proved here: numbers of 6 limbs as array values (api.Fp) and as blocks of memory. -/
import Derived.Test.YtkkmekdhejhapaaNum
import Derived.ChangeKeysEq
namespace Go.Proofs.Ytkkmekdhejhapaa
open Go.RowKit
def fpB : Nat := 2 ^ (64 * 6)
theorem fpB_eq : fpB = 2 ^ (64 * 6) := by delta fpB; exact Eq.refl _
abbrev fpV (v : Nat) : Value := .agg #[.int .u64 ((lb v 0 : Nat) : Int), .int .u64 ((lb v 1 : Nat) : Int), .int .u64 ((lb v 2 : Nat) : Int), .int .u64 ((lb v 3 : Nat) : Int), .int .u64 ((lb v 4 : Nat) : Int), .int .u64 ((lb v 5 : Nat) : Int)]
theorem fprow (v : Nat) : row 6 v = [lb v 0, lb v 1, lb v 2, lb v 3, lb v 4, lb v 5] := by
  have h : (row 6 v).length = 6 := length_row _ _
  apply List.ext_getElem (by rw [h]; rfl)
  intro i h1 h2
  have e := lb_row (K := 6) (v := v) (i := i) (by omega)
  rw [lm, List.getD_eq_getElem?_getD, List.getElem?_eq_getElem h1] at e
  rw [show (row 6 v)[i] = lb v i from e]
  have : i = 0 ∨ i = 1 ∨ i = 2 ∨ i = 3 ∨ i = 4 ∨ i = 5 := by simp at h2; omega
  rcases this with rfl | rfl | rfl | rfl | rfl | rfl <;> rfl
theorem fpval {v : Nat} (h : v < fpB) : val (row 6 v) = v := val_row_of (K := 6) (Nat.lt_of_lt_of_eq h fpB_eq)
theorem fp_cells (v : Nat) : (cellsOf (row 6 v)).toArray = #[.int .u64 ((lb v 0 : Nat) : Int), .int .u64 ((lb v 1 : Nat) : Int), .int .u64 ((lb v 2 : Nat) : Int), .int .u64 ((lb v 3 : Nat) : Int), .int .u64 ((lb v 4 : Nat) : Int), .int .u64 ((lb v 5 : Nat) : Int)] := by rw [fprow]; rfl
theorem fp_new (t : TypeId) (w : World) (v : Nat) : Arr t (w.alloc (.cells #[.int .u64 ((lb v 0 : Nat) : Int), .int .u64 ((lb v 1 : Nat) : Int), .int .u64 ((lb v 2 : Nat) : Int), .int .u64 ((lb v 3 : Nat) : Int), .int .u64 ((lb v 4 : Nat) : Int), .int .u64 ((lb v 5 : Nat) : Int)] t)) w.heap.size (row 6 v) := by
  unfold Arr
  rw [fp_cells]
  exact heap_alloc_new w _
theorem fplb_0 (i : Nat) : lb 0 i = 0 := by simp [lb]
theorem fp_zero (t : TypeId) (w : World) : Arr t (w.alloc (.cells #[.int .u64 0, .int .u64 0, .int .u64 0, .int .u64 0, .int .u64 0, .int .u64 0] t)) w.heap.size (row 6 0) := by
  have := fp_new t w 0
  simp only [fplb_0] at this
  exact this
theorem Arr.fpc0 {t : TypeId} {w : World} {g v : Nat} (h : Arr t w g (row 6 v)) : w.cell? ⟨g, 0, none⟩ = some (.int .u64 ((lb v 0 : Nat) : Int)) := h.rc 0 (by decide)
theorem Arr.fpc1 {t : TypeId} {w : World} {g v : Nat} (h : Arr t w g (row 6 v)) : w.cell? ⟨g, 1, none⟩ = some (.int .u64 ((lb v 1 : Nat) : Int)) := h.rc 1 (by decide)
theorem Arr.fpc2 {t : TypeId} {w : World} {g v : Nat} (h : Arr t w g (row 6 v)) : w.cell? ⟨g, 2, none⟩ = some (.int .u64 ((lb v 2 : Nat) : Int)) := h.rc 2 (by decide)
theorem Arr.fpc3 {t : TypeId} {w : World} {g v : Nat} (h : Arr t w g (row 6 v)) : w.cell? ⟨g, 3, none⟩ = some (.int .u64 ((lb v 3 : Nat) : Int)) := h.rc 3 (by decide)
theorem Arr.fpc4 {t : TypeId} {w : World} {g v : Nat} (h : Arr t w g (row 6 v)) : w.cell? ⟨g, 4, none⟩ = some (.int .u64 ((lb v 4 : Nat) : Int)) := h.rc 4 (by decide)
theorem Arr.fpc5 {t : TypeId} {w : World} {g v : Nat} (h : Arr t w g (row 6 v)) : w.cell? ⟨g, 5, none⟩ = some (.int .u64 ((lb v 5 : Nat) : Int)) := h.rc 5 (by decide)
theorem fp_small {N : Nat} (h : N < 2 ^ 64) : fpV N = .agg #[.int .u64 (N : Int), .int .u64 0, .int .u64 0, .int .u64 0, .int .u64 0, .int .u64 0] := by
  show Value.agg #[.int .u64 ((lb N 0 : Nat) : Int), .int .u64 ((lb N 1 : Nat) : Int), .int .u64 ((lb N 2 : Nat) : Int), .int .u64 ((lb N 3 : Nat) : Int), .int .u64 ((lb N 4 : Nat) : Int), .int .u64 ((lb N 5 : Nat) : Int)] = _
  rw [show lb N 0 = N from by simp only [lb, Nat.mul_zero, Nat.pow_zero, Nat.div_one]; exact Nat.mod_eq_of_lt h, lb_hi h 0, lb_hi h 1, lb_hi h 2, lb_hi h 3, lb_hi h 4]
  rfl
theorem fp_lit1 : fpV 1 = .agg #[.int .u64 1, .int .u64 0, .int .u64 0, .int .u64 0, .int .u64 0, .int .u64 0] := fp_small (by decide)
theorem fp_ltB {N : Nat} (h : N < 2 ^ 64) : N < fpB := Nat.lt_trans h (by decide +kernel)
theorem fp_set (v z : Nat) : ((((((row 6 v).set 0 (lb z 0)).set 1 (lb z 1)).set 2 (lb z 2)).set 3 (lb z 3)).set 4 (lb z 4)).set 5 (lb z 5) = row 6 z := by rw [fprow, fprow]; rfl
theorem Arr.fpstore {t : TypeId} {w : World} {g v : Nat} (h : Arr t w g (row 6 v)) (z : Nat) : Arr t ((((((w.setCell ⟨g, 0, none⟩ (.int .u64 ((lb z 0 : Nat) : Int))).setCell ⟨g, 1, none⟩ (.int .u64 ((lb z 1 : Nat) : Int))).setCell ⟨g, 2, none⟩ (.int .u64 ((lb z 2 : Nat) : Int))).setCell ⟨g, 3, none⟩ (.int .u64 ((lb z 3 : Nat) : Int))).setCell ⟨g, 4, none⟩ (.int .u64 ((lb z 4 : Nat) : Int))).setCell ⟨g, 5, none⟩ (.int .u64 ((lb z 5 : Nat) : Int))) g (row 6 z) := by
  have := (((((h.set 0 (lb z 0)).set 1 (lb z 1)).set 2 (lb z 2)).set 3 (lb z 3)).set 4 (lb z 4)).set 5 (lb z 5)
  rwa [fp_set] at this
theorem fp_below {B : Nat} {w0 w : World} (hb : Below B w0 w) {b : Nat} (hg : B ≤ b) (u0 u1 u2 u3 u4 u5 : Value) : Below B w0 ((((((w.setCell ⟨b, 0, none⟩ u0).setCell ⟨b, 1, none⟩ u1).setCell ⟨b, 2, none⟩ u2).setCell ⟨b, 3, none⟩ u3).setCell ⟨b, 4, none⟩ u4).setCell ⟨b, 5, none⟩ u5) :=
  (((((hb.setCell (p := ⟨b, 0, none⟩) hg _).setCell (p := ⟨b, 1, none⟩) hg _).setCell (p := ⟨b, 2, none⟩) hg _).setCell (p := ⟨b, 3, none⟩) hg _).setCell (p := ⟨b, 4, none⟩) hg _).setCell (p := ⟨b, 5, none⟩) hg _
theorem Arr.fpother {t : TypeId} {w : World} {g b : Nat} {xs : List Nat} (h : Arr t w g xs) (hne : g ≠ b) (u0 u1 u2 u3 u4 u5 : Value) : Arr t ((((((w.setCell ⟨b, 0, none⟩ u0).setCell ⟨b, 1, none⟩ u1).setCell ⟨b, 2, none⟩ u2).setCell ⟨b, 3, none⟩ u3).setCell ⟨b, 4, none⟩ u4).setCell ⟨b, 5, none⟩ u5) g xs := by
  unfold Arr
  rw [Below.heap_setCell _ _ _ g hne, Below.heap_setCell _ _ _ g hne, Below.heap_setCell _ _ _ g hne, Below.heap_setCell _ _ _ g hne, Below.heap_setCell _ _ _ g hne, Below.heap_setCell _ _ _ g hne]
  exact h
theorem fp_lay_v (t : TypeId) (w : World) (v0 : Nat) : ∃ w', w.alloc (.cells #[.int .u64 ((lb v0 0 : Nat) : Int), .int .u64 ((lb v0 1 : Nat) : Int), .int .u64 ((lb v0 2 : Nat) : Int), .int .u64 ((lb v0 3 : Nat) : Int), .int .u64 ((lb v0 4 : Nat) : Int), .int .u64 ((lb v0 5 : Nat) : Int)] t) = w' ∧ Arr t w' (w.heap.size) (row 6 v0) ∧ Below w.heap.size w w' ∧ w'.heap.size = w.heap.size + 1 := by
  have a0 := fp_new t (w) v0
  exact ⟨_, rfl, a0, ((Below.refl w.heap.size w).alloc (by simp <;> omega) (.cells #[.int .u64 ((lb v0 0 : Nat) : Int), .int .u64 ((lb v0 1 : Nat) : Int), .int .u64 ((lb v0 2 : Nat) : Int), .int .u64 ((lb v0 3 : Nat) : Int), .int .u64 ((lb v0 4 : Nat) : Int), .int .u64 ((lb v0 5 : Nat) : Int)] t)), by simp⟩
theorem fp_lay_vz (t : TypeId) (w : World) (v0 : Nat) : ∃ w', (w.alloc (.cells #[.int .u64 ((lb v0 0 : Nat) : Int), .int .u64 ((lb v0 1 : Nat) : Int), .int .u64 ((lb v0 2 : Nat) : Int), .int .u64 ((lb v0 3 : Nat) : Int), .int .u64 ((lb v0 4 : Nat) : Int), .int .u64 ((lb v0 5 : Nat) : Int)] t)).alloc (.cells #[.int .u64 0, .int .u64 0, .int .u64 0, .int .u64 0, .int .u64 0, .int .u64 0] t) = w' ∧ Arr t w' (w.heap.size) (row 6 v0) ∧ Arr t w' (w.heap.size + 1) (row 6 0) ∧ Below w.heap.size w w' ∧ w'.heap.size = w.heap.size + 2 := by
  have a0 := fp_new t (w) v0
  have a1 := fp_zero t ((w).alloc (.cells #[.int .u64 ((lb v0 0 : Nat) : Int), .int .u64 ((lb v0 1 : Nat) : Int), .int .u64 ((lb v0 2 : Nat) : Int), .int .u64 ((lb v0 3 : Nat) : Int), .int .u64 ((lb v0 4 : Nat) : Int), .int .u64 ((lb v0 5 : Nat) : Int)] t))
  simp only [World.size_alloc] at a1
  have a0 := a0.alloc (.cells #[.int .u64 0, .int .u64 0, .int .u64 0, .int .u64 0, .int .u64 0, .int .u64 0] t)
  exact ⟨_, rfl, a0, a1, (((Below.refl w.heap.size w).alloc (by simp <;> omega) (.cells #[.int .u64 ((lb v0 0 : Nat) : Int), .int .u64 ((lb v0 1 : Nat) : Int), .int .u64 ((lb v0 2 : Nat) : Int), .int .u64 ((lb v0 3 : Nat) : Int), .int .u64 ((lb v0 4 : Nat) : Int), .int .u64 ((lb v0 5 : Nat) : Int)] t)).alloc (by simp <;> omega) (.cells #[.int .u64 0, .int .u64 0, .int .u64 0, .int .u64 0, .int .u64 0, .int .u64 0] t)), by simp⟩
theorem fp_lay_vv (t : TypeId) (w : World) (v0 v1 : Nat) : ∃ w', (w.alloc (.cells #[.int .u64 ((lb v0 0 : Nat) : Int), .int .u64 ((lb v0 1 : Nat) : Int), .int .u64 ((lb v0 2 : Nat) : Int), .int .u64 ((lb v0 3 : Nat) : Int), .int .u64 ((lb v0 4 : Nat) : Int), .int .u64 ((lb v0 5 : Nat) : Int)] t)).alloc (.cells #[.int .u64 ((lb v1 0 : Nat) : Int), .int .u64 ((lb v1 1 : Nat) : Int), .int .u64 ((lb v1 2 : Nat) : Int), .int .u64 ((lb v1 3 : Nat) : Int), .int .u64 ((lb v1 4 : Nat) : Int), .int .u64 ((lb v1 5 : Nat) : Int)] t) = w' ∧ Arr t w' (w.heap.size) (row 6 v0) ∧ Arr t w' (w.heap.size + 1) (row 6 v1) ∧ Below w.heap.size w w' ∧ w'.heap.size = w.heap.size + 2 := by
  have a0 := fp_new t (w) v0
  have a1 := fp_new t ((w).alloc (.cells #[.int .u64 ((lb v0 0 : Nat) : Int), .int .u64 ((lb v0 1 : Nat) : Int), .int .u64 ((lb v0 2 : Nat) : Int), .int .u64 ((lb v0 3 : Nat) : Int), .int .u64 ((lb v0 4 : Nat) : Int), .int .u64 ((lb v0 5 : Nat) : Int)] t)) v1
  simp only [World.size_alloc] at a1
  have a0 := a0.alloc (.cells #[.int .u64 ((lb v1 0 : Nat) : Int), .int .u64 ((lb v1 1 : Nat) : Int), .int .u64 ((lb v1 2 : Nat) : Int), .int .u64 ((lb v1 3 : Nat) : Int), .int .u64 ((lb v1 4 : Nat) : Int), .int .u64 ((lb v1 5 : Nat) : Int)] t)
  exact ⟨_, rfl, a0, a1, (((Below.refl w.heap.size w).alloc (by simp <;> omega) (.cells #[.int .u64 ((lb v0 0 : Nat) : Int), .int .u64 ((lb v0 1 : Nat) : Int), .int .u64 ((lb v0 2 : Nat) : Int), .int .u64 ((lb v0 3 : Nat) : Int), .int .u64 ((lb v0 4 : Nat) : Int), .int .u64 ((lb v0 5 : Nat) : Int)] t)).alloc (by simp <;> omega) (.cells #[.int .u64 ((lb v1 0 : Nat) : Int), .int .u64 ((lb v1 1 : Nat) : Int), .int .u64 ((lb v1 2 : Nat) : Int), .int .u64 ((lb v1 3 : Nat) : Int), .int .u64 ((lb v1 4 : Nat) : Int), .int .u64 ((lb v1 5 : Nat) : Int)] t)), by simp⟩
theorem fp_lay_vvz (t : TypeId) (w : World) (v0 v1 : Nat) : ∃ w', ((w.alloc (.cells #[.int .u64 ((lb v0 0 : Nat) : Int), .int .u64 ((lb v0 1 : Nat) : Int), .int .u64 ((lb v0 2 : Nat) : Int), .int .u64 ((lb v0 3 : Nat) : Int), .int .u64 ((lb v0 4 : Nat) : Int), .int .u64 ((lb v0 5 : Nat) : Int)] t)).alloc (.cells #[.int .u64 ((lb v1 0 : Nat) : Int), .int .u64 ((lb v1 1 : Nat) : Int), .int .u64 ((lb v1 2 : Nat) : Int), .int .u64 ((lb v1 3 : Nat) : Int), .int .u64 ((lb v1 4 : Nat) : Int), .int .u64 ((lb v1 5 : Nat) : Int)] t)).alloc (.cells #[.int .u64 0, .int .u64 0, .int .u64 0, .int .u64 0, .int .u64 0, .int .u64 0] t) = w' ∧ Arr t w' (w.heap.size) (row 6 v0) ∧ Arr t w' (w.heap.size + 1) (row 6 v1) ∧ Arr t w' (w.heap.size + 1 + 1) (row 6 0) ∧ Below w.heap.size w w' ∧ w'.heap.size = w.heap.size + 3 := by
  have a0 := fp_new t (w) v0
  have a1 := fp_new t ((w).alloc (.cells #[.int .u64 ((lb v0 0 : Nat) : Int), .int .u64 ((lb v0 1 : Nat) : Int), .int .u64 ((lb v0 2 : Nat) : Int), .int .u64 ((lb v0 3 : Nat) : Int), .int .u64 ((lb v0 4 : Nat) : Int), .int .u64 ((lb v0 5 : Nat) : Int)] t)) v1
  simp only [World.size_alloc] at a1
  have a0 := a0.alloc (.cells #[.int .u64 ((lb v1 0 : Nat) : Int), .int .u64 ((lb v1 1 : Nat) : Int), .int .u64 ((lb v1 2 : Nat) : Int), .int .u64 ((lb v1 3 : Nat) : Int), .int .u64 ((lb v1 4 : Nat) : Int), .int .u64 ((lb v1 5 : Nat) : Int)] t)
  have a2 := fp_zero t (((w).alloc (.cells #[.int .u64 ((lb v0 0 : Nat) : Int), .int .u64 ((lb v0 1 : Nat) : Int), .int .u64 ((lb v0 2 : Nat) : Int), .int .u64 ((lb v0 3 : Nat) : Int), .int .u64 ((lb v0 4 : Nat) : Int), .int .u64 ((lb v0 5 : Nat) : Int)] t)).alloc (.cells #[.int .u64 ((lb v1 0 : Nat) : Int), .int .u64 ((lb v1 1 : Nat) : Int), .int .u64 ((lb v1 2 : Nat) : Int), .int .u64 ((lb v1 3 : Nat) : Int), .int .u64 ((lb v1 4 : Nat) : Int), .int .u64 ((lb v1 5 : Nat) : Int)] t))
  simp only [World.size_alloc] at a2
  have a0 := a0.alloc (.cells #[.int .u64 0, .int .u64 0, .int .u64 0, .int .u64 0, .int .u64 0, .int .u64 0] t)
  have a1 := a1.alloc (.cells #[.int .u64 0, .int .u64 0, .int .u64 0, .int .u64 0, .int .u64 0, .int .u64 0] t)
  exact ⟨_, rfl, a0, a1, a2, ((((Below.refl w.heap.size w).alloc (by simp <;> omega) (.cells #[.int .u64 ((lb v0 0 : Nat) : Int), .int .u64 ((lb v0 1 : Nat) : Int), .int .u64 ((lb v0 2 : Nat) : Int), .int .u64 ((lb v0 3 : Nat) : Int), .int .u64 ((lb v0 4 : Nat) : Int), .int .u64 ((lb v0 5 : Nat) : Int)] t)).alloc (by simp <;> omega) (.cells #[.int .u64 ((lb v1 0 : Nat) : Int), .int .u64 ((lb v1 1 : Nat) : Int), .int .u64 ((lb v1 2 : Nat) : Int), .int .u64 ((lb v1 3 : Nat) : Int), .int .u64 ((lb v1 4 : Nat) : Int), .int .u64 ((lb v1 5 : Nat) : Int)] t)).alloc (by simp <;> omega) (.cells #[.int .u64 0, .int .u64 0, .int .u64 0, .int .u64 0, .int .u64 0, .int .u64 0] t)), by simp⟩
theorem fp_lay_zz (t : TypeId) (w : World) : ∃ w', (w.alloc (.cells #[.int .u64 0, .int .u64 0, .int .u64 0, .int .u64 0, .int .u64 0, .int .u64 0] t)).alloc (.cells #[.int .u64 0, .int .u64 0, .int .u64 0, .int .u64 0, .int .u64 0, .int .u64 0] t) = w' ∧ Arr t w' (w.heap.size) (row 6 0) ∧ Arr t w' (w.heap.size + 1) (row 6 0) ∧ Below w.heap.size w w' ∧ w'.heap.size = w.heap.size + 2 := by
  have a0 := fp_zero t (w)
  have a1 := fp_zero t ((w).alloc (.cells #[.int .u64 0, .int .u64 0, .int .u64 0, .int .u64 0, .int .u64 0, .int .u64 0] t))
  simp only [World.size_alloc] at a1
  have a0 := a0.alloc (.cells #[.int .u64 0, .int .u64 0, .int .u64 0, .int .u64 0, .int .u64 0, .int .u64 0] t)
  exact ⟨_, rfl, a0, a1, (((Below.refl w.heap.size w).alloc (by simp <;> omega) (.cells #[.int .u64 0, .int .u64 0, .int .u64 0, .int .u64 0, .int .u64 0, .int .u64 0] t)).alloc (by simp <;> omega) (.cells #[.int .u64 0, .int .u64 0, .int .u64 0, .int .u64 0, .int .u64 0, .int .u64 0] t)), by simp⟩
theorem fp_one {t : TypeId} {Y : World} {g u : Nat} (h : Arr t Y g (row 6 u)) (x : Nat) :
    ∃ W, (((((Y.setCell ⟨g, 0, none⟩ (.int .u64 ((lb x 0 : Nat) : Int))).setCell ⟨g, 1, none⟩ (.int .u64 ((lb x 1 : Nat) : Int))).setCell ⟨g, 2, none⟩ (.int .u64 ((lb x 2 : Nat) : Int))).setCell ⟨g, 3, none⟩ (.int .u64 ((lb x 3 : Nat) : Int))).setCell ⟨g, 4, none⟩ (.int .u64 ((lb x 4 : Nat) : Int))).setCell ⟨g, 5, none⟩ (.int .u64 ((lb x 5 : Nat) : Int)) = W ∧ Arr t W g (row 6 x) ∧ (∀ t' g' xs, g' ≠ g → Arr t' Y g' xs → Arr t' W g' xs) ∧ (∀ B w0, Below B w0 Y → B ≤ g → Below B w0 W) ∧ W.heap.size = Y.heap.size :=
  ⟨_, rfl, h.fpstore x, fun _ _ _ hne ha => ha.fpother hne _ _ _ _ _ _, fun _ _ hb hg => fp_below hb hg _ _ _ _ _ _, by simp⟩
theorem fp_two {t : TypeId} {Y : World} {g1 g2 u1 u2 : Nat} (h1 : Arr t Y g1 (row 6 u1)) (h2 : Arr t Y g2 (row 6 u2)) (hne : g1 ≠ g2) (x y : Nat) :
    ∃ W, (((((((((((Y.setCell ⟨g1, 0, none⟩ (.int .u64 ((lb x 0 : Nat) : Int))).setCell ⟨g1, 1, none⟩ (.int .u64 ((lb x 1 : Nat) : Int))).setCell ⟨g1, 2, none⟩ (.int .u64 ((lb x 2 : Nat) : Int))).setCell ⟨g1, 3, none⟩ (.int .u64 ((lb x 3 : Nat) : Int))).setCell ⟨g1, 4, none⟩ (.int .u64 ((lb x 4 : Nat) : Int))).setCell ⟨g1, 5, none⟩ (.int .u64 ((lb x 5 : Nat) : Int))).setCell ⟨g2, 0, none⟩ (.int .u64 ((lb y 0 : Nat) : Int))).setCell ⟨g2, 1, none⟩ (.int .u64 ((lb y 1 : Nat) : Int))).setCell ⟨g2, 2, none⟩ (.int .u64 ((lb y 2 : Nat) : Int))).setCell ⟨g2, 3, none⟩ (.int .u64 ((lb y 3 : Nat) : Int))).setCell ⟨g2, 4, none⟩ (.int .u64 ((lb y 4 : Nat) : Int))).setCell ⟨g2, 5, none⟩ (.int .u64 ((lb y 5 : Nat) : Int)) = W ∧ Arr t W g1 (row 6 x) ∧ Arr t W g2 (row 6 y) ∧ (∀ t' g' xs, g' ≠ g1 → g' ≠ g2 → Arr t' Y g' xs → Arr t' W g' xs) ∧ (∀ B w0, Below B w0 Y → B ≤ g1 → B ≤ g2 → Below B w0 W) ∧ W.heap.size = Y.heap.size := by
  obtain ⟨W1, e1, a1, o1, b1, s1⟩ := fp_one h1 x
  obtain ⟨W2, e2, a2, o2, b2, s2⟩ := fp_one (o1 _ _ _ hne.symm h2) y
  refine ⟨W2, ?_, o2 _ _ _ hne a1, a2, fun t' g' xs n1 n2 ha => o2 _ _ _ n2 (o1 _ _ _ n1 ha), fun B w0 hb h1 h2 => b2 _ _ (b1 _ _ hb h1) h2, s2.trans s1⟩
  rw [e1]
  exact e2
end Go.Proofs.Ytkkmekdhejhapaa
