/- What is proved here: numbers of 4 limbs as array values (api.Fr) and as blocks of memory. -/
import Derived.Test.YtmhieifjmgcbkaaNum
import Derived.ChangeKeysEq
namespace Go.Proofs.Ytmhieifjmgcbkaa
open Go.RowKit

/-- The numbers of 4 limbs. -/
def frB : Nat := 2 ^ (64 * 4)

theorem frB_eq : frB = 2 ^ (64 * 4) := by delta frB; exact Eq.refl _

/-- A number as an array. -/
abbrev frV (v : Nat) : Value := .agg #[.int .u64 ((lb v 0 : Nat) : Int), .int .u64 ((lb v 1 : Nat) : Int), .int .u64 ((lb v 2 : Nat) : Int), .int .u64 ((lb v 3 : Nat) : Int)]

theorem frrow (v : Nat) : row 4 v = [lb v 0, lb v 1, lb v 2, lb v 3] := by
  have h : (row 4 v).length = 4 := length_row _ _
  apply List.ext_getElem (by rw [h]; rfl)
  intro i h1 h2
  have e := lb_row (K := 4) (v := v) (i := i) (by omega)
  rw [lm, List.getD_eq_getElem?_getD, List.getElem?_eq_getElem h1] at e
  rw [show (row 4 v)[i] = lb v i from e]
  have : i = 0 ∨ i = 1 ∨ i = 2 ∨ i = 3 := by simp at h2; omega
  rcases this with rfl | rfl | rfl | rfl <;> rfl

theorem fr_cells (v : Nat) : (cellsOf (row 4 v)).toArray = #[.int .u64 ((lb v 0 : Nat) : Int), .int .u64 ((lb v 1 : Nat) : Int), .int .u64 ((lb v 2 : Nat) : Int), .int .u64 ((lb v 3 : Nat) : Int)] := by rw [frrow]; rfl
end Go.Proofs.Ytmhieifjmgcbkaa
