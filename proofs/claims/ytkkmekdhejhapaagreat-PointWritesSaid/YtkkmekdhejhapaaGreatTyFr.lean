/- What is proved here: numbers of 4 limbs as array values (api.Fr) and as blocks of memory; numbers modulo r as rows of four limbs; the calls of package fr on them; reckoning modulo r; arguments of this type are numbers. -/
import Derived.Test.YtkkmekdhejhapaaGreatNum
import Derived.ChangeKeysEq
import Derived.Test.YtkkmekdhejhapaaGreatAgg
import Derived.Test.YtkkmekdhejhapaaGreatMontFns
import Derived.Test.YtkkmekdhejhapaaGreatPrime
import Derived.BigQuiet
import Derived.Deep.CutBlock
import Derived.Test.YtkkmekdhejhapaaGreatPow
import Derived.Test.YtkkmekdhejhapaaGreatRefC
import Derived.Deep.RegionHeld3
import Derived.Test.YtkkmekdhejhapaaGreatMath
import Derived.Test.YtkkmekdhejhapaaGreatPut
import Derived.OpenShut
import Derived.ChangeOld
import Derived.ProofKit
namespace Go.Proofs.YtkkmekdhejhapaaGreat
section
open Go.RowKit
def frB : Nat := 2 ^ (64 * 4)
theorem frB_eq : frB = 2 ^ (64 * 4) := by delta frB; exact Eq.refl _
abbrev frV (v : Nat) : Value := .agg #[.int .u64 ((lb v 0 : Nat) : Int), .int .u64 ((lb v 1 : Nat) : Int), .int .u64 ((lb v 2 : Nat) : Int), .int .u64 ((lb v 3 : Nat) : Int)]
theorem frrow (v : Nat) : row 4 v = [lb v 0, lb v 1, lb v 2, lb v 3] := by
  have h : (row 4 v).length = 4 := length_row _ _
  apply List.ext_getElem (by rw [h]; rfl)
  intro i h1 h2
  have e := lb_row (K := 4) (v := v) (i := i) (by omega)
  rw [lm, List.getD_eq_getElem?_getD, List.getElem?_eq_getElem h1] at e
  rw [show (row 4 v)[i] = lb v i from e]
  have : i = 0 ∨ i = 1 ∨ i = 2 ∨ i = 3 := by simp at h2; omega
  rcases this with rfl | rfl | rfl | rfl <;> rfl
theorem fr_cells (v : Nat) : (cellsOf (row 4 v)).toArray = #[.int .u64 ((lb v 0 : Nat) : Int), .int .u64 ((lb v 1 : Nat) : Int), .int .u64 ((lb v 2 : Nat) : Int), .int .u64 ((lb v 3 : Nat) : Int)] := by rw [frrow]; rfl
end

section
open Go.RowKit
theorem flFr : Flat 49 (4 * 1) := ⟨Tryz.isAgg49, Tryz.sizeOf49⟩
theorem cells0R (n : Nat) : cellsOf (List.replicate n 0) = List.replicate n (Value.int .u64 0) := by simp [cellsOf]
theorem zFr (w : World) : (zeroValue 49).run Tryz.prog w = .ok (lv (rows 4 [0])) w := by
  rw [Tryz.zeroValue49 w, show [0] = List.replicate 1 0 from rfl, rows_zero, lv, cells0R]
  rfl
theorem nv4R (v : Nat) : nv 4 [v] = frV v := by rw [nv_row, fr_cells]
end
end Go.Proofs.YtkkmekdhejhapaaGreat
