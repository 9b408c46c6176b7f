/- What is proved here: numbers of 4 limbs as array values (api.Fr) and as blocks of memory; numbers modulo r as rows of four limbs; the calls of package fr on them; reckoning modulo r; arguments of this type are numbers. -/
import Derived.Test.YtkkmekdhejhapaaGreatNum
import Derived.ChangeKeysEq
import Derived.Test.YtkkmekdhejhapaaGreatAgg
import Derived.Test.YtkkmekdhejhapaaGreatMontFns
import Derived.Test.YtkkmekdhejhapaaGreatPrime
import Derived.BigQuiet
import Derived.Deep.CutBlock
import Derived.Test.YtkkmekdhejhapaaGreatPow
import Derived.Test.YtkkmekdhejhapaaGreatOwn
import Derived.Test.YtkkmekdhejhapaaGreatCmp
import Derived.WalkSmall
import Derived.Deep.RegionHeld3
import Derived.Test.YtkkmekdhejhapaaGreatMath
import Derived.Test.YtkkmekdhejhapaaGreatPut
import Derived.OpenShut
import Derived.ChangeOld
import Derived.ProofKit
namespace Go.Proofs.YtkkmekdhejhapaaGreat
section
open Go.RowKit
def frB : Nat := 2 ^ (64 * 4)
theorem frB_eq : frB = 2 ^ (64 * 4) := by delta frB; exact Eq.refl _
abbrev frV (v : Nat) : Value := .agg #[.int .u64 ((lb v 0 : Nat) : Int), .int .u64 ((lb v 1 : Nat) : Int), .int .u64 ((lb v 2 : Nat) : Int), .int .u64 ((lb v 3 : Nat) : Int)]
theorem frrow (v : Nat) : row 4 v = [lb v 0, lb v 1, lb v 2, lb v 3] := by
  have h : (row 4 v).length = 4 := length_row _ _
  apply List.ext_getElem (by rw [h]; rfl)
  intro i h1 h2
  have e := lb_row (K := 4) (v := v) (i := i) (by omega)
  rw [lm, List.getD_eq_getElem?_getD, List.getElem?_eq_getElem h1] at e
  rw [show (row 4 v)[i] = lb v i from e]
  have : i = 0 ∨ i = 1 ∨ i = 2 ∨ i = 3 := by simp at h2; omega
  rcases this with rfl | rfl | rfl | rfl <;> rfl
theorem fr_cells (v : Nat) : (cellsOf (row 4 v)).toArray = #[.int .u64 ((lb v 0 : Nat) : Int), .int .u64 ((lb v 1 : Nat) : Int), .int .u64 ((lb v 2 : Nat) : Int), .int .u64 ((lb v 3 : Nat) : Int)] := by rw [frrow]; rfl
end

section
open Go.RowKit
theorem flFr : Flat 49 (4 * 1) := ⟨Tryz.isAgg49, Tryz.sizeOf49⟩
theorem cells0R (n : Nat) : cellsOf (List.replicate n 0) = List.replicate n (Value.int .u64 0) := by simp [cellsOf]
theorem zFr (w : World) : (zeroValue 49).run Tryz.prog w = .ok (lv (rows 4 [0])) w := by
  rw [Tryz.zeroValue49 w, show [0] = List.replicate 1 0 from rfl, rows_zero, lv, cells0R]
  rfl
theorem nv4R (v : Nat) : nv 4 [v] = frV v := by rw [nv_row, fr_cells]
def OpensNR (ty : TypeId) (n : Nat) : Prop := ∀ {H : Type} {enc : TypeId × Value → H} {w : World} {base : Nat} {sp : Nat → Bool} {held : Bool} {fuel : Nat} {cs : List Value} {x : DataW H × List MemPlace},
  DataW.trod enc Tryz.prog w base sp held fuel ty cs = some x → cs.length = n ∧ ∀ i, i < n → ∃ y : Nat, y < 2 ^ 64 ∧ cs[i]? = some (.int .u64 (y : Int))
theorem opens_limbR : OpensNR 22 1 := fun h => by
  obtain ⟨k, rfl, _, hw⟩ := DataW.trod_int Tryz.underlying22 h
  have hb := Go.bounds_u64 hw
  refine ⟨rfl, fun i hi => ⟨k.toNat, by omega, ?_⟩⟩
  obtain rfl : i = 0 := by omega
  rw [Int.toNat_of_nonneg hb.1]
  rfl
set_option maxRecDepth 20000 in
theorem opens_arrayR {ty : TypeId} {n : Nat} (hu : Tryz.prog.underlying ty = some (.array n 22)) (hc2 : Tryz.prog.cellsOf ty = n) : OpensNR ty n := fun {H enc w base sp held fuel cs x} h => by
  have hc : Tryz.prog.cellsOf 22 = 1 := by kernel_rfl
  obtain ⟨xs, m, _, _, hl, hx, hi⟩ := DataW.trod_array hu h
  refine ⟨by omega, fun i hin => ?_⟩
  have h1 := hi i hin
  rw [hc, Nat.mul_one, List.getElem?_eq_getElem (by omega : i < xs.length)] at h1
  obtain ⟨_, h2⟩ := opens_limbR h1
  obtain ⟨y, hy, he⟩ := h2 0 (by omega)
  refine ⟨y, hy, ?_⟩
  rw [List.getElem?_take_of_lt (by decide), List.getElem?_drop, Nat.add_zero] at he
  exact he
theorem opens_fr : OpensNR 49 4 := opens_arrayR Tryz.underlying49 (by kernel_rfl)
end
end Go.Proofs.YtkkmekdhejhapaaGreat
