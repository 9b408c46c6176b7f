/- What is proved here: a contract of math/bits.Div64 where the divisor's highest bit is 1 and the quotient has one limb: the quotient. -/
import Derived.Test.YtkkmekdhejhapaaOwn
import Derived.Test.YtkkmekdhejhapaaBits
import Derived.Laws.Bits64b
import Derived.Deep.RegionWith
import Derived.Test.YtkkmekdhejhapaaDivMath
namespace Go.Proofs.Ytkkmekdhejhapaa
open Go.RowKit
structure Half (hi y1 y0 u : Nat) (q r : Nat) : Prop where
  sum : q * y1 + r = hi
  ge : (hi * 4294967296 + u) / (y1 * 4294967296 + y0) ≤ q
  le : q ≤ 4294967297
  lt : r < 4294967296
theorem Half.start {hi y1 y0 u : Nat} (h1 : 2147483648 ≤ y1) (h2 : y1 < 4294967296) (h0 : y0 < 4294967296) (hh : hi < y1 * 4294967296 + y0) (hu : u < 4294967296) : Half hi y1 y0 u (hi / y1) (hi % y1) := by
  refine ⟨by rw [Nat.mul_comm]; exact Nat.div_add_mod _ _, ?_, ?_, ?_⟩
  · rw [Nat.le_div_iff_mul_le (by omega)]
    have g1 := Nat.div_mul_le_self (hi * 4294967296 + u) (y1 * 4294967296 + y0)
    generalize (hi * 4294967296 + u) / (y1 * 4294967296 + y0) = Q at *
    rw [Nat.mul_add, ← Nat.mul_assoc] at g1
    generalize Q * y1 = P at *
    omega
  · apply Nat.le_of_lt_succ
    rw [Nat.div_lt_iff_lt_mul (by omega)]
    omega
  · have := Nat.mod_lt hi (show 0 < y1 by omega)
    omega
theorem half_mul (q y1 y0 : Nat) : q * (y1 * 4294967296 + y0) = q * y1 * 4294967296 + q * y0 := by rw [Nat.mul_add, Nat.mul_assoc]
theorem Half.done {hi y1 y0 u q r : Nat} (h : Half hi y1 y0 u q r) (hy : 0 < y1 * 4294967296 + y0) (hc : q * y0 ≤ 4294967296 * r + u) : q = (hi * 4294967296 + u) / (y1 * 4294967296 + y0) := by
  refine Nat.le_antisymm ?_ h.ge
  rw [Nat.le_div_iff_mul_le hy, half_mul]
  have := h.sum
  generalize q * y1 = P at *
  generalize q * y0 = R at *
  omega
theorem Half.more {hi y1 y0 u q r : Nat} (h : Half hi y1 y0 u q r) (hh : hi < y1 * 4294967296 + y0) (hu : u < 4294967296) (hc : 4294967296 ≤ q ∨ 4294967296 * r + u < q * y0) : (hi * 4294967296 + u) / (y1 * 4294967296 + y0) < q := by
  rw [Nat.div_lt_iff_lt_mul (by omega)]
  rcases hc with hc | hc
  · have : 4294967296 * (y1 * 4294967296 + y0) ≤ q * (y1 * 4294967296 + y0) := Nat.mul_le_mul_right _ hc
    omega
  · rw [half_mul]
    have := h.sum
    generalize q * y1 = P at *
    generalize q * y0 = R at *
    omega
theorem Half.step {hi y1 y0 u q r : Nat} (h : Half hi y1 y0 u (q + 1) r) (hm : (hi * 4294967296 + u) / (y1 * 4294967296 + y0) < q + 1) (hr : r + y1 < 4294967296) : Half hi y1 y0 u q (r + y1) := by
  have h1 := h.sum
  have h2 := h.le
  rw [Nat.add_mul] at h1
  exact ⟨by omega, Nat.lt_succ_iff.1 hm, by omega, hr⟩
end Go.Proofs.Ytkkmekdhejhapaa
