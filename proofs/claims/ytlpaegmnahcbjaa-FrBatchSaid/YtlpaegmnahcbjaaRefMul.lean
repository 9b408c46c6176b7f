/- What is proved here: contracts of the reference's double, plus and Mul. -/
import Derived.Test.YtlpaegmnahcbjaaOwn
namespace Go.Proofs.Ytlpaegmnahcbjaa
open Go.RowKit

theorem wrap_dbl (x h : Nat) (_hx : x < 2 ^ 64) (_hh : h ≤ 1) : IntKind.u64.wrap (IntKind.u64.wrap ((x : Int) * 2) + (h : Int)) = (((2 * x + h) % 2 ^ 64 : Nat) : Int) := by
  rw [IntKind.wrap_u64, IntKind.wrap_u64]
  omega
theorem div_dbl (x h : Nat) (_hx : x < 2 ^ 64) (hh : h ≤ 1) : (x : Int) / 9223372036854775808 = (((2 * x + h) / 2 ^ 64 : Nat) : Int) := by omega

/-- The three ways of a limb's sum. -/
theorem plus_ways (x y c : Nat) (hx : x < 2 ^ 64) (hy : y < 2 ^ 64) (hc : c ≤ 1) :
    (x + y + c ≤ 18446744073709551615 ∧ sumLo x y c = x + y + c ∧ sumHi x y c = 0) ∨
    (x + y ≤ 18446744073709551615 ∧ IntKind.u64.wrap ((x : Int) + (y : Int) + (c : Int)) = 0 ∧ 1 ≤ x + y ∧ sumLo x y c = 0 ∧ sumHi x y c = 1) ∨
    ∃ q : Nat, IntKind.u64.wrap ((x : Int) + (y : Int)) = (q : Int) ∧ q < x ∧ q + c ≤ 18446744073709551615 ∧ sumLo x y c = q + c ∧ sumHi x y c = 1 := by
  unfold sumLo sumHi
  rcases Nat.lt_or_ge (x + y + c) (2 ^ 64) with h | h
  · exact .inl ⟨by omega, by omega, by omega⟩
  · rcases Nat.lt_or_ge (x + y) (2 ^ 64) with h2 | h2
    · exact .inr (.inl ⟨by omega, by rw [IntKind.wrap_u64]; omega, by omega, by omega, by omega⟩)
    · exact .inr (.inr ⟨x + y - 2 ^ 64, by rw [IntKind.wrap_u64]; omega, by omega, by omega, by omega, by omega⟩)

theorem half_bit (X q : Nat) : X / 2 ^ q = 2 * (X / 2 ^ (q + 1)) + X / 2 ^ q % 2 := by
  rw [Nat.pow_succ, ← Nat.div_div_eq_div_mul]
  omega

theorem mulBit {zs ts : List Nat} (s1 : Small zs) {q K : Nat} (hX : val zs * val ts < 2 ^ (64 * K)) :
    2 * val (row K (val zs / 2 ^ (q + 1) * val ts)) + 0 + bitOf zs q * val ts = val zs / 2 ^ q * val ts ∧ 2 * val (row K (val zs / 2 ^ (q + 1) * val ts)) + 0 < 2 ^ (64 * K) := by
  have h1 : val zs / 2 ^ q * val ts ≤ val zs * val ts := Nat.mul_le_mul_right _ (Nat.div_le_self _ _)
  have h2 := half_bit (val zs) q
  have e : val zs / 2 ^ q * val ts = 2 * (val zs / 2 ^ (q + 1) * val ts) + bitOf zs q * val ts := by
    rw [bitOf_val s1]
    conv => lhs; rw [h2]
    rw [Nat.add_mul, Nat.mul_assoc]
  rw [val_row, Nat.mod_eq_of_lt (by omega)]
  omega
end Go.Proofs.Ytlpaegmnahcbjaa
