/- What is proved here: contracts of the reference's Neg, Sub, Small and Inv (layer 3). -/
import Derived.Test.YtlpaegmnahcbjaaRef3Fr
namespace Go.Proofs.Ytlpaegmnahcbjaa
open Go.RowKit

/-- An array held against nothing. -/
theorem fr_eq0 (a : Nat) (ha : a < frB) (r : Bool) (hr : r = decide (a = 0)) (W : World) : (Op.equalIn 10000 24 (.agg #[.int .u64 ((lb a 0 : Nat) : Int), .int .u64 ((lb a 1 : Nat) : Int), .int .u64 ((lb a 2 : Nat) : Int), .int .u64 ((lb a 3 : Nat) : Int)]) (.agg #[.int .u64 0, .int .u64 0, .int .u64 0, .int .u64 0])).run Try.prog W = .ok r W := by
  have := fr_eq a 0 W ha (fr_ltB (by decide)) r hr
  rwa [fr_lit0] at this

theorem fr_eq1 (a : Nat) (ha : a < frB) (r : Bool) (hr : r = decide (a = 1)) (W : World) : (Op.equalIn 10000 24 (.agg #[.int .u64 ((lb a 0 : Nat) : Int), .int .u64 ((lb a 1 : Nat) : Int), .int .u64 ((lb a 2 : Nat) : Int), .int .u64 ((lb a 3 : Nat) : Int)]) (.agg #[.int .u64 1, .int .u64 0, .int .u64 0, .int .u64 0])).run Try.prog W = .ok r W := by
  have := fr_eq a 1 W ha (fr_ltB (by decide)) r hr
  rwa [fr_lit1] at this

/-- What a small number leaves, modulo rN. -/
def frSmallOf (n : Int) : Nat := (n % (rN : Int)).toNat

theorem frsmall_pos {n : Int} (h0 : 0 ≤ n) (h1 : n ≤ 9223372036854775807) : frSmallOf n = n.toNat := by
  unfold frSmallOf
  have : n < (rN : Int) := Int.lt_of_le_of_lt h1 (by decide +kernel)
  rw [Int.emod_eq_of_lt h0 this]

theorem frsmall_neg {n : Int} (h0 : n < 0) (h1 : -9223372036854775808 ≤ n) : frSmallOf n = rN - (-n).toNat := by
  unfold frSmallOf
  have hr : (9223372036854775808 : Int) < (rN : Int) := by decide +kernel
  have e : n % (rN : Int) = n + rN := by
    rw [← Int.add_emod_right, Int.emod_eq_of_lt (by omega) (by omega)]
  rw [e]
  omega

theorem frsmall_le {N : Nat} (h : N ≤ 9223372036854775808) : N ≤ rN := Nat.le_trans h (by decide +kernel)
end Go.Proofs.Ytlpaegmnahcbjaa
