/- What is proved here: contracts of the reference's Mul and Pow (layer 3). -/
import Derived.Test.YtlpaegmnahcbjaaRef2Fr
import Derived.Test.YtlpaegmnahcbjaaFn2Fr
namespace Go.Proofs.Ytlpaegmnahcbjaa
open Go.RowKit

theorem frmul_bit_0 {M A q : Nat} (B : Nat) (hb : A / 2 ^ q % 2 = 0) : (A / 2 ^ (q + 1) * B % M + A / 2 ^ (q + 1) * B % M) % M = A / 2 ^ q * B % M := by
  have := mul_bit M A B q 0 hb.symm
  rwa [Nat.zero_mul, Nat.add_zero, Nat.mod_mod, Nat.two_mul] at this

theorem frmul_bit_1 {M A q : Nat} (B : Nat) (hb : A / 2 ^ q % 2 = 1) : ((A / 2 ^ (q + 1) * B % M + A / 2 ^ (q + 1) * B % M) % M + B) % M = A / 2 ^ q * B % M := by
  have := mul_bit M A B q 1 hb.symm
  rwa [Nat.one_mul, Nat.two_mul] at this

theorem frpow_bit_0 {M E q : Nat} (A : Nat) (hb : E / 2 ^ q % 2 = 0) : (A ^ (E / 2 ^ (q + 1)) % M) * (A ^ (E / 2 ^ (q + 1)) % M) % M = A ^ (E / 2 ^ q) % M := by
  have := pow_bit A E q 0 hb.symm
  rw [Nat.pow_zero, Nat.mul_one] at this
  rw [← this, ← Nat.mul_mod]

theorem frpow_bit_1 {M E q : Nat} (A : Nat) (hb : E / 2 ^ q % 2 = 1) : (A ^ (E / 2 ^ (q + 1)) % M) * (A ^ (E / 2 ^ (q + 1)) % M) % M * A % M = A ^ (E / 2 ^ q) % M := by
  have := pow_bit A E q 1 hb.symm
  rw [Nat.pow_one] at this
  rw [← this, ← Nat.mul_mod, Nat.mod_mul_mod]

theorem frM_bits : rN < 2 ^ 256 := by decide +kernel
theorem frM_one : 1 < rN := by decide +kernel
theorem frB_bits : frB ≤ 2 ^ 256 := by decide +kernel
end Go.Proofs.Ytlpaegmnahcbjaa
