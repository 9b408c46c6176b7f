/- What is proved here: the first byte of bytes and their number: bytes with flags in the three highest bits. -/
import Derived.Test.YtkkmekdhejhapaaGreatBytes
import Derived.Test.YtkkmekdhejhapaaGreatPrime
namespace Go.Proofs.YtkkmekdhejhapaaGreat
theorem cons_be (b : UInt8) (t : List UInt8) : be (t.length + 1) (b.toNat * 256 ^ t.length + bval t) = b :: t := be_bval (b :: t)
theorem toNat_ofNat {n : Nat} (h : n < 256) : (UInt8.ofNat n).toNat = n := by
  show n % 256 = n
  exact Nat.mod_eq_of_lt h
theorem set_be {n : Nat} (h : n < 256) (t : List UInt8) : UInt8.ofNat n :: t = be (t.length + 1) (n * 256 ^ t.length + bval t) := by
  have e := cons_be (UInt8.ofNat n) t
  rw [toNat_ofNat h] at e
  exact e.symm
theorem be_cons (n v : Nat) : be (n + 1) v = UInt8.ofNat (v / 256 ^ n % 256) :: be n v := by
  induction n generalizing v with
  | zero =>
    show [] ++ [UInt8.ofNat (v % 256)] = _
    rw [Nat.pow_zero, Nat.div_one]
    rfl
  | succ n ih =>
    show be (n + 1) (v / 256) ++ [UInt8.ofNat (v % 256)] = UInt8.ofNat (v / 256 ^ (n + 1) % 256) :: (be n (v / 256) ++ [UInt8.ofNat (v % 256)])
    rw [ih, Nat.div_div_eq_div_mul, Nat.pow_succ, Nat.mul_comm 256]
    rfl
theorem flag_be {m v f : Nat} (hv : v < 32 * 256 ^ m) (hf : f < 8) : ∃ b t, be (m + 1) v = b :: t ∧ t.length = m ∧ b.toNat < 32 ∧ UInt8.ofNat (b.toNat + 32 * f) :: t = be (m + 1) (v + 32 * f * 256 ^ m) := by
  have hb : v / 256 ^ m < 32 := (Nat.div_lt_iff_lt_mul (Nat.pow_pos (by decide))).2 hv
  have hq : v / 256 ^ m % 256 = v / 256 ^ m := Nat.mod_eq_of_lt (Nat.lt_trans hb (by decide))
  have h := Nat.div_add_mod v (256 ^ m)
  refine ⟨_, _, be_cons m v, length_be m v, ?_, ?_⟩
  · rw [toNat_ofNat (Nat.mod_lt _ (by decide)), hq]
    exact hb
  · rw [toNat_ofNat (Nat.mod_lt _ (by decide)), hq]
    have e := set_be (n := v / 256 ^ m + 32 * f) (by generalize v / 256 ^ m = q at *; omega) (be m v)
    rw [e, length_be, bval_be]
    congr 1
    rw [Nat.add_mul]
    generalize v / 256 ^ m = q at *
    generalize v % 256 ^ m = w at *
    rw [Nat.mul_comm q]
    omega
theorem p_381 : pN < 32 * 256 ^ 47 := by decide +kernel
end Go.Proofs.YtkkmekdhejhapaaGreat
