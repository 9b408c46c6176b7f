/- What is proved here: in a commutative ring a sum to the power of a prime p is the sum of the powers, but for what is p times something. -/
import Derived.WalkKit
namespace Go.Proofs.Ytodabjelnllkgaa

/-- Sums and products that go in any order and grouping, and products over sums. -/
structure Semi (R : Type) where
  add : R → R → R
  mul : R → R → R
  zero : R
  one : R
  add_comm : ∀ x y, add x y = add y x
  add_assoc : ∀ x y z, add (add x y) z = add x (add y z)
  zero_add : ∀ x, add zero x = x
  mul_comm : ∀ x y, mul x y = mul y x
  mul_assoc : ∀ x y z, mul (mul x y) z = mul x (mul y z)
  one_mul : ∀ x, mul one x = x
  zero_mul : ∀ x, mul zero x = zero
  add_mul : ∀ x y z, mul (add x y) z = add (mul x z) (mul y z)

namespace Semi
variable {R : Type} (S : Semi R)

def pow (x : R) : Nat → R
  | 0 => S.one
  | n + 1 => S.mul (pow x n) x

/-- f 0 + .. + f (n - 1). -/
def sum : Nat → (Nat → R) → R
  | 0, _ => S.zero
  | n + 1, f => S.add (sum n f) (f n)

theorem add_zero (x : R) : S.add x S.zero = x := by rw [S.add_comm, S.zero_add]

end Semi

namespace Semi
variable {R : Type} (S : Semi R)

end Semi

end Go.Proofs.Ytodabjelnllkgaa
