/- What is proved here: contracts of math/bits.Mul64 and of nat.mulAdd: a product of two limbs, with two more limbs added, as two limbs. -/
import Derived.Test.YtkkmekdhejhapaaOwn
import Derived.Shelf.Bits.Mul64
namespace Go.Proofs.Ytkkmekdhejhapaa
open Go.RowKit Go.Lib
set_option maxHeartbeats 1000000 in
theorem mul64_any (x y : Nat) (w : World) (hx : x < 18446744073709551616) (hy : y < 18446744073709551616) :
    Calls Try.prog 100 #[.int .u64 (x : Int), .int .u64 (y : Int)] w fun e w' => e = .returned (.tuple #[.int .u64 ((x * y / 18446744073709551616 : Nat) : Int), .int .u64 ((x * y % 18446744073709551616 : Nat) : Int)]) ∧ w = w' := by
  have B := Lib.mul64_hi x y hx hy
  have c1 := Lib.half_mul_le (a := x / 4294967296) (b := y / 4294967296) (by omega) (by omega)
  have c2 := Lib.half_mul_le (a := x / 4294967296) (b := y % 4294967296) (by omega) (by omega)
  have c3 := Lib.half_mul_le (a := x % 4294967296) (b := y / 4294967296) (by omega) (by omega)
  have H := Lib.hid B
  have C1 := Lib.hid c1
  have C2 := Lib.hid c2
  have C3 := Lib.hid c3
  clear B c1 c2 c3
  go_enter Try.func100, Try.ntmps100
  go_wp2
  obtain ⟨bd, bt, bw, hhi⟩ := H.out
  have c1 := C1.out
  have c2 := C2.out
  have c3 := C3.out
  simp only [Mul64.maskN x hx, Mul64.maskN y hy, Mul64.divN, Mul64.mulN, Mul64.addN, Mul64.wrapN _ bd, Mul64.wrapN _ (show x / 4294967296 * (y % 4294967296) < 18446744073709551616 by omega), Mul64.wrapN _ bt, Mul64.maskN _ bt, Mul64.wrapN _ (show x % 4294967296 * (y / 4294967296) < 18446744073709551616 by omega), Mul64.wrapN _ bw, Mul64.wrapN _ (show x / 4294967296 * (y / 4294967296) < 18446744073709551616 by omega), Mul64.wrapN _ (show x / 4294967296 * (y / 4294967296) + (x / 4294967296 * (y % 4294967296) + x % 4294967296 * (y % 4294967296) / 4294967296) / 4294967296 < 18446744073709551616 by omega), Mul64.wrapN _ (show x / 4294967296 * (y / 4294967296) + (x / 4294967296 * (y % 4294967296) + x % 4294967296 * (y % 4294967296) / 4294967296) / 4294967296 + ((x / 4294967296 * (y % 4294967296) + x % 4294967296 * (y % 4294967296) / 4294967296) % 4294967296 + x % 4294967296 * (y / 4294967296)) / 4294967296 < 18446744073709551616 by omega), Mul64.wrapM (x * y)]
  rw [hhi]
  go_ret2
  exact ⟨rfl, rfl⟩
def prHi (x y : Nat) : Nat := x * y / 18446744073709551616
def prLo (x y : Nat) : Nat := x * y % 18446744073709551616
theorem mul64_named (x y : Nat) (w : World) (hx : x < 2 ^ 64) (hy : y < 2 ^ 64) :
    Calls Try.prog 100 #[.int .u64 (x : Int), .int .u64 (y : Int)] w fun e w' => e = .returned (.tuple #[.int .u64 ((prHi x y : Nat) : Int), .int .u64 ((prLo x y : Nat) : Int)]) ∧ w = w' :=
  mul64_any x y w (by omega) (by omega)
theorem mulAdd_sum (x y m c : Nat) (hx : x < 2 ^ 64) (hy : y < 2 ^ 64) (hm : m < 2 ^ 64) (hc : c < 2 ^ 64) :
    prHi x y + sumHi (prLo x y) m 0 + sumHi (sumLo (prLo x y) m 0) c 0 = mulHi x y m c ∧ sumLo (sumLo (prLo x y) m 0) c 0 = mulLo x y m c ∧ mulHi x y m c < 2 ^ 64 := by
  have h : x * y ≤ (2 ^ 64 - 1) * (2 ^ 64 - 1) := Nat.mul_le_mul (by omega) (by omega)
  unfold prHi prLo sumHi sumLo mulHi mulLo
  generalize x * y = p at *
  omega
end Go.Proofs.Ytkkmekdhejhapaa
