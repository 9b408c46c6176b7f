/- What is proved here: the contracts of nat.Add, Sub, Mul, Cmp and Bits once more, for rows of at most sixteen limbs, whose numbers are whole. -/
import Derived.Test.YtlpaegmnahcbjaaAdd
import Derived.Test.YtlpaegmnahcbjaaMul
import Derived.Test.YtlpaegmnahcbjaaCmp
import Derived.Test.YtlpaegmnahcbjaaBits
import Derived.Test.YtlpaegmnahcbjaaAppend
namespace Go.Proofs.Ytlpaegmnahcbjaa
open Go.RowKit

theorem take_short {xs : List Nat} {n : Nat} (hl : xs.length = n) (h : n ≤ 16) : xs.take 16 = xs := List.take_of_length_le (by omega)

theorem add_short (a : Option Addr) (n c : Nat) (xs : List Nat) (a' : Option Addr) (n' c' : Nat) (ys : List Nat) (w : World) (hn : n ≤ c) (hm : c ≤ maxLen) (hn' : n' ≤ c') (hm' : c' ≤ maxLen) (hv : View w a n xs) (hv' : View w a' n' ys) (h : n ≤ 16) (h' : n' ≤ 16) :
    Calls Try.prog 38 #[.slice a n c, .slice a' n' c'] w (Makes2 (max n n') (val xs + val ys) ((val xs + val ys) / 2 ^ (64 * max n n')) w) := by
  have := add_any a n c xs a' n' c' ys w hn hm hn' hm' hv hv'
  rwa [take_short hv.len h, take_short hv'.len h', show min n 16 = n by omega, show min n' 16 = n' by omega] at this

theorem sub_short (a : Option Addr) (n c : Nat) (xs : List Nat) (a' : Option Addr) (n' c' : Nat) (ys : List Nat) (w : World) (hn : n ≤ c) (hm : c ≤ maxLen) (hn' : n' ≤ c') (hm' : c' ≤ maxLen) (hv : View w a n xs) (hv' : View w a' n' ys) (h : n ≤ 16) (h' : n' ≤ 16) :
    Calls Try.prog 55 #[.slice a n c, .slice a' n' c'] w (Makes2 (max n n') (val xs + 2 ^ (64 * max n n') - val ys) (ltN (val xs) (val ys)) w) := by
  have := sub_any a n c xs a' n' c' ys w hn hm hn' hm' hv hv'
  rwa [take_short hv.len h, take_short hv'.len h', show min n 16 = n by omega, show min n' 16 = n' by omega] at this

theorem cmp_short (a : Option Addr) (n c : Nat) (xs : List Nat) (a' : Option Addr) (n' c' : Nat) (ys : List Nat) (w : World) (hn : n ≤ c) (hm : c ≤ maxLen) (hn' : n' ≤ c') (hm' : c' ≤ maxLen) (hv : View w a n xs) (hv' : View w a' n' ys) (h : n ≤ 16) (h' : n' ≤ 16) {r : Int} (hr : r = cmpI (val xs) (val ys)) :
    Calls Try.prog 37 #[.slice a n c, .slice a' n' c'] w fun e w' => e = .returned (.int .i64 r) ∧ w = w' := by
  have := cmp_any a n c xs a' n' c' ys w hn hm hn' hm' hv hv'
  rwa [take_short hv.len h, take_short hv'.len h', ← hr] at this

theorem bits_short (a : Option Addr) (n c : Nat) (xs : List Nat) (w : World) (hn : n ≤ c) (hm : c ≤ maxLen) (hv : View w a n xs) (h : n ≤ 16) {r : Nat} (hr : r = nbits (val xs)) :
    Calls Try.prog 73 #[.slice a n c] w fun e w' => e = .returned (.int .i64 (r : Int)) ∧ w = w' := by
  have := bits_any a n c xs w hn hm hv
  rwa [take_short hv.len h, ← hr] at this

theorem val_row_of {K v : Nat} (h : v < 2 ^ (64 * K)) : val (row K v) = v := by rw [val_row, Nat.mod_eq_of_lt h]

/-- A product fits. -/
theorem mul_lt {n n' : Nat} {X Y : Nat} (h : X < 2 ^ (64 * n)) (h' : Y < 2 ^ (64 * n')) : X * Y < 2 ^ (64 * (n + n')) := by
  rw [show 64 * (n + n') = 64 * n + 64 * n' by omega, Nat.pow_add]
  exact Nat.mul_lt_mul_of_lt_of_le h (Nat.le_of_lt h') (Nat.two_pow_pos _)

/-- A sum with what goes beyond behind it is whole. -/
theorem val_carry (K s : Nat) : val (row K s ++ [s / 2 ^ (64 * K)]) = s := by
  rw [val_append, val_row, length_row]
  simp only [val, Nat.mul_zero, Nat.add_zero]
  rw [Nat.add_comm]
  exact Nat.div_add_mod s _

theorem View.vlt {w : World} {a : Option Addr} {n : Nat} {xs : List Nat} (h : View w a n xs) : val xs < 2 ^ (64 * n) := val_lt_of h.small (by rw [h.len]; exact Nat.le_refl _)

theorem carry_lt (K s : Nat) (h : s < 2 ^ (64 * (K + 1))) : s / 2 ^ (64 * K) < 2 ^ 64 := by
  apply Nat.div_lt_of_lt_mul
  rwa [show 64 * (K + 1) = 64 * K + 64 by omega, Nat.pow_add] at h

theorem add_lt {n n' X Y : Nat} (h : X < 2 ^ (64 * n)) (h' : Y < 2 ^ (64 * n')) : X + Y < 2 ^ (64 * (max n n' + 1)) := by
  have h1 : 2 ^ (64 * n) ≤ 2 ^ (64 * max n n') := Nat.pow_le_pow_right (by decide) (by omega)
  have h2 : 2 ^ (64 * n') ≤ 2 ^ (64 * max n n') := Nat.pow_le_pow_right (by decide) (by omega)
  rw [pow64]
  omega
end Go.Proofs.Ytlpaegmnahcbjaa
