/- What is proved here: the contracts of nat.Add, Sub, Mul, Cmp and Bits once more, for rows of at most sixteen limbs, whose numbers are whole. -/
import Derived.Test.YtkkmekdhejhapaaAdd
import Derived.Test.YtkkmekdhejhapaaMulAdd
import Derived.StillTailTactics
import Derived.Deep.RegionLaw
import Derived.Deep.RegionWith
import Derived.Test.YtkkmekdhejhapaaCmp
import Derived.Test.YtkkmekdhejhapaaBits
import Derived.Test.YtkkmekdhejhapaaAppend
namespace Go.Proofs.Ytkkmekdhejhapaa
open Go.RowKit
theorem take_short {xs : List Nat} {n : Nat} (hl : xs.length = n) (h : n ≤ 16) : xs.take 16 = xs := List.take_of_length_le (by omega)
theorem add_short (a : Option Addr) (n c : Nat) (xs : List Nat) (a' : Option Addr) (n' c' : Nat) (ys : List Nat) (w : World) (hn : n ≤ c) (hm : c ≤ maxLen) (hn' : n' ≤ c') (hm' : c' ≤ maxLen) (hv : View w a n xs) (hv' : View w a' n' ys) (h : n ≤ 16) (h' : n' ≤ 16) :
    Calls Try.prog 29 #[.slice a n c, .slice a' n' c'] w (Makes2 (max n n') (val xs + val ys) ((val xs + val ys) / 2 ^ (64 * max n n')) w) := by
  have := add_any a n c xs a' n' c' ys w hn hm hn' hm' hv hv'
  rwa [take_short hv.len h, take_short hv'.len h', show min n 16 = n by omega, show min n' 16 = n' by omega] at this
theorem sub_short (a : Option Addr) (n c : Nat) (xs : List Nat) (a' : Option Addr) (n' c' : Nat) (ys : List Nat) (w : World) (hn : n ≤ c) (hm : c ≤ maxLen) (hn' : n' ≤ c') (hm' : c' ≤ maxLen) (hv : View w a n xs) (hv' : View w a' n' ys) (h : n ≤ 16) (h' : n' ≤ 16) :
    Calls Try.prog 72 #[.slice a n c, .slice a' n' c'] w (Makes2 (max n n') (val xs + 2 ^ (64 * max n n') - val ys) (ltN (val xs) (val ys)) w) := by
  have := sub_any a n c xs a' n' c' ys w hn hm hn' hm' hv hv'
  rwa [take_short hv.len h, take_short hv'.len h', show min n 16 = n by omega, show min n' 16 = n' by omega] at this
theorem cmp_short (a : Option Addr) (n c : Nat) (xs : List Nat) (a' : Option Addr) (n' c' : Nat) (ys : List Nat) (w : World) (hn : n ≤ c) (hm : c ≤ maxLen) (hn' : n' ≤ c') (hm' : c' ≤ maxLen) (hv : View w a n xs) (hv' : View w a' n' ys) (h : n ≤ 16) (h' : n' ≤ 16) {r : Int} (hr : r = cmpI (val xs) (val ys)) :
    Calls Try.prog 32 #[.slice a n c, .slice a' n' c'] w fun e w' => e = .returned (.int .i64 r) ∧ w = w' := by
  have := cmp_any a n c xs a' n' c' ys w hn hm hn' hm' hv hv'
  rwa [take_short hv.len h, take_short hv'.len h', ← hr] at this
theorem bits_short (a : Option Addr) (n c : Nat) (xs : List Nat) (w : World) (hn : n ≤ c) (hm : c ≤ maxLen) (hv : View w a n xs) (h : n ≤ 16) {r : Nat} (hr : r = nbits (val xs)) :
    Calls Try.prog 96 #[.slice a n c] w fun e w' => e = .returned (.int .i64 (r : Int)) ∧ w = w' := by
  have := bits_any a n c xs w hn hm hv
  rwa [take_short hv.len h, ← hr] at this
theorem val_row_of {K v : Nat} (h : v < 2 ^ (64 * K)) : val (row K v) = v := by rw [val_row, Nat.mod_eq_of_lt h]
end Go.Proofs.Ytkkmekdhejhapaa
