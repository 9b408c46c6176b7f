/- What is proved here: contracts of fr.Sub and Neg. -/
import Derived.Test.YtlpaegmnahcbjaaFn2Fr
namespace Go.Proofs.Ytlpaegmnahcbjaa
open Go.RowKit

/-- A difference modulo rN. -/
theorem frSub_ge {a b v x y : Nat} (hx : x = a % rN) (hy : y = b % rN) (hv : v = (a + (rN - b % rN)) % rN) (h : y ≤ x) : v = x - y := by
  have h1 := frM_mod a
  have h2 := frM_mod b
  have h0 := frM_pos
  rw [← hy] at h2
  rw [← hx] at h1
  rw [hv, ← hy, Nat.add_mod, ← hx]
  generalize rN = m at *
  rcases Nat.eq_zero_or_pos y with e | e
  · subst e
    rw [Nat.sub_zero, Nat.mod_self, Nat.add_zero, Nat.mod_eq_of_lt h1]
    rfl
  · rw [Nat.mod_eq_of_lt (show m - y < m by omega), show x + (m - y) = (x - y) + m by omega, Nat.add_mod_right, Nat.mod_eq_of_lt (by omega)]

theorem frSub_lt {a b v x y : Nat} (hx : x = a % rN) (hy : y = b % rN) (hv : v = (a + (rN - b % rN)) % rN) (h : x < y) : v = x + rN - y := by
  have h2 := frM_mod b
  rw [← hy] at h2
  rw [hv, ← hy, Nat.add_mod, ← hx]
  generalize rN = m at *
  rw [Nat.mod_eq_of_lt (show m - y < m by omega), show x + (m - y) = x + m - y by omega, Nat.mod_eq_of_lt (by omega)]

theorem frSub_lim {x y : Nat} (h : x < y) (hy : y < frB) : x + 2 ^ (64 * 4) - y < 2 ^ (64 * 4) := by
  have := fr_ltE hy
  revert this
  generalize 2 ^ (64 * 4) = P
  omega
end Go.Proofs.Ytlpaegmnahcbjaa
