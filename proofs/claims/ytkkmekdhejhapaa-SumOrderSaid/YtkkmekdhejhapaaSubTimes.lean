/- What is proved here: contracts of nat.subTimes and nat.addBack: a window of a row, less a multiple of a number, and more by a number. -/
import Derived.Test.YtkkmekdhejhapaaMulAdd
import Derived.Deep.RegionWith
namespace Go.Proofs.Ytkkmekdhejhapaa
open Go.RowKit
theorem subLo_eq (x y b : Nat) (hx : x < 2 ^ 64) (hy : y < 2 ^ 64) (hb : b ≤ 1) : subLo x y b + y + b = x + subHi x y b * 2 ^ 64 := by
  unfold subLo subHi
  split <;> omega
theorem subHi_le (x y b : Nat) : subHi x y b ≤ 1 := by unfold subHi; split <;> omega
theorem subLo_lt (x y b : Nat) : subLo x y b < 2 ^ 64 := Nat.mod_lt _ (by decide)
structure Subbing (xs : List Nat) (i0 q Y : Nat) (k c b : Nat) (zs : List Nat) : Prop where
  len : zs.length = xs.length
  small : Small zs
  carry : c < 2 ^ 64
  borrow : b ≤ 1
  rest : ∀ j, j < i0 ∨ i0 + k ≤ j → lm zs j = lm xs j
  sum : val zs + q * (Y % 2 ^ (64 * k)) * 2 ^ (64 * i0) = val xs + (c + b) * 2 ^ (64 * (i0 + k))
theorem Subbing.start {xs : List Nat} (hs : Small xs) (i0 q Y : Nat) : Subbing xs i0 q Y 0 0 0 xs :=
  ⟨rfl, hs, by decide, by decide, fun _ _ => rfl, by simp [Nat.mod_one]⟩
theorem Subbing.step {xs zs : List Nat} {i0 q Y k c b : Nat} (h : Subbing xs i0 q Y k c b zs) (hq : q < 2 ^ 64) (hi : i0 + k < xs.length) (y : Nat) (hy : y = Y / 2 ^ (64 * k) % 2 ^ 64) :
    Subbing xs i0 q Y (k + 1) (mulHi y q 0 c) (subHi (lm zs (i0 + k)) (mulLo y q 0 c) b) (zs.set (i0 + k) (subLo (lm zs (i0 + k)) (mulLo y q 0 c) b)) := by
  have hyl : y < 2 ^ 64 := by rw [hy]; exact Nat.mod_lt _ (by decide)
  have ho := lm_lt h.small (i0 + k)
  have hl : i0 + k < zs.length := by rw [h.len]; exact hi
  have hv := val_set zs (i0 + k) (subLo (lm zs (i0 + k)) (mulLo y q 0 c) b) hl
  have hs := h.sum
  have e1 := subLo_eq (lm zs (i0 + k)) (mulLo y q 0 c) b ho (Nat.mod_lt _ (by decide)) h.borrow
  have e0 : y * q + c = mulLo y q 0 c + 2 ^ 64 * mulHi y q 0 c := by
    unfold mulLo mulHi; rw [Nat.add_zero]; exact (Nat.mod_add_div _ _).symm
  refine ⟨by simpa using h.len, h.small.set _ (subLo_lt _ _ _), mulHi_lt hyl hq (by decide) h.carry, subHi_le _ _ _, ?_, ?_⟩
  · intro j hj
    rw [lm_set _ _ _ _ hl, if_neg (by omega)]
    exact h.rest j (by omega)
  · rw [mod_limb, ← hy]
    generalize mulLo y q 0 c = lo at *
    generalize mulHi y q 0 c = hi' at *
    generalize subLo (lm zs (i0 + k)) lo b = l' at *
    generalize subHi (lm zs (i0 + k)) lo b = b' at *
    generalize lm zs (i0 + k) = o at *
    rw [show 64 * (i0 + (k + 1)) = 64 * (i0 + k) + 64 by omega, Nat.pow_add]
    rw [show 64 * (i0 + k) = 64 * i0 + 64 * k by omega, Nat.pow_add] at *
    generalize 2 ^ (64 * i0) = P at *
    generalize 2 ^ (64 * k) = Q at *
    generalize Y % Q = R at *
    generalize val zs = A at *
    generalize val (zs.set _ _) = A' at *
    generalize val xs = B at *
    have f1 : (l' + lo + b) * (P * Q) = (o + b' * 2 ^ 64) * (P * Q) := by rw [e1]
    have f2 : (l' + lo + b) * (P * Q) = l' * (P * Q) + lo * (P * Q) + b * (P * Q) := by rw [Nat.add_mul, Nat.add_mul]
    have f3 : (o + b' * 2 ^ 64) * (P * Q) = o * (P * Q) + b' * (P * Q * 2 ^ 64) := by rw [Nat.add_mul, Nat.mul_assoc b', Nat.mul_comm (2 ^ 64)]
    have g1 : (y * q + c) * (P * Q) = (lo + 2 ^ 64 * hi') * (P * Q) := by rw [e0]
    have g2 : (y * q + c) * (P * Q) = y * q * (P * Q) + c * (P * Q) := by rw [Nat.add_mul]
    have g3 : (lo + 2 ^ 64 * hi') * (P * Q) = lo * (P * Q) + hi' * (P * Q * 2 ^ 64) := by
      rw [Nat.add_mul, Nat.mul_comm (2 ^ 64) hi', Nat.mul_assoc hi', Nat.mul_comm (2 ^ 64)]
    have e4 : q * (R + y * Q) * P = q * R * P + y * q * (P * Q) := by
      rw [Nat.mul_add, Nat.add_mul]
      congr 1
      rw [Nat.mul_comm y q, Nat.mul_assoc, Nat.mul_assoc, Nat.mul_assoc, Nat.mul_comm Q P]
    have e5 : (hi' + b') * (P * Q * 2 ^ 64) = hi' * (P * Q * 2 ^ 64) + b' * (P * Q * 2 ^ 64) := Nat.add_mul _ _ _
    have e6 : (c + b) * (P * Q) = c * (P * Q) + b * (P * Q) := Nat.add_mul _ _ _
    rw [e4, e5]
    rw [e6] at hs
    omega
structure Taken (xs : List Nat) (i0 q Y n b : Nat) (zs : List Nat) : Prop where
  len : zs.length = xs.length
  small : Small zs
  borrow : b ≤ 1
  rest : ∀ j, j < i0 ∨ i0 + n + 1 ≤ j → lm zs j = lm xs j
  sum : val zs + q * Y * 2 ^ (64 * i0) = val xs + b * 2 ^ (64 * (i0 + n + 1))
theorem Subbing.done {xs zs : List Nat} {i0 q Y n c b : Nat} (h : Subbing xs i0 q Y n c b zs) (hY : Y < 2 ^ (64 * n)) (hi : i0 + n < xs.length) :
    Taken xs i0 q Y n (subHi (lm zs (i0 + n)) c b) (zs.set (i0 + n) (subLo (lm zs (i0 + n)) c b)) := by
  have ho := lm_lt h.small (i0 + n)
  have hl : i0 + n < zs.length := by rw [h.len]; exact hi
  have hv := val_set zs (i0 + n) (subLo (lm zs (i0 + n)) c b) hl
  have hs := h.sum
  rw [Nat.mod_eq_of_lt hY] at hs
  have e1 := subLo_eq (lm zs (i0 + n)) c b ho h.carry h.borrow
  refine ⟨by simpa using h.len, h.small.set _ (subLo_lt _ _ _), subHi_le _ _ _, ?_, ?_⟩
  · intro j hj
    rw [lm_set _ _ _ _ hl, if_neg (by omega)]
    exact h.rest j (by omega)
  · generalize subLo (lm zs (i0 + n)) c b = l' at *
    generalize subHi (lm zs (i0 + n)) c b = b' at *
    generalize lm zs (i0 + n) = o at *
    rw [show 64 * (i0 + n + 1) = 64 * (i0 + n) + 64 by omega, Nat.pow_add]
    generalize 2 ^ (64 * (i0 + n)) = T at *
    have f1 : (l' + c + b) * T = (o + b' * 2 ^ 64) * T := by rw [e1]
    have f2 : (l' + c + b) * T = l' * T + (c + b) * T := by rw [Nat.add_assoc, Nat.add_mul]
    have f3 : (o + b' * 2 ^ 64) * T = o * T + b' * (T * 2 ^ 64) := by rw [Nat.add_mul, Nat.mul_assoc b', Nat.mul_comm (2 ^ 64)]
    omega
theorem sumHi_le {x y c : Nat} (hx : x < 2 ^ 64) (hy : y < 2 ^ 64) (hc : c ≤ 1) : sumHi x y c ≤ 1 := by unfold sumHi; omega
end Go.Proofs.Ytkkmekdhejhapaa
