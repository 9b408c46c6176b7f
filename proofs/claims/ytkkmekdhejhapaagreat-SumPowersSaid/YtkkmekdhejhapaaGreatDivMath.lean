/- What is proved here: plain facts on long division: a guessed digit is never too low; what is taken off and added back leaves the rest; the arithmetic under math/bits.Div64. Nothing of any program. -/
import Derived.Test.YtkkmekdhejhapaaGreatSubTimes
namespace Go.Proofs.YtkkmekdhejhapaaGreat
def guess (hi lo top : Nat) : Nat := if top ≤ hi then 2 ^ 64 - 1 else (hi * 2 ^ 64 + lo) / top
theorem guess_lt {hi lo top : Nat} (hl : lo < 2 ^ 64) : guess hi lo top < 2 ^ 64 := by
  unfold guess
  split
  · decide
  · next h =>
    apply Nat.div_lt_of_lt_mul
    have : (hi + 1) * 2 ^ 64 ≤ top * 2 ^ 64 := Nat.mul_le_mul_right _ (by omega)
    rw [Nat.add_mul] at this
    omega
theorem top_two {X n : Nat} (hn : 1 ≤ n) (hX : X < 2 ^ (64 * (n + 1))) : X / 2 ^ (64 * (n - 1)) = (X / 2 ^ (64 * n) % 2 ^ 64) * 2 ^ 64 + X / 2 ^ (64 * (n - 1)) % 2 ^ 64 := by
  have e : 2 ^ (64 * n) = 2 ^ (64 * (n - 1)) * 2 ^ 64 := by rw [← Nat.pow_add]; congr 1; omega
  have h1 : X / 2 ^ (64 * n) < 2 ^ 64 := Nat.div_lt_of_lt_mul (by rw [← Nat.pow_add]; rwa [show 64 * n + 64 = 64 * (n + 1) by omega])
  rw [Nat.mod_eq_of_lt h1, e, ← Nat.div_div_eq_div_mul]
  omega
theorem guess_ge {X D n : Nat} (hn : 1 ≤ n) (hD : D < 2 ^ (64 * n)) (hX : X < D * 2 ^ 64) (hX2 : X < 2 ^ (64 * (n + 1))) (_ht : D / 2 ^ (64 * (n - 1)) % 2 ^ 64 ≠ 0) :
    X / D ≤ guess (X / 2 ^ (64 * n) % 2 ^ 64) (X / 2 ^ (64 * (n - 1)) % 2 ^ 64) (D / 2 ^ (64 * (n - 1)) % 2 ^ 64) := by
  have hDpos : 0 < D := by
    rcases Nat.eq_zero_or_pos D with h | h
    · rw [h] at hX; omega
    · exact h
  have hq : X / D < 2 ^ 64 := Nat.div_lt_of_lt_mul hX
  have hP := Nat.two_pow_pos (64 * (n - 1))
  have etop : D / 2 ^ (64 * (n - 1)) % 2 ^ 64 = D / 2 ^ (64 * (n - 1)) := by
    apply Nat.mod_eq_of_lt
    apply Nat.div_lt_of_lt_mul
    rw [← Nat.pow_add]
    rwa [show 64 * (n - 1) + 64 = 64 * n by omega]
  unfold guess
  split
  · omega
  · rw [← top_two hn hX2, etop] at *
    rw [Nat.le_div_iff_mul_le (by omega)]
    have h1 : X / D * D ≤ X := Nat.div_mul_le_self X D
    have h2 : D / 2 ^ (64 * (n - 1)) * 2 ^ (64 * (n - 1)) ≤ D := Nat.div_mul_le_self _ _
    rw [Nat.le_div_iff_mul_le hP]
    have h3 : X / D * (D / 2 ^ (64 * (n - 1)) * 2 ^ (64 * (n - 1))) ≤ X / D * D := Nat.mul_le_mul_left _ h2
    rw [← Nat.mul_assoc] at h3
    omega
structure Digit (X E M : Nat) (j b V : Nat) : Prop where
  ge : X / E ≤ j
  bor : b ≤ 1
  lt : V < M
  sum : V + j * E = X + b * M
theorem Digit.done {X E M j V : Nat} (hE : 0 < E) (h : Digit X E M j 0 V) : V = X % E := by
  have hs := h.sum
  rw [Nat.zero_mul, Nat.add_zero] at hs
  have hj : j ≤ X / E := by rw [Nat.le_div_iff_mul_le hE]; omega
  have e : j = X / E := Nat.le_antisymm hj h.ge
  have := Nat.div_add_mod X E
  rw [Nat.mul_comm, ← e] at this
  omega
theorem Digit.more {X E M j V : Nat} (h : Digit X E M j 1 V) : X / E < j := by
  have hs := h.sum
  have hl := h.lt
  rcases Nat.eq_zero_or_pos E with h0 | h0
  · subst h0; omega
  · rw [Nat.div_lt_iff_lt_mul h0]
    omega
theorem Digit.back {X E M j V V' c : Nat} (h : Digit X E M j 1 V) (hV : V' < M) (hc : c ≤ 1) (hs : V' + c * M = V + E) : Digit X E M (j - 1) (1 - c) V' := by
  have hm := h.more
  have h1 := h.sum
  have hj : 0 < j := Nat.lt_of_le_of_lt (Nat.zero_le _) hm
  obtain ⟨i, rfl⟩ : ∃ i, j = i + 1 := ⟨j - 1, by omega⟩
  refine ⟨by simp only [Nat.add_sub_cancel]; exact Nat.lt_succ_iff.1 hm, by omega, hV, ?_⟩
  rw [Nat.add_mul] at h1
  simp only [Nat.add_sub_cancel]
  rcases (show c = 0 ∨ c = 1 by omega) with rfl | rfl <;> simp at * <;> omega
end Go.Proofs.YtkkmekdhejhapaaGreat
