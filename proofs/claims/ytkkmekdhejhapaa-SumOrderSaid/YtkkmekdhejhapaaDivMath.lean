/- What is proved here: plain facts on long division: a guessed digit is never too low; what is taken off and added back leaves the rest; the arithmetic under math/bits.Div64. Nothing of any program. -/
import Derived.Test.YtkkmekdhejhapaaSubTimes
namespace Go.Proofs.Ytkkmekdhejhapaa
structure Digit (X E M : Nat) (j b V : Nat) : Prop where
  ge : X / E ≤ j
  bor : b ≤ 1
  lt : V < M
  sum : V + j * E = X + b * M
theorem Digit.done {X E M j V : Nat} (hE : 0 < E) (h : Digit X E M j 0 V) : V = X % E := by
  have hs := h.sum
  rw [Nat.zero_mul, Nat.add_zero] at hs
  have hj : j ≤ X / E := by rw [Nat.le_div_iff_mul_le hE]; omega
  have e : j = X / E := Nat.le_antisymm hj h.ge
  have := Nat.div_add_mod X E
  rw [Nat.mul_comm, ← e] at this
  omega
theorem Digit.more {X E M j V : Nat} (h : Digit X E M j 1 V) : X / E < j := by
  have hs := h.sum
  have hl := h.lt
  rcases Nat.eq_zero_or_pos E with h0 | h0
  · subst h0; omega
  · rw [Nat.div_lt_iff_lt_mul h0]
    omega
end Go.Proofs.Ytkkmekdhejhapaa
