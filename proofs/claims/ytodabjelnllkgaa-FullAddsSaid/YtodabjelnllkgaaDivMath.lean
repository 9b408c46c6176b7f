/- What is proved here: plain facts on long division: a guessed digit is never too low; what is taken off and added back leaves the rest; the arithmetic under math/bits.Div64. Nothing of any program. -/
import Derived.Test.YtodabjelnllkgaaSubTimes
namespace Go.Proofs.Ytodabjelnllkgaa

/-- How far a digit's window has come: j times the divisor is taken off; b tells that it is below 0. -/
structure Digit (X E M : Nat) (j b V : Nat) : Prop where
  ge : X / E ≤ j
  bor : b ≤ 1
  lt : V < M
  sum : V + j * E = X + b * M

theorem Digit.done {X E M j V : Nat} (hE : 0 < E) (h : Digit X E M j 0 V) : V = X % E := by
  have hs := h.sum
  rw [Nat.zero_mul, Nat.add_zero] at hs
  have hj : j ≤ X / E := by rw [Nat.le_div_iff_mul_le hE]; omega
  have e : j = X / E := Nat.le_antisymm hj h.ge
  have := Nat.div_add_mod X E
  rw [Nat.mul_comm, ← e] at this
  omega

theorem Digit.more {X E M j V : Nat} (h : Digit X E M j 1 V) : X / E < j := by
  have hs := h.sum
  have hl := h.lt
  rcases Nat.eq_zero_or_pos E with h0 | h0
  · subst h0; omega
  · rw [Nat.div_lt_iff_lt_mul h0]
    omega

theorem Digit.back {X E M j V V' c : Nat} (h : Digit X E M j 1 V) (hV : V' < M) (hc : c ≤ 1) (hs : V' + c * M = V + E) : Digit X E M (j - 1) (1 - c) V' := by
  have hm := h.more
  have h1 := h.sum
  have hj : 0 < j := Nat.lt_of_le_of_lt (Nat.zero_le _) hm
  obtain ⟨i, rfl⟩ : ∃ i, j = i + 1 := ⟨j - 1, by omega⟩
  refine ⟨by simp only [Nat.add_sub_cancel]; exact Nat.lt_succ_iff.1 hm, by omega, hV, ?_⟩
  rw [Nat.add_mul] at h1
  simp only [Nat.add_sub_cancel]
  rcases (show c = 0 ∨ c = 1 by omega) with rfl | rfl <;> simp at * <;> omega
end Go.Proofs.Ytodabjelnllkgaa
