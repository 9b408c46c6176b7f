/- What is proved here: the document's r (chapter 3) is such a number: every number below r but 0, to the power of r - 1, leaves 1; so each has an inverse. -/
import Derived.Test.YtlpaegmnahcbjaaPrime
namespace Go.Proofs.Ytlpaegmnahcbjaa

/-- The order of the groups. -/
def rN : Nat := 52435875175126190479447740508185965837690552500527637822603658699938581184513

/-- The prime factors of r - 1. -/
def rFactors : List Nat := [2, 2, 2, 2, 2, 2, 2, 2, 2, 2, 2, 2, 2, 2, 2, 2, 2, 2, 2, 2, 2, 2, 2, 2, 2, 2, 2, 2, 2, 2, 2, 2, 3, 11, 19, 10177, 125527, 859267, 906349, 906349, 2508409, 2529403, 52437899, 254760293, 254760293]

set_option maxRecDepth 100000 in
theorem rFactors_prime : ∀ q ∈ rFactors, IsPrime q := by
  have all : ∀ q ∈ [2, 3, 11, 19, 10177, 125527, 859267, 906349, 2508409, 2529403, 52437899, 254760293], IsPrime q := by
    intro q hq
    simp only [List.mem_cons, List.not_mem_nil, or_false] at hq
    rcases hq with rfl | rfl | rfl | rfl | rfl | rfl | rfl | rfl | rfl | rfl | rfl | rfl
    · exact isPrime_of (k := 0) (by decide) (by decide) (by decide +kernel)
    · exact isPrime_of (k := 0) (by decide) (by decide) (by decide +kernel)
    · exact isPrime_of (k := 2) (by decide) (by decide) (by decide +kernel)
    · exact isPrime_of (k := 3) (by decide) (by decide) (by decide +kernel)
    · exact isPrime_of (k := 99) (by decide) (by decide) (by decide +kernel)
    · exact isPrime_of (k := 353) (by decide) (by decide) (by decide +kernel)
    · exact isPrime_of (k := 925) (by decide) (by decide) (by decide +kernel)
    · exact isPrime_of (k := 951) (by decide) (by decide) (by decide +kernel)
    · exact isPrime_of (k := 1582) (by decide) (by decide) (by decide +kernel)
    · exact isPrime_of (k := 1589) (by decide) (by decide) (by decide +kernel)
    · exact isPrime_of (k := 7240) (by decide) (by decide) (by decide +kernel)
    · exact isPrime_of (k := 15960) (by decide) (by decide) (by decide +kernel)
  intro q hq
  refine all q ?_
  simp only [rFactors, List.mem_cons, List.not_mem_nil, or_false] at hq ⊢
  omega

theorem r_minus : rFactors.foldr (· * ·) 1 = rN - 1 := by decide +kernel

theorem r_pow (e : Nat) (he : e < 2 ^ 256) : 7 ^ e % rN = powm rN 7 256 e := (powm_eq 256 e he).symm

theorem r_root : 7 ^ (rN - 1) % rN = 1 := by
  rw [r_pow _ (by decide +kernel)]
  decide +kernel

theorem r_not : ∀ q ∈ rFactors, 7 ^ ((rN - 1) / q) % rN ≠ 1 := by
  have all : ∀ q ∈ [2, 3, 11, 19, 10177, 125527, 859267, 906349, 2508409, 2529403, 52437899, 254760293], 7 ^ ((rN - 1) / q) % rN ≠ 1 := by
    intro q hq
    simp only [List.mem_cons, List.not_mem_nil, or_false] at hq
    rcases hq with rfl | rfl | rfl | rfl | rfl | rfl | rfl | rfl | rfl | rfl | rfl | rfl
    all_goals
      rw [r_pow _ (by decide +kernel)]
      decide +kernel
  intro q hq
  refine all q ?_
  simp only [rFactors, List.mem_cons, List.not_mem_nil, or_false] at hq ⊢
  omega

/-- Fermat's little theorem at r. -/
theorem r_fermat (x : Nat) (h0 : 0 < x) (h1 : x < rN) : x ^ (rN - 1) % rN = 1 :=
  fermat_of (by decide +kernel) rFactors_prime r_minus r_root r_not x h0 h1

theorem r_inv (x : Nat) (h0 : 0 < x) (h1 : x < rN) : x * (x ^ (rN - 2) % rN) % rN = 1 := by
  rw [Nat.mul_mod_mod, Nat.mul_comm, ← Nat.pow_succ, show (rN - 2).succ = rN - 1 by decide +kernel]
  exact r_fermat x h0 h1

theorem r_self (x : Nat) (h1 : x < rN) : x ^ rN % rN = x := by
  rcases Nat.eq_zero_or_pos x with h | h
  · subst h; rw [Nat.zero_pow (by decide +kernel)]; exact Nat.zero_mod _
  · have e : x ^ rN = x ^ (rN - 1) * x := by
      rw [← Nat.pow_succ]; congr 1
    rw [e, Nat.mul_mod, r_fermat x h h1, Nat.one_mul, Nat.mod_mod, Nat.mod_eq_of_lt h1]
end Go.Proofs.Ytlpaegmnahcbjaa
