/- What is proved here: in a commutative ring a sum to the power of a prime p is the sum of the powers, but for what is p times something. -/
import Derived.WalkKit
namespace Go.Proofs.Ytodabjelnllkgaa

/-- Sums and products that go in any order and grouping, and products over sums. -/
structure Semi (R : Type) where
  add : R → R → R
  mul : R → R → R
  zero : R
  one : R
  add_comm : ∀ x y, add x y = add y x
  add_assoc : ∀ x y z, add (add x y) z = add x (add y z)
  zero_add : ∀ x, add zero x = x
  mul_comm : ∀ x y, mul x y = mul y x
  mul_assoc : ∀ x y z, mul (mul x y) z = mul x (mul y z)
  one_mul : ∀ x, mul one x = x
  zero_mul : ∀ x, mul zero x = zero
  add_mul : ∀ x y z, mul (add x y) z = add (mul x z) (mul y z)

namespace Semi
variable {R : Type} (S : Semi R)

def pow (x : R) : Nat → R
  | 0 => S.one
  | n + 1 => S.mul (pow x n) x

/-- n times x. -/
def ns : Nat → R → R
  | 0, _ => S.zero
  | n + 1, x => S.add (ns n x) x

/-- f 0 + .. + f (n - 1). -/
def sum : Nat → (Nat → R) → R
  | 0, _ => S.zero
  | n + 1, f => S.add (sum n f) (f n)

theorem add_congr {a b c d : R} (h : a = b) (h' : c = d) : S.add a c = S.add b d := by rw [h, h']

theorem add_zero (x : R) : S.add x S.zero = x := by rw [S.add_comm, S.zero_add]

theorem add_left_comm (x y z : R) : S.add x (S.add y z) = S.add y (S.add x z) := by rw [← S.add_assoc, S.add_comm x y, S.add_assoc]

theorem add_four (a b c d : R) : S.add (S.add a b) (S.add c d) = S.add (S.add a c) (S.add b d) := by
  rw [S.add_assoc, S.add_assoc, S.add_left_comm b c d]

theorem ns_add (m n : Nat) (x : R) : S.ns (m + n) x = S.add (S.ns m x) (S.ns n x) := by
  induction n with
  | zero => rw [Nat.add_zero, ns, S.add_zero]
  | succ n ih => rw [← Nat.add_assoc, ns, ih, ns, S.add_assoc]

theorem ns_sum (n : Nat) (x y : R) : S.ns n (S.add x y) = S.add (S.ns n x) (S.ns n y) := by
  induction n with
  | zero => rw [ns, ns, ns, S.add_zero]
  | succ n ih => rw [ns, ns, ns, ih, S.add_four]

theorem ns_zero (n : Nat) : S.ns n S.zero = S.zero := by
  induction n with
  | zero => rfl
  | succ n ih => rw [ns, ih, S.add_zero]

theorem ns_mul (m n : Nat) (x : R) : S.ns (m * n) x = S.ns m (S.ns n x) := by
  induction m with
  | zero => rw [Nat.zero_mul, ns, ns]
  | succ m ih => rw [Nat.succ_mul, ns_add, ih, ns]

theorem mul_ns (n : Nat) (x y : R) : S.mul (S.ns n x) y = S.ns n (S.mul x y) := by
  induction n with
  | zero => rw [ns, ns, S.zero_mul]
  | succ n ih => rw [ns, ns, S.add_mul, ih]

theorem ns_one (x : R) : S.ns 1 x = x := by rw [ns, ns, S.zero_add]

theorem sum_congr {n : Nat} {f g : Nat → R} (h : ∀ k, k < n → f k = g k) : S.sum n f = S.sum n g := by
  induction n with
  | zero => rfl
  | succ n ih => rw [sum, sum, ih (fun k hk => h k (by omega)), h n (by omega)]

theorem sum_add (n : Nat) (f g : Nat → R) : S.sum n (fun k => S.add (f k) (g k)) = S.add (S.sum n f) (S.sum n g) := by
  induction n with
  | zero => rw [sum, sum, sum, S.add_zero]
  | succ n ih => rw [sum, sum, sum, ih, S.add_four]

theorem sum_mul (n : Nat) (f : Nat → R) (c : R) : S.mul (S.sum n f) c = S.sum n (fun k => S.mul (f k) c) := by
  induction n with
  | zero => rw [sum, sum, S.zero_mul]
  | succ n ih => rw [sum, sum, S.add_mul, ih]

theorem sum_first (n : Nat) (f : Nat → R) : S.sum (n + 1) f = S.add (f 0) (S.sum n (fun k => f (k + 1))) := by
  induction n with
  | zero => rw [sum, sum, sum, S.zero_add, S.add_zero]
  | succ n ih => rw [sum, ih, sum, S.add_assoc]

theorem ns_sums (n m : Nat) (f : Nat → R) : S.ns n (S.sum m f) = S.sum m (fun k => S.ns n (f k)) := by
  induction m with
  | zero => rw [sum, sum, ns_zero]
  | succ m ih => rw [sum, sum, ns_sum, ih]
end Semi

/-- How many ways to choose. -/
def ch : Nat → Nat → Nat
  | _, 0 => 1
  | 0, _ + 1 => 0
  | n + 1, k + 1 => ch n k + ch n (k + 1)

theorem ch_zero (n : Nat) : ch n 0 = 1 := by cases n <;> rfl
theorem ch_succ (n k : Nat) : ch (n + 1) (k + 1) = ch n k + ch n (k + 1) := rfl
theorem ch_over : ∀ (n k : Nat), n < k → ch n k = 0
  | 0, 0, h => absurd h (Nat.lt_irrefl 0)
  | 0, _ + 1, _ => rfl
  | _ + 1, 0, h => absurd h (Nat.not_lt_zero _)
  | n + 1, k + 1, h => by rw [ch_succ, ch_over n k (by omega), ch_over n (k + 1) (by omega)]
theorem ch_self : ∀ n : Nat, ch n n = 1
  | 0 => rfl
  | n + 1 => by rw [ch_succ, ch_self n, ch_over n (n + 1) (by omega)]

theorem ch_absorb : ∀ (n k : Nat), (k + 1) * ch (n + 1) (k + 1) = (n + 1) * ch n k
  | 0, 0 => rfl
  | 0, k + 1 => by rw [ch_succ, ch_over 0 (k + 1) (by omega), ch_over 0 (k + 1 + 1) (by omega)]; simp
  | m + 1, 0 => by
    have h := ch_absorb m 0
    rw [ch_zero] at h ⊢
    rw [ch_succ, ch_zero, Nat.mul_add, h]
    omega
  | m + 1, j + 1 => by
    have h1 := ch_absorb m (j + 1)
    have h2 := ch_absorb m j
    rw [ch_succ (m + 1) (j + 1), Nat.mul_add, h1, Nat.succ_mul (j + 1), h2]
    have h3 := ch_succ m j
    generalize ch (m + 1) (j + 1) = a at *
    generalize ch m j = b at *
    generalize ch m (j + 1) = c at *
    subst h3
    grind

/-- A prime divides its own choices. -/
theorem ch_prime {p : Nat} (hp : ∀ a b : Nat, p ∣ a * b → p ∣ a ∨ p ∣ b) {k : Nat} (h0 : 0 < k) (hk : k < p) : p ∣ ch p k := by
  obtain ⟨n, rfl⟩ : ∃ n, p = n + 1 := ⟨p - 1, by omega⟩
  obtain ⟨j, rfl⟩ : ∃ j, k = j + 1 := ⟨k - 1, by omega⟩
  rcases hp (j + 1) (ch (n + 1) (j + 1)) ⟨ch n j, ch_absorb n j⟩ with h | h
  · exact absurd (Nat.le_of_dvd (by omega) h) (by omega)
  · exact h

namespace Semi
variable {R : Type} (S : Semi R)

theorem binomial (x y : R) (n : Nat) : S.pow (S.add x y) n = S.sum (n + 1) (fun k => S.ns (ch n k) (S.mul (S.pow x k) (S.pow y (n - k)))) := by
  induction n with
  | zero => rw [sum, sum, S.zero_add]; show S.one = S.ns 1 (S.mul S.one S.one); rw [ns_one, S.one_mul]
  | succ n ih =>
    have hx : ∀ k, S.mul (S.ns (ch n k) (S.mul (S.pow x k) (S.pow y (n - k)))) x = S.ns (ch n k) (S.mul (S.pow x (k + 1)) (S.pow y (n - k))) := fun k => by
      rw [mul_ns, pow, S.mul_assoc, S.mul_comm (S.pow y (n - k)) x, ← S.mul_assoc]
    have hy : ∀ k, k < n + 1 → S.mul (S.ns (ch n k) (S.mul (S.pow x k) (S.pow y (n - k)))) y = S.ns (ch n k) (S.mul (S.pow x k) (S.pow y (n + 1 - k))) := fun k hk => by
      rw [mul_ns, S.mul_assoc, show n + 1 - k = (n - k) + 1 by omega, pow]
    have e1 : S.mul (S.pow (S.add x y) n) x = S.sum (n + 1) (fun k => S.ns (ch n k) (S.mul (S.pow x (k + 1)) (S.pow y (n - k)))) := by
      rw [ih, sum_mul]
      exact S.sum_congr fun k _ => hx k
    have e2 : S.mul (S.pow (S.add x y) n) y = S.add (S.ns (ch (n + 1) 0) (S.mul (S.pow x 0) (S.pow y (n + 1)))) (S.sum (n + 1) (fun k => S.ns (ch n (k + 1)) (S.mul (S.pow x (k + 1)) (S.pow y (n - k))))) := by
      rw [ih, sum_mul, S.sum_congr hy, sum_first, sum, ch_over n (n + 1) (by omega), ns, S.add_zero, ch_zero, ch_zero]
      refine S.add_congr rfl (S.sum_congr fun k hk => ?_)
      rw [show n + 1 - (k + 1) = n - k by omega]
    rw [pow, S.mul_comm, S.add_mul, S.mul_comm x, S.mul_comm y, e1, e2, S.add_left_comm, sum_first S (n + 1)]
    refine S.add_congr rfl ?_
    rw [← sum_add]
    refine S.sum_congr fun k _ => ?_
    rw [show n + 1 - (k + 1) = n - k by omega, ch_succ, ns_add]

/-- The power of a prime of a sum. -/
theorem frobenius {p : Nat} (h2 : 2 ≤ p) (hp : ∀ a b : Nat, p ∣ a * b → p ∣ a ∨ p ∣ b) (x y : R) : ∃ z, S.pow (S.add x y) p = S.add (S.add (S.pow x p) (S.pow y p)) (S.ns p z) := by
  obtain ⟨n, rfl⟩ : ∃ n, p = n + 1 := ⟨p - 1, by omega⟩
  have hc : ∀ k, ∃ c, k < n → ch (n + 1) (k + 1) = (n + 1) * c := fun k => by
    by_cases hk : k < n
    · obtain ⟨c, hc⟩ := ch_prime hp (k := k + 1) (by omega) (by omega)
      exact ⟨c, fun _ => hc⟩
    · exact ⟨0, fun h => absurd h hk⟩
  obtain ⟨c, hc⟩ := Classical.skolem.1 hc
  refine ⟨S.sum n (fun k => S.ns (c k) (S.mul (S.pow x (k + 1)) (S.pow y (n + 1 - (k + 1))))), ?_⟩
  rw [binomial, sum_first, sum, ns_sums]
  rw [S.sum_congr (g := fun k => S.ns (n + 1) (S.ns (c k) (S.mul (S.pow x (k + 1)) (S.pow y (n + 1 - (k + 1)))))) (fun k hk => by rw [hc k hk, ns_mul])]
  rw [ch_zero, ch_self, ns_one, ns_one, Nat.sub_self, Nat.sub_zero]
  show S.add (S.mul S.one (S.pow y (n + 1))) (S.add _ (S.mul (S.pow x (n + 1)) S.one)) = _
  rw [S.one_mul, S.mul_comm _ S.one, S.one_mul, S.add_comm (S.pow y (n + 1)), S.add_assoc, S.add_comm _ (S.add (S.pow x (n + 1)) (S.pow y (n + 1)))]
end Semi

end Go.Proofs.Ytodabjelnllkgaa
