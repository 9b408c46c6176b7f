/- What is proved here: contracts of nat.Add and nat.Sub: the sum and the difference of two numbers (of at most sixteen limbs each), of the greater width, and what goes beyond. -/
import Derived.Test.YtdbfpbnabpapdaaOwn
namespace Go.Proofs.Ytdbfpbnabpapdaa
open Go.RowKit

/-- What a call leaves that answers a new row of K limbs and a limb: the number v, modulo the width; the limb c. -/
def Makes2 (K v c : Nat) (w : World) (e : Ending) (w' : World) : Prop :=
  ∃ g : Nat, e = .returned (.tuple #[.slice (some ⟨g, 0, none⟩) K K, .int .u64 (c : Int)]) ∧ Own w' g (row K v) ∧ w.heap.size ≤ g ∧ Below w.heap.size w w'

theorem subLimb_step {zs ts : List Nat} (s1 : Small zs) (s2 : Small ts) {K k : Nat} (hk : k < K) :
    (row K (difLo (val zs) (val ts) (2 ^ (64 * k)))).set k (subLo (lm zs k) (lm ts k) (difHi (val zs) (val ts) (2 ^ (64 * k)))) = row K (difLo (val zs) (val ts) (2 ^ (64 * (k + 1)))) ∧
    subHi (lm zs k) (lm ts k) (difHi (val zs) (val ts) (2 ^ (64 * k))) = difHi (val zs) (val ts) (2 ^ (64 * (k + 1))) := by
  have hp := Nat.two_pow_pos (64 * k)
  obtain ⟨e1, e2⟩ := dif_digit (val zs) (val ts) (2 ^ (64 * k)) (2 ^ 64) hp (by decide)
  rw [← lm_val s1, ← lm_val s2, Nat.mul_comm, ← pow64] at e1
  rw [← lm_val s1, ← lm_val s2, Nat.mul_comm, ← pow64] at e2
  refine ⟨?_, e2.symm⟩
  rw [row_set _ _ _ (subLo _ _ _) (difLo_lt _ _ _ hp) (Nat.mod_lt _ (by decide)) hk, e1]
  rfl

/-- 1 if below. -/
def ltN (x y : Nat) : Nat := if x < y then 1 else 0

theorem dif_done {zs ts : List Nat} {K : Nat} (h1 : val zs < 2 ^ (64 * K)) (h2 : val ts < 2 ^ (64 * K)) :
    row K (difLo (val zs) (val ts) (2 ^ (64 * K))) = row K (val zs + 2 ^ (64 * K) - val ts) ∧ difHi (val zs) (val ts) (2 ^ (64 * K)) = ltN (val zs) (val ts) := by
  unfold difLo difHi ltN
  rw [Nat.mod_eq_of_lt h1, Nat.mod_eq_of_lt h2, row_mod]
  exact ⟨rfl, rfl⟩
end Go.Proofs.Ytdbfpbnabpapdaa
