/- What is proved here: contracts of the reference's Less, minus and Rem; sums and differences of limbs, as the references reckon them. -/
import Derived.Test.YtkkmekdhejhapaaGreatOwn
import Derived.Test.YtkkmekdhejhapaaGreatCmp
import Derived.WalkSmall
import Derived.Test.YtkkmekdhejhapaaGreatNum
namespace Go.Proofs.YtkkmekdhejhapaaGreat
section
open Go.RowKit
theorem less_limb {zs ts : List Nat} {q : Nat} (s1 : Small zs) (s2 : Small ts) (h : ∀ j, q + 1 ≤ j → lm zs j = lm ts j) (hne : lm zs q ≠ lm ts q) : (lm zs q < lm ts q) = (val zs < val ts) := by
  rcases Nat.lt_or_ge (lm zs q) (lm ts q) with g | g
  · exact propext ⟨fun _ => val_lt_of_limb s1 s2 q (fun j hj => h j hj) g, fun _ => g⟩
  · have := val_lt_of_limb s2 s1 q (fun j hj => (h j hj).symm) (by omega)
    exact propext ⟨fun h1 => absurd h1 (by omega), fun h1 => absurd h1 (by omega)⟩
def ltB (x y : Nat) : Bool := decide (x < y)
theorem subLimb_step2 {zs ts : List Nat} (s1 : Small zs) (s2 : Small ts) {K k : Nat} (hk : k < K) :
    (row K (difLo (val zs) (val ts) (2 ^ (64 * k)))).set k (subLo (lm zs k) (lm ts k) (difHi (val zs) (val ts) (2 ^ (64 * k)))) = row K (difLo (val zs) (val ts) (2 ^ (64 * (k + 1)))) ∧
    subHi (lm zs k) (lm ts k) (difHi (val zs) (val ts) (2 ^ (64 * k))) = difHi (val zs) (val ts) (2 ^ (64 * (k + 1))) := by
  have hp := Nat.two_pow_pos (64 * k)
  obtain ⟨e1, e2⟩ := dif_digit (val zs) (val ts) (2 ^ (64 * k)) (2 ^ 64) hp (by decide)
  rw [← lm_val s1, ← lm_val s2, Nat.mul_comm, ← pow64] at e1
  rw [← lm_val s1, ← lm_val s2, Nat.mul_comm, ← pow64] at e2
  refine ⟨?_, e2.symm⟩
  rw [row_set _ _ _ (subLo _ _ _) (difLo_lt _ _ _ hp) (Nat.mod_lt _ (by decide)) hk, e1]
  rfl
end

section
open Go.RowKit
theorem minus_forms (x y b : Nat) (hx : x < 2 ^ 64) (hy : y < 2 ^ 64) (hb : b ≤ 1) : ∃ d : Nat, IntKind.u64.wrap ((x : Int) - (y : Int)) = (d : Int) ∧ IntKind.u64.wrap ((d : Int) - (b : Int)) = ((subLo x y b : Nat) : Int) := by
  refine ⟨(x + 2 ^ 64 - y) % 2 ^ 64, by rw [IntKind.wrap_u64]; omega, ?_⟩
  rw [IntKind.wrap_u64]
  unfold subLo
  omega
theorem plus_forms (x y b : Nat) (_hx : x < 2 ^ 64) (_hy : y < 2 ^ 64) (_hb : b ≤ 1) : ∃ d : Nat, IntKind.u64.wrap ((x : Int) + (y : Int)) = (d : Int) ∧ IntKind.u64.wrap ((d : Int) + (b : Int)) = ((sumLo x y b : Nat) : Int) := by
  refine ⟨(x + y) % 2 ^ 64, by rw [IntKind.wrap_u64]; omega, ?_⟩
  rw [IntKind.wrap_u64]
  unfold sumLo
  omega
theorem minus_more (x y b : Nat) (_hx : x < 2 ^ 64) (_hy : y < 2 ^ 64) (hb : b ≤ 1) : (x < y → subHi x y b = 1) ∧ (x = y → b = 1 → subHi x y b = 1) ∧ (x = y → b = 0 → subHi x y b = 0) ∧ (y < x → subHi x y b = 0) := by
  unfold subHi
  refine ⟨fun h => if_pos (by omega), fun h h2 => if_pos (by omega), fun h h2 => if_neg (by omega), fun h => if_neg (by omega)⟩
theorem plus_more (x y b : Nat) (hx : x < 2 ^ 64) (hy : y < 2 ^ 64) (hb : b ≤ 1) : (sumLo x y b < x → sumHi x y b = 1) ∧ (sumLo x y b = x → b = 1 → sumHi x y b = 1) ∧ (sumLo x y b = x → b = 0 → sumHi x y b = 0) ∧ (x < sumLo x y b → sumHi x y b = 0) := by
  unfold sumHi sumLo
  refine ⟨fun h => by omega, fun h h2 => by omega, fun h h2 => by omega, fun h => by omega⟩
end
end Go.Proofs.YtkkmekdhejhapaaGreat
