/- What is proved here: contracts of the reference's Less, minus and Rem. -/
import Derived.Test.YtlpaegmnahcbjaaRefMul
import Derived.Test.YtlpaegmnahcbjaaCmp
import Derived.WalkSmall
namespace Go.Proofs.Ytlpaegmnahcbjaa
open Go.RowKit

theorem less_limb {zs ts : List Nat} {q : Nat} (s1 : Small zs) (s2 : Small ts) (h : ∀ j, q + 1 ≤ j → lm zs j = lm ts j) (hne : lm zs q ≠ lm ts q) : (lm zs q < lm ts q) = (val zs < val ts) := by
  rcases Nat.lt_or_ge (lm zs q) (lm ts q) with g | g
  · exact propext ⟨fun _ => val_lt_of_limb s1 s2 q (fun j hj => h j hj) g, fun _ => g⟩
  · have := val_lt_of_limb s2 s1 q (fun j hj => (h j hj).symm) (by omega)
    exact propext ⟨fun h1 => absurd h1 (by omega), fun h1 => absurd h1 (by omega)⟩

def ltB (x y : Nat) : Bool := decide (x < y)

theorem subLimb_step2 {zs ts : List Nat} (s1 : Small zs) (s2 : Small ts) {K k : Nat} (hk : k < K) :
    (row K (difLo (val zs) (val ts) (2 ^ (64 * k)))).set k (subLo (lm zs k) (lm ts k) (difHi (val zs) (val ts) (2 ^ (64 * k)))) = row K (difLo (val zs) (val ts) (2 ^ (64 * (k + 1)))) ∧
    subHi (lm zs k) (lm ts k) (difHi (val zs) (val ts) (2 ^ (64 * k))) = difHi (val zs) (val ts) (2 ^ (64 * (k + 1))) := by
  have hp := Nat.two_pow_pos (64 * k)
  obtain ⟨e1, e2⟩ := dif_digit (val zs) (val ts) (2 ^ (64 * k)) (2 ^ 64) hp (by decide)
  rw [← lm_val s1, ← lm_val s2, Nat.mul_comm, ← pow64] at e1
  rw [← lm_val s1, ← lm_val s2, Nat.mul_comm, ← pow64] at e2
  refine ⟨?_, e2.symm⟩
  rw [row_set _ _ _ (subLo _ _ _) (difLo_lt _ _ _ hp) (Nat.mod_lt _ (by decide)) hk, e1]
  rfl

/-- The four ways of a limb's difference. -/
theorem minus_ways (x y b : Nat) (hx : x < 2 ^ 64) (hy : y < 2 ^ 64) (hb : b ≤ 1) :
    (x < y ∧ ∃ q : Nat, IntKind.u64.wrap ((x : Int) - (y : Int)) = (q : Int) ∧ b ≤ q ∧ q ≤ 18446744073709551615 ∧ subLo x y b = q - b ∧ subHi x y b = 1) ∨
    (x = y ∧ b = 0 ∧ subLo x y b = 0 ∧ subHi x y b = 0) ∨
    (x = y ∧ b = 1 ∧ subLo x y b = 18446744073709551615 ∧ subHi x y b = 1) ∨
    (y < x ∧ subLo x y b = x - y - b ∧ subHi x y b = 0) := by
  unfold subLo subHi
  rcases Nat.lt_trichotomy x y with h | h | h
  · refine .inl ⟨h, x + 2 ^ 64 - y, by rw [IntKind.wrap_u64]; omega, by omega, by omega, by omega, by rw [if_pos (by omega)]⟩
  · rcases (show b = 0 ∨ b = 1 by omega) with hb | hb
    · exact .inr (.inl ⟨h, hb, by omega, by rw [if_neg (by omega)]⟩)
    · exact .inr (.inr (.inl ⟨h, hb, by omega, by rw [if_pos (by omega)]⟩))
  · exact .inr (.inr (.inr ⟨h, by omega, by rw [if_neg (by omega)]⟩))

theorem dif_done2 {zs ts : List Nat} {K : Nat} (h1 : val zs < 2 ^ (64 * K)) (hle : val ts ≤ val zs) :
    row K (difLo (val zs) (val ts) (2 ^ (64 * K))) = row K (val zs - val ts) := by
  unfold difLo
  rw [Nat.mod_eq_of_lt h1, Nat.mod_eq_of_lt (Nat.lt_of_le_of_lt hle h1), row_mod]
  rw [← row_mod K (val zs + 2 ^ (64 * K) - val ts), ← row_mod K (val zs - val ts)]
  congr 1
  rw [show val zs + 2 ^ (64 * K) - val ts = (val zs - val ts) + 2 ^ (64 * K) by omega, Nat.add_mod_right]

theorem mod_step {zs : List Nat} (s1 : Small zs) {K k : Nat} (hk : k < K) : (row K (val zs % 2 ^ (64 * k))).set k (lm zs k) = row K (val zs % 2 ^ (64 * (k + 1))) := by
  rw [row_set _ _ _ _ (Nat.mod_lt _ (Nat.two_pow_pos _)) (lm_lt s1 k) hk, mod_limb, lm_val s1]

theorem bit_half (X q : Nat) : X / 2 ^ q = 2 * (X / 2 ^ (q + 1)) + X / 2 ^ q % 2 := by
  rw [Nat.pow_succ, ← Nat.div_div_eq_div_mul]
  omega

/-- One bit more of a rest. -/
theorem rest_bit {A M q b : Nat} (hM : 0 < M) (hb : b = A / 2 ^ q % 2) :
    (2 * (A / 2 ^ (q + 1) % M) + b < M → 2 * (A / 2 ^ (q + 1) % M) + b = A / 2 ^ q % M) ∧ (M ≤ 2 * (A / 2 ^ (q + 1) % M) + b → 2 * (A / 2 ^ (q + 1) % M) + b - M = A / 2 ^ q % M) ∧ 2 * (A / 2 ^ (q + 1) % M) + b < 2 * M := by
  have e := bit_half A q
  rw [← hb] at e
  have h1 := Nat.mod_lt (A / 2 ^ (q + 1)) hM
  have hb2 : b < 2 := by rw [hb]; exact Nat.mod_lt _ (by decide)
  have e2 : A / 2 ^ q % M = (2 * (A / 2 ^ (q + 1) % M) + b) % M := by
    rw [e]
    conv => lhs; rw [← Nat.div_add_mod (A / 2 ^ (q + 1)) M]
    rw [Nat.mul_add, Nat.mul_left_comm, Nat.add_assoc, Nat.mul_add_mod]
  rw [e2]
  generalize A / 2 ^ (q + 1) % M = r at *
  refine ⟨fun h => (Nat.mod_eq_of_lt h).symm, fun h => ?_, by omega⟩
  rw [Nat.mod_eq_sub_mod h]
  exact (Nat.mod_eq_of_lt (by omega)).symm

theorem val_row_lt {K v : Nat} (h : v < 2 ^ (64 * K)) : val (row K v) = v := by rw [val_row, Nat.mod_eq_of_lt h]

theorem row_take {k m v : Nat} (h : k ≤ m) : (row m v).take k = row k v := by
  induction k generalizing m v with
  | zero => simp [row]
  | succ k ih =>
    cases m with
    | zero => omega
    | succ m => simp only [row, List.take_succ_cons]; rw [ih (by omega)]

/-- What the reference's Rem leaves. -/
def Rems (K v : Nat) (w : World) (e : Ending) (w' : World) : Prop :=
  ∃ ad cap, e = .returned (.slice ad K cap) ∧ View w' ad K (row K v) ∧ Below w.heap.size w w'
end Go.Proofs.Ytlpaegmnahcbjaa
