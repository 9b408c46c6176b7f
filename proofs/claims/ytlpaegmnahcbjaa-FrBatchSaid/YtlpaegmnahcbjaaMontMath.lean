/- What is proved here: plain facts on numbers modulo an odd number: halving, cancelling powers of 2, the step of a product that drops its lowest limb, the inverse of an odd limb; nothing of any program. -/
import Derived.Test.YtlpaegmnahcbjaaMath
namespace Go.Proofs.Ytlpaegmnahcbjaa

/-- Twice is cancelled modulo an odd number. -/
theorem cancel_two {M x y : Nat} (hM : M % 2 = 1) (h : 2 * x % M = 2 * y % M) : x % M = y % M := by
  have e : ∀ z, z % M = (2 * z % M) * ((M + 1) / 2) % M := by
    intro z
    rw [Nat.mod_mul_mod, show 2 * z * ((M + 1) / 2) = z * (2 * ((M + 1) / 2)) by rw [Nat.mul_comm 2 z, Nat.mul_assoc], show 2 * ((M + 1) / 2) = M + 1 by omega, Nat.mul_add, Nat.mul_one, Nat.add_comm, Nat.add_mul_mod_self_right]
  rw [e x, e y, h]

/-- A power of 2 is cancelled modulo an odd number. -/
theorem cancel_pow {M x y k : Nat} (hM : M % 2 = 1) (h : x * 2 ^ k % M = y * 2 ^ k % M) : x % M = y % M := by
  induction k with
  | zero => simpa using h
  | succ k ih =>
    refine ih (cancel_two hM ?_)
    rw [Nat.pow_succ] at h
    rw [Nat.mul_comm 2, Nat.mul_comm 2, Nat.mul_assoc, Nat.mul_assoc]
    exact h

theorem cancel_lt {M x y k : Nat} (hM : M % 2 = 1) (hx : x < M) (hy : y < M) (h : x * 2 ^ k % M = y * 2 ^ k % M) : x = y := by
  have := cancel_pow hM h
  rwa [Nat.mod_eq_of_lt hx, Nat.mod_eq_of_lt hy] at this

/-- Half a number, modulo an odd one. -/
def halfOf (M a : Nat) : Nat := if a % 2 = 1 then (a + M) / 2 else a / 2

theorem halfOf_lt {M a : Nat} (hM : M % 2 = 1) (ha : a < M) : halfOf M a < M := by
  unfold halfOf; split <;> omega

theorem halfOf_two {M a : Nat} (hM : M % 2 = 1) (ha : a < M) : 2 * halfOf M a % M = a := by
  unfold halfOf
  split
  · next h => rw [show 2 * ((a + M) / 2) = a + M by omega, Nat.add_mod_right, Nat.mod_eq_of_lt ha]
  · next h => rw [show 2 * (a / 2) = a by omega, Nat.mod_eq_of_lt ha]

/-- Halved k times. -/
def fromOf (M : Nat) : Nat → Nat → Nat
  | 0, a => a
  | k + 1, a => halfOf M (fromOf M k a)

theorem fromOf_lt {M a : Nat} (hM : M % 2 = 1) (ha : a < M) (k : Nat) : fromOf M k a < M := by
  induction k with
  | zero => exact ha
  | succ k ih => exact halfOf_lt hM ih

theorem fromOf_pow {M a : Nat} (hM : M % 2 = 1) (ha : a < M) (k : Nat) : fromOf M k a * 2 ^ k % M = a := by
  induction k with
  | zero => simpa [fromOf] using Nat.mod_eq_of_lt ha
  | succ k ih =>
    have h2 := halfOf_two hM (fromOf_lt hM ha k)
    show halfOf M (fromOf M k a) * 2 ^ (k + 1) % M = a
    rw [Nat.pow_succ, Nat.mul_comm (2 ^ k) 2, ← Nat.mul_assoc, Nat.mul_comm _ 2, ← Nat.mod_mul_mod, h2, ih]

/-- Whatever, times 2^k, leaves a, is a halved k times. -/
theorem fromOf_eq {M a x k : Nat} (hM : M % 2 = 1) (ha : a < M) (hx : x < M) (h : x * 2 ^ k % M = a) : x = fromOf M k a :=
  cancel_lt hM hx (fromOf_lt hM ha k) (by rw [h, fromOf_pow hM ha k])

theorem dbl_mod (M a k : Nat) : 2 * (a * 2 ^ k % M) % M = a * 2 ^ (k + 1) % M := by
  rw [Nat.mul_comm 2, Nat.mod_mul_mod, Nat.pow_succ, Nat.mul_assoc]

/-- One bit of a product, doubling and adding. -/
theorem mul_bit (M A B q b : Nat) (hb : b = A / 2 ^ q % 2) :
    (2 * (A / 2 ^ (q + 1) * B % M) % M + b * B) % M = A / 2 ^ q * B % M := by
  have e : A / 2 ^ q = 2 * (A / 2 ^ (q + 1)) + A / 2 ^ q % 2 := by
    rw [Nat.pow_succ, ← Nat.div_div_eq_div_mul]; omega
  conv => rhs; rw [e, ← hb]
  rw [Nat.mod_add_mod, Nat.add_mul, Nat.mul_comm 2 (_ % M)]
  rw [← Nat.mod_add_mod, Nat.mod_mul_mod, Nat.mod_add_mod]
  congr 2
  rw [Nat.mul_comm _ 2, Nat.mul_assoc]

/-- One bit of a power, squaring and multiplying. -/
theorem pow_bit (A E q b : Nat) (hb : b = E / 2 ^ q % 2) : A ^ (E / 2 ^ (q + 1)) * A ^ (E / 2 ^ (q + 1)) * A ^ b = A ^ (E / 2 ^ q) := by
  have e : E / 2 ^ q = 2 * (E / 2 ^ (q + 1)) + E / 2 ^ q % 2 := by
    rw [Nat.pow_succ, ← Nat.div_div_eq_div_mul]; omega
  rw [← hb] at e
  generalize E / 2 ^ (q + 1) = F at *
  rw [e, Nat.pow_add, Nat.two_mul, Nat.pow_add]

/-! A product that drops its lowest limb at each step. -/

theorem val_mod_take {zs : List Nat} (hs : Small zs) (j : Nat) : val zs % 2 ^ (64 * j) = val (zs.take j) := by
  induction zs generalizing j with
  | nil => simp [val]
  | cons z zs ih =>
    cases j with
    | zero => simp [val, Nat.mod_one]
    | succ j =>
      have hz := hs.head
      simp only [List.take_succ_cons, val]
      rw [← ih hs.tail j, pow64, Nat.mod_mul]
      rw [show (z + 2 ^ 64 * val zs) % 2 ^ 64 = z by omega, show (z + 2 ^ 64 * val zs) / 2 ^ 64 = val zs by omega]

theorem val_mod_set {zs : List Nat} (hs : Small zs) {j z : Nat} (hj : j < zs.length) (hz : z < 2 ^ 64) :
    val (zs.set j z) % 2 ^ (64 * (j + 1)) = val zs % 2 ^ (64 * j) + z * 2 ^ (64 * j) := by
  have hs' := hs.set j hz
  rw [mod_limb, ← lm_val hs', lm_set _ _ _ _ hj, if_pos rfl, val_mod_take hs', val_mod_take hs, List.take_set_of_le (Nat.le_refl _)]

/-- How far one step has come: k + 1 limbs are done, the lowest limb dropped; up and over to carry. -/
structure Stepping (ss bs ms : List Nat) (x t k up over : Nat) (zs : List Nat) : Prop where
  len : zs.length = ss.length
  small : Small zs
  hup : up < 2 ^ 64
  hover : over < 2 ^ 64
  rest : ∀ j, k ≤ j → lm zs j = lm ss j
  sum : 2 ^ 64 * (val zs % 2 ^ (64 * k)) + (up + over) * 2 ^ (64 * (k + 1)) = val ss % 2 ^ (64 * (k + 1)) + x * (val bs % 2 ^ (64 * (k + 1))) + t * (val ms % 2 ^ (64 * (k + 1)))

theorem mulLoHi (x y m c : Nat) : mulLo x y m c + 2 ^ 64 * mulHi x y m c = x * y + m + c := by
  unfold mulLo mulHi; exact Nat.mod_add_div _ _

theorem mulLo_lt (x y m c : Nat) : mulLo x y m c < 2 ^ 64 := Nat.mod_lt _ (by decide)

theorem Stepping.start {ss bs ms : List Nat} (hs : Small ss) (hb : Small bs) (hm : Small ms) {x neg : Nat} (hx : x < 2 ^ 64)
    (hn : lm ms 0 * neg % 2 ^ 64 = 2 ^ 64 - 1) {t : Nat} (ht : t = mulLo (lm bs 0) x (lm ss 0) 0 * neg % 2 ^ 64) :
    Stepping ss bs ms x t 0 (mulHi (lm bs 0) x (lm ss 0) 0) (mulHi (lm ms 0) t (mulLo (lm bs 0) x (lm ss 0) 0) 0) ss := by
  have htl : t < 2 ^ 64 := by rw [ht]; exact Nat.mod_lt _ (by decide)
  have e1 := mulLoHi (lm bs 0) x (lm ss 0) 0
  have e2 := mulLoHi (lm ms 0) t (mulLo (lm bs 0) x (lm ss 0) 0) 0
  have l1 := mulLo_lt (lm bs 0) x (lm ss 0) 0
  have z : mulLo (lm ms 0) t (mulLo (lm bs 0) x (lm ss 0) 0) 0 = 0 := by
    generalize mulLo (lm bs 0) x (lm ss 0) 0 = low at *
    unfold mulLo
    rw [ht, Nat.add_zero, Nat.add_mod, Nat.mul_mod_mod, ← Nat.mul_assoc, Nat.mul_comm (lm ms 0) low, Nat.mul_assoc, Nat.mul_mod, hn, Nat.mod_mul_mod, Nat.mod_add_mod]
    have : low * (2 ^ 64 - 1) + low % 2 ^ 64 = 2 ^ 64 * low := by rw [Nat.mod_eq_of_lt l1]; omega
    rw [Nat.add_mod_mod] at *
    omega
  refine ⟨rfl, hs, mulHi_lt (lm_lt hb 0) hx (lm_lt hs 0) (by decide), mulHi_lt (lm_lt hm 0) htl l1 (by decide), fun _ _ => rfl, ?_⟩
  rw [z] at e2
  simp only [Nat.mul_zero, Nat.pow_zero, Nat.mod_one, Nat.zero_add, Nat.mul_one]
  have f : ∀ {zs : List Nat}, Small zs → val zs % 2 ^ 64 = lm zs 0 := fun h => by rw [lm_val h]; simp
  rw [f hs, f hb, f hm, Nat.mul_comm x, Nat.mul_comm t]
  omega

theorem step_sum {z u ov b x s up m t over Z S B M P c : Nat} (E0 : z + c * (u + ov) = b * x + s + up + m * t + over) (hs : c * Z + (up + over) * (c * P) = S + x * B + t * M) :
    c * (Z + z * P) + (u + ov) * (c * P * c) = S + s * (c * P) + x * (B + b * (c * P)) + t * (M + m * (c * P)) := by
  have E : (z + c * (u + ov)) * (c * P) = (b * x + s + up + m * t + over) * (c * P) := by rw [E0]
  have E1 : (z + c * (u + ov)) * (c * P) = c * (z * P) + (u + ov) * (c * P * c) := by
    rw [Nat.add_mul, Nat.mul_left_comm z, Nat.mul_comm c (u + ov), Nat.mul_assoc (u + ov), Nat.mul_comm c (c * P)]
  have E2 : (b * x + s + up + m * t + over) * (c * P) = x * (b * (c * P)) + s * (c * P) + t * (m * (c * P)) + (up + over) * (c * P) := by
    rw [show b * x + s + up + m * t + over = b * x + s + m * t + (up + over) by omega, Nat.add_mul, Nat.add_mul, Nat.add_mul, Nat.mul_comm b x, Nat.mul_assoc x, Nat.mul_comm m t, Nat.mul_assoc t]
  rw [E1, E2] at E
  rw [Nat.mul_add c, Nat.mul_add x, Nat.mul_add t]
  omega

theorem Stepping.step {ss bs ms zs : List Nat} {x t k up over : Nat} (h : Stepping ss bs ms x t k up over zs) (hss : Small ss) (hb : Small bs) (hm : Small ms) (hx : x < 2 ^ 64) (ht : t < 2 ^ 64) (hk : k + 1 < ss.length) :
    Stepping ss bs ms x t (k + 1) (mulHi (lm bs (k + 1)) x (lm zs (k + 1)) up) (mulHi (lm ms (k + 1)) t (mulLo (lm bs (k + 1)) x (lm zs (k + 1)) up) over)
      (zs.set k (mulLo (lm ms (k + 1)) t (mulLo (lm bs (k + 1)) x (lm zs (k + 1)) up) over)) := by
  have hr := h.rest (k + 1) (by omega)
  rw [hr]
  have e1 := mulLoHi (lm bs (k + 1)) x (lm ss (k + 1)) up
  have l1 := mulLo_lt (lm bs (k + 1)) x (lm ss (k + 1)) up
  have e2 := mulLoHi (lm ms (k + 1)) t (mulLo (lm bs (k + 1)) x (lm ss (k + 1)) up) over
  have l2 := mulLo_lt (lm ms (k + 1)) t (mulLo (lm bs (k + 1)) x (lm ss (k + 1)) up) over
  have hl : k < zs.length := by rw [h.len]; omega
  refine ⟨by simpa using h.len, h.small.set _ l2, mulHi_lt (lm_lt hb _) hx (lm_lt hss _) h.hup, mulHi_lt (lm_lt hm _) ht l1 h.hover, ?_, ?_⟩
  · intro j hj
    rw [lm_set _ _ _ _ hl, if_neg (by omega)]
    exact h.rest j (by omega)
  · rw [val_mod_set h.small hl l2, mod_limb (val ss) (k + 1), mod_limb (val bs) (k + 1), mod_limb (val ms) (k + 1), ← lm_val hss, ← lm_val hb, ← lm_val hm]
    have hs := h.sum
    generalize mulLo (lm ms (k + 1)) t (mulLo (lm bs (k + 1)) x (lm ss (k + 1)) up) over = z at *
    generalize mulHi (lm ms (k + 1)) t (mulLo (lm bs (k + 1)) x (lm ss (k + 1)) up) over = ov at *
    generalize mulLo (lm bs (k + 1)) x (lm ss (k + 1)) up = low at *
    generalize mulHi (lm bs (k + 1)) x (lm ss (k + 1)) up = u at *
    generalize val ss % 2 ^ (64 * (k + 1)) = S at *
    generalize val bs % 2 ^ (64 * (k + 1)) = B at *
    generalize val ms % 2 ^ (64 * (k + 1)) = M at *
    generalize val zs % 2 ^ (64 * k) = Z at *
    generalize lm ss (k + 1) = s at *
    generalize lm bs (k + 1) = b at *
    generalize lm ms (k + 1) = m at *
    rw [show 64 * (k + 1 + 1) = 64 * (k + 1) + 64 by omega, Nat.pow_add]
    have hp : 2 ^ (64 * (k + 1)) = 2 ^ 64 * 2 ^ (64 * k) := pow64 k
    rw [hp] at hs ⊢
    generalize 2 ^ (64 * k) = P at *
    have E0 : z + 2 ^ 64 * (u + ov) = b * x + s + up + m * t + over := by omega
    clear e1 e2 l1 l2 hr hl hp
    exact step_sum E0 hs

/-- What a whole step leaves. -/
theorem Stepping.done {ss bs ms zs : List Nat} {x t K up over : Nat} (h : Stepping ss bs ms x t K up over zs) (hss : Small ss) (hls : ss.length = K + 2) (hb : val bs < 2 ^ (64 * (K + 1))) (hm : val ms < 2 ^ (64 * (K + 1)))
    {lo hi : Nat} (hlo : lo < 2 ^ 64) (hhi : hi < 2 ^ 64) (he : lo + 2 ^ 64 * hi = lm ss (K + 1) + up + over) :
    2 ^ 64 * val ((zs.set K lo).set (K + 1) hi) = val ss + x * val bs + t * val ms ∧ ((zs.set K lo).set (K + 1) hi).length = K + 2 ∧ Small ((zs.set K lo).set (K + 1) hi) := by
  have hl : zs.length = K + 2 := by rw [h.len, hls]
  have s1 := h.small.set K hlo
  have s2 := s1.set (K + 1) hhi
  have l2 : ((zs.set K lo).set (K + 1) hi).length = K + 2 := by simp [hl]
  refine ⟨?_, l2, s2⟩
  have e1 := val_mod_set s1 (j := K + 1) (z := hi) (by simp [hl]) hhi
  rw [val_mod_set h.small (by omega) hlo] at e1
  have b2 := val_lt s2
  rw [l2] at b2
  rw [Nat.mod_eq_of_lt (by simpa using b2)] at e1
  rw [e1]
  have hs := h.sum
  rw [Nat.mod_eq_of_lt hb, Nat.mod_eq_of_lt hm] at hs
  have b1 := val_lt hss
  rw [hls] at b1
  have e2 := mod_limb (val ss) (K + 1)
  rw [Nat.mod_eq_of_lt (by simpa using b1), ← lm_val hss] at e2
  generalize val zs % 2 ^ (64 * K) = Z at *
  generalize val ss % 2 ^ (64 * (K + 1)) = S at *
  generalize lm ss (K + 1) = s at *
  have hp : 2 ^ (64 * (K + 1)) = 2 ^ 64 * 2 ^ (64 * K) := pow64 K
  rw [hp] at hs e2 ⊢
  generalize 2 ^ (64 * K) = P at *
  have E : (lo + 2 ^ 64 * hi) * (2 ^ 64 * P) = (s + up + over) * (2 ^ 64 * P) := by rw [he]
  have E1 : (lo + 2 ^ 64 * hi) * (2 ^ 64 * P) = 2 ^ 64 * (lo * P) + 2 ^ 64 * (hi * (2 ^ 64 * P)) := by
    rw [Nat.add_mul, Nat.mul_left_comm lo, Nat.mul_assoc (2 ^ 64) hi]
  have E2 : (s + up + over) * (2 ^ 64 * P) = s * (2 ^ 64 * P) + (up + over) * (2 ^ 64 * P) := by rw [Nat.add_assoc, Nat.add_mul]
  rw [E1, E2] at E
  simp only [Nat.mul_add]
  omega

/-- How far a product has come: k limbs of the first factor are done. -/
structure Reducing (A B M K k : Nat) (ss : List Nat) : Prop where
  len : ss.length = K + 1
  small : Small ss
  lt : val ss < 2 * M
  sum : ∃ T, val ss * 2 ^ (64 * k) = A % 2 ^ (64 * k) * B + T * M

theorem Reducing.start {A B M K : Nat} (hM : 0 < M) : Reducing A B M K 0 (List.replicate (K + 1) 0) :=
  ⟨by simp, fun x hx => by rw [(List.mem_replicate.1 hx).2]; decide, by rw [val_zeros]; omega, 0, by rw [val_zeros]; simp [Nat.mod_one]⟩

theorem Reducing.step {A B M K k x t : Nat} {ss us : List Nat} (h : Reducing A B M K k ss) (hB : B < M) (hx : x = A / 2 ^ (64 * k) % 2 ^ 64) (ht : t < 2 ^ 64)
    (hl : us.length = K + 1) (hs : Small us) (he : 2 ^ 64 * val us = val ss + x * B + t * M) : Reducing A B M K (k + 1) us := by
  have hxl : x < 2 ^ 64 := by rw [hx]; exact Nat.mod_lt _ (by decide)
  obtain ⟨T, hT⟩ := h.sum
  refine ⟨hl, hs, ?_, T + t * 2 ^ (64 * k), ?_⟩
  · have h1 := h.lt
    have h2 : x * B ≤ (2 ^ 64 - 1) * M := Nat.mul_le_mul (by omega) (Nat.le_of_lt hB)
    have h3 : t * M ≤ (2 ^ 64 - 1) * M := Nat.mul_le_mul_right _ (by omega)
    generalize x * B = p at *
    generalize t * M = q at *
    omega
  · rw [mod_limb, ← hx, pow64, ← Nat.mul_assoc, Nat.mul_comm (val us), he]
    simp only [Nat.add_mul]
    rw [hT]
    have e1 : x * B * 2 ^ (64 * k) = x * 2 ^ (64 * k) * B := Nat.mul_right_comm _ _ _
    have e2 : t * M * 2 ^ (64 * k) = t * 2 ^ (64 * k) * M := Nat.mul_right_comm _ _ _
    rw [e1, e2]
    omega

theorem Reducing.done {A B M K : Nat} {ss : List Nat} (h : Reducing A B M K K ss) (hA : A < 2 ^ (64 * K)) : val ss % M * 2 ^ (64 * K) % M = A * B % M := by
  obtain ⟨T, hT⟩ := h.sum
  rw [Nat.mod_mul_mod, hT, Nat.mod_eq_of_lt hA, Nat.add_mul_mod_self_right]

/-- A sum below the modulus twice, less it where that goes. -/
theorem settled {ss : List Nat} {M K : Nat} (hs : Small ss) (hl : ss.length = K + 1) (h2 : val ss < 2 * M) (hM : M < 2 ^ (64 * K)) :
    (lm ss K < (if val ss % 2 ^ (64 * K) < M then 1 else 0) → val (ss.take K) = val ss % M) ∧
    (¬ lm ss K < (if val ss % 2 ^ (64 * K) < M then 1 else 0) → (val ss % 2 ^ (64 * K) + 2 ^ (64 * K) - M) % 2 ^ (64 * K) = val ss % M) := by
  have b := val_lt hs
  rw [hl] at b
  have e := mod_limb (val ss) K
  rw [Nat.mod_eq_of_lt b, ← lm_val hs] at e
  have hq := Nat.mod_lt (val ss) (Nat.two_pow_pos (64 * K))
  rw [← val_mod_take hs]
  generalize val ss % 2 ^ (64 * K) = L at *
  generalize val ss = V at *
  generalize lm ss K = h at *
  generalize 2 ^ (64 * K) = R at *
  refine ⟨fun hh => ?_, fun hh => ?_⟩
  · by_cases c : L < M
    · rw [if_pos c] at hh
      obtain rfl : h = 0 := by omega
      rw [Nat.zero_mul, Nat.add_zero] at e
      rw [e, Nat.mod_eq_of_lt c]
    · rw [if_neg c] at hh; omega
  · have hr : V % M = V - M ∧ M ≤ V := by
      have hge : M ≤ V := by
        by_cases c : L < M
        · rw [if_pos c] at hh
          have : R ≤ h * R := Nat.le_mul_of_pos_left _ (by omega)
          omega
        · omega
      exact ⟨by rw [Nat.mod_eq_sub_mod hge, Nat.mod_eq_of_lt (by omega)], hge⟩
    rw [hr.1]
    rcases Nat.eq_zero_or_pos h with h0 | h0
    · subst h0
      rw [Nat.zero_mul, Nat.add_zero] at e
      subst e
      rw [show V + R - M = V - M + R by omega, Nat.add_mod_right, Nat.mod_eq_of_lt (by omega)]
    · have h1 : h = 1 := by
        rcases Nat.lt_or_ge h 2 with g | g
        · omega
        · have : 2 * R ≤ h * R := Nat.mul_le_mul_right _ g
          omega
      subst h1
      rw [show L + R - M = V - M by omega, Nat.mod_eq_of_lt (by omega)]

/-! The number that makes of an odd limb all bits 1. -/

/-- What Neg answers. -/
def NegOf (m n : Nat) : Prop := n < 2 ^ 64 ∧ (m % 2 = 0 → n = 0) ∧ (m % 2 = 1 → m * n % 2 ^ 64 = 2 ^ 64 - 1)

theorem NegOf.unique {m n n' : Nat} (h : NegOf m n) (h' : NegOf m n') : n = n' := by
  rcases Nat.mod_two_eq_zero_or_one m with e | e
  · rw [h.2.1 e, h'.2.1 e]
  · have h1 := h.2.2 e
    have h2 := h'.2.2 e
    have l1 := h.1
    have l2 := h'.1
    -- n' ≡ n' * (m * n) * -1 ≡ (m * n') * n * -1 ≡ n
    have k1 : m * n * n' % 2 ^ 64 = (2 ^ 64 - 1) * n' % 2 ^ 64 := by rw [← Nat.mod_mul_mod, h1]
    have k2 : m * n' * n % 2 ^ 64 = (2 ^ 64 - 1) * n % 2 ^ 64 := by rw [← Nat.mod_mul_mod, h2]
    rw [Nat.mul_right_comm] at k2
    rw [k1] at k2
    omega

/-- One more bit is made 1. -/
theorem neg_bit {m n i : Nat} (hm : m % 2 = 1) (h : (m * n + 1) % 2 ^ i = 0) :
    (m * n / 2 ^ i % 2 = 0 → (m * (n + 2 ^ i) + 1) % 2 ^ (i + 1) = 0) ∧ (m * n / 2 ^ i % 2 = 1 → (m * n + 1) % 2 ^ (i + 1) = 0) := by
  have hp := Nat.two_pow_pos i
  obtain ⟨Q, hQ⟩ := Nat.dvd_of_mod_eq_zero h
  have hQ0 : 0 < Q := by
    rcases Nat.eq_zero_or_pos Q with g | g
    · subst g; omega
    · exact g
  have hq : m * n / 2 ^ i = Q - 1 := by
    have : m * n = 2 ^ i * (Q - 1) + (2 ^ i - 1) := by rw [Nat.mul_sub, Nat.mul_one]; have := Nat.le_mul_of_pos_right (2 ^ i) hQ0; omega
    rw [this, Nat.mul_add_div hp, Nat.div_eq_of_lt (by omega), Nat.add_zero]
  rw [hq]
  refine ⟨fun g => ?_, fun g => ?_⟩
  · rw [Nat.mul_add, Nat.add_right_comm, hQ, Nat.mul_comm m, ← Nat.mul_add, Nat.pow_succ, Nat.mul_mod_mul_left, show (Q + m) % 2 = 0 by omega, Nat.mul_zero]
  · rw [hQ, Nat.pow_succ, Nat.mul_mod_mul_left, show Q % 2 = 0 by omega, Nat.mul_zero]

theorem neg_bits {m n : Nat} (h : (m * n + 1) % 2 ^ 64 = 0) : m * n % 2 ^ 64 = 2 ^ 64 - 1 := by omega

/-- How many bits of an inverse are right doubles at each step. -/
theorem newton {m i i' P Q : Int} (h : P ∣ m * i - 1) (hQ : Q ∣ P * P) (hQ2 : Q ∣ 2 ^ 64) (hi : ∃ q, i' = i * (2 - m * i) + 2 ^ 64 * q) : Q ∣ m * i' - 1 := by
  obtain ⟨q, rfl⟩ := hi
  obtain ⟨c, hc⟩ := h
  have e : m * (i * (2 - m * i) + 2 ^ 64 * q) - 1 = P * P * (-(c * c)) + 2 ^ 64 * (m * q) := by
    have : m * i = P * c + 1 := by omega
    have e1 : m * (i * (2 - m * i) + 2 ^ 64 * q) = m * i * (2 - m * i) + 2 ^ 64 * (m * q) := by
      rw [Int.mul_add, ← Int.mul_assoc, Int.mul_left_comm]
    rw [e1, this]
    have e2 : (P * c + 1) * (2 - (P * c + 1)) = 1 - P * c * (P * c) := by
      rw [Int.mul_sub, Int.add_mul, Int.add_mul, Int.mul_add]; omega
    have e3 : P * c * (P * c) = P * P * (c * c) := by
      rw [Int.mul_assoc, Int.mul_assoc, Int.mul_left_comm c]
    rw [e2, Int.mul_neg, e3]
    omega
  rw [e]
  exact Int.dvd_add (Int.dvd_mul_of_dvd_left hQ) (Int.dvd_mul_of_dvd_left hQ2)
end Go.Proofs.Ytlpaegmnahcbjaa
