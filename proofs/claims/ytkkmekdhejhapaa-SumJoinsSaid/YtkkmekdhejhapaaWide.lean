/- What is proved here: whole numbers modulo 2^448, as seven limbs: sums, products by a limb, negatives, quotients by 2^60, limb by limb; nothing of any program. -/
import Derived.Test.YtkkmekdhejhapaaNum
import Derived.Test.YtkkmekdhejhapaaInvMath
namespace Go.Proofs.Ytkkmekdhejhapaa
open Go.RowKit
def wB : Nat := 2 ^ (64 * 7)
theorem wB_eq : wB = 2 ^ (64 * 7) := by delta wB; exact Eq.refl _
theorem wB_ex : ∃ n, wB = 2 ^ n ∧ n = 448 := ⟨64 * 7, wB_eq, rfl⟩
theorem wB_split {a b : Nat} (h : a + b = 448) : wB = 2 ^ a * 2 ^ b := by
  obtain ⟨n, h1, h2⟩ := wB_ex
  rw [h1, ← Nat.pow_add, show a + b = n by omega]
theorem div_60 {W R : Nat} (h : W = 2 ^ 60 * R) : W / 2 ^ 60 = R := by rw [h, Nat.mul_div_cancel_left _ (by decide)]
def qB : Nat := 2 ^ (64 * 6)
theorem qB_eq {a : Nat} (h : a = 64 * 6) : qB = 2 ^ a := by subst h; delta qB; exact Eq.refl _
theorem qB_ex : ∃ a, qB = 2 ^ a ∧ a = 384 := ⟨64 * 6, qB_eq rfl, rfl⟩
theorem qB_pos : 0 < qB := by
  obtain ⟨a, h, _⟩ := qB_ex
  rw [h]
  exact Nat.two_pow_pos _
theorem lb_def {n i P : Nat} (h : P = 2 ^ (64 * i)) : lb n i = n / P % 2 ^ 64 := by subst h; exact rfl
theorem lb_q (n : Nat) : lb n 6 = n / qB % 2 ^ 64 := lb_def (by delta qB; exact Eq.refl _)
theorem wB_q : wB = qB * 2 ^ 64 := by
  obtain ⟨a, h, e⟩ := qB_ex
  rw [h]
  exact wB_split (by omega)
def hB : Nat := qB * 2 ^ 63
theorem hB_q : hB = qB * 2 ^ 63 := rfl
theorem wB_half : wB = hB + hB := by
  rw [wB_q, hB_q]
  generalize qB = Q
  omega
theorem wB_pos : 0 < wB := by
  obtain ⟨n, h, _⟩ := wB_ex
  rw [h]
  exact Nat.two_pow_pos _
theorem top_lt {n : Nat} (h : n < wB) : n / qB < 2 ^ 64 := by
  rw [wB_q, Nat.mul_comm] at h
  exact (Nat.div_lt_iff_lt_mul qB_pos).2 h
theorem q60 {P : Nat} (hp : 0 < P) (n m : Nat) : (n / 2 ^ 60 + P * m) / P = n / P / 2 ^ 60 + m := by
  rw [Nat.add_mul_div_left _ _ hp, Nat.div_div_eq_div_mul, Nat.div_div_eq_div_mul, Nat.mul_comm]
def wr (x : Int) : Nat := (x % (wB : Int)).toNat
theorem wr_cast (x : Int) : (wr x : Int) = x % (wB : Int) := Int.toNat_of_nonneg (Int.emod_nonneg _ (by have := wB_pos; omega))
theorem wr_lt (x : Int) : wr x < wB := by
  have h1 := Int.emod_lt_of_pos x (show (0 : Int) < (wB : Int) by have := wB_pos; omega)
  have h2 := wr_cast x
  omega
theorem wr_form (x : Int) : ∃ q : Int, x = (wr x : Int) + (wB : Int) * q := ⟨x / (wB : Int), by rw [wr_cast]; exact (Int.emod_add_mul_ediv x _).symm⟩
theorem wr_of {x : Int} {n : Nat} (q : Int) (h : x = (n : Int) + (wB : Int) * q) : wr x = n % wB := by
  have : (wr x : Int) = ((n % wB : Nat) : Int) := by
    rw [wr_cast, h, Int.add_mul_emod_self_left, Int.natCast_emod]
  omega
theorem wr_nat {n : Nat} (h : n < wB) : wr (n : Int) = n := by rw [wr_of (n := n) 0 (by simp), Nat.mod_eq_of_lt h]
theorem wr_zero : wr 0 = 0 := wr_nat wB_pos
theorem wr_plus (x y : Int) (k : Nat) : (wr x + wr y * k) % wB = wr (x + y * k) := by
  obtain ⟨q, hq⟩ := wr_form x
  obtain ⟨r, hr⟩ := wr_form y
  refine (wr_of (q + r * k) ?_).symm
  generalize wr x = a at *
  generalize wr y = b at *
  generalize (wB : Int) = W at *
  subst hq hr
  simp only [Int.natCast_add, Int.natCast_mul]
  grind
theorem wr_turn (x : Int) : (wB - wr x) % wB = wr (-x) := by
  obtain ⟨q, hq⟩ := wr_form x
  refine (wr_of (-q - 1) ?_).symm
  have h := wr_lt x
  rw [Int.natCast_sub (by omega)]
  generalize (wr x : Int) = a at *
  generalize (wB : Int) = W at *
  subst hq
  grind
def mix (T a i : Nat) : Nat := T % 2 ^ (64 * i) + 2 ^ (64 * i) * (a / 2 ^ (64 * i))
theorem mix_zero (T a : Nat) : mix T a 0 = a := by simp [mix, Nat.mod_one]
theorem mix_full {T a K : Nat} (h : a < 2 ^ (64 * K)) : mix T a K = T % 2 ^ (64 * K) := by rw [mix, Nat.div_eq_of_lt h, Nat.mul_zero, Nat.add_zero]
theorem pow_split (i j : Nat) : 2 ^ (64 * (i + j)) = 2 ^ (64 * i) * 2 ^ (64 * j) := by rw [Nat.mul_add, Nat.pow_add]
theorem lb_mod {v i j : Nat} (h : j < i) : lb (v % 2 ^ (64 * i)) j = lb v j := by
  rw [lb, lb, show i = j + (1 + (i - j - 1)) by omega, pow_split, Nat.mod_mul_right_div_self, pow_split, Nat.mod_mul_right_mod]
theorem lb_div {v i j : Nat} : lb (v / 2 ^ (64 * i)) j = lb v (i + j) := by
  rw [lb, lb, Nat.div_div_eq_div_mul, pow_split]
theorem mix_lo {T a i j : Nat} (h : j < i) : lb (mix T a i) j = lb T j := by
  rw [← lb_mod h, mix, Nat.add_mul_mod_self_left, lb_mod h, lb_mod h]
theorem mix_hi {T a i j : Nat} (h : i ≤ j) : lb (mix T a i) j = lb a j := by
  rw [show j = i + (j - i) by omega, ← lb_div, ← lb_div, mix, Nat.add_mul_div_left _ _ (Nat.two_pow_pos _), Nat.div_eq_of_lt (Nat.mod_lt _ (Nat.two_pow_pos _)), Nat.zero_add]
theorem mix_step {T a K k x : Nat} (hk : k < K) (hx : x = lb T k) : (row K (mix T a k)).set k x = row K (mix T a (k + 1)) := by
  subst hx
  apply List.ext_getElem (by rw [List.length_set, length_row, length_row])
  intro j h1 h2
  rw [length_row] at h2
  have e1 := lm_set (row K (mix T a k)) k (lb T k) j (by rw [length_row]; exact hk)
  have e2 := lb_row (K := K) (v := mix T a (k + 1)) (i := j) h2
  rw [lb_row h2] at e1
  rw [lm, List.getD_eq_getElem?_getD, List.getElem?_eq_getElem h1, Option.getD_some] at e1
  rw [lm, List.getD_eq_getElem?_getD, List.getElem?_eq_getElem (by rw [length_row]; exact h2), Option.getD_some] at e2
  rw [e1, e2]
  by_cases c : j = k
  · rw [if_pos c, c, mix_lo (by omega)]
  · rw [if_neg c]
    by_cases c2 : j < k
    · rw [mix_lo c2, mix_lo (by omega)]
    · rw [mix_hi (by omega), mix_hi (by omega)]
def ovr (a b k i : Nat) : Nat := (a % 2 ^ (64 * i) + b % 2 ^ (64 * i) * k) / 2 ^ (64 * i)
theorem ovr_zero (a b k : Nat) : ovr a b k 0 = 0 := by simp [ovr, Nat.mod_one]
theorem ovr_lt {a b k i : Nat} (hk : k < 2 ^ 63) : ovr a b k i < 2 ^ 64 := by
  unfold ovr
  have hp := Nat.two_pow_pos (64 * i)
  rw [Nat.div_lt_iff_lt_mul hp]
  have h1 := Nat.mod_lt a hp
  have h2 := Nat.mod_lt b hp
  generalize 2 ^ (64 * i) = P at *
  have h3 : b % P * k ≤ P * k := Nat.mul_le_mul_right _ (by omega)
  have h4 : P * k ≤ P * (2 ^ 63 - 1) := Nat.mul_le_mul_left _ (by omega)
  omega
theorem plus_digit (a b k i : Nat) :
    (lb b i * k + lb a i + ovr a b k i) % 2 ^ 64 = lb (a + b * k) i ∧ (lb b i * k + lb a i + ovr a b k i) / 2 ^ 64 = ovr a b k (i + 1) := by
  have hp := Nat.two_pow_pos (64 * i)
  have ha : a % 2 ^ (64 * (i + 1)) = a % 2 ^ (64 * i) + 2 ^ (64 * i) * lb a i := by rw [pow_split, Nat.mod_mul]; rfl
  have hb : b % 2 ^ (64 * (i + 1)) = b % 2 ^ (64 * i) + 2 ^ (64 * i) * lb b i := by rw [pow_split, Nat.mod_mul]; rfl
  have e : (a % 2 ^ (64 * (i + 1)) + b % 2 ^ (64 * (i + 1)) * k) / 2 ^ (64 * i) = lb b i * k + lb a i + ovr a b k i := by
    rw [ha, hb, ovr]
    generalize 2 ^ (64 * i) = P at *
    rw [show a % P + P * lb a i + (b % P + P * lb b i) * k = a % P + b % P * k + P * (lb b i * k + lb a i) by grind, Nat.add_mul_div_left _ _ hp, Nat.add_comm]
  constructor
  · rw [← e, ← Nat.mod_mul_right_div_self, show 2 ^ (64 * i) * 2 ^ 64 = 2 ^ (64 * (i + 1)) from (pow_split i 1).symm]
    have em : ∀ M, (a % M + b % M * k) % M = (a + b * k) % M := fun M => by simp [Nat.add_mod, Nat.mul_mod]
    rw [em, pow_split, Nat.mod_mul_right_div_self]
    rfl
  · rw [← e, Nat.div_div_eq_div_mul, show 2 ^ (64 * i) * 2 ^ 64 = 2 ^ (64 * (i + 1)) from (pow_split i 1).symm]
    rfl
theorem turn_digit {a i : Nat} (hi : i < 7) :
    subLo 0 (lb a i) (difHi 0 a (2 ^ (64 * i))) = lb (wB - a % wB) i ∧ subHi 0 (lb a i) (difHi 0 a (2 ^ (64 * i))) = difHi 0 a (2 ^ (64 * (i + 1))) := by
  have hp := Nat.two_pow_pos (64 * i)
  obtain ⟨e1, e2⟩ := dif_digit 0 a (2 ^ (64 * i)) (2 ^ 64) hp (by decide)
  rw [show 2 ^ (64 * i) * 2 ^ 64 = 2 ^ (64 * (i + 1)) from (pow_split i 1).symm] at e1 e2
  rw [Nat.zero_div, Nat.zero_mod] at e1 e2
  refine ⟨?_, by rw [e2]; rfl⟩
  have e3 : difLo 0 a (2 ^ (64 * (i + 1))) = (wB - a % wB) % 2 ^ (64 * (i + 1)) := by
    have hm : wB = 2 ^ (64 * (i + 1)) * 2 ^ (64 * (6 - i)) := by rw [wB_eq, show 7 = (i + 1) + (6 - i) by omega, pow_split]
    unfold difLo
    rw [Nat.zero_mod, Nat.zero_add]
    have h1 := Nat.mod_lt a wB_pos
    have h2 : a % 2 ^ (64 * (i + 1)) = a % wB % 2 ^ (64 * (i + 1)) := by rw [hm, Nat.mod_mul_right_mod]
    rw [h2]
    generalize a % wB = x at *
    have hq := Nat.two_pow_pos (64 * (i + 1))
    generalize 2 ^ (64 * (i + 1)) = P at *
    generalize 2 ^ (64 * (6 - i)) = Q at *
    rw [hm]
    have h3 := Nat.mod_lt x hq
    have h4 := Nat.div_add_mod x P
    have h5 : x / P < Q := by rw [Nat.div_lt_iff_lt_mul hq, Nat.mul_comm, ← hm]; exact h1
    have h6 : P * Q - x = P * (Q - 1 - x / P) + (P - x % P) := by
      rw [Nat.mul_sub, Nat.mul_sub, Nat.mul_one]
      have : P * (x / P) + P ≤ P * Q := by
        calc P * (x / P) + P = P * (x / P + 1) := by rw [Nat.mul_add, Nat.mul_one]
          _ ≤ P * Q := Nat.mul_le_mul_left _ (by omega)
      omega
    rw [h6, Nat.mul_add_mod]
  have e4 : lb (wB - a % wB) i = difLo 0 a (2 ^ (64 * (i + 1))) / 2 ^ (64 * i) := by
    rw [e3, show 2 ^ (64 * (i + 1)) = 2 ^ (64 * i) * 2 ^ 64 from pow_split i 1, Nat.mod_mul_right_div_self]
    rfl
  rw [e4, e1, Nat.add_mul_div_right _ _ hp, Nat.div_eq_of_lt (difLo_lt _ _ _ hp), Nat.zero_add]
  unfold subLo
  rw [Nat.zero_add]
  rfl
theorem wr_sign {x : Int} (h1 : -(hB : Nat) ≤ x) (h2 : x < (hB : Nat)) : (2 ^ 63 ≤ lb (wr x) 6 ↔ x < 0) ∧ lb (wr x) 6 = wr x / qB := by
  have hW := wB_half
  have hP := hB_q
  have hp := qB_pos
  have e1 : lb (wr x) 6 = wr x / qB := by
    rw [lb_q]
    exact Nat.mod_eq_of_lt (top_lt (wr_lt x))
  refine ⟨?_, e1⟩
  rw [e1, Nat.le_div_iff_mul_le hp, Nat.mul_comm, ← hP]
  obtain ⟨q, hq⟩ := wr_form x
  have hl := wr_lt x
  generalize wr x = n at *
  generalize hB = H at *
  rw [hW] at hq hl
  have : q = 0 ∨ q = -1 := by
    rcases Int.lt_trichotomy q 0 with c | c | c
    · right
      by_cases d : q = -1
      · exact d
      · exfalso
        have : ((H + H : Nat) : Int) * q ≤ ((H + H : Nat) : Int) * (-2) := Int.mul_le_mul_of_nonneg_left (by omega) (by omega)
        omega
    · exact .inl c
    · exfalso
      have : ((H + H : Nat) : Int) * 1 ≤ ((H + H : Nat) : Int) * q := Int.mul_le_mul_of_nonneg_left (by omega) (by omega)
      omega
  rcases this with rfl | rfl <;> omega
theorem wr_down {x : Int} (h1 : -(hB : Nat) ≤ x) (h2 : x < (hB : Nat)) :
    wr (x / 2 ^ 60) = wr x / 2 ^ 60 + (if x < 0 then wB - wB / 2 ^ 60 else 0) := by
  obtain ⟨s, e⟩ := wr_sign h1 h2
  obtain ⟨q, hq⟩ := wr_form x
  have hl := wr_lt x
  obtain ⟨c, hc⟩ : ∃ c, 60 + c = 448 := ⟨388, rfl⟩
  have hW := wB_split hc
  have hH := wB_half
  have hQ := div_60 hW
  rw [hQ]
  generalize hB = H at *
  have hp := Nat.two_pow_pos c
  generalize 2 ^ c = R at *
  clear s e hQ
  have hR : (wB : Int) = 1152921504606846976 * (R : Int) := by rw [hW]; simp
  have hR2 : wB = 1152921504606846976 * R := hW
  have hq2 : q = if x < 0 then -1 else 0 := by
    generalize wr x = n at *
    generalize wB = W at *
    split
    · have c1 : ¬ 0 ≤ q := fun c => by have : 0 ≤ (W : Int) * q := Int.mul_nonneg (by omega) c; omega
      by_cases d : q = -1
      · exact d
      · exfalso
        have : (W : Int) * q ≤ (W : Int) * (-2) := Int.mul_le_mul_of_nonneg_left (by omega) (by omega)
        omega
    · rcases Int.lt_trichotomy q 0 with c | c | c
      · exfalso
        have : (W : Int) * q ≤ (W : Int) * (-1) := Int.mul_le_mul_of_nonneg_left (by omega) (by omega)
        omega
      · exact c
      · exfalso
        have : (W : Int) * 1 ≤ (W : Int) * q := Int.mul_le_mul_of_nonneg_left (by omega) (by omega)
        omega
  by_cases c : x < 0
  · rw [if_pos c] at hq2 ⊢
    subst hq2
    have e : x / 2 ^ 60 = ((wr x / 2 ^ 60 + (wB - R) : Nat) : Int) + (wB : Int) * (-1) := by
      generalize wr x = n at *
      generalize wB = W at *
      have : (2 : Int) ^ 60 = 1152921504606846976 := by decide
      have : 2 ^ 60 = 1152921504606846976 := by decide
      omega
    rw [wr_of _ e, Nat.mod_eq_of_lt]
    generalize wr x = n at *
    have : 2 ^ 60 = 1152921504606846976 := by decide
    omega
  · rw [if_neg c] at hq2 ⊢
    subst hq2
    have e : x / 2 ^ 60 = ((wr x / 2 ^ 60 : Nat) : Int) + (wB : Int) * 0 := by
      generalize wr x = n at *
      have : (2 : Int) ^ 60 = 1152921504606846976 := by decide
      have : 2 ^ 60 = 1152921504606846976 := by decide
      omega
    rw [wr_of _ e, Nat.mod_eq_of_lt, Nat.add_zero]
    generalize wr x = n at *
    have : 2 ^ 60 = 1152921504606846976 := by decide
    omega
theorem down_limb {x : Int} (h1 : -(hB : Nat) ≤ x) (h2 : x < (hB : Nat)) (i : Nat) (hi : i < 6) :
    lb (wr x) i / 2 ^ 60 + lb (wr x) (i + 1) * 2 ^ 4 % 2 ^ 64 = lb (wr (x / 2 ^ 60)) i := by
  obtain ⟨m, hm⟩ : ∃ m, wB - wB / 2 ^ 60 = 2 ^ (64 * (i + 1)) * m := by
    obtain ⟨c, hc⟩ : ∃ c, 60 + c = 448 := ⟨388, rfl⟩
    refine ⟨2 ^ (c - 64 * (i + 1)) * (2 ^ 60 - 1), ?_⟩
    rw [div_60 (wB_split hc), ← Nat.mul_assoc, ← Nat.pow_add, show 64 * (i + 1) + (c - 64 * (i + 1)) = c by omega, Nat.mul_sub, Nat.mul_one, wB_split (a := c) (b := 60) (by omega)]
  have hd : ∀ n : Nat, lb n i / 2 ^ 60 + lb n (i + 1) * 2 ^ 4 % 2 ^ 64 = lb (n / 2 ^ 60) i := by
    intro n
    rw [lb, lb, lb, Nat.div_div_eq_div_mul, Nat.mul_comm (2 ^ 60), ← Nat.div_div_eq_div_mul, pow_split, ← Nat.div_div_eq_div_mul]
    generalize n / 2 ^ (64 * i) = m
    simp only [Nat.mul_one]
    omega
  rw [hd, wr_down h1 h2]
  split
  · rw [hm, ← lb_mod (i := i + 1) (by omega), ← lb_mod (v := _ + _) (i := i + 1) (by omega), Nat.add_mul_mod_self_left]
  · rfl
theorem lb_60 {n l : Nat} (m : Nat) (h : n / qB = l) : lb (n / 2 ^ 60 + qB * m) 6 = (l / 2 ^ 60 + m) % 2 ^ 64 := by
  rw [lb_q, q60 qB_pos, h]
theorem down_top {x : Int} (h1 : -(hB : Nat) ≤ x) (h2 : x < (hB : Nat)) :
    lb (wr x) 6 / 2 ^ 60 + (if 2 ^ 63 ≤ lb (wr x) 6 then 2 ^ 64 - 2 ^ 4 else 0) = lb (wr (x / 2 ^ 60)) 6 := by
  obtain ⟨s, e⟩ := wr_sign h1 h2
  have hm : wB - wB / 2 ^ 60 = qB * (2 ^ 64 - 2 ^ 4) := by
    have e6 : wB = 2 ^ 60 * (qB * 2 ^ 4) := by
      rw [wB_q]
      generalize qB = Q
      omega
    rw [div_60 e6, wB_q]
    generalize qB = Q
    omega
  have hl : lb (wr x) 6 < 2 ^ 64 := lb_lt _ _
  rw [wr_down h1 h2, hm]
  by_cases c : x < 0
  · rw [if_pos c, if_pos (s.2 c), lb_60 _ e.symm]
    have := s.2 c
    omega
  · rw [if_neg c, if_neg (fun q => c (s.1 q)), ← Nat.mul_zero qB, lb_60 _ e.symm]
    omega
end Go.Proofs.Ytkkmekdhejhapaa
