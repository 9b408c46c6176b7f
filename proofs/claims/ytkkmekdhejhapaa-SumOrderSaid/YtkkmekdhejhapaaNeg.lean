/- What is proved here: contracts of mont.Neg and of the reference's Neg: both answer the one number that makes of an odd limb, times it, all bits 1; 0 of an even one. The law package's alive answers true. -/
import Derived.Test.YtkkmekdhejhapaaView
import Derived.Test.YtkkmekdhejhapaaMath
namespace Go.Proofs.Ytkkmekdhejhapaa
open Go.RowKit
def prec : Nat → Int
  | 0 => 8
  | 1 => 64
  | 2 => 4096
  | 3 => 16777216
  | 4 => 281474976710656
  | _ => 18446744073709551616
theorem prec_step (k : Nat) (h : k < 5) : prec (k + 1) ∣ prec k * prec k ∧ prec (k + 1) ∣ 18446744073709551616 := by
  have : k = 0 ∨ k = 1 ∨ k = 2 ∨ k = 3 ∨ k = 4 := by omega
  rcases this with rfl | rfl | rfl | rfl | rfl <;> decide
theorem prec_zero (m : Int) (h : m % 2 = 1) : prec 0 ∣ m * m - 1 := by
  obtain ⟨q, rfl⟩ : ∃ q, m = 2 * q + 1 := ⟨m / 2, by omega⟩
  have h2 : q * (q + 1) % 2 = 0 := by
    rcases Int.emod_two_eq q with e | e
    · rw [Int.mul_emod, e]; simp
    · rw [Int.mul_emod, show (q + 1) % 2 = 0 by omega]; simp
  have e : (2 * q + 1) * (2 * q + 1) - 1 = 4 * (q * (q + 1)) := by
    rw [Int.mul_add, Int.add_mul, Int.mul_add, Int.mul_assoc, Int.mul_left_comm q 2 q]
    omega
  rw [e]
  show (8 : Int) ∣ _
  omega
theorem wrapU (x : Int) : IntKind.u64.wrap x = x % 18446744073709551616 := rfl
theorem wrapU_nonneg (x : Int) : 0 ≤ IntKind.u64.wrap x := Int.emod_nonneg x (by decide)
theorem wrapU_le (x : Int) : IntKind.u64.wrap x ≤ 18446744073709551615 := by
  have := Int.emod_lt_of_pos x (show (0 : Int) < 18446744073709551616 by decide)
  rw [wrapU]; omega
theorem newton_u64 {m v : Int} {k : Nat} (hk : k < 5) (h : prec k ∣ m * v - 1) :
    prec (k + 1) ∣ m * IntKind.u64.wrap (v * IntKind.u64.wrap (2 - IntKind.u64.wrap (m * v))) - 1 := by
  obtain ⟨p1, p2⟩ := prec_step k hk
  refine newton h p1 (by rw [show (2 : Int) ^ 64 = 18446744073709551616 by decide]; exact p2) ?_
  simp only [wrapU]
  have e1 := Int.emod_add_mul_ediv (m * v) 18446744073709551616
  generalize m * v % 18446744073709551616 = a at *
  generalize m * v / 18446744073709551616 = qa at *
  have e2 := Int.emod_add_mul_ediv (2 - a) 18446744073709551616
  generalize (2 - a) % 18446744073709551616 = b at *
  generalize (2 - a) / 18446744073709551616 = qb at *
  have e3 := Int.emod_add_mul_ediv (v * b) 18446744073709551616
  generalize v * b % 18446744073709551616 = c at *
  generalize v * b / 18446744073709551616 = qc at *
  refine ⟨v * (qa - qb) - qc, ?_⟩
  have e4 : b = 2 - m * v + 18446744073709551616 * (qa - qb) := by omega
  have e5 : v * b = v * (2 - m * v) + 18446744073709551616 * (v * (qa - qb)) := by rw [e4, Int.mul_add, Int.mul_left_comm v]
  rw [show (2 : Int) ^ 64 = 18446744073709551616 by decide]
  omega
theorem neg_done {m v : Int} (h0 : 0 ≤ m) (h : prec 5 ∣ m * v - 1) (hm : m % 2 = 1) : NegOf m.toNat (IntKind.u64.wrap (-v)).toNat := by
  rw [wrapU]
  have hb := Int.emod_nonneg (-v) (show (18446744073709551616 : Int) ≠ 0 by decide)
  have hb2 := Int.emod_lt_of_pos (-v) (show (0 : Int) < 18446744073709551616 by decide)
  have e := Int.emod_add_mul_ediv (-v) 18446744073709551616
  generalize (-v) % 18446744073709551616 = n at *
  generalize (-v) / 18446744073709551616 = q at *
  obtain ⟨c, hc⟩ := h
  obtain ⟨M, rfl⟩ := Int.eq_ofNat_of_zero_le h0
  obtain ⟨N, rfl⟩ := Int.eq_ofNat_of_zero_le hb
  rw [Int.toNat_natCast, Int.toNat_natCast]
  refine ⟨by omega, fun g => by omega, fun _ => ?_⟩
  have e1 : (M : Int) * N = -((M : Int) * v) - 18446744073709551616 * (M * q) := by
    rw [show (N : Int) = -v - 18446744073709551616 * q by omega, Int.mul_sub, Int.mul_neg, Int.mul_left_comm]
  have e2 : (M : Int) * v = 18446744073709551616 * c + 1 := by
    have : prec 5 = 18446744073709551616 := rfl
    rw [this] at hc
    omega
  rw [e2] at e1
  have e3 : ((M * N : Nat) : Int) = (M : Int) * N := by simp
  rw [← e3] at e1
  generalize M * N = X at *
  omega
set_option maxHeartbeats 1000000 in
theorem neg_any (m : Int) (w : World) (h0 : 0 ≤ m) (h1 : m ≤ 18446744073709551615) :
    Calls Try.prog 78 #[.int .u64 m] w fun e w' => ∃ n : Nat, e = .returned (.int .u64 (n : Int)) ∧ w = w' ∧ NegOf m.toNat n := by
  by_cases hm : m % 2 = 0
  · have hm' : (m % 2 == 0) = true := by simpa using hm
    go_enter Try.func78, Try.ntmps78
    go_wp2
    go_ret
    exact ⟨0, rfl, rfl, by omega, fun _ => rfl, fun h => by omega⟩
  · have hm' : (m % 2 == 0) = false := by simpa using hm
    have HM := Lib.hid (show m % 2 = 1 by omega)
    clear hm
    go_enter Try.func78, Try.ntmps78
    go_wp2
    go_loop [3, 8] (fun iv i => ∃ (k : Nat) (v : Int), k ≤ 5 ∧ i = .int .i64 (k : Int) ∧ iv = .int .u64 v ∧ 0 ≤ v ∧ v ≤ 18446744073709551615 ∧ Hid (prec k ∣ m * v - 1)) (fun _ i => 5 - (intOf i).toNat)
    case atStart => exact ⟨0, m, by omega, rfl, rfl, h0, h1, prec_zero m HM.out⟩
    case round =>
      obtain ⟨k, v, hk, rfl, rfl, hv0, hv1, HP⟩ := hrel
      by_cases hlt : k < 5
      · go_wp2
        go_round
        case rel => exact ⟨k + 1, _, by omega, by go_num, rfl, wrapU_nonneg _, wrapU_le _, newton_u64 hlt HP.out⟩
        case measure => simp [intOf]; omega
      · obtain rfl : k = 5 := by omega
        go_wp2
        go_ret
        exact ⟨(IntKind.u64.wrap (-v)).toNat, ret_int (Int.toNat_of_nonneg (wrapU_nonneg _)).symm, rfl, neg_done h0 HP.out HM.out⟩
theorem neg_nat (m : Nat) (w : World) (h1 : m < 2 ^ 64) :
    Calls Try.prog 78 #[.int .u64 (m : Int)] w fun e w' => ∃ n : Nat, e = .returned (.int .u64 (n : Int)) ∧ w = w' ∧ NegOf m n := by
  have := neg_any m w (by omega) (by omega)
  rwa [Int.toNat_natCast] at this
end Go.Proofs.Ytkkmekdhejhapaa
