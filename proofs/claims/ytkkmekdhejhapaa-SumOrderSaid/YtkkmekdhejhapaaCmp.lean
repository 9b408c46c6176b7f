/- What is proved here: contracts of nat.Cmp and of the reference's Cmp: both answer which of the two numbers (of at most sixteen limbs each) is greater. -/
import Derived.Test.YtkkmekdhejhapaaView
namespace Go.Proofs.Ytkkmekdhejhapaa
open Go.RowKit
theorem cmp_less {zs ts : List Nat} {K k : Nat} (s1 : Small zs) (s2 : Small ts) (hk : k < K) (h : ∀ j, K - k ≤ j → lm zs j = lm ts j) (hl : lm zs (K - 1 - k) < lm ts (K - 1 - k)) : (-1 : Int) = cmpI (val zs) (val ts) :=
  (cmpI_lt (val_lt_of_limb s1 s2 (K - 1 - k) (fun j hj => h j (by omega)) hl)).symm
theorem cmp_more {zs ts : List Nat} {K k : Nat} (s1 : Small zs) (s2 : Small ts) (hk : k < K) (h : ∀ j, K - k ≤ j → lm zs j = lm ts j) (hl : lm ts (K - 1 - k) < lm zs (K - 1 - k)) : (1 : Int) = cmpI (val zs) (val ts) :=
  (cmpI_gt (val_lt_of_limb s2 s1 (K - 1 - k) (fun j hj => (h j (by omega)).symm) hl)).symm
theorem cmp_step {zs ts : List Nat} {K k : Nat} (hk : k < K) (h : ∀ j, K - k ≤ j → lm zs j = lm ts j) (h1 : ¬ lm zs (K - 1 - k) < lm ts (K - 1 - k)) (h2 : ¬ lm ts (K - 1 - k) < lm zs (K - 1 - k)) : ∀ j, K - (k + 1) ≤ j → lm zs j = lm ts j := by
  intro j hj
  by_cases e : j = K - 1 - k
  · subst e; omega
  · exact h j (by omega)
theorem cmp_same {zs ts : List Nat} {K k : Nat} (s1 : Small zs) (s2 : Small ts) (hk : ¬ k < K) (h : ∀ j, K - k ≤ j → lm zs j = lm ts j) : (0 : Int) = cmpI (val zs) (val ts) := by
  rw [val_eq_of_limbs s1 s2 (fun j => h j (by omega)), cmpI_self]
set_option maxHeartbeats 400000 in
theorem cmp_any (a : Option Addr) (n c : Nat) (xs : List Nat) (a' : Option Addr) (n' c' : Nat) (ys : List Nat) (w : World) (hn : n ≤ c) (hm : c ≤ maxLen) (hn' : n' ≤ c') (hm' : c' ≤ maxLen) (hv : View w a n xs) (hv' : View w a' n' ys) :
    Calls Try.prog 32 #[.slice a n c, .slice a' n' c'] w fun e w' => e = .returned (.int .i64 (cmpI (val (xs.take 16)) (val (ys.take 16)))) ∧ w = w' := by
  have v1 := hv.take 16
  have v2 := hv'.take 16
  clear hv hv'
  generalize xs.take 16 = zs at *
  generalize ys.take 16 = ts at *
  have b1 : min n 16 ≤ 16 := by omega
  have b2 : min n' 16 ≤ 16 := by omega
  go_enter Try.func32, Try.ntmps32
  go_wp2_with fail
  refine (cut_any _ _ _ _ hn hm).mono ?_
  rintro e w' ⟨rfl, rfl⟩
  go_wp2_with fail
  refine (cut_any _ _ _ _ hn' hm').mono ?_
  rintro e w' ⟨rfl, rfl⟩
  clear hn hm hn' hm'
  generalize min n 16 = m at *
  generalize min n' 16 = m' at *
  have l1 := v1.len
  have l2 := v2.len
  rcases Nat.lt_or_ge m m' with h | h
  · obtain ⟨K, rfl⟩ : ∃ K, K = m' := ⟨_, rfl⟩
    have hz : ∀ j, K ≤ j → lm zs j = lm ts j := fun j hj => by rw [lm_zero (by omega), lm_zero (by omega)]
    have HZ := Lib.hid hz
    have s1 := Lib.hid v1.small
    have s2 := Lib.hid v2.small
    clear hz l1 l2
    go_wp2
    go_loop [19] (fun i => ∃ k : Nat, k ≤ K ∧ i = .int .i64 k ∧ Hid (∀ j, K - k ≤ j → lm zs j = lm ts j)) (fun i => K - (intOf i).toNat)
    case atStart => exact ⟨0, Nat.zero_le _, rfl, HZ⟩
    case round =>
      obtain ⟨k, hk, rfl, HA⟩ := hrel
      by_cases hlt : k < K
      · go_wp2_with fail
        refine (limb_any _ _ _ _ zs _ (by omega) (by unfold maxLen; omega) v1).mono ?_
        rintro e w' ⟨rfl, rfl⟩
        go_wp2_with fail
        refine (limb_any _ _ _ _ ts _ (by omega) (by unfold maxLen; omega) v2).mono ?_
        rintro e w' ⟨rfl, rfl⟩
        rw [show ((K : Int) - 1 - k).toNat = K - 1 - k by omega]
        by_cases h1 : lm zs (K - 1 - k) < lm ts (K - 1 - k)
        · have R := Lib.hid (cmp_less s1.out s2.out hlt HA.out h1)
          go_wp2
          go_ret
          exact ⟨ret_int R.out, rfl⟩
        · by_cases h2 : lm ts (K - 1 - k) < lm zs (K - 1 - k)
          · have R := Lib.hid (cmp_more s1.out s2.out hlt HA.out h2)
            go_wp2
            go_ret
            exact ⟨ret_int R.out, rfl⟩
          · have R := Lib.hid (cmp_step hlt HA.out h1 h2)
            go_wp2
            go_round
            case rel => exact ⟨k + 1, by omega, by go_num, R⟩
            case measure => simp [intOf]; omega
      · have R := Lib.hid (cmp_same s1.out s2.out hlt HA.out)
        go_wp2
        go_ret
        exact ⟨ret_int R.out, rfl⟩
  · obtain ⟨K, rfl⟩ : ∃ K, K = m := ⟨_, rfl⟩
    have hz : ∀ j, K ≤ j → lm zs j = lm ts j := fun j hj => by rw [lm_zero (by omega), lm_zero (by omega)]
    have HZ := Lib.hid hz
    have s1 := Lib.hid v1.small
    have s2 := Lib.hid v2.small
    clear hz l1 l2
    go_wp2
    go_loop [19] (fun i => ∃ k : Nat, k ≤ K ∧ i = .int .i64 k ∧ Hid (∀ j, K - k ≤ j → lm zs j = lm ts j)) (fun i => K - (intOf i).toNat)
    case atStart => exact ⟨0, Nat.zero_le _, rfl, HZ⟩
    case round =>
      obtain ⟨k, hk, rfl, HA⟩ := hrel
      by_cases hlt : k < K
      · go_wp2_with fail
        refine (limb_any _ _ _ _ zs _ (by omega) (by unfold maxLen; omega) v1).mono ?_
        rintro e w' ⟨rfl, rfl⟩
        go_wp2_with fail
        refine (limb_any _ _ _ _ ts _ (by omega) (by unfold maxLen; omega) v2).mono ?_
        rintro e w' ⟨rfl, rfl⟩
        rw [show ((K : Int) - 1 - k).toNat = K - 1 - k by omega]
        by_cases h1 : lm zs (K - 1 - k) < lm ts (K - 1 - k)
        · have R := Lib.hid (cmp_less s1.out s2.out hlt HA.out h1)
          go_wp2
          go_ret
          exact ⟨ret_int R.out, rfl⟩
        · by_cases h2 : lm ts (K - 1 - k) < lm zs (K - 1 - k)
          · have R := Lib.hid (cmp_more s1.out s2.out hlt HA.out h2)
            go_wp2
            go_ret
            exact ⟨ret_int R.out, rfl⟩
          · have R := Lib.hid (cmp_step hlt HA.out h1 h2)
            go_wp2
            go_round
            case rel => exact ⟨k + 1, by omega, by go_num, R⟩
            case measure => simp [intOf]; omega
      · have R := Lib.hid (cmp_same s1.out s2.out hlt HA.out)
        go_wp2
        go_ret
        exact ⟨ret_int R.out, rfl⟩
end Go.Proofs.Ytkkmekdhejhapaa
