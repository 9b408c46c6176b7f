/- What is proved here: contracts of nat.Add and nat.Sub: the sum and the difference of two numbers (of at most sixteen limbs each), of the greater width, and what goes beyond. -/
import Derived.Test.YtkkmekdhejhapaaOwn
namespace Go.Proofs.Ytkkmekdhejhapaa
open Go.RowKit
def Makes2 (K v c : Nat) (w : World) (e : Ending) (w' : World) : Prop :=
  ∃ g : Nat, e = .returned (.tuple #[.slice (some ⟨g, 0, none⟩) K K, .int .u64 (c : Int)]) ∧ Own w' g (row K v) ∧ w.heap.size ≤ g ∧ Below w.heap.size w w'
set_option maxHeartbeats 1000000 in
theorem add_any (a : Option Addr) (n c : Nat) (xs : List Nat) (a' : Option Addr) (n' c' : Nat) (ys : List Nat) (w : World) (hn : n ≤ c) (hm : c ≤ maxLen) (hn' : n' ≤ c') (hm' : c' ≤ maxLen) (hv : View w a n xs) (hv' : View w a' n' ys) :
    Calls Try.prog 29 #[.slice a n c, .slice a' n' c'] w (Makes2 (max (min n 16) (min n' 16)) (val (xs.take 16) + val (ys.take 16)) ((val (xs.take 16) + val (ys.take 16)) / 2 ^ (64 * max (min n 16) (min n' 16))) w) := by
  have v1 := hv.take 16
  have v2 := hv'.take 16
  clear hv hv'
  generalize xs.take 16 = zs at *
  generalize ys.take 16 = ts at *
  have b1 : min n 16 ≤ 16 := by omega
  have b2 : min n' 16 ≤ 16 := by omega
  go_enter Try.func29, Try.ntmps29
  go_wp2_with fail
  refine (cut_any _ _ _ _ hn hm).mono ?_
  rintro e w' ⟨rfl, rfl⟩
  go_wp2_with fail
  refine (cut_any _ _ _ _ hn' hm').mono ?_
  rintro e w' ⟨rfl, rfl⟩
  clear hn hm hn' hm'
  generalize min n 16 = m at *
  generalize min n' 16 = m' at *
  obtain ⟨K, hK⟩ : ∃ K, K = max m m' := ⟨_, rfl⟩
  have b3 : K ≤ 16 := by omega
  have b4 : m ≤ K := by omega
  have b5 : m' ≤ K := by omega
  rw [← hK]
  have p1 := Lib.hid (val_lt_of v1.small (K := K) (by have := v1.len; omega))
  have p2 := Lib.hid (val_lt_of v2.small (K := K) (by have := v2.len; omega))
  have D := Lib.hid (add_done p1.out p2.out)
  have HK := Lib.hid hK
  clear hK p1 p2
  rcases Nat.lt_or_ge m m' with h | h
  · obtain rfl : K = m' := by have := HK.out; omega
    have Z := Lib.hid (show row K (addLo (val zs) (val ts) (2 ^ (64 * 0))) = List.replicate K 0 by rw [show 2 ^ (64 * 0) = 1 from rfl, addLo_one, row_zero])
    have Z2 := Lib.hid (show addHi (val zs) (val ts) (2 ^ (64 * 0)) = 0 from addHi_one _ _)
    go_wp2_with (at_make; refine wpList_make_limbs _ rfl _ _ rfl K _ _ rfl rfl (by omega) (by omega) (by omega) ?_; intro w1 ho hbl)
    have HO := Lib.hid ho
    have HB := Lib.hid hbl
    clear ho hbl
    go_loopw [7, 21] (fun cr i wr => ∃ k : Nat, k ≤ K ∧ i = .int .i64 k ∧ cr = .int .u64 ((addHi (val zs) (val ts) (2 ^ (64 * k)) : Nat) : Int) ∧ Own wr w.heap.size (row K (addLo (val zs) (val ts) (2 ^ (64 * k)))) ∧ Below w.heap.size w wr) (fun _ i _ => K - (intOf i).toNat)
    case atStart => exact ⟨0, Nat.zero_le _, rfl, by rw [Z2.out]; rfl, by rw [Z.out]; exact HO.out, HB.out⟩
    case round =>
      obtain ⟨k, hk, rfl, rfl, ho, hbl⟩ := hrel
      by_cases hlt : k < K
      · have S := Lib.hid (addLimb_step v1.small v2.small hlt)
        have u1 := v1.below (Nat.le_refl _) hbl
        have u2 := v2.below (Nat.le_refl _) hbl
        have hcell := ho.cell (i := k) (by rw [length_row]; exact hlt)
        have hfr := ho.frozen k
        have hc1 := addHi_le (val zs) (val ts) (2 ^ (64 * k)) (Nat.two_pow_pos _)
        generalize hx : lm (row K (addLo (val zs) (val ts) (2 ^ (64 * k)))) k = x at hcell
        clear hx
        have HO := Lib.hid ho
        have HB := Lib.hid hbl
        clear ho hbl
        go_wp2_with fail
        refine (limb_any _ _ _ _ zs _ (by omega) (by unfold maxLen; omega) u1).mono ?_
        rintro e w' ⟨rfl, rfl⟩
        rw [Int.toNat_natCast]
        go_wp2_with fail
        refine (limb_any _ _ _ _ ts _ (by omega) (by unfold maxLen; omega) u2).mono ?_
        rintro e w' ⟨rfl, rfl⟩
        rw [Int.toNat_natCast]
        go_wp2_with (simp only [add64_run _ _ _ hc1])
        go_roundw
        case rel => exact ⟨k + 1, by omega, by go_num, by rw [← S.out.2], by rw [← S.out.1]; exact HO.out.set _ _, HB.out.setCell (Nat.le_refl _) _⟩
        case measure => simp [intOf]; omega
      · obtain rfl : k = K := by omega
        have HO := Lib.hid ho
        have HB := Lib.hid hbl
        clear ho hbl
        go_wp2
        go_ret2
        exact ⟨_, by rw [← HK.out, ← D.out.2] <;> rfl, by rw [← HK.out, ← D.out.1]; exact HO.out, Nat.le_refl _, HB.out⟩
  · obtain rfl : K = m := by have := HK.out; omega
    have Z := Lib.hid (show row K (addLo (val zs) (val ts) (2 ^ (64 * 0))) = List.replicate K 0 by rw [show 2 ^ (64 * 0) = 1 from rfl, addLo_one, row_zero])
    have Z2 := Lib.hid (show addHi (val zs) (val ts) (2 ^ (64 * 0)) = 0 from addHi_one _ _)
    go_wp2_with (at_make; refine wpList_make_limbs _ rfl _ _ rfl K _ _ rfl rfl (by omega) (by omega) (by omega) ?_; intro w1 ho hbl)
    have HO := Lib.hid ho
    have HB := Lib.hid hbl
    clear ho hbl
    go_loopw [7, 21] (fun cr i wr => ∃ k : Nat, k ≤ K ∧ i = .int .i64 k ∧ cr = .int .u64 ((addHi (val zs) (val ts) (2 ^ (64 * k)) : Nat) : Int) ∧ Own wr w.heap.size (row K (addLo (val zs) (val ts) (2 ^ (64 * k)))) ∧ Below w.heap.size w wr) (fun _ i _ => K - (intOf i).toNat)
    case atStart => exact ⟨0, Nat.zero_le _, rfl, by rw [Z2.out]; rfl, by rw [Z.out]; exact HO.out, HB.out⟩
    case round =>
      obtain ⟨k, hk, rfl, rfl, ho, hbl⟩ := hrel
      by_cases hlt : k < K
      · have S := Lib.hid (addLimb_step v1.small v2.small hlt)
        have u1 := v1.below (Nat.le_refl _) hbl
        have u2 := v2.below (Nat.le_refl _) hbl
        have hcell := ho.cell (i := k) (by rw [length_row]; exact hlt)
        have hfr := ho.frozen k
        have hc1 := addHi_le (val zs) (val ts) (2 ^ (64 * k)) (Nat.two_pow_pos _)
        generalize hx : lm (row K (addLo (val zs) (val ts) (2 ^ (64 * k)))) k = x at hcell
        clear hx
        have HO := Lib.hid ho
        have HB := Lib.hid hbl
        clear ho hbl
        go_wp2_with fail
        refine (limb_any _ _ _ _ zs _ (by omega) (by unfold maxLen; omega) u1).mono ?_
        rintro e w' ⟨rfl, rfl⟩
        rw [Int.toNat_natCast]
        go_wp2_with fail
        refine (limb_any _ _ _ _ ts _ (by omega) (by unfold maxLen; omega) u2).mono ?_
        rintro e w' ⟨rfl, rfl⟩
        rw [Int.toNat_natCast]
        go_wp2_with (simp only [add64_run _ _ _ hc1])
        go_roundw
        case rel => exact ⟨k + 1, by omega, by go_num, by rw [← S.out.2], by rw [← S.out.1]; exact HO.out.set _ _, HB.out.setCell (Nat.le_refl _) _⟩
        case measure => simp [intOf]; omega
      · obtain rfl : k = K := by omega
        have HO := Lib.hid ho
        have HB := Lib.hid hbl
        clear ho hbl
        go_wp2
        go_ret2
        exact ⟨_, by rw [← HK.out, ← D.out.2] <;> rfl, by rw [← HK.out, ← D.out.1]; exact HO.out, Nat.le_refl _, HB.out⟩
theorem subLimb_step {zs ts : List Nat} (s1 : Small zs) (s2 : Small ts) {K k : Nat} (hk : k < K) :
    (row K (difLo (val zs) (val ts) (2 ^ (64 * k)))).set k (subLo (lm zs k) (lm ts k) (difHi (val zs) (val ts) (2 ^ (64 * k)))) = row K (difLo (val zs) (val ts) (2 ^ (64 * (k + 1)))) ∧
    subHi (lm zs k) (lm ts k) (difHi (val zs) (val ts) (2 ^ (64 * k))) = difHi (val zs) (val ts) (2 ^ (64 * (k + 1))) := by
  have hp := Nat.two_pow_pos (64 * k)
  obtain ⟨e1, e2⟩ := dif_digit (val zs) (val ts) (2 ^ (64 * k)) (2 ^ 64) hp (by decide)
  rw [← lm_val s1, ← lm_val s2, Nat.mul_comm, ← pow64] at e1
  rw [← lm_val s1, ← lm_val s2, Nat.mul_comm, ← pow64] at e2
  refine ⟨?_, e2.symm⟩
  rw [row_set _ _ _ (subLo _ _ _) (difLo_lt _ _ _ hp) (Nat.mod_lt _ (by decide)) hk, e1]
  rfl
def ltN (x y : Nat) : Nat := if x < y then 1 else 0
theorem dif_done {zs ts : List Nat} {K : Nat} (h1 : val zs < 2 ^ (64 * K)) (h2 : val ts < 2 ^ (64 * K)) :
    row K (difLo (val zs) (val ts) (2 ^ (64 * K))) = row K (val zs + 2 ^ (64 * K) - val ts) ∧ difHi (val zs) (val ts) (2 ^ (64 * K)) = ltN (val zs) (val ts) := by
  unfold difLo difHi ltN
  rw [Nat.mod_eq_of_lt h1, Nat.mod_eq_of_lt h2, row_mod]
  exact ⟨rfl, rfl⟩
set_option maxHeartbeats 1000000 in
theorem sub_any (a : Option Addr) (n c : Nat) (xs : List Nat) (a' : Option Addr) (n' c' : Nat) (ys : List Nat) (w : World) (hn : n ≤ c) (hm : c ≤ maxLen) (hn' : n' ≤ c') (hm' : c' ≤ maxLen) (hv : View w a n xs) (hv' : View w a' n' ys) :
    Calls Try.prog 72 #[.slice a n c, .slice a' n' c'] w (Makes2 (max (min n 16) (min n' 16)) (val (xs.take 16) + 2 ^ (64 * max (min n 16) (min n' 16)) - val (ys.take 16)) (ltN (val (xs.take 16)) (val (ys.take 16))) w) := by
  have v1 := hv.take 16
  have v2 := hv'.take 16
  clear hv hv'
  generalize xs.take 16 = zs at *
  generalize ys.take 16 = ts at *
  have b1 : min n 16 ≤ 16 := by omega
  have b2 : min n' 16 ≤ 16 := by omega
  go_enter Try.func72, Try.ntmps72
  go_wp2_with fail
  refine (cut_any _ _ _ _ hn hm).mono ?_
  rintro e w' ⟨rfl, rfl⟩
  go_wp2_with fail
  refine (cut_any _ _ _ _ hn' hm').mono ?_
  rintro e w' ⟨rfl, rfl⟩
  clear hn hm hn' hm'
  generalize min n 16 = m at *
  generalize min n' 16 = m' at *
  obtain ⟨K, hK⟩ : ∃ K, K = max m m' := ⟨_, rfl⟩
  have b3 : K ≤ 16 := by omega
  have b4 : m ≤ K := by omega
  have b5 : m' ≤ K := by omega
  rw [← hK]
  have p1 := Lib.hid (val_lt_of v1.small (K := K) (by have := v1.len; omega))
  have p2 := Lib.hid (val_lt_of v2.small (K := K) (by have := v2.len; omega))
  have D := Lib.hid (dif_done p1.out p2.out)
  have HK := Lib.hid hK
  clear hK p1 p2
  rcases Nat.lt_or_ge m m' with h | h
  · obtain rfl : K = m' := by have := HK.out; omega
    have Z := Lib.hid (show row K (difLo (val zs) (val ts) (2 ^ (64 * 0))) = List.replicate K 0 by rw [show 2 ^ (64 * 0) = 1 from rfl, difLo_one, row_zero])
    have Z2 := Lib.hid (show difHi (val zs) (val ts) (2 ^ (64 * 0)) = 0 from difHi_one _ _)
    go_wp2_with (at_make; refine wpList_make_limbs _ rfl _ _ rfl K _ _ rfl rfl (by omega) (by omega) (by omega) ?_; intro w1 ho hbl)
    have HO := Lib.hid ho
    have HB := Lib.hid hbl
    clear ho hbl
    go_loopw [7, 21] (fun cr i wr => ∃ k : Nat, k ≤ K ∧ i = .int .i64 k ∧ cr = .int .u64 ((difHi (val zs) (val ts) (2 ^ (64 * k)) : Nat) : Int) ∧ Own wr w.heap.size (row K (difLo (val zs) (val ts) (2 ^ (64 * k)))) ∧ Below w.heap.size w wr) (fun _ i _ => K - (intOf i).toNat)
    case atStart => exact ⟨0, Nat.zero_le _, rfl, by rw [Z2.out]; rfl, by rw [Z.out]; exact HO.out, HB.out⟩
    case round =>
      obtain ⟨k, hk, rfl, rfl, ho, hbl⟩ := hrel
      by_cases hlt : k < K
      · have S := Lib.hid (subLimb_step v1.small v2.small hlt)
        have u1 := v1.below (Nat.le_refl _) hbl
        have u2 := v2.below (Nat.le_refl _) hbl
        have hcell := ho.cell (i := k) (by rw [length_row]; exact hlt)
        have hfr := ho.frozen k
        have hc1 := difHi_le (val zs) (val ts) (2 ^ (64 * k))
        generalize hx : lm (row K (difLo (val zs) (val ts) (2 ^ (64 * k)))) k = x at hcell
        clear hx
        have HO := Lib.hid ho
        have HB := Lib.hid hbl
        clear ho hbl
        go_wp2_with fail
        refine (limb_any _ _ _ _ zs _ (by omega) (by unfold maxLen; omega) u1).mono ?_
        rintro e w' ⟨rfl, rfl⟩
        rw [Int.toNat_natCast]
        go_wp2_with fail
        refine (limb_any _ _ _ _ ts _ (by omega) (by unfold maxLen; omega) u2).mono ?_
        rintro e w' ⟨rfl, rfl⟩
        rw [Int.toNat_natCast]
        go_wp2_with (simp only [sub64_run _ _ _ hc1])
        go_roundw
        case rel => exact ⟨k + 1, by omega, by go_num, by rw [← S.out.2], by rw [← S.out.1]; exact HO.out.set _ _, HB.out.setCell (Nat.le_refl _) _⟩
        case measure => simp [intOf]; omega
      · obtain rfl : k = K := by omega
        have HO := Lib.hid ho
        have HB := Lib.hid hbl
        clear ho hbl
        go_wp2
        go_ret2
        exact ⟨_, by rw [← HK.out, ← D.out.2] <;> rfl, by rw [← HK.out, ← D.out.1]; exact HO.out, Nat.le_refl _, HB.out⟩
  · obtain rfl : K = m := by have := HK.out; omega
    have Z := Lib.hid (show row K (difLo (val zs) (val ts) (2 ^ (64 * 0))) = List.replicate K 0 by rw [show 2 ^ (64 * 0) = 1 from rfl, difLo_one, row_zero])
    have Z2 := Lib.hid (show difHi (val zs) (val ts) (2 ^ (64 * 0)) = 0 from difHi_one _ _)
    go_wp2_with (at_make; refine wpList_make_limbs _ rfl _ _ rfl K _ _ rfl rfl (by omega) (by omega) (by omega) ?_; intro w1 ho hbl)
    have HO := Lib.hid ho
    have HB := Lib.hid hbl
    clear ho hbl
    go_loopw [7, 21] (fun cr i wr => ∃ k : Nat, k ≤ K ∧ i = .int .i64 k ∧ cr = .int .u64 ((difHi (val zs) (val ts) (2 ^ (64 * k)) : Nat) : Int) ∧ Own wr w.heap.size (row K (difLo (val zs) (val ts) (2 ^ (64 * k)))) ∧ Below w.heap.size w wr) (fun _ i _ => K - (intOf i).toNat)
    case atStart => exact ⟨0, Nat.zero_le _, rfl, by rw [Z2.out]; rfl, by rw [Z.out]; exact HO.out, HB.out⟩
    case round =>
      obtain ⟨k, hk, rfl, rfl, ho, hbl⟩ := hrel
      by_cases hlt : k < K
      · have S := Lib.hid (subLimb_step v1.small v2.small hlt)
        have u1 := v1.below (Nat.le_refl _) hbl
        have u2 := v2.below (Nat.le_refl _) hbl
        have hcell := ho.cell (i := k) (by rw [length_row]; exact hlt)
        have hfr := ho.frozen k
        have hc1 := difHi_le (val zs) (val ts) (2 ^ (64 * k))
        generalize hx : lm (row K (difLo (val zs) (val ts) (2 ^ (64 * k)))) k = x at hcell
        clear hx
        have HO := Lib.hid ho
        have HB := Lib.hid hbl
        clear ho hbl
        go_wp2_with fail
        refine (limb_any _ _ _ _ zs _ (by omega) (by unfold maxLen; omega) u1).mono ?_
        rintro e w' ⟨rfl, rfl⟩
        rw [Int.toNat_natCast]
        go_wp2_with fail
        refine (limb_any _ _ _ _ ts _ (by omega) (by unfold maxLen; omega) u2).mono ?_
        rintro e w' ⟨rfl, rfl⟩
        rw [Int.toNat_natCast]
        go_wp2_with (simp only [sub64_run _ _ _ hc1])
        go_roundw
        case rel => exact ⟨k + 1, by omega, by go_num, by rw [← S.out.2], by rw [← S.out.1]; exact HO.out.set _ _, HB.out.setCell (Nat.le_refl _) _⟩
        case measure => simp [intOf]; omega
      · obtain rfl : k = K := by omega
        have HO := Lib.hid ho
        have HB := Lib.hid hbl
        clear ho hbl
        go_wp2
        go_ret2
        exact ⟨_, by rw [← HK.out, ← D.out.2] <;> rfl, by rw [← HK.out, ← D.out.1]; exact HO.out, Nat.le_refl _, HB.out⟩
end Go.Proofs.Ytkkmekdhejhapaa
