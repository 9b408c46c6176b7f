/- What is proved here: contracts of the reference's set, Add, Sub and Same. -/
import Derived.Test.YtdbfpbnabpapdaaAdd
import Derived.Laws.Bits64b
import Derived.WalkSmall
namespace Go.Proofs.Ytdbfpbnabpapdaa
open Go.RowKit

theorem or_shift (x r : Nat) (b : Int) (hx : x < 2 ^ 64) (hb0 : 0 ≤ b) (hb : b ≤ 1) (hr : r < 64) :
    bits BinOp.or IntKind.u64 (x : Int) (IntKind.u64.wrap (b * 2 ^ r)) = ((x ||| b.toNat <<< r : Nat) : Int) := by
  obtain ⟨c, rfl⟩ := Int.eq_ofNat_of_zero_le hb0
  have h2 : 2 ^ r * 2 ≤ 2 ^ 64 := by rw [← Nat.pow_succ]; exact Nat.pow_le_pow_right (by decide) (by omega)
  have h3 : c * 2 ^ r ≤ 1 * 2 ^ r := Nat.mul_le_mul_right _ (by omega)
  have e : IntKind.u64.wrap ((c : Int) * 2 ^ r) = ((c * 2 ^ r : Nat) : Int) := by
    rw [IntKind.wrap_u64, show ((c : Int) * 2 ^ r) = ((c * 2 ^ r : Nat) : Int) by simp]
    omega
  rw [e, bits_or_u64_nat x (c * 2 ^ r) (by omega) (by omega), Int.toNat_natCast, Nat.shiftLeft_eq]

set_option maxHeartbeats 400000 in
theorem set_any (g n : Nat) (xs : List Nat) (i b : Int) (w : World) (hn : xs.length = n) (hi0 : 0 ≤ i) (hi : i < 64 * n) (hn16 : n ≤ 32) (hb0 : 0 ≤ b) (hb : b ≤ 1) (ho : Own w g xs) (hs : Small xs) :
    Calls Try.prog 63 #[.slice (some ⟨g, 0, none⟩) n n, .int .i64 i, .int .u64 b] w fun e w' => e = .returned (.tuple #[]) ∧ w' = w.setCell ⟨g, i.toNat / 64, none⟩ (.int .u64 ((lm xs (i.toNat / 64) ||| b.toNat <<< (i.toNat % 64) : Nat) : Int)) := by
  obtain ⟨k, rfl⟩ := Int.eq_ofNat_of_zero_le hi0
  rw [Int.toNat_natCast]
  have hc := ho.cell (i := k / 64) (by omega)
  have hf := ho.frozen (k / 64)
  have hx := lm_lt hs (k / 64)
  have hkn : k / 64 < n := by omega
  generalize lm xs (k / 64) = x at *
  clear ho hs hn
  go_enter Try.func63, Try.ntmps63
  go_wp2
  go_end0
  rw [or_shift x (k % 64) b hx hb0 hb (by omega)]
  exact ⟨rfl, rfl⟩

set_option maxHeartbeats 400000 in
theorem same_true (a : Option Addr) (n c : Nat) (xs : List Nat) (a' : Option Addr) (n' c' : Nat) (w : World) (hm : n ≤ maxLen) (hv : View w a n xs) (hv' : View w a' n' xs) :
    Calls Try.prog 24 #[.slice a n c, .slice a' n' c'] w fun e w' => e = .returned (.bool true) ∧ Below w.heap.size w w' := by
  unfold maxLen at hm
  obtain rfl : n = n' := by rw [← hv.len, ← hv'.len]
  go_enter Try.func24, Try.ntmps24
  go_wp2
  go_loopw [13] (fun i wr => ∃ k : Nat, k ≤ n ∧ i = .int .i64 k ∧ Below w.heap.size w wr) (fun i _ => n - (intOf i).toNat)
  case atStart => exact ⟨0, Nat.zero_le _, rfl, Below.refl _ _⟩
  case round =>
    obtain ⟨k, hk, rfl, hbl⟩ := hrel
    by_cases hlt : k < n
    · have u1 := hv.below (Nat.le_refl _) hbl
      have u2 := hv'.below (Nat.le_refl _) hbl
      obtain ⟨b, off, rfl, _, hc⟩ := u1.cell k hlt
      obtain ⟨b', off', rfl, _, hc'⟩ := u2.cell k hlt
      have HB := Lib.hid hbl
      have hlt' : (k : Int) < (n : Int) := by omega
      clear hbl u1 u2
      go_wp2
      go_quiet (fail)
      go_wp2
      go_roundw
      case rel => exact ⟨k + 1, by omega, by go_num, below_drewN HB.out _⟩
      case measure => simp [intOf]; omega
    · go_wp2
      go_ret
      exact ⟨rfl, hbl⟩

theorem addBit_step {zs ts : List Nat} (s1 : Small zs) (s2 : Small ts) {K k : Nat} (hk : k < 64 * K) {b c : Nat} (hb : b = (bitOf zs k + bitOf ts k + addHi (val zs) (val ts) (2 ^ k)) % 2) (hc : c = (bitOf zs k + bitOf ts k + addHi (val zs) (val ts) (2 ^ k)) / 2) :
    (row K (addLo (val zs) (val ts) (2 ^ k))).set (k / 64) (lm (row K (addLo (val zs) (val ts) (2 ^ k))) (k / 64) ||| b <<< (k % 64)) = row K (addLo (val zs) (val ts) (2 ^ (k + 1))) ∧ c = addHi (val zs) (val ts) (2 ^ (k + 1)) := by
  have hp := Nat.two_pow_pos k
  obtain ⟨e1, e2⟩ := add_digit (val zs) (val ts) (2 ^ k) 2 hp
  rw [← bitOf_val s1, ← bitOf_val s2, ← Nat.pow_succ] at e1
  rw [← bitOf_val s1, ← bitOf_val s2, ← Nat.pow_succ] at e2
  refine ⟨?_, by rw [e2, hc]⟩
  rw [row_setbit _ _ _ _ (addLo_lt _ _ _ hp) (by omega) hk, e1, hb]

theorem difBit_step {zs ts : List Nat} (s1 : Small zs) (s2 : Small ts) {K k : Nat} (hk : k < 64 * K) {b c : Nat} (hb : b = (bitOf zs k + 2 - bitOf ts k - difHi (val zs) (val ts) (2 ^ k)) % 2) (hc : c = 1 - (bitOf zs k + 2 - bitOf ts k - difHi (val zs) (val ts) (2 ^ k)) / 2) :
    (row K (difLo (val zs) (val ts) (2 ^ k))).set (k / 64) (lm (row K (difLo (val zs) (val ts) (2 ^ k))) (k / 64) ||| b <<< (k % 64)) = row K (difLo (val zs) (val ts) (2 ^ (k + 1))) ∧ c = difHi (val zs) (val ts) (2 ^ (k + 1)) := by
  have hp := Nat.two_pow_pos k
  obtain ⟨e1, e2⟩ := dif_digit (val zs) (val ts) (2 ^ k) 2 hp (by decide)
  have h1 := bitOf_lt zs k
  have h2 := bitOf_lt ts k
  have h3 := difHi_le (val zs) (val ts) (2 ^ k)
  rw [← bitOf_val s1, ← bitOf_val s2, ← Nat.pow_succ] at e1
  rw [← bitOf_val s1, ← bitOf_val s2, ← Nat.pow_succ] at e2
  refine ⟨?_, ?_⟩
  · rw [row_setbit _ _ _ _ (difLo_lt _ _ _ hp) (by omega) hk, e1, hb]
  · rw [e2, hc]; split <;> omega

set_option maxHeartbeats 1000000 in
theorem refAdd_any (a : Option Addr) (n c : Nat) (xs : List Nat) (a' : Option Addr) (n' c' : Nat) (ys : List Nat) (w : World) (hn : n ≤ c) (hm : c ≤ maxLen) (hn' : n' ≤ c') (hm' : c' ≤ maxLen) (hv : View w a n xs) (hv' : View w a' n' ys) :
    Calls Try.prog 49 #[.slice a n c, .slice a' n' c'] w (Makes2 (max (min n 16) (min n' 16)) (val (xs.take 16) + val (ys.take 16)) ((val (xs.take 16) + val (ys.take 16)) / 2 ^ (64 * max (min n 16) (min n' 16))) w) := by
  have v1 := hv.take 16
  have v2 := hv'.take 16
  clear hv hv'
  generalize xs.take 16 = zs at *
  generalize ys.take 16 = ts at *
  have b1 : min n 16 ≤ 16 := by omega
  have b2 : min n' 16 ≤ 16 := by omega
  go_enter Try.func49, Try.ntmps49
  go_wp2_with fail
  refine (refCut_any _ _ _ _ hn hm).mono ?_
  rintro e w' ⟨rfl, rfl⟩
  go_wp2_with fail
  refine (refCut_any _ _ _ _ hn' hm').mono ?_
  rintro e w' ⟨rfl, rfl⟩
  clear hn hm hn' hm'
  generalize min n 16 = m at *
  generalize min n' 16 = m' at *
  go_wp2_with fail
  refine (wide_any _ _ _ _ _ _ _).mono ?_
  rintro e w' ⟨rfl, rfl⟩
  have p1 := Lib.hid (val_lt_of v1.small (K := max m m') (by have := v1.len; omega))
  have p2 := Lib.hid (val_lt_of v2.small (K := max m m') (by have := v2.len; omega))
  have D := Lib.hid (add_done p1.out p2.out)
  have hK : max m m' ≤ 16 := by omega
  clear p1 p2
  generalize max m m' = K at *
  have Z := Lib.hid (show row K (addLo (val zs) (val ts) (2 ^ 0)) = List.replicate K 0 by rw [show 2 ^ 0 = 1 from rfl, addLo_one, row_zero])
  have Z2 := Lib.hid (show addHi (val zs) (val ts) (2 ^ 0) = 0 from addHi_one _ _)
  go_wp2_with (at_make; refine wpList_make_limbs _ rfl _ _ rfl K _ _ rfl rfl (by omega) (by omega) (by omega) ?_; intro w1 ho hbl)
  have HO := Lib.hid ho
  have HB := Lib.hid hbl
  clear ho hbl
  go_loopw [7, 8] (fun cr i wr => ∃ k : Nat, k ≤ 64 * K ∧ i = .int .i64 k ∧ cr = .int .u64 ((addHi (val zs) (val ts) (2 ^ k) : Nat) : Int) ∧ Own wr w.heap.size (row K (addLo (val zs) (val ts) (2 ^ k))) ∧ Below w.heap.size w wr) (fun _ i _ => 64 * K - (intOf i).toNat)
  case atStart => exact ⟨0, Nat.zero_le _, rfl, by rw [Z2.out]; rfl, by rw [Z.out]; exact HO.out, HB.out⟩
  case round =>
    obtain ⟨k, hk, rfl, rfl, ho, hbl⟩ := hrel
    by_cases hlt : k < 64 * K
    · have S := Lib.hid (addBit_step v1.small v2.small hlt rfl rfl)
      have u1 := v1.below (Nat.le_refl _) hbl
      have u2 := v2.below (Nat.le_refl _) hbl
      have hc1 := addHi_le (val zs) (val ts) (2 ^ k) (Nat.two_pow_pos _)
      have hb1 := bitOf_lt zs k
      have hb2 := bitOf_lt ts k
      have HO := Lib.hid ho
      have HB := Lib.hid hbl
      clear ho hbl
      go_wp2_with fail
      refine (bit_any _ _ _ _ zs _ (by omega) (by unfold maxLen; omega) (by unfold maxLen; omega) u1).mono ?_
      rintro e w' ⟨rfl, rfl⟩
      rw [Int.toNat_natCast]
      go_wp2_with fail
      refine (bit_any _ _ _ _ ts _ (by omega) (by unfold maxLen; omega) (by unfold maxLen; omega) u2).mono ?_
      rintro e w' ⟨rfl, rfl⟩
      rw [Int.toNat_natCast]
      go_wp2_with fail
      refine (set_any _ K (row K (addLo (val zs) (val ts) (2 ^ k))) _ _ _ (length_row _ _) (by omega) (by omega) (by omega) (by omega) (by omega) HO.out (small_row _ _)).mono ?_
      rintro e w2 ⟨rfl, hw⟩
      have HO2 : Hid (Own w2 w.heap.size (row K (addLo (val zs) (val ts) (2 ^ (k + 1))))) := by
        rw [hw, ← S.out.1, Int.toNat_natCast, show (((bitOf zs k : Int) + (bitOf ts k : Int) + (addHi (val zs) (val ts) (2 ^ k) : Int)) % 2).toNat = (bitOf zs k + bitOf ts k + addHi (val zs) (val ts) (2 ^ k)) % 2 by omega]
        exact HO.out.set _ _
      have HB2 : Hid (Below w.heap.size w w2) := by rw [hw]; exact HB.out.setCell (Nat.le_refl _) _
      clear hw HO HB u1 u2
      go_wp2
      go_roundw
      case rel => exact ⟨k + 1, by omega, by go_num, by rw [← S.out.2]; go_num, HO2.out, HB2.out⟩
      case measure => simp [intOf]; omega
    · obtain rfl : k = 64 * K := by omega
      have HO := Lib.hid ho
      have HB := Lib.hid hbl
      clear ho hbl
      go_wp2
      go_ret2
      exact ⟨_, by rw [← D.out.2] <;> rfl, by rw [← D.out.1]; exact HO.out, Nat.le_refl _, HB.out⟩
set_option maxHeartbeats 1000000 in
theorem refSub_any (a : Option Addr) (n c : Nat) (xs : List Nat) (a' : Option Addr) (n' c' : Nat) (ys : List Nat) (w : World) (hn : n ≤ c) (hm : c ≤ maxLen) (hn' : n' ≤ c') (hm' : c' ≤ maxLen) (hv : View w a n xs) (hv' : View w a' n' ys) :
    Calls Try.prog 48 #[.slice a n c, .slice a' n' c'] w (Makes2 (max (min n 16) (min n' 16)) (val (xs.take 16) + 2 ^ (64 * max (min n 16) (min n' 16)) - val (ys.take 16)) (ltN (val (xs.take 16)) (val (ys.take 16))) w) := by
  have v1 := hv.take 16
  have v2 := hv'.take 16
  clear hv hv'
  generalize xs.take 16 = zs at *
  generalize ys.take 16 = ts at *
  have b1 : min n 16 ≤ 16 := by omega
  have b2 : min n' 16 ≤ 16 := by omega
  go_enter Try.func48, Try.ntmps48
  go_wp2_with fail
  refine (refCut_any _ _ _ _ hn hm).mono ?_
  rintro e w' ⟨rfl, rfl⟩
  go_wp2_with fail
  refine (refCut_any _ _ _ _ hn' hm').mono ?_
  rintro e w' ⟨rfl, rfl⟩
  clear hn hm hn' hm'
  generalize min n 16 = m at *
  generalize min n' 16 = m' at *
  go_wp2_with fail
  refine (wide_any _ _ _ _ _ _ _).mono ?_
  rintro e w' ⟨rfl, rfl⟩
  have p1 := Lib.hid (val_lt_of v1.small (K := max m m') (by have := v1.len; omega))
  have p2 := Lib.hid (val_lt_of v2.small (K := max m m') (by have := v2.len; omega))
  have D := Lib.hid (dif_done p1.out p2.out)
  have hK : max m m' ≤ 16 := by omega
  clear p1 p2
  generalize max m m' = K at *
  have Z := Lib.hid (show row K (difLo (val zs) (val ts) (2 ^ 0)) = List.replicate K 0 by rw [show 2 ^ 0 = 1 from rfl, difLo_one, row_zero])
  have Z2 := Lib.hid (show difHi (val zs) (val ts) (2 ^ 0) = 0 from difHi_one _ _)
  go_wp2_with (at_make; refine wpList_make_limbs _ rfl _ _ rfl K _ _ rfl rfl (by omega) (by omega) (by omega) ?_; intro w1 ho hbl)
  have HO := Lib.hid ho
  have HB := Lib.hid hbl
  clear ho hbl
  go_loopw [7, 8] (fun cr i wr => ∃ k : Nat, k ≤ 64 * K ∧ i = .int .i64 k ∧ cr = .int .u64 ((difHi (val zs) (val ts) (2 ^ k) : Nat) : Int) ∧ Own wr w.heap.size (row K (difLo (val zs) (val ts) (2 ^ k))) ∧ Below w.heap.size w wr) (fun _ i _ => 64 * K - (intOf i).toNat)
  case atStart => exact ⟨0, Nat.zero_le _, rfl, by rw [Z2.out]; rfl, by rw [Z.out]; exact HO.out, HB.out⟩
  case round =>
    obtain ⟨k, hk, rfl, rfl, ho, hbl⟩ := hrel
    by_cases hlt : k < 64 * K
    · have S := Lib.hid (difBit_step v1.small v2.small hlt rfl rfl)
      have u1 := v1.below (Nat.le_refl _) hbl
      have u2 := v2.below (Nat.le_refl _) hbl
      have hc1 := difHi_le (val zs) (val ts) (2 ^ k)
      have hb1 := bitOf_lt zs k
      have hb2 := bitOf_lt ts k
      have HO := Lib.hid ho
      have HB := Lib.hid hbl
      clear ho hbl
      go_wp2_with fail
      refine (bit_any _ _ _ _ zs _ (by omega) (by unfold maxLen; omega) (by unfold maxLen; omega) u1).mono ?_
      rintro e w' ⟨rfl, rfl⟩
      rw [Int.toNat_natCast]
      go_wp2_with fail
      refine (bit_any _ _ _ _ ts _ (by omega) (by unfold maxLen; omega) (by unfold maxLen; omega) u2).mono ?_
      rintro e w' ⟨rfl, rfl⟩
      rw [Int.toNat_natCast]
      go_wp2_with fail
      refine (set_any _ K (row K (difLo (val zs) (val ts) (2 ^ k))) _ _ _ (length_row _ _) (by omega) (by omega) (by omega) (by omega) (by omega) HO.out (small_row _ _)).mono ?_
      rintro e w2 ⟨rfl, hw⟩
      have HO2 : Hid (Own w2 w.heap.size (row K (difLo (val zs) (val ts) (2 ^ (k + 1))))) := by
        rw [hw, ← S.out.1, Int.toNat_natCast, show ((2 + (bitOf zs k : Int) - (bitOf ts k : Int) - (difHi (val zs) (val ts) (2 ^ k) : Int)) % 2).toNat = (bitOf zs k + 2 - bitOf ts k - difHi (val zs) (val ts) (2 ^ k)) % 2 by omega]
        exact HO.out.set _ _
      have HB2 : Hid (Below w.heap.size w w2) := by rw [hw]; exact HB.out.setCell (Nat.le_refl _) _
      clear hw HO HB u1 u2
      go_wp2
      go_roundw
      case rel => exact ⟨k + 1, by omega, by go_num, by rw [← S.out.2]; go_num, HO2.out, HB2.out⟩
      case measure => simp [intOf]; omega
    · obtain rfl : k = 64 * K := by omega
      have HO := Lib.hid ho
      have HB := Lib.hid hbl
      clear ho hbl
      go_wp2
      go_ret2
      exact ⟨_, by rw [← D.out.2] <;> rfl, by rw [← D.out.1]; exact HO.out, Nat.le_refl _, HB.out⟩
end Go.Proofs.Ytdbfpbnabpapdaa
