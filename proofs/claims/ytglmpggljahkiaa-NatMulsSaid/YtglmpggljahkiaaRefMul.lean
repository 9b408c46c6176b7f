/- What is proved here: contracts of the reference's double, plus and Mul. -/
import Derived.Test.YtglmpggljahkiaaOwn
namespace Go.Proofs.Ytglmpggljahkiaa
open Go.RowKit

theorem wrap_dbl (x h : Nat) (_hx : x < 2 ^ 64) (_hh : h ≤ 1) : IntKind.u64.wrap (IntKind.u64.wrap ((x : Int) * 2) + (h : Int)) = (((2 * x + h) % 2 ^ 64 : Nat) : Int) := by
  rw [IntKind.wrap_u64, IntKind.wrap_u64]
  omega
theorem div_dbl (x h : Nat) (_hx : x < 2 ^ 64) (hh : h ≤ 1) : (x : Int) / 9223372036854775808 = (((2 * x + h) / 2 ^ 64 : Nat) : Int) := by omega

set_option maxHeartbeats 1000000 in
theorem double_any (a : Option Addr) (n c : Nat) (xs : List Nat) (md : Nat) (w : World) (hn : n ≤ 40) (hmd : md ≤ 1) (hv : View w a n xs) :
    Calls Try.prog 42 #[.slice a n c, .int .u64 (md : Int)] w (Makes1 n (2 * val xs + md) w) := by
  have hl := hv.len
  have D := Lib.hid (dbl_done (zs := xs) (m := md) (val_lt_of hv.small (K := n) (by omega)))
  have Z := Lib.hid (show row n (dblLo (val xs) md (2 ^ (64 * 0))) = List.replicate n 0 by rw [show 2 ^ (64 * 0) = 1 from rfl, show dblLo (val xs) md 1 = 0 from Nat.mod_one _, row_zero])
  have Z2 := Lib.hid (show dblHi (val xs) md (2 ^ (64 * 0)) = md by simp [dblHi, Nat.mod_one])
  clear hl
  go_enter Try.func42, Try.ntmps42
  go_wp2_with (at_make; refine wpList_make_limbs _ rfl _ _ rfl n _ _ rfl rfl (by omega) (by omega) (by omega) ?_; intro w1 ho hbl)
  have HO0 := Lib.hid ho
  have HB0 := Lib.hid hbl
  clear ho hbl
  go_loopw [1, 13] (fun cr i wr => ∃ k : Nat, k ≤ n ∧ i = .int .i64 k ∧ cr = .int .u64 ((dblHi (val xs) md (2 ^ (64 * k)) : Nat) : Int) ∧ Own wr w.heap.size (row n (dblLo (val xs) md (2 ^ (64 * k)))) ∧ Below w.heap.size w wr) (fun _ i _ => n - (intOf i).toNat)
  case atStart => exact ⟨0, Nat.zero_le _, rfl, by rw [Z2.out], by rw [Z.out]; exact HO0.out, HB0.out⟩
  case round =>
    clear HO0 HB0
    obtain ⟨k, hk, rfl, rfl, ho, hbl⟩ := hrel
    by_cases hlt : k < n
    · have S := Lib.hid (dblLimb_step hv.small (m := md) hlt rfl rfl)
      have u1 := hv.below (Nat.le_refl _) hbl
      obtain ⟨b, off, rfl, _, hc⟩ := u1.cell k hlt
      have hx := u1.lt k
      have hcell := ho.cell (i := k) (by rw [length_row]; exact hlt)
      have hfr := ho.frozen k
      have hc1 := dblHi_le (val xs) md (2 ^ (64 * k)) (Nat.two_pow_pos _) hmd
      have W1 := Lib.hid (wrap_dbl (lm xs k) (dblHi (val xs) md (2 ^ (64 * k))) hx hc1)
      have W2 := Lib.hid (div_dbl (lm xs k) (dblHi (val xs) md (2 ^ (64 * k))) hx hc1)
      generalize hy : lm (row n (dblLo (val xs) md (2 ^ (64 * k)))) k = y at hcell
      clear hy
      have HO := Lib.hid ho
      have HB := Lib.hid hbl
      clear ho hbl u1
      go_wp2
      go_roundw
      case rel => exact ⟨k + 1, by omega, by go_num, by rw [W2.out, ← S.out.2], by rw [W1.out, ← S.out.1]; exact HO.out.set _ _, HB.out.setCell (Nat.le_refl _) _⟩
      case measure => simp [intOf]; omega
    · obtain rfl : k = n := by omega
      have HO := Lib.hid ho
      have HB := Lib.hid hbl
      clear ho hbl
      go_wp2
      go_ret
      exact ⟨_, rfl, by rw [← D.out]; exact HO.out, Nat.le_refl _, HB.out⟩

/-- The three ways of a limb's sum. -/
theorem plus_ways (x y c : Nat) (hx : x < 2 ^ 64) (hy : y < 2 ^ 64) (hc : c ≤ 1) :
    (x + y + c ≤ 18446744073709551615 ∧ sumLo x y c = x + y + c ∧ sumHi x y c = 0) ∨
    (x + y ≤ 18446744073709551615 ∧ IntKind.u64.wrap ((x : Int) + (y : Int) + (c : Int)) = 0 ∧ 1 ≤ x + y ∧ sumLo x y c = 0 ∧ sumHi x y c = 1) ∨
    ∃ q : Nat, IntKind.u64.wrap ((x : Int) + (y : Int)) = (q : Int) ∧ q < x ∧ q + c ≤ 18446744073709551615 ∧ sumLo x y c = q + c ∧ sumHi x y c = 1 := by
  unfold sumLo sumHi
  rcases Nat.lt_or_ge (x + y + c) (2 ^ 64) with h | h
  · exact .inl ⟨by omega, by omega, by omega⟩
  · rcases Nat.lt_or_ge (x + y) (2 ^ 64) with h2 | h2
    · exact .inr (.inl ⟨by omega, by rw [IntKind.wrap_u64]; omega, by omega, by omega, by omega⟩)
    · exact .inr (.inr ⟨x + y - 2 ^ 64, by rw [IntKind.wrap_u64]; omega, by omega, by omega, by omega, by omega⟩)

set_option maxHeartbeats 2000000 in
theorem plus_any (a : Option Addr) (n c : Nat) (xs : List Nat) (a' : Option Addr) (n' c' : Nat) (ys : List Nat) (w : World) (hn : n ≤ 40) (hn' : n' ≤ n) (hv : View w a n xs) (hv' : View w a' n' ys) :
    Calls Try.prog 43 #[.slice a n c, .slice a' n' c'] w (Makes1 n (val xs + val ys) w) := by
  have D := Lib.hid (add_done (val_lt_of hv.small (K := n) (by have := hv.len; omega)) (val_lt_of hv'.small (K := n) (by have := hv'.len; omega)))
  have Z := Lib.hid (show row n (addLo (val xs) (val ys) (2 ^ (64 * 0))) = List.replicate n 0 by rw [show 2 ^ (64 * 0) = 1 from rfl, addLo_one, row_zero])
  have Z2 := Lib.hid (show addHi (val xs) (val ys) (2 ^ (64 * 0)) = 0 from addHi_one _ _)
  go_enter Try.func43, Try.ntmps43
  go_wp2_with (at_make; refine wpList_make_limbs _ rfl _ _ rfl n _ _ rfl rfl (by omega) (by omega) (by omega) ?_; intro w1 ho hbl)
  have HO0 := Lib.hid ho
  have HB0 := Lib.hid hbl
  clear ho hbl
  go_loopw [6, 18] (fun cr i wr => ∃ k : Nat, k ≤ n ∧ i = .int .i64 k ∧ cr = .int .u64 ((addHi (val xs) (val ys) (2 ^ (64 * k)) : Nat) : Int) ∧ Own wr w.heap.size (row n (addLo (val xs) (val ys) (2 ^ (64 * k)))) ∧ Below w.heap.size w wr) (fun _ i _ => n - (intOf i).toNat)
  case atStart => exact ⟨0, Nat.zero_le _, rfl, by rw [Z2.out]; rfl, by rw [Z.out]; exact HO0.out, HB0.out⟩
  case round =>
    clear HO0 HB0
    obtain ⟨k, hk, rfl, rfl, ho, hbl⟩ := hrel
    by_cases hlt : k < n
    · have S := Lib.hid (addLimb_step hv.small hv'.small hlt)
      have u1 := hv.below (Nat.le_refl _) hbl
      have u2 := hv'.below (Nat.le_refl _) hbl
      obtain ⟨b, off, rfl, _, hc⟩ := u1.cell k hlt
      have hx := u1.lt k
      have hy := u2.lt k
      have hcell := ho.cell (i := k) (by rw [length_row]; exact hlt)
      have hfr := ho.frozen k
      have hc1 := addHi_le (val xs) (val ys) (2 ^ (64 * k)) (Nat.two_pow_pos _)
      generalize hz : lm (row n (addLo (val xs) (val ys) (2 ^ (64 * k)))) k = z at hcell
      clear hz
      have HO := Lib.hid ho
      have HB := Lib.hid hbl
      clear ho hbl u1
      by_cases hlt2 : k < n'
      · obtain ⟨b', off', rfl, _, hc'⟩ := u2.cell k hlt2
        clear u2
        rcases plus_ways (lm xs k) (lm ys k) (addHi (val xs) (val ys) (2 ^ (64 * k))) hx hy hc1 with ⟨hA, eL, eH⟩ | ⟨hA, eW, hp, eL, eH⟩ | ⟨q, eW, hq, hA, eL, eH⟩
        · have EL := Lib.hid eL
          have EH := Lib.hid eH
          clear eL eH
          go_wp2
          go_roundw
          case rel => exact ⟨k + 1, by omega, by go_num, by rw [← S.out.2, EH.out] <;> rfl, by rw [← S.out.1, EL.out]; exact HO.out.set _ _, HB.out.setCell (Nat.le_refl _) _⟩
          case measure => simp [intOf]; omega
        · have EL := Lib.hid eL
          have EH := Lib.hid eH
          clear eL eH
          go_wp2
          go_roundw
          case rel => exact ⟨k + 1, by omega, by go_num, by rw [← S.out.2, EH.out] <;> rfl, by rw [← S.out.1, EL.out]; exact HO.out.set _ _, HB.out.setCell (Nat.le_refl _) _⟩
          case measure => simp [intOf]; omega
        · have EL := Lib.hid eL
          have EH := Lib.hid eH
          clear eL eH
          go_wp2
          go_roundw
          case rel => exact ⟨k + 1, by omega, by go_num, by rw [← S.out.2, EH.out] <;> rfl, by rw [← S.out.1, EL.out]; exact HO.out.set _ _, HB.out.setCell (Nat.le_refl _) _⟩
          case measure => simp [intOf]; omega
      · have hl2 := hv'.len
        have e0 : lm ys k = 0 := lm_zero (by omega)
        clear hl2 u2
        rcases plus_ways (lm xs k) (lm ys k) (addHi (val xs) (val ys) (2 ^ (64 * k))) hx hy hc1 with ⟨hA, eL, eH⟩ | ⟨hA, eW, hp, eL, eH⟩ | ⟨q, eW, hq, hA, eL, eH⟩
        · have EL := Lib.hid (show sumLo (lm xs k) (lm ys k) (addHi (val xs) (val ys) (2 ^ (64 * k))) = lm xs k + addHi (val xs) (val ys) (2 ^ (64 * k)) by omega)
          have EH := Lib.hid eH
          have hA' : lm xs k + addHi (val xs) (val ys) (2 ^ (64 * k)) ≤ 18446744073709551615 := by omega
          clear eL eH e0 hA
          go_wp2
          go_roundw
          case rel => exact ⟨k + 1, by omega, by go_num, by rw [← S.out.2, EH.out] <;> rfl, by rw [← S.out.1, EL.out]; exact HO.out.set _ _, HB.out.setCell (Nat.le_refl _) _⟩
          case measure => simp [intOf]; omega
        · have EL := Lib.hid eL
          have EH := Lib.hid eH
          rw [e0] at eW hp
          simp only [Int.natCast_zero, Int.add_zero, Nat.add_zero] at eW hp
          clear eL eH e0 hA
          go_wp2
          go_roundw
          case rel => exact ⟨k + 1, by omega, by go_num, by rw [← S.out.2, EH.out] <;> rfl, by rw [← S.out.1, EL.out]; exact HO.out.set _ _, HB.out.setCell (Nat.le_refl _) _⟩
          case measure => simp [intOf]; omega
        · exfalso
          rw [e0] at eL eH
          unfold sumLo at eL
          unfold sumHi at eH
          omega
    · obtain rfl : k = n := by omega
      have HO := Lib.hid ho
      have HB := Lib.hid hbl
      clear ho hbl
      go_wp2
      go_ret
      exact ⟨_, rfl, by rw [← D.out.1]; exact HO.out, Nat.le_refl _, HB.out⟩

theorem half_bit (X q : Nat) : X / 2 ^ q = 2 * (X / 2 ^ (q + 1)) + X / 2 ^ q % 2 := by
  rw [Nat.pow_succ, ← Nat.div_div_eq_div_mul]
  omega

theorem mulBit {zs ts : List Nat} (s1 : Small zs) {q K : Nat} (hX : val zs * val ts < 2 ^ (64 * K)) :
    2 * val (row K (val zs / 2 ^ (q + 1) * val ts)) + 0 + bitOf zs q * val ts = val zs / 2 ^ q * val ts ∧ 2 * val (row K (val zs / 2 ^ (q + 1) * val ts)) + 0 < 2 ^ (64 * K) := by
  have h1 : val zs / 2 ^ q * val ts ≤ val zs * val ts := Nat.mul_le_mul_right _ (Nat.div_le_self _ _)
  have h2 := half_bit (val zs) q
  have e : val zs / 2 ^ q * val ts = 2 * (val zs / 2 ^ (q + 1) * val ts) + bitOf zs q * val ts := by
    rw [bitOf_val s1]
    conv => lhs; rw [h2]
    rw [Nat.add_mul, Nat.mul_assoc]
  rw [val_row, Nat.mod_eq_of_lt (by omega)]
  omega

set_option maxHeartbeats 2000000 in
theorem refMul_any (a : Option Addr) (n c : Nat) (xs : List Nat) (a' : Option Addr) (n' c' : Nat) (ys : List Nat) (w : World) (hn : n ≤ c) (hm : c ≤ maxLen) (hn' : n' ≤ c') (hm' : c' ≤ maxLen) (hv : View w a n xs) (hv' : View w a' n' ys) :
    Calls Try.prog 23 #[.slice a n c, .slice a' n' c'] w (Makes1 (min n 16 + min n' 16) (val (xs.take 16) * val (ys.take 16)) w) := by
  have v1 := hv.take 16
  have v2 := hv'.take 16
  clear hv hv'
  generalize xs.take 16 = zs at *
  generalize ys.take 16 = ts at *
  have b1 : min n 16 ≤ 16 := by omega
  have b2 : min n' 16 ≤ 16 := by omega
  go_enter Try.func23, Try.ntmps23
  go_wp2_with fail
  refine (refCut_any _ _ _ _ hn hm).mono ?_
  rintro e w' ⟨rfl, rfl⟩
  go_wp2_with fail
  refine (refCut_any _ _ _ _ hn' hm').mono ?_
  rintro e w' ⟨rfl, rfl⟩
  clear hn hm hn' hm'
  generalize min n 16 = m at *
  generalize min n' 16 = m' at *
  have pA := val_lt_of v1.small (K := m) (by have := v1.len; omega)
  have pB := val_lt_of v2.small (K := m') (by have := v2.len; omega)
  have hX : Hid (val zs * val ts < 2 ^ (64 * (m + m'))) := by
    show val zs * val ts < 2 ^ (64 * (m + m'))
    rw [show 64 * (m + m') = 64 * m + 64 * m' by omega, Nat.pow_add]
    exact Nat.mul_lt_mul_of_lt_of_le pA (Nat.le_of_lt pB) (Nat.two_pow_pos _)
  have Z := Lib.hid (show row (m + m') (val zs / 2 ^ (64 * m) * val ts) = List.replicate (m + m') 0 by rw [Nat.div_eq_of_lt pA, Nat.zero_mul, row_zero])
  clear pA pB
  go_wp2_with (at_make; refine wpList_make_limbs _ rfl _ _ rfl (m + m') _ _ rfl rfl (by omega) (by omega) (by omega) ?_; intro w1 ho hbl)
  have HO0 := Lib.hid ho
  have HB0 := Lib.hid hbl
  clear ho hbl
  go_loopw [5, 6] (fun o i wr => ∃ k g : Nat, k ≤ 64 * m ∧ i = .int .i64 ((k : Int) - 1) ∧ o = .slice (some ⟨g, 0, none⟩) (m + m') (m + m') ∧ Own wr g (row (m + m') (val zs / 2 ^ k * val ts)) ∧ w.heap.size ≤ g ∧ Below w.heap.size w wr) (fun _ i _ => ((intOf i) + 1).toNat)
  case atStart => exact ⟨64 * m, _, Nat.le_refl _, by go_num, rfl, by rw [Z.out]; exact HO0.out, Nat.le_refl _, HB0.out⟩
  case round =>
    clear HO0 HB0
    obtain ⟨k, g, hk, rfl, rfl, ho, hg, hbl⟩ := hrel
    by_cases hlt : 1 ≤ k
    · obtain ⟨q, rfl⟩ : ∃ q, k = q + 1 := ⟨k - 1, by omega⟩
      obtain ⟨e1, e2⟩ := mulBit v1.small (q := q) hX.out
      have E1 := Lib.hid e1
      have E2 := Lib.hid e2
      have HB := Lib.hid hbl
      have vr := ho.vrow
      clear e1 e2 ho hbl
      go_wp2_with fail
      refine (double_any _ _ _ _ 0 _ (by omega) (by decide) vr).mono ?_
      rintro e w2 ⟨g2, rfl, o2, hg2, hb2⟩
      have HB2 := Lib.hid (below_then HB.out hb2)
      have HG2 : w.heap.size ≤ g2 := by have := HB.out.size; omega
      have O2 := Lib.hid o2
      have u1 := v1.below (Nat.le_refl _) HB2.out
      have u2 := v2.below (Nat.le_refl _) HB2.out
      clear HB hb2 o2 vr
      go_wp2_with fail
      refine (bit_any _ _ _ _ zs _ (by omega) (by unfold maxLen; omega) (by unfold maxLen; omega) u1).mono ?_
      rintro e w' ⟨rfl, rfl⟩
      rw [Int.toNat_natCast]
      have hb := bitOf_lt zs q
      rcases (show bitOf zs q = 0 ∨ bitOf zs q = 1 by omega) with h1 | h1
      · have F := E1.out
        rw [h1, Nat.zero_mul, Nat.add_zero] at F
        have HF := Lib.hid F
        rw [h1]
        clear h1 hb F u1 u2
        go_wp2
        go_roundw
        case rel => exact ⟨q, g2, by omega, by go_num, rfl, by rw [← HF.out]; exact O2.out, HG2, HB2.out⟩
        case measure => simp [intOf]
      · have F := E1.out
        rw [h1, Nat.one_mul] at F
        have HF := Lib.hid F
        rw [h1]
        clear h1 hb F u1
        go_wp2_with fail
        refine (plus_any _ _ _ _ _ _ _ ts _ (by omega) (by omega) O2.out.vrow u2).mono ?_
        rintro e w3 ⟨g3, rfl, o3, hg3, hb3⟩
        have HB3 := Lib.hid (below_then HB2.out hb3)
        have HG3 : w.heap.size ≤ g3 := by have := HB2.out.size; omega
        have O3 : Hid (Own w3 g3 (row (m + m') (val zs / 2 ^ q * val ts))) := by
          have h := o3
          rw [val_row _ (2 * _ + 0), Nat.mod_eq_of_lt E2.out, HF.out] at h
          exact h
        clear hb3 o3 HB2 O2 u2
        go_wp2
        go_roundw
        case rel => exact ⟨q, g3, by omega, by go_num, rfl, O3.out, HG3, HB3.out⟩
        case measure => simp [intOf]
    · obtain rfl : k = 0 := by omega
      have HO : Hid (Own wr g (row (m + m') (val zs * val ts))) := by
        have h := ho
        rw [Nat.pow_zero, Nat.div_one] at h
        exact h
      have HB := Lib.hid hbl
      clear ho hbl
      go_wp2
      go_ret
      exact ⟨_, rfl, HO.out, hg, HB.out⟩
end Go.Proofs.Ytglmpggljahkiaa
