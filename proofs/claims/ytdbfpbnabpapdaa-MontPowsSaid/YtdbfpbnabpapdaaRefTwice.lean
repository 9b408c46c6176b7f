/- What is proved here: contracts of the reference's Twice and MulMod: an element, doubled; two elements' product, modulo the modulus. -/
import Derived.Test.YtdbfpbnabpapdaaRefMont
namespace Go.Proofs.Ytdbfpbnabpapdaa
open Go.RowKit

set_option maxHeartbeats 2000000 in
theorem refTwice_any (a : Option Addr) (n c : Nat) (xs : List Nat) (am : Option Addr) (cm : Nat) (ms : List Nat) (w : World) (hnm : n ≤ cm) (hmm : cm ≤ maxLen)
    (hv : View w a n xs) (hvm : View w am n ms) (h8 : n ≤ 8) (hx : val xs < val ms) :
    Calls Try.prog 33 #[.slice a n c, .slice am n cm] w (Makes1 n (2 * val xs % val ms) w) := by
  have pM := val_lt_of hvm.small (K := n) (by rw [hvm.len]; exact Nat.le_refl _)
  have pX := val_lt_of hv.small (K := n) (by rw [hv.len]; exact Nat.le_refl _)
  have hS : 2 * val xs < 2 * val ms := by omega
  obtain ⟨c1, c2⟩ := carry_one hS pM
  have t3 := take_short hvm.len (by omega)
  have hmn : max (min n 16) (min n 16) = n := by omega
  have HR := Lib.hid (red_row hS pM)
  have C1 := Lib.hid c1
  have C2 := Lib.hid c2
  have D := Lib.hid (dbl_done (zs := xs) (m := 0) pX)
  have D2 : Hid (dblHi (val xs) 0 (2 ^ (64 * n)) = 2 * val xs / 2 ^ (64 * n)) := by unfold dblHi; rw [Nat.mod_eq_of_lt pX, Nat.add_zero]; exact rfl
  have Z := Lib.hid (show row n (dblLo (val xs) 0 (2 ^ (64 * 0))) = List.replicate n 0 by rw [show 2 ^ (64 * 0) = 1 from rfl, show dblLo (val xs) 0 1 = 0 from Nat.mod_one _, row_zero])
  have Z2 := Lib.hid (show dblHi (val xs) 0 (2 ^ (64 * 0)) = 0 by simp [dblHi, Nat.mod_one])
  clear c1 c2 pM pX hS
  go_enter Try.func33, Try.ntmps33
  go_wp2_with (at_make; refine wpList_make_limbs _ rfl _ _ rfl n _ _ rfl rfl (by omega) (by omega) (by omega) ?_; intro w1 ho hbl)
  have HO0 := Lib.hid ho
  have HB0 := Lib.hid hbl
  clear ho hbl
  go_loopw [6, 16] (fun cr i wr => ∃ k : Nat, k ≤ n ∧ i = .int .i64 k ∧ cr = .int .u64 ((dblHi (val xs) 0 (2 ^ (64 * k)) : Nat) : Int) ∧ Own wr w.heap.size (row n (dblLo (val xs) 0 (2 ^ (64 * k)))) ∧ Below w.heap.size w wr) (fun _ i _ => n - (intOf i).toNat)
  case atStart => exact ⟨0, Nat.zero_le _, rfl, by rw [Z2.out]; rfl, by rw [Z.out]; exact HO0.out, HB0.out⟩
  case round =>
    clear HO0 HB0
    obtain ⟨k, hk, rfl, rfl, ho, hbl⟩ := hrel
    by_cases hlt : k < n
    · have S := Lib.hid (dblLimb_step hv.small (m := 0) hlt rfl rfl)
      have u1 := hv.below (Nat.le_refl _) hbl
      obtain ⟨b, off, rfl, _, hc⟩ := u1.cell k hlt
      have hx := u1.lt k
      have hcell := ho.cell (i := k) (by rw [length_row]; exact hlt)
      have hfr := ho.frozen k
      have hc1 := dblHi_le (val xs) 0 (2 ^ (64 * k)) (Nat.two_pow_pos _) (by decide)
      have W1 := Lib.hid (wrap_dbl (lm xs k) (dblHi (val xs) 0 (2 ^ (64 * k))) hx hc1)
      have W2 := Lib.hid (div_dbl (lm xs k) (dblHi (val xs) 0 (2 ^ (64 * k))) hx hc1)
      generalize hy : lm (row n (dblLo (val xs) 0 (2 ^ (64 * k)))) k = y at hcell
      clear hy
      have HO := Lib.hid ho
      have HB := Lib.hid hbl
      clear ho hbl u1
      go_wp2
      go_roundw
      case rel => exact ⟨k + 1, by omega, by go_num, by rw [W2.out, ← S.out.2], by rw [W1.out, ← S.out.1]; exact HO.out.set _ _, HB.out.setCell (Nat.le_refl _) _⟩
      case measure => simp [intOf]; omega
    · obtain rfl : k = n := by omega
      rw [D.out, Nat.add_zero] at ho
      rw [D2.out]
      have UM := Lib.hid (hvm.below (Nat.le_refl _) hbl)
      have O1 := Lib.hid ho
      have HB := Lib.hid hbl
      clear ho hbl D D2 Z Z2
      generalize 2 * val xs = S at *
      have CZ := Lib.hid (@carry_zero k S)
      rcases Nat.le_one_iff_eq_zero_or_eq_one.1 C1.out with hq | hq
      · have EV := Lib.hid (val_row_lt (CZ.out hq))
        rw [hq]
        clear hq CZ C2 C1
        go_wp2_with fail
        refine (less_any _ k _ (row k S) _ cm ms _ (by omega) O1.out.vrow UM.out).mono ?_
        rintro e w2 ⟨rfl, hb2⟩
        rw [EV.out]
        have O2 := Lib.hid (O1.out.below O1.out.lt hb2)
        have UM2 := Lib.hid (UM.out.below (Nat.le_refl _) hb2)
        have HB2 := Lib.hid (below_then HB.out hb2)
        clear hb2
        by_cases hS : S < val ms
        · rw [show ltB S (val ms) = true from decide_eq_true hS]
          have E := Lib.hid (Nat.mod_eq_of_lt hS)
          clear hS
          go_wp2
          go_ret
          exact ⟨_, rfl, by rw [E.out]; exact O2.out, Nat.le_refl _, HB2.out⟩
        · rw [show ltB S (val ms) = false from decide_eq_false hS]
          have E := Lib.hid (HR.out (by omega))
          clear hS
          go_wp2_with fail
          refine (refSub_any _ k _ (row k S) _ k cm ms _ (Nat.le_refl _) (by unfold maxLen; omega) hnm hmm O2.out.vrow UM2.out).mono ?_
          rintro e w3 ⟨g3, rfl, o3, hg3, hb3⟩
          rw [take_short (length_row k S) (by omega), t3, hmn, val_row, E.out] at o3
          have O3 := Lib.hid o3
          have HG3 := Lib.hid (Nat.le_trans HB2.out.size hg3)
          have HB3 := Lib.hid (below_then HB2.out hb3)
          clear o3 hg3 hb3
          rw [hmn]
          go_wp2
          go_ret
          exact ⟨g3, rfl, O3.out, HG3.out, HB3.out⟩
      · have E := Lib.hid (HR.out (C2.out hq))
        rw [hq]
        clear hq CZ C2 C1
        go_wp2_with fail
        refine (refSub_any _ k _ (row k S) _ k cm ms _ (Nat.le_refl _) (by unfold maxLen; omega) hnm hmm O1.out.vrow UM.out).mono ?_
        rintro e w3 ⟨g3, rfl, o3, hg3, hb3⟩
        rw [take_short (length_row k S) (by omega), t3, hmn, val_row, E.out] at o3
        have O3 := Lib.hid o3
        have HG3 := Lib.hid (Nat.le_trans HB.out.size hg3)
        have HB3 := Lib.hid (below_then HB.out hb3)
        clear o3 hg3 hb3
        rw [hmn]
        go_wp2
        go_ret
        exact ⟨g3, rfl, O3.out, HG3.out, HB3.out⟩

theorem div_nbits (v : Nat) : v / 2 ^ nbits v = 0 := by
  apply Nat.div_eq_of_lt
  unfold nbits
  split
  · next h => rw [h]; decide
  · exact Nat.lt_log2_self

theorem bitOf_div {xs : List Nat} (h : Small xs) (q : Nat) : bitOf xs q = val xs / 2 ^ q % 2 := bitOf_val h q

/-- One round of MulMod without an addition. -/
theorem mul_bit0 {M A B q : Nat} (hb : A / 2 ^ q % 2 = 0) : 2 * (A / 2 ^ (q + 1) * B % M) % M = A / 2 ^ q * B % M := by
  have := mul_bit M A B q 0 hb.symm
  rwa [Nat.zero_mul, Nat.add_zero, Nat.mod_mod] at this

/-- One with it. -/
theorem mul_bit1 {M A B q : Nat} (hb : A / 2 ^ q % 2 = 1) : (2 * (A / 2 ^ (q + 1) * B % M) % M + B) % M = A / 2 ^ q * B % M := by
  have := mul_bit M A B q 1 hb.symm
  rwa [Nat.one_mul] at this

theorem val_elem {n M v : Nat} (hM : M < 2 ^ (64 * n)) (hv : v < M) : val (row n v) = v := val_row_lt (by omega)

set_option maxHeartbeats 2000000 in
theorem refMulMod_any (a : Option Addr) (n c : Nat) (xs : List Nat) (a' : Option Addr) (c' : Nat) (ys : List Nat) (am : Option Addr) (cm : Nat) (ms : List Nat) (w : World) (hn : n ≤ c) (hm : c ≤ maxLen) (hn' : n ≤ c') (hm' : c' ≤ maxLen) (hnm : n ≤ cm) (hmm : cm ≤ maxLen)
    (hv : View w a n xs) (hv' : View w a' n ys) (hvm : View w am n ms) (h8 : n ≤ 8) (hM0 : 0 < val ms) (hy : val ys < val ms) :
    Calls Try.prog 30 #[.slice a n c, .slice a' n c', .slice am n cm] w (Makes1 n (val xs * val ys % val ms) w) := by
  have pM := Lib.hid (val_lt_of hvm.small (K := n) (by rw [hvm.len]; exact Nat.le_refl _))
  have pX := Lib.hid (val_lt_of hv.small (K := n) (by rw [hv.len]; exact Nat.le_refl _))
  have t1 := take_short hv.len (by omega)
  have hnb : nbits (val xs) ≤ 64 * n := nbits_le pX.out
  have Z := Lib.hid (show row n (val xs / 2 ^ nbits (val xs) * val ys % val ms) = List.replicate n 0 by rw [div_nbits, Nat.zero_mul, Nat.zero_mod, row_zero])
  go_enter Try.func30, Try.ntmps30
  go_wp2_with (at_make; refine wpList_make_limbs _ rfl _ _ rfl n _ _ rfl rfl (by omega) (by omega) (by omega) ?_; intro w1 ho hbl)
  have HO0 := Lib.hid ho
  have HB0 := Lib.hid hbl
  have u1 := Lib.hid (hv.below (Nat.le_refl _) hbl)
  clear ho hbl
  refine (refBits_any _ n c xs _ hn hm u1.out).mono ?_
  rintro e w' ⟨rfl, rfl⟩
  rw [t1]
  clear t1 u1
  generalize nbits (val xs) = N at *
  go_wp2
  go_loopw [7, 8] (fun ov i wr => ∃ (k g : Nat), k ≤ N ∧ i = .int .i64 ((k : Int) - 1) ∧ ov = .slice (some ⟨g, 0, none⟩) n n ∧ w.heap.size ≤ g ∧ Own wr g (row n (val xs / 2 ^ k * val ys % val ms)) ∧ Below w.heap.size w wr) (fun _ i _ => ((intOf i) + 1).toNat)
  case atStart => exact ⟨N, w.heap.size, Nat.le_refl _, rfl, rfl, Nat.le_refl _, by rw [Z.out]; exact HO0.out, HB0.out⟩
  case round =>
    obtain ⟨k, g, hk, rfl, rfl, hg, ho, hbl⟩ := hrel
    clear HO0 HB0
    by_cases hlt : 1 ≤ k
    · obtain ⟨q, rfl⟩ : ∃ q, k = q + 1 := ⟨k - 1, by omega⟩
      have hlm := Nat.mod_lt (val xs / 2 ^ (q + 1) * val ys) hM0
      have EV := Lib.hid (val_elem pM.out hlm)
      have u1 := Lib.hid (hv.below (Nat.le_refl _) hbl)
      have u2 := Lib.hid (hv'.below (Nat.le_refl _) hbl)
      have u3 := Lib.hid (hvm.below (Nat.le_refl _) hbl)
      have HO := Lib.hid ho
      have HB := Lib.hid hbl
      have HLM := Lib.hid hlm
      clear ho hbl hlm hg
      go_wp2_with fail
      refine (refTwice_any _ n _ (row n (val xs / 2 ^ (q + 1) * val ys % val ms)) _ cm ms _ hnm hmm HO.out.vrow u3.out h8 (by rw [EV.out]; exact HLM.out)).mono ?_
      rintro e w2 ⟨g2, rfl, o2, hg2, hb2⟩
      rw [EV.out] at o2
      have U1 := Lib.hid (u1.out.below (Nat.le_refl _) hb2)
      have U2 := Lib.hid (u2.out.below (Nat.le_refl _) hb2)
      have U3 := Lib.hid (u3.out.below (Nat.le_refl _) hb2)
      have O2 := Lib.hid o2
      have HG2 := Lib.hid (Nat.le_trans HB.out.size hg2)
      have HB2 := Lib.hid (below_then HB.out hb2)
      clear o2 hg2 hb2 u1 u2 u3 HO HB
      go_wp2_with fail
      refine (bit_any _ _ _ _ xs _ (by omega) (by unfold maxLen; omega) (by unfold maxLen; omega) U1.out).mono ?_
      rintro e w' ⟨rfl, rfl⟩
      rw [Int.toNat_natCast, bitOf_div hv.small]
      by_cases hb : val xs / 2 ^ q % 2 = 1
      · rw [hb]
        have E := Lib.hid (mul_bit1 (M := val ms) (B := val ys) hb)
        have HL2 := Lib.hid (Nat.mod_lt (2 * (val xs / 2 ^ (q + 1) * val ys % val ms)) hM0)
        clear hb
        go_wp2_with fail
        refine (refPlus_any _ n _ (row n (2 * (val xs / 2 ^ (q + 1) * val ys % val ms) % val ms)) _ c' ys _ cm ms _ (Nat.le_refl _) (by unfold maxLen; omega) hn' hm' hnm hmm O2.out.vrow U2.out U3.out h8 (by rw [val_elem pM.out HL2.out]; exact HL2.out) hy).mono ?_
        rintro e w3 ⟨g3, rfl, o3, hg3, hb3⟩
        rw [val_elem pM.out HL2.out, E.out] at o3
        have O3 := Lib.hid o3
        have HG3 := Lib.hid (Nat.le_trans HB2.out.size hg3)
        have HB3 := Lib.hid (below_then HB2.out hb3)
        clear o3 hg3 hb3
        go_wp2
        go_roundw
        case rel => exact ⟨q, g3, by omega, by go_num, rfl, HG3.out, O3.out, HB3.out⟩
        case measure => simp [intOf]
      · have hb0 : val xs / 2 ^ q % 2 = 0 := by omega
        rw [hb0]
        have E := Lib.hid (mul_bit0 (M := val ms) (B := val ys) hb0)
        rw [E.out] at O2
        clear hb hb0
        go_wp2
        go_roundw
        case rel => exact ⟨q, g2, by omega, by go_num, rfl, HG2.out, O2.out, HB2.out⟩
        case measure => simp [intOf]
    · obtain rfl : k = 0 := by omega
      rw [Nat.pow_zero, Nat.div_one] at ho
      have HO := Lib.hid ho
      have HB := Lib.hid hbl
      clear ho hbl
      go_wp2
      go_ret
      exact ⟨g, rfl, HO.out, hg, HB.out⟩
end Go.Proofs.Ytdbfpbnabpapdaa
