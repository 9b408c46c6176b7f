/- What is proved here: contracts of math/bits.Div64 (with a high limb 0) and of nat.guessDigit: the digit that is guessed. -/
import Derived.Test.YtkkmekdhejhapaaGreatDiv64
import Derived.Deep.LoopGhost
import Derived.WalkSmall
namespace Go.Proofs.YtkkmekdhejhapaaGreat
open Go.RowKit
set_option maxHeartbeats 1000000 in
set_option maxRecDepth 100000 in
theorem div64_low (lo y : Nat) (w : World) (hy : 1 ≤ y) (hy2 : y < 18446744073709551616) (hl : lo < 18446744073709551616) :
    Calls Tryz.prog 219 #[.int .u64 0, .int .u64 (lo : Int), .int .u64 (y : Int)] w (Divs (lo / y) w) := by
  have hyz : ((y : Int) == 0) = false := by simp; omega
  have hyi : (0 : Int) < (y : Int) := by omega
  have E : Hid (IntKind.u64.wrap ((lo : Int) / (y : Int)) = ((lo / y : Nat) : Int)) := by
    have := quo_first lo y hl
    rw [Int.tdiv_eq_ediv_of_nonneg (by omega)] at this
    exact this
  go_enter Tryz.func219, Tryz.ntmps219
  go_wp2
  go_quiet (fail)
  go_wp2
  go_ret2
  exact ⟨_, nq, by rw [← E.out] <;> rfl, rfl⟩
set_option maxHeartbeats 1000000 in
theorem guessDigit_any (hi lo top : Nat) (w : World) (h1 : hi < 2 ^ 64) (h2 : lo < 2 ^ 64) (h3 : top < 2 ^ 64) (ht : 2 ^ 63 ≤ top) :
    Calls Tryz.prog 216 #[.int .u64 (hi : Int), .int .u64 (lo : Int), .int .u64 (top : Int)] w fun e w' => e = .returned (.int .u64 ((guess hi lo top : Nat) : Int)) ∧ ∃ n, w' = w.drewN n := by
  by_cases h : top ≤ hi
  · have G := Lib.hid (show guess hi lo top = 2 ^ 64 - 1 by unfold guess; rw [if_pos h])
    clear h1 h2 h3 ht
    go_enter Tryz.func216, Tryz.ntmps216
    go_wp2
    go_ret
    exact ⟨ret_int (by rw [G.out]; rfl), 0, rfl⟩
  · have G := Lib.hid (show guess hi lo top = (hi * 2 ^ 64 + lo) / top by unfold guess; rw [if_neg h])
    have D : Calls Tryz.prog 219 #[.int .u64 (hi : Int), .int .u64 (lo : Int), .int .u64 (top : Int)] w (Divs ((hi * 2 ^ 64 + lo) / top) w) := by
      rcases Nat.eq_zero_or_pos hi with h0 | h0
      · subst h0
        have := div64_low lo top w (by omega) (by omega) (by omega)
        rw [Nat.zero_mul, Nat.zero_add]
        exact this
      · exact div64_big hi lo top w (by omega) (by omega) (by omega) (by omega) h0
    have HD := Lib.hid D
    clear h1 h2 h3 ht D
    go_enter Tryz.func216, Tryz.ntmps216
    go_wp2_with fail
    refine HD.out.mono ?_
    rintro e w' ⟨r, n, rfl, rfl⟩
    rw [← G.out]
    clear HD
    go_wp2
    go_ret
    exact ⟨rfl, n, rfl⟩
theorem val_lt_of_zeros {zs : List Nat} (hs : Small zs) {k : Nat} (h : ∀ j, k ≤ j → lm zs j = 0) : val zs < 2 ^ (64 * k) := by
  have e := div_eq_of_limbs hs (ys := []) (fun y hy => by cases hy) k (fun j hj => by rw [h j hj, lm_nil])
  simp only [val, Nat.zero_div] at e
  rcases Nat.lt_or_ge (val zs) (2 ^ (64 * k)) with g | g
  · exact g
  · have := Nat.div_pos g (Nat.two_pow_pos _)
    omega
theorem window_limb {xs : List Nat} (hs : Small xs) (i0 j : Nat) : lm xs (i0 + j) = val xs / 2 ^ (64 * i0) / 2 ^ (64 * j) % 2 ^ 64 := by
  rw [lm_val hs, show 64 * (i0 + j) = 64 * i0 + 64 * j by omega, Nat.pow_add, ← Nat.div_div_eq_div_mul]
def Takes (xs : List Nat) (E g : Nat) (w : World) (e : Ending) (w' : World) : Prop :=
  ∃ zs, e = .returned (.tuple #[]) ∧ Own w' g zs ∧ zs.length = xs.length ∧ Small zs ∧ val zs = val xs % E ∧ Below g w w'
theorem digit_guess {xs ys : List Nat} (hs : Small xs) (hy : Small ys) {n i0 : Nat} (hl : ys.length = n) (hn : 1 ≤ n) (ht : 2 ^ 63 ≤ lm ys (n - 1)) (hX : val xs < val ys * 2 ^ (64 * (i0 + 1))) :
    val xs / (val ys * 2 ^ (64 * i0)) ≤ guess (lm xs (i0 + n)) (lm xs (i0 + n - 1)) (lm ys (n - 1)) ∧ val xs < 2 ^ (64 * (i0 + n + 1)) := by
  have hD : val ys < 2 ^ (64 * n) := by rw [← hl]; exact val_lt hy
  have hP := Nat.two_pow_pos (64 * i0)
  have hb : val xs < 2 ^ (64 * (i0 + n + 1)) := by
    refine Nat.lt_of_lt_of_le hX ?_
    rw [show 64 * (i0 + n + 1) = 64 * n + 64 * (i0 + 1) by omega, Nat.pow_add]
    exact Nat.mul_le_mul_right _ (Nat.le_of_lt hD)
  refine ⟨?_, hb⟩
  have h1 : val xs / 2 ^ (64 * i0) < val ys * 2 ^ 64 := by
    apply Nat.div_lt_of_lt_mul
    have e : 2 ^ (64 * i0) * (val ys * 2 ^ 64) = val ys * 2 ^ (64 * (i0 + 1)) := by
      rw [Nat.mul_left_comm, ← Nat.pow_add, show 64 * i0 + 64 = 64 * (i0 + 1) by omega]
    rw [e]
    exact hX
  have h2 : val xs / 2 ^ (64 * i0) < 2 ^ (64 * (n + 1)) := by
    apply Nat.div_lt_of_lt_mul
    rw [← Nat.pow_add, show 64 * i0 + 64 * (n + 1) = 64 * (i0 + n + 1) by omega]
    exact hb
  have e := guess_ge hn hD h1 h2 (by rw [← lm_val hy]; omega)
  rw [← window_limb hs, ← window_limb hs, ← lm_val hy] at e
  rw [show i0 + n - 1 = i0 + (n - 1) by omega, Nat.mul_comm (val ys), ← Nat.div_div_eq_div_mul]
  exact e
set_option maxHeartbeats 2000000 in
theorem takeDigit_any (n m cp cp' g i0 : Nat) (xs ys : List Nat) (a : Option Addr) (w : World) (hm : m = n + 1) (hn : 1 ≤ n) (hn2 : n ≤ 32) (hi : i0 + n + 1 ≤ xs.length) (ho : Own w g xs) (hs : Small xs) (hv : ViewB g w a n ys) (ht : 2 ^ 63 ≤ lm ys (n - 1)) (hX : val xs < val ys * 2 ^ (64 * (i0 + 1))) :
    Calls Tryz.prog 214 #[.slice (some ⟨g, i0, none⟩) m cp, .slice a n cp'] w (Takes xs (val ys * 2 ^ (64 * i0)) g w) := by
  obtain ⟨dg, hM⟩ := digit_guess hs hv.small hv.len hn ht hX
  obtain ⟨b, off, rfl, _, hct⟩ := hv.cell (n - 1) (by omega)
  have hc1 := ho.cell (i := i0 + n) (by omega)
  have hc2 := ho.cell (i := i0 + (n - 1)) (by omega)
  have l1 := lm_lt hs (i0 + n)
  have l2 := lm_lt hs (i0 + (n - 1))
  have l3 := hv.lt (n - 1)
  rw [show i0 + n - 1 = i0 + (n - 1) by omega] at dg
  have gl := guess_lt (hi := lm xs (i0 + n)) (top := lm ys (n - 1)) l2
  have zX : ∀ j, i0 + n + 1 ≤ j → lm xs j = 0 := fun j hj => lm_zero_of_lt hs hM hj
  have hEp : 0 < val ys * 2 ^ (64 * i0) := by
    rcases Nat.eq_zero_or_pos (val ys) with h0 | h0
    · rw [h0, Nat.zero_mul] at hX; omega
    · exact Nat.mul_pos h0 (Nat.two_pow_pos _)
  generalize lm xs (i0 + n) = hv1 at *
  generalize lm xs (i0 + (n - 1)) = hv2 at *
  generalize lm ys (n - 1) = tv at *
  have hnm : (n : Int) < (m : Int) := by omega
  have hn1 : (0 : Int) ≤ (n : Int) - 1 := by omega
  have hn3 : (n : Int) - 1 < (m : Int) := by omega
  have hn4 : (n : Int) - 1 < (n : Int) := by omega
  have HM := Lib.hid hm
  have DG := Lib.hid dg
  have MM := Lib.hid hM
  have HO0 := Lib.hid ho
  have HS := Lib.hid hs
  have HZ := Lib.hid zX
  have GL := Lib.hid gl
  clear dg hM ho hs hX hm zX gl
  go_enter Tryz.func214, Tryz.ntmps214
  go_wp2
  have hw1 : IntKind.i64.wrap ((n : Int) - 1) = (n : Int) - 1 := IntWalk.i64_in _ (by omega)
  have hw2 : ((n : Int) - 1).toNat = n - 1 := by omega
  go_quiet ((go_at_call 216; exact Calls.quiet_of (guessDigit_any _ _ _ _ l1 l2 l3 ht)))
  clear hw1 hw2 l1 l2 l3 ht hc1 hc2 hct
  have HO1 : Hid (Own (w.drewN nq) g xs) := HO0.out
  have HV1 : Hid (ViewB g (w.drewN nq) (some ⟨b, off, none⟩) n ys) := hv.below (Nat.le_refl _) (below_drewN (Below.refl _ _) _)
  have HB1 : Hid (Below g w (w.drewN nq)) := below_drewN (Below.refl _ _) _
  clear HO0
  generalize w.drewN nq = w1 at *
  go_wp2_with fail
  refine (subTimes_any n m _ _ g i0 _ xs ys _ _ HM.out (by omega) GL.out (by omega) HO1.out HS.out HV1.out).mono ?_
  rintro e w2 ⟨bb, zs, rfl, hT, ho2, hb2⟩
  have z2 : ∀ j, i0 + n + 1 ≤ j → lm zs j = 0 := fun j hj => by rw [hT.rest j (.inr hj)]; exact HZ.out j hj
  have D0 : Hid (Digit (val xs) (val ys * 2 ^ (64 * i0)) (2 ^ (64 * (i0 + n + 1))) (guess hv1 hv2 tv) bb (val zs)) :=
    ⟨DG.out, hT.borrow, val_lt_of_zeros hT.small z2, by rw [← Nat.mul_assoc]; exact hT.sum⟩
  have HZ2 := Lib.hid z2
  have HT2 : Hid (zs.length = xs.length ∧ Small zs) := ⟨hT.len, hT.small⟩
  have HO2 := Lib.hid ho2
  have HB2 := Lib.hid (HB1.out.trans hb2)
  clear hT ho2 hb2 z2 HO1 HB1
  go_wp2
  go_loopg [6] (guess hv1 hv2 tv) (fun j bv wr => ∃ bb zs, bv = .int .u64 ((bb : Nat) : Int) ∧ Digit (val xs) (val ys * 2 ^ (64 * i0)) (2 ^ (64 * (i0 + n + 1))) j bb (val zs) ∧ (∀ j, i0 + n + 1 ≤ j → lm zs j = 0) ∧ zs.length = xs.length ∧ Small zs ∧ Own wr g zs ∧ Below g w wr)
  case atStart => exact ⟨bb, zs, rfl, D0.out, HZ2.out, HT2.out.1, HT2.out.2, HO2.out, HB2.out⟩
  case round =>
    clear D0 HZ2 HT2 HO2 HB2
    obtain ⟨b1, us, rfl, hD, hz, hlen, hsm, ho, hbl⟩ := hrel
    have hb1 := hD.bor
    rcases (show b1 = 0 ∨ b1 = 1 by omega) with h0 | h0
    · subst h0
      have R := Lib.hid (hD.done hEp)
      have HL := Lib.hid hlen
      have HSm := Lib.hid hsm
      have HO := Lib.hid ho
      have HB := Lib.hid hbl
      clear hD hz hlen hsm ho hbl hb1
      go_wp2
      go_end0
      exact ⟨us, rfl, HO.out, HL.out, HSm.out, R.out, HB.out⟩
    · subst h0
      have HD := Lib.hid hD
      have HZ3 := Lib.hid hz
      have HL := Lib.hid hlen
      have HSm := Lib.hid hsm
      have HO := Lib.hid ho
      have HB := Lib.hid hbl
      clear hD hz hlen hsm ho hbl hb1
      go_wp2_with fail
      refine (addBack_any n m _ _ g i0 us ys _ _ (by have := HM.out; omega) (by have := HL.out; have := HM.out; omega) HO.out HSm.out (hv.below (Nat.le_refl _) HB.out) (by unfold maxLen; omega)).mono ?_
      rintro e w3 ⟨c, vs, rfl, hc1, hA, ho3, hb3⟩
      have hm := HM.out
      have z3 : ∀ j, i0 + n + 1 ≤ j → lm vs j = 0 := fun j hj => by rw [hA.rest j (.inr (by omega))]; exact HZ3.out j hj
      have hyl : val ys < 2 ^ (64 * (n + 1)) := Nat.lt_of_lt_of_le (val_lt hv.small) (Nat.pow_le_pow_right (by decide) (by rw [hv.len]; omega))
      have hsum := hA.sum
      rw [hm, Nat.mod_eq_of_lt hyl, Nat.one_mul, ← Nat.add_assoc] at hsum
      have D3 := Lib.hid (HD.out.back (val_lt_of_zeros hA.small z3) hc1 hsum)
      have HM3 := Lib.hid HD.out.more
      have HZ4 := Lib.hid z3
      have HL4 : Hid (vs.length = xs.length ∧ Small vs) := ⟨hA.len.trans HL.out, hA.small⟩
      have HO4 := Lib.hid ho3
      have HB4 := Lib.hid (HB.out.trans hb3)
      clear hm z3 hyl hsum hA ho3 hb3 HD HZ3 HL HSm HO HB
      go_wp2
      go_roundg (gk - 1)
      case measure => exact Nat.sub_lt (Nat.lt_of_le_of_lt (Nat.zero_le _) HM3.out) (by decide)
      case rel => exact ⟨1 - c, vs, by go_num, D3.out, HZ4.out, HL4.out.1, HL4.out.2, HO4.out, HB4.out⟩
end Go.Proofs.YtkkmekdhejhapaaGreat
