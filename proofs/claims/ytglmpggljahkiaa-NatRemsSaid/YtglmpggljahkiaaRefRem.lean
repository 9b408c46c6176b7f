/- What is proved here: contracts of the reference's Less, minus and Rem. -/
import Derived.Test.YtglmpggljahkiaaRefMul
import Derived.Test.YtglmpggljahkiaaCmp
import Derived.WalkSmall
namespace Go.Proofs.Ytglmpggljahkiaa
open Go.RowKit

theorem less_limb {zs ts : List Nat} {q : Nat} (s1 : Small zs) (s2 : Small ts) (h : ∀ j, q + 1 ≤ j → lm zs j = lm ts j) (hne : lm zs q ≠ lm ts q) : (lm zs q < lm ts q) = (val zs < val ts) := by
  rcases Nat.lt_or_ge (lm zs q) (lm ts q) with g | g
  · exact propext ⟨fun _ => val_lt_of_limb s1 s2 q (fun j hj => h j hj) g, fun _ => g⟩
  · have := val_lt_of_limb s2 s1 q (fun j hj => (h j hj).symm) (by omega)
    exact propext ⟨fun h1 => absurd h1 (by omega), fun h1 => absurd h1 (by omega)⟩

def ltB (x y : Nat) : Bool := decide (x < y)

set_option maxHeartbeats 1000000 in
theorem less_any (a : Option Addr) (n c : Nat) (xs : List Nat) (a' : Option Addr) (c' : Nat) (ys : List Nat) (w : World) (hn : n ≤ 40) (hv : View w a n xs) (hv' : View w a' n ys) :
    Calls Try.prog 45 #[.slice a n c, .slice a' n c'] w fun e w' => e = .returned (.bool (ltB (val xs) (val ys))) ∧ Below w.heap.size w w' := by
  have l1 := hv.len
  have l2 := hv'.len
  have HZ := Lib.hid (show ∀ j, n ≤ j → lm xs j = lm ys j from fun j hj => by rw [lm_zero (by omega), lm_zero (by omega)])
  have s1 := Lib.hid hv.small
  have s2 := Lib.hid hv'.small
  clear l1 l2
  go_enter Try.func45, Try.ntmps45
  go_wp2
  go_loopw [5] (fun i wr => ∃ k : Nat, k ≤ n ∧ i = .int .i64 ((k : Int) - 1) ∧ Hid (∀ j, k ≤ j → lm xs j = lm ys j) ∧ Below w.heap.size w wr) (fun i _ => ((intOf i) + 1).toNat)
  case atStart => exact ⟨n, Nat.le_refl _, rfl, HZ, Below.refl _ _⟩
  case round =>
    clear HZ
    obtain ⟨k, hk, rfl, HA, hbl⟩ := hrel
    by_cases hlt : 1 ≤ k
    · obtain ⟨q, rfl⟩ : ∃ q, k = q + 1 := ⟨k - 1, by omega⟩
      have u1 := hv.below (Nat.le_refl _) hbl
      have u2 := hv'.below (Nat.le_refl _) hbl
      obtain ⟨b, off, rfl, _, hc⟩ := u1.cell q (by omega)
      obtain ⟨b', off', rfl, _, hc'⟩ := u2.cell q (by omega)
      have HB := Lib.hid hbl
      have hlt' : (q : Int) < (n : Int) := by omega
      clear hbl u1 u2
      by_cases he : lm xs q = lm ys q
      · have R := Lib.hid (show ∀ j, q ≤ j → lm xs j = lm ys j from fun j hj => by
          by_cases e : j = q
          · rw [e, he]
          · exact HA.out j (by omega))
        have hne : (((lm xs q : Nat) : Int) != ((lm ys q : Nat) : Int)) = false := by simp [he]
        clear he
        go_wp2
        go_quiet (fail)
        go_wp2
        go_roundw
        case rel => exact ⟨q, by omega, by go_num, R, below_drewN HB.out _⟩
        case measure => simp [intOf]
      · have R : Hid (decide (lm xs q < lm ys q) = ltB (val xs) (val ys)) := by
          unfold ltB
          rw [Hid, decide_eq_decide, less_limb s1.out s2.out HA.out he]
        have hne : (((lm xs q : Nat) : Int) != ((lm ys q : Nat) : Int)) = true := by simp; omega
        clear he
        go_wp2
        go_quiet (fail)
        go_wp2
        go_quiet (fail)
        go_wp2
        go_ret
        exact ⟨by rw [← R.out] <;> rfl, below_drewN (below_drewN HB.out _) _⟩
    · obtain rfl : k = 0 := by omega
      have R : Hid (false = ltB (val xs) (val ys)) := by
        unfold ltB
        rw [Hid, val_eq_of_limbs s1.out s2.out (fun j => HA.out j (Nat.zero_le _))]
        simp
      have HB := Lib.hid hbl
      clear hbl
      go_wp2
      go_ret
      exact ⟨by rw [← R.out] <;> rfl, HB.out⟩

theorem subLimb_step2 {zs ts : List Nat} (s1 : Small zs) (s2 : Small ts) {K k : Nat} (hk : k < K) :
    (row K (difLo (val zs) (val ts) (2 ^ (64 * k)))).set k (subLo (lm zs k) (lm ts k) (difHi (val zs) (val ts) (2 ^ (64 * k)))) = row K (difLo (val zs) (val ts) (2 ^ (64 * (k + 1)))) ∧
    subHi (lm zs k) (lm ts k) (difHi (val zs) (val ts) (2 ^ (64 * k))) = difHi (val zs) (val ts) (2 ^ (64 * (k + 1))) := by
  have hp := Nat.two_pow_pos (64 * k)
  obtain ⟨e1, e2⟩ := dif_digit (val zs) (val ts) (2 ^ (64 * k)) (2 ^ 64) hp (by decide)
  rw [← lm_val s1, ← lm_val s2, Nat.mul_comm, ← pow64] at e1
  rw [← lm_val s1, ← lm_val s2, Nat.mul_comm, ← pow64] at e2
  refine ⟨?_, e2.symm⟩
  rw [row_set _ _ _ (subLo _ _ _) (difLo_lt _ _ _ hp) (Nat.mod_lt _ (by decide)) hk, e1]
  rfl

/-- The four ways of a limb's difference. -/
theorem minus_ways (x y b : Nat) (hx : x < 2 ^ 64) (hy : y < 2 ^ 64) (hb : b ≤ 1) :
    (x < y ∧ ∃ q : Nat, IntKind.u64.wrap ((x : Int) - (y : Int)) = (q : Int) ∧ b ≤ q ∧ q ≤ 18446744073709551615 ∧ subLo x y b = q - b ∧ subHi x y b = 1) ∨
    (x = y ∧ b = 0 ∧ subLo x y b = 0 ∧ subHi x y b = 0) ∨
    (x = y ∧ b = 1 ∧ subLo x y b = 18446744073709551615 ∧ subHi x y b = 1) ∨
    (y < x ∧ subLo x y b = x - y - b ∧ subHi x y b = 0) := by
  unfold subLo subHi
  rcases Nat.lt_trichotomy x y with h | h | h
  · refine .inl ⟨h, x + 2 ^ 64 - y, by rw [IntKind.wrap_u64]; omega, by omega, by omega, by omega, by rw [if_pos (by omega)]⟩
  · rcases (show b = 0 ∨ b = 1 by omega) with hb | hb
    · exact .inr (.inl ⟨h, hb, by omega, by rw [if_neg (by omega)]⟩)
    · exact .inr (.inr (.inl ⟨h, hb, by omega, by rw [if_pos (by omega)]⟩))
  · exact .inr (.inr (.inr ⟨h, by omega, by rw [if_neg (by omega)]⟩))

theorem dif_done2 {zs ts : List Nat} {K : Nat} (h1 : val zs < 2 ^ (64 * K)) (hle : val ts ≤ val zs) :
    row K (difLo (val zs) (val ts) (2 ^ (64 * K))) = row K (val zs - val ts) := by
  unfold difLo
  rw [Nat.mod_eq_of_lt h1, Nat.mod_eq_of_lt (Nat.lt_of_le_of_lt hle h1), row_mod]
  rw [← row_mod K (val zs + 2 ^ (64 * K) - val ts), ← row_mod K (val zs - val ts)]
  congr 1
  rw [show val zs + 2 ^ (64 * K) - val ts = (val zs - val ts) + 2 ^ (64 * K) by omega, Nat.add_mod_right]

set_option maxHeartbeats 2000000 in
theorem minus_any (a : Option Addr) (n c : Nat) (xs : List Nat) (a' : Option Addr) (c' : Nat) (ys : List Nat) (w : World) (hn : n ≤ 40) (hv : View w a n xs) (hv' : View w a' n ys) (hle : val ys ≤ val xs) :
    Calls Try.prog 46 #[.slice a n c, .slice a' n c'] w (Makes1 n (val xs - val ys) w) := by
  have D := Lib.hid (dif_done2 (val_lt_of hv.small (K := n) (by have := hv.len; omega)) hle)
  have Z := Lib.hid (show row n (difLo (val xs) (val ys) (2 ^ (64 * 0))) = List.replicate n 0 by rw [show 2 ^ (64 * 0) = 1 from rfl, difLo_one, row_zero])
  have Z2 := Lib.hid (show difHi (val xs) (val ys) (2 ^ (64 * 0)) = 0 from difHi_one _ _)
  clear hle
  go_enter Try.func46, Try.ntmps46
  go_wp2_with (at_make; refine wpList_make_limbs _ rfl _ _ rfl n _ _ rfl rfl (by omega) (by omega) (by omega) ?_; intro w1 ho hbl)
  have HO0 := Lib.hid ho
  have HB0 := Lib.hid hbl
  clear ho hbl
  go_loopw [6, 14] (fun cr i wr => ∃ k : Nat, k ≤ n ∧ i = .int .i64 k ∧ cr = .int .u64 ((difHi (val xs) (val ys) (2 ^ (64 * k)) : Nat) : Int) ∧ Own wr w.heap.size (row n (difLo (val xs) (val ys) (2 ^ (64 * k)))) ∧ Below w.heap.size w wr) (fun _ i _ => n - (intOf i).toNat)
  case atStart => exact ⟨0, Nat.zero_le _, rfl, by rw [Z2.out]; rfl, by rw [Z.out]; exact HO0.out, HB0.out⟩
  case round =>
    clear HO0 HB0
    obtain ⟨k, hk, rfl, rfl, ho, hbl⟩ := hrel
    by_cases hlt : k < n
    · have S := Lib.hid (subLimb_step2 hv.small hv'.small hlt)
      have u1 := hv.below (Nat.le_refl _) hbl
      have u2 := hv'.viewB (Nat.le_refl _) hbl
      obtain ⟨b, off, rfl, _, hc⟩ := u1.cell k hlt
      obtain ⟨b', off', rfl, hblt, hc'⟩ := u2.cell k hlt
      have hx := u1.lt k
      have hy := u2.lt k
      have hcell := ho.cell (i := k) (by rw [length_row]; exact hlt)
      have hfr := ho.frozen k
      have hb1 := difHi_le (val xs) (val ys) (2 ^ (64 * k))
      generalize hz : lm (row n (difLo (val xs) (val ys) (2 ^ (64 * k)))) k = z at hcell
      clear hz
      have HO := Lib.hid ho
      have HB := Lib.hid hbl
      clear ho hbl u1 u2
      have W := minus_ways (lm xs k) (lm ys k) (difHi (val xs) (val ys) (2 ^ (64 * k))) hx hy hb1
      generalize lm xs k = x at *
      generalize lm ys k = y at *
      generalize difHi (val xs) (val ys) (2 ^ (64 * k)) = bo at *
      rcases W with ⟨h1, q, e1, e2, e3, e4, e5⟩ | ⟨rfl, rfl, e4, e5⟩ | ⟨rfl, rfl, e4, e5⟩ | ⟨h1, e4, e5⟩
      · have E4 := Lib.hid e4
        have E5 := Lib.hid e5
        clear e4 e5
        go_wp2
        go_roundw
        case rel => exact ⟨k + 1, by omega, by go_num, by rw [← S.out.2, E5.out] <;> rfl, by rw [← S.out.1, E4.out, show ((q : Int) - (bo : Int)) = ((q - bo : Nat) : Int) by omega]; exact HO.out.set _ _, HB.out.setCell (Nat.le_refl _) _⟩
        case measure => simp [intOf]; omega
      · have E4 := Lib.hid e4
        have E5 := Lib.hid e5
        clear e4 e5
        go_wp2
        go_roundw
        case rel => exact ⟨k + 1, by omega, by go_num, by rw [← S.out.2, E5.out] <;> rfl, by rw [← S.out.1, E4.out]; exact HO.out.set _ 0, HB.out.setCell (Nat.le_refl _) _⟩
        case measure => simp [intOf]; omega
      · have E4 := Lib.hid e4
        have E5 := Lib.hid e5
        clear e4 e5
        go_wp2
        go_roundw
        case rel => exact ⟨k + 1, by omega, by go_num, by rw [← S.out.2, E5.out] <;> rfl, by rw [← S.out.1, E4.out, show IntKind.u64.wrap (-1) = ((18446744073709551615 : Nat) : Int) by rw [IntKind.wrap_u64]; rfl]; exact HO.out.set _ _, HB.out.setCell (Nat.le_refl _) _⟩
        case measure => simp [intOf]; omega
      · have E4 := Lib.hid e4
        have E5 := Lib.hid e5
        clear e4 e5
        have hne : ((x : Int) == (y : Int)) = false := by simp; omega
        go_wp2
        go_roundw
        case rel => exact ⟨k + 1, by omega, by go_num, by rw [← S.out.2, E5.out] <;> rfl, by rw [← S.out.1, E4.out, show ((x : Int) - (y : Int) - (bo : Int)) = ((x - y - bo : Nat) : Int) by omega]; exact HO.out.set _ _, HB.out.setCell (Nat.le_refl _) _⟩
        case measure => simp [intOf]; omega
    · obtain rfl : k = n := by omega
      have HO := Lib.hid ho
      have HB := Lib.hid hbl
      clear ho hbl
      go_wp2
      go_ret
      exact ⟨_, rfl, by rw [← D.out]; exact HO.out, Nat.le_refl _, HB.out⟩

theorem mod_step {zs : List Nat} (s1 : Small zs) {K k : Nat} (hk : k < K) : (row K (val zs % 2 ^ (64 * k))).set k (lm zs k) = row K (val zs % 2 ^ (64 * (k + 1))) := by
  rw [row_set _ _ _ _ (Nat.mod_lt _ (Nat.two_pow_pos _)) (lm_lt s1 k) hk, mod_limb, lm_val s1]

theorem bit_half (X q : Nat) : X / 2 ^ q = 2 * (X / 2 ^ (q + 1)) + X / 2 ^ q % 2 := by
  rw [Nat.pow_succ, ← Nat.div_div_eq_div_mul]
  omega

/-- One bit more of a rest. -/
theorem rest_bit {A M q b : Nat} (hM : 0 < M) (hb : b = A / 2 ^ q % 2) :
    (2 * (A / 2 ^ (q + 1) % M) + b < M → 2 * (A / 2 ^ (q + 1) % M) + b = A / 2 ^ q % M) ∧ (M ≤ 2 * (A / 2 ^ (q + 1) % M) + b → 2 * (A / 2 ^ (q + 1) % M) + b - M = A / 2 ^ q % M) ∧ 2 * (A / 2 ^ (q + 1) % M) + b < 2 * M := by
  have e := bit_half A q
  rw [← hb] at e
  have h1 := Nat.mod_lt (A / 2 ^ (q + 1)) hM
  have hb2 : b < 2 := by rw [hb]; exact Nat.mod_lt _ (by decide)
  have e2 : A / 2 ^ q % M = (2 * (A / 2 ^ (q + 1) % M) + b) % M := by
    rw [e]
    conv => lhs; rw [← Nat.div_add_mod (A / 2 ^ (q + 1)) M]
    rw [Nat.mul_add, Nat.mul_left_comm, Nat.add_assoc, Nat.mul_add_mod]
  rw [e2]
  generalize A / 2 ^ (q + 1) % M = r at *
  refine ⟨fun h => (Nat.mod_eq_of_lt h).symm, fun h => ?_, by omega⟩
  rw [Nat.mod_eq_sub_mod h]
  exact (Nat.mod_eq_of_lt (by omega)).symm

theorem val_row_lt {K v : Nat} (h : v < 2 ^ (64 * K)) : val (row K v) = v := by rw [val_row, Nat.mod_eq_of_lt h]

theorem row_take {k m v : Nat} (h : k ≤ m) : (row m v).take k = row k v := by
  induction k generalizing m v with
  | zero => simp [row]
  | succ k ih =>
    cases m with
    | zero => omega
    | succ m => simp only [row, List.take_succ_cons]; rw [ih (by omega)]

/-- What the reference's Rem leaves. -/
def Rems (K v : Nat) (w : World) (e : Ending) (w' : World) : Prop :=
  ∃ ad cap, e = .returned (.slice ad K cap) ∧ View w' ad K (row K v) ∧ Below w.heap.size w w'

set_option maxHeartbeats 4000000 in
theorem refRem_any (a : Option Addr) (n c : Nat) (xs : List Nat) (a' : Option Addr) (n' c' : Nat) (ys : List Nat) (w : World) (hn : n ≤ c) (hm : c ≤ maxLen) (hn' : n' ≤ c') (hm' : c' ≤ maxLen) (hv : View w a n xs) (hv' : View w a' n' ys) (hM : val (ys.take 16) ≠ 0) :
    Calls Try.prog 25 #[.slice a n c, .slice a' n' c'] w (Rems (min n' 16) (val (xs.take 16) % val (ys.take 16)) w) := by
  have v1 := hv.take 16
  have v2 := hv'.take 16
  clear hv hv'
  generalize xs.take 16 = zs at *
  generalize ys.take 16 = ts at *
  have b1 : min n 16 ≤ 16 := by omega
  have b2 : min n' 16 ≤ 16 := by omega
  have HM : Hid (0 < val ts) := Nat.pos_of_ne_zero hM
  clear hM
  go_enter Try.func25, Try.ntmps25
  go_wp2_with fail
  refine (refCut_any _ _ _ _ hn hm).mono ?_
  rintro e w' ⟨rfl, rfl⟩
  go_wp2_with fail
  refine (refCut_any _ _ _ _ hn' hm').mono ?_
  rintro e w' ⟨rfl, rfl⟩
  clear hn hm hn' hm'
  generalize min n 16 = m at *
  generalize min n' 16 = m' at *
  have hMl := Lib.hid (val_lt_of v2.small (K := m') (by rw [v2.len]; exact Nat.le_refl _))
  have hAl := Lib.hid (val_lt_of v1.small (K := m) (by rw [v1.len]; exact Nat.le_refl _))
  have Z := Lib.hid (show row (m' + 1) (val ts % 2 ^ (64 * 0)) = List.replicate (m' + 1) 0 by rw [show 2 ^ (64 * 0) = 1 from rfl, Nat.mod_one, row_zero])
  go_wp2_with (at_make; refine wpList_make_limbs _ rfl _ _ rfl (m' + 1) _ _ rfl rfl (by omega) (by omega) (by omega) ?_; intro w1 ho hbl)
  have HO0 := Lib.hid ho
  have HB0 := Lib.hid hbl
  clear ho hbl
  go_loopw [20] (fun i wr => ∃ k : Nat, k ≤ m' ∧ i = .int .i64 k ∧ Own wr w.heap.size (row (m' + 1) (val ts % 2 ^ (64 * k))) ∧ Below w.heap.size w wr) (fun i _ => m' - (intOf i).toNat)
  case atStart => exact ⟨0, Nat.zero_le _, rfl, by rw [Z.out]; exact HO0.out, HB0.out⟩
  case round =>
    clear HO0 HB0
    obtain ⟨k, hk, rfl, ho, hbl⟩ := hrel
    by_cases hlt : k < m'
    · have S := Lib.hid (mod_step v2.small (K := m' + 1) (k := k) (by omega))
      have u2 := v2.below (Nat.le_refl _) hbl
      obtain ⟨b, off, rfl, _, hc⟩ := u2.cell k hlt
      have hcell := ho.cell (i := k) (by rw [length_row]; omega)
      have hfr := ho.frozen k
      generalize hy : lm (row (m' + 1) (val ts % 2 ^ (64 * k))) k = y at hcell
      clear hy
      have HO := Lib.hid ho
      have HB := Lib.hid hbl
      clear ho hbl u2
      go_wp2
      go_roundw
      case rel => exact ⟨k + 1, by omega, by go_num, by rw [← S.out]; exact HO.out.set _ _, HB.out.setCell (Nat.le_refl _) _⟩
      case measure => simp [intOf]; omega
    · obtain rfl : k = m' := by omega
      have VW : View wr (some ⟨w.heap.size, 0, none⟩) (k + 1) (row (k + 1) (val ts)) := by
        have h := ho
        rw [Nat.mod_eq_of_lt hMl.out] at h
        exact h.vrow
      have HB1 := Lib.hid hbl
      clear ho hbl
      have VT := Lib.hid (show val (row (k + 1) (val ts)) = val ts from by rw [val_row, Nat.mod_eq_of_lt (Nat.lt_of_lt_of_le hMl.out (Nat.pow_le_pow_right (by decide) (by omega)))])
      have Z2 := Lib.hid (show row (k + 1) (val zs / 2 ^ (64 * m) % val ts) = List.replicate (k + 1) 0 by rw [Nat.div_eq_of_lt hAl.out, Nat.zero_mod, row_zero])
      have sz1 := HB1.out.size
      go_wp2_with (at_make; refine wpList_make_limbs _ rfl _ _ rfl (k + 1) _ _ rfl rfl (by omega) (by omega) (by omega) ?_; intro w2 ho2 hbl2)
      have HO2 := Lib.hid ho2
      have HB2 := Lib.hid hbl2
      clear ho2 hbl2
      go_loopw [8, 9] (fun o i wx => ∃ j g : Nat, j ≤ 64 * m ∧ i = .int .i64 ((j : Int) - 1) ∧ o = .slice (some ⟨g, 0, none⟩) (k + 1) (k + 1) ∧ Own wx g (row (k + 1) (val zs / 2 ^ j % val ts)) ∧ Below wr.heap.size wr wx) (fun _ i _ => ((intOf i) + 1).toNat)
      case atStart => exact ⟨64 * m, _, Nat.le_refl _, by go_num, rfl, by rw [Z2.out]; exact HO2.out, HB2.out⟩
      case round =>
        clear HO2 HB2
        obtain ⟨j, g, hj, rfl, rfl, ho, hbl⟩ := hrel
        by_cases hlt2 : 1 ≤ j
        · obtain ⟨q, rfl⟩ : ∃ q, j = q + 1 := ⟨j - 1, by omega⟩
          obtain ⟨r1, r2, r3⟩ := rest_bit (A := val zs) (q := q) HM.out rfl
          have RV : val (row (k + 1) (val zs / 2 ^ (q + 1) % val ts)) = val zs / 2 ^ (q + 1) % val ts := by
            rw [val_row, Nat.mod_eq_of_lt]
            exact Nat.lt_trans (Nat.mod_lt _ HM.out) (Nat.lt_of_lt_of_le hMl.out (Nat.pow_le_pow_right (by decide) (by omega)))
          have BV := bitOf_val v1.small q
          have r3' : 2 * (val zs / 2 ^ (q + 1) % val ts) + bitOf zs q < 2 ^ (64 * (k + 1)) := by
            have h1 := hMl.out
            rw [BV, pow64]
            omega
          have DV := val_row_lt r3'
          rw [← BV] at r1 r2
          have R1 := Lib.hid r1
          have R2 := Lib.hid r2
          have HRV := Lib.hid RV
          have HDV := Lib.hid DV
          have u1 := v1.below (Nat.le_refl _) (below_then HB1.out hbl)
          have hbt := bitOf_lt zs q
          have HO := Lib.hid ho
          have HB := Lib.hid hbl
          clear r1 r2 r3 RV BV r3' DV ho hbl
          go_wp2_with fail
          refine (bit_any _ _ _ _ zs _ (by omega) (by unfold maxLen; omega) (by unfold maxLen; omega) u1).mono ?_
          rintro e w' ⟨rfl, rfl⟩
          rw [Int.toNat_natCast]
          go_wp2_with fail
          refine (double_any _ _ _ _ _ _ (by omega) (by omega) HO.out.vrow).mono ?_
          rintro e x2 ⟨g2, rfl, o2, hg2, hb2⟩
          rw [HRV.out] at o2
          have HB3 := Lib.hid (below_then HB.out hb2)
          have O2 := Lib.hid o2
          have vw := VW.below (Nat.le_refl _) HB3.out
          clear o2 hb2 HB HO u1 hbt
          go_wp2_with fail
          refine (less_any _ _ _ _ _ _ _ _ (by omega) O2.out.vrow vw).mono ?_
          rintro e x3 ⟨rfl, hb3⟩
          rw [HDV.out, VT.out]
          have HB4 := Lib.hid (below_then HB3.out hb3)
          have O3 := Lib.hid (O2.out.below O2.out.lt hb3)
          have vw3 := vw.below (Nat.le_refl _) hb3
          clear hb3 HB3 O2 vw
          by_cases hcmp : 2 * (val zs / 2 ^ (q + 1) % val ts) + bitOf zs q < val ts
          · have hl : ltB (2 * (val zs / 2 ^ (q + 1) % val ts) + bitOf zs q) (val ts) = true := by simp [ltB, hcmp]
            have F := Lib.hid (R1.out hcmp)
            rw [hl]
            clear hl hcmp vw3
            go_wp2
            go_roundw
            case rel => exact ⟨q, g2, by omega, by go_num, rfl, by rw [← F.out]; exact O3.out, HB4.out⟩
            case measure => simp [intOf]
          · have hl : ltB (2 * (val zs / 2 ^ (q + 1) % val ts) + bitOf zs q) (val ts) = false := by simp [ltB]; omega
            have F := Lib.hid (R2.out (by omega))
            rw [hl]
            have HC := Lib.hid hcmp
            clear hl hcmp
            go_wp2_with fail
            refine (minus_any _ _ _ _ _ _ _ _ (by omega) O3.out.vrow vw3 (by rw [HDV.out, VT.out]; have := HC.out; omega)).mono ?_
            rintro e x4 ⟨g4, rfl, o4, hg4, hb4⟩
            rw [HDV.out, VT.out, F.out] at o4
            have HB5 := Lib.hid (below_then HB4.out hb4)
            have O4 := Lib.hid o4
            clear o4 hb4 HB4 O3 vw3
            go_wp2
            go_roundw
            case rel => exact ⟨q, g4, by omega, by go_num, rfl, O4.out, HB5.out⟩
            case measure => simp [intOf]
        · obtain rfl : j = 0 := by omega
          have h := ho
          rw [Nat.pow_zero, Nat.div_one] at h
          have h2 := h.vrow.take k
          rw [show min (k + 1) k = k by omega, row_take (Nat.le_succ k)] at h2
          have VV := Lib.hid h2
          clear h h2
          have HB3 := Lib.hid (below_then HB1.out hbl)
          clear ho hbl
          go_wp2
          go_ret
          exact ⟨_, _, rfl, VV.out, HB3.out⟩
end Go.Proofs.Ytglmpggljahkiaa
