/- What is proved here: contracts of the reference's Half, Into, From and Mul. -/
import Derived.Test.YtdbfpbnabpapdaaRefTwice
namespace Go.Proofs.Ytdbfpbnabpapdaa
open Go.RowKit

theorem half_more {T n : Nat} (hT : T < 2 * 2 ^ (64 * n)) : T / 2 ^ (64 * n) % 2 = T / 2 ^ (64 * n) := by
  have hp := Nat.two_pow_pos (64 * n)
  exact Nat.mod_eq_of_lt (Nat.div_lt_of_lt_mul (by omega))

theorem half_none {T n : Nat} (hT : T < 2 * 2 ^ (64 * n)) : row n (T / 2 - T / 2 % 2 ^ (64 * n)) = List.replicate n 0 := by
  rw [Nat.mod_eq_of_lt (by omega), Nat.sub_self, row_zero]

theorem half_step {T n q : Nat} (hT : T < 2 * 2 ^ (64 * n)) (hq : q < n) :
    (row n (T / 2 - T / 2 % 2 ^ (64 * (q + 1)))).set q (T / 2 ^ (64 * q) % 2 ^ 64 / 2 + T / 2 ^ (64 * (q + 1)) % 2 * 2 ^ 63) = row n (T / 2 - T / 2 % 2 ^ (64 * q)) := by
  have ex : T / 2 ^ (64 * q) % 2 ^ 64 / 2 + T / 2 ^ (64 * (q + 1)) % 2 * 2 ^ 63 = T / 2 / 2 ^ (64 * q) % 2 ^ 64 := by
    have e1 : T / 2 ^ (64 * (q + 1)) = T / 2 ^ (64 * q) / 2 ^ 64 := by
      rw [Nat.div_div_eq_div_mul, ← Nat.pow_add]; rfl
    have e2 : T / 2 / 2 ^ (64 * q) = T / 2 ^ (64 * q) / 2 := by rw [Nat.div_div_eq_div_mul, Nat.div_div_eq_div_mul, Nat.mul_comm]
    rw [e1, e2]
    generalize T / 2 ^ (64 * q) = U
    omega
  rw [ex]
  have hH : T / 2 < 2 ^ (64 * n) := by omega
  generalize T / 2 = H at *
  have hml := mod_limb H q
  have hxl : H / 2 ^ (64 * q) % 2 ^ 64 < 2 ^ 64 := Nat.mod_lt _ (by decide)
  have hle : H % 2 ^ (64 * (q + 1)) ≤ H := Nat.mod_le _ _
  have hlt1 : H - H % 2 ^ (64 * (q + 1)) < 2 ^ (64 * n) := by omega
  have hlt2 : H - H % 2 ^ (64 * q) < 2 ^ (64 * n) := by omega
  have hz : lm (row n (H - H % 2 ^ (64 * (q + 1)))) q = 0 := by
    rw [lm_row _ _ _ hq]
    have e : H - H % 2 ^ (64 * (q + 1)) = H / 2 ^ (64 * (q + 1)) * 2 ^ 64 * 2 ^ (64 * q) := by
      have := Nat.div_add_mod' H (2 ^ (64 * (q + 1)))
      rw [Nat.mul_assoc, ← pow64]
      omega
    rw [e, Nat.mul_div_cancel _ (Nat.two_pow_pos _), Nat.mul_mod_left]
  have hv := val_set (row n (H - H % 2 ^ (64 * (q + 1)))) q (H / 2 ^ (64 * q) % 2 ^ 64) (by rw [length_row]; exact hq)
  rw [hz, Nat.zero_mul, Nat.add_zero, val_row_lt hlt1] at hv
  refine val_inj ((small_row _ _).set _ hxl) (small_row _ _) (by simp [length_row]) ?_
  rw [hv, val_row_lt hlt2]
  generalize H / 2 ^ (64 * q) % 2 ^ 64 * 2 ^ (64 * q) = Y at *
  omega

theorem half_form (x m : Nat) (_hx : x < 2 ^ 64) (_hm : m ≤ 1) : (x : Int) / 2 + (m : Int) * 9223372036854775808 = ((x / 2 + m * 2 ^ 63 : Nat) : Int) := by omega

theorem half_low (T q : Nat) : ((T / 2 ^ (64 * q) % 2 ^ 64 : Nat) : Int) % 2 = ((T / 2 ^ (64 * q) % 2 : Nat) : Int) := by omega

theorem half_odd {M X : Nat} (h : X % 2 = 1) : halfOf M X = (X + M) / 2 := by unfold halfOf; rw [if_pos h]
theorem half_even {M X : Nat} (h : ¬ X % 2 = 1) : halfOf M X = X / 2 := by unfold halfOf; rw [if_neg h]

set_option maxHeartbeats 2000000 in
theorem refHalf_any (a : Option Addr) (n c : Nat) (xs : List Nat) (am : Option Addr) (cm : Nat) (ms : List Nat) (w : World) (hn : n ≤ c) (hm : c ≤ maxLen) (hnm : n ≤ cm) (hmm : cm ≤ maxLen)
    (hv : View w a n xs) (hvm : View w am n ms) (h1 : 1 ≤ n) (h8 : n ≤ 8) :
    Calls Try.prog 34 #[.slice a n c, .slice am n cm] w (Makes1 n (halfOf (val ms) (val xs)) w) := by
  have pM := Lib.hid (val_lt_of hvm.small (K := n) (by rw [hvm.len]; exact Nat.le_refl _))
  have pX := Lib.hid (val_lt_of hv.small (K := n) (by rw [hv.len]; exact Nat.le_refl _))
  have t1 := take_short hv.len (by omega)
  have t2 := take_short hvm.len (by omega)
  have hmn : max (min n 16) (min n 16) = n := by omega
  obtain ⟨b, off, rfl, _, hc0⟩ := hv.cell 0 (by omega)
  rw [Nat.add_zero] at hc0
  have HODD := Lib.hid (lm0_odd hv.small)
  have hl0 := hv.lt 0
  have hn0 : 0 < n := by omega
  generalize lm xs 0 = x0 at *
  by_cases ho : x0 % 2 = 1
  · have ho' : ((x0 : Int) % 2 == 1) = true := by simp; omega
    have HH := Lib.hid (half_odd (M := val ms) (HODD.out.symm.trans ho))
    clear ho HODD
    go_enter Try.func34, Try.ntmps34
    go_wp2_with fail
    refine (refAdd_any _ n c xs _ n cm ms _ hn hm hnm hmm hv hvm).mono ?_
    rintro e w1 ⟨g, rfl, o1, hg, hb⟩
    rw [t1, t2, hmn] at o1
    rw [t1, t2, hmn]
    have HT : Hid (val xs + val ms < 2 * 2 ^ (64 * n)) := by have := pM.out; have := pX.out; show _ < _; omega
    generalize val xs + val ms = T at *
    have HL : Hid (∀ i, i < n → lm (row n T) i = T / 2 ^ (64 * i) % 2 ^ 64) := fun i hi => lm_row n T i hi
    have UA := Lib.hid o1.vrow
    have HB1 := Lib.hid hb
    clear o1 hg hb t1 t2 hc0 hl0 ho'
    go_wp2_with (at_make; refine wpList_make_limbs _ rfl _ _ rfl n _ _ rfl rfl (by omega) (by omega) (by omega) ?_; intro w2 ho hbl)
    have HO0 := Lib.hid ho
    have HB0 := Lib.hid hbl
    clear ho hbl
    go_loopw [5, 9] (fun cr i wr => ∃ k : Nat, k ≤ n ∧ i = .int .i64 ((k : Int) - 1) ∧ cr = .int .u64 ((T / 2 ^ (64 * k) % 2 : Nat) : Int) ∧ Own wr w1.heap.size (row n (T / 2 - T / 2 % 2 ^ (64 * k))) ∧ Below w1.heap.size w1 wr) (fun _ i _ => ((intOf i) + 1).toNat)
    case atStart => exact ⟨n, Nat.le_refl _, rfl, by rw [half_more HT.out]; rfl, by rw [half_none HT.out]; exact HO0.out, HB0.out⟩
    case round =>
      clear HO0 HB0
      obtain ⟨k, hk, rfl, rfl, ho, hbl⟩ := hrel
      by_cases hlt : 1 ≤ k
      · obtain ⟨q, rfl⟩ : ∃ q, k = q + 1 := ⟨k - 1, by omega⟩
        have u1 := UA.out.viewB (Nat.le_refl _) hbl
        obtain ⟨gb, go, e1, hgb, hc⟩ := u1.cell q (by omega)
        cases e1
        have hx := u1.lt q
        rw [HL.out q (by omega)] at hc hx
        try rw [Nat.zero_add] at hc
        have hcell := ho.cell (i := q) (by rw [length_row]; omega)
        have hfr := ho.frozen q
        have hm1 : T / 2 ^ (64 * (q + 1)) % 2 ≤ 1 := by omega
        have S := Lib.hid (half_step HT.out (q := q) (n := n) (by omega))
        generalize hy : lm (row n (T / 2 - T / 2 % 2 ^ (64 * (q + 1)))) q = y at hcell
        clear hy
        have HO := Lib.hid ho
        have HB := Lib.hid hbl
        clear ho hbl u1
        have W1 := Lib.hid (half_form (T / 2 ^ (64 * q) % 2 ^ 64) (T / 2 ^ (64 * (q + 1)) % 2) hx hm1)
        have W2 := Lib.hid (half_low T q)
        generalize T / 2 ^ (64 * q) % 2 ^ 64 = x at *
        generalize T / 2 ^ (64 * (q + 1)) % 2 = mr at *
        have hcv := fun v => (((Below.refl w1.heap.size wr).setCell (p := ⟨w1.heap.size, q, none⟩) (Nat.le_refl _) v).cell (p := ⟨g, q, none⟩) hgb).trans hc
        have hqi : (q : Int) < (n : Int) := by omega
        go_wp2
        go_roundw
        case rel => exact ⟨q, by omega, by go_num, by rw [W2.out], by rw [W1.out, ← S.out]; exact HO.out.set _ _, HB.out.setCell (Nat.le_refl _) _⟩
        case measure => simp [intOf]
      · obtain rfl : k = 0 := by omega
        rw [show T / 2 - T / 2 % 2 ^ (64 * 0) = T / 2 by rw [show 2 ^ (64 * 0) = 1 from rfl, Nat.mod_one, Nat.sub_zero]] at ho
        have HO := Lib.hid ho
        have HB := Lib.hid (below_then HB1.out hbl)
        clear ho hbl
        go_wp2
        go_ret
        exact ⟨_, rfl, by rw [HH.out]; exact HO.out, HB1.out.size, HB.out⟩
  · have ho' : ((x0 : Int) % 2 == 1) = false := by simp; omega
    have HH := Lib.hid (half_even (M := val ms) (fun h => ho (HODD.out.trans h)))
    clear ho HODD
    have HL : Hid (∀ i, i < n → lm xs i = val xs / 2 ^ (64 * i) % 2 ^ 64) := fun i _ => lm_val hv.small i
    have HT : Hid (val xs < 2 * 2 ^ (64 * n)) := by have := pX.out; show _ < _; omega
    have HZ : Hid (val xs / 2 ^ (64 * n) = 0) := Nat.div_eq_of_lt pX.out
    obtain ⟨T, hT⟩ : ∃ T, T = val xs := ⟨_, rfl⟩
    have HH' : Hid (halfOf (val ms) (val xs) = T / 2) := by rw [hT]; exact HH.out
    rw [← hT] at HL HT HZ
    have UA := Lib.hid hv
    clear hT HH hv
    go_enter Try.func34, Try.ntmps34
    go_wp2_with (at_make; refine wpList_make_limbs _ rfl _ _ rfl n _ _ rfl rfl (by omega) (by omega) (by omega) ?_; intro w2 ho hbl)
    have HO0 := Lib.hid ho
    have HB0 := Lib.hid hbl
    clear ho hbl
    go_loopw [5, 9] (fun cr i wr => ∃ k : Nat, k ≤ n ∧ i = .int .i64 ((k : Int) - 1) ∧ cr = .int .u64 ((T / 2 ^ (64 * k) % 2 : Nat) : Int) ∧ Own wr w.heap.size (row n (T / 2 - T / 2 % 2 ^ (64 * k))) ∧ Below w.heap.size w wr) (fun _ i _ => ((intOf i) + 1).toNat)
    case atStart => exact ⟨n, Nat.le_refl _, rfl, by rw [half_more HT.out, HZ.out]; rfl, by rw [half_none HT.out]; exact HO0.out, HB0.out⟩
    case round =>
      clear HO0 HB0 hc0
      obtain ⟨k, hk, rfl, rfl, ho, hbl⟩ := hrel
      by_cases hlt : 1 ≤ k
      · obtain ⟨q, rfl⟩ : ∃ q, k = q + 1 := ⟨k - 1, by omega⟩
        have u1 := UA.out.viewB (Nat.le_refl _) hbl
        obtain ⟨gb, go, e1, hgb, hc⟩ := u1.cell q (by omega)
        cases e1
        have hx := u1.lt q
        rw [HL.out q (by omega)] at hc hx
        try rw [Nat.zero_add] at hc
        have hcell := ho.cell (i := q) (by rw [length_row]; omega)
        have hfr := ho.frozen q
        have hm1 : T / 2 ^ (64 * (q + 1)) % 2 ≤ 1 := by omega
        have S := Lib.hid (half_step HT.out (q := q) (n := n) (by omega))
        generalize hy : lm (row n (T / 2 - T / 2 % 2 ^ (64 * (q + 1)))) q = y at hcell
        clear hy
        have HO := Lib.hid ho
        have HB := Lib.hid hbl
        clear ho hbl u1
        have W1 := Lib.hid (half_form (T / 2 ^ (64 * q) % 2 ^ 64) (T / 2 ^ (64 * (q + 1)) % 2) hx hm1)
        have W2 := Lib.hid (half_low T q)
        generalize T / 2 ^ (64 * q) % 2 ^ 64 = x at *
        generalize T / 2 ^ (64 * (q + 1)) % 2 = mr at *
        have hcv := fun v => (((Below.refl w.heap.size wr).setCell (p := ⟨w.heap.size, q, none⟩) (Nat.le_refl _) v).cell (p := ⟨b, off + q, none⟩) hgb).trans hc
        have hqi : (q : Int) < (n : Int) := by omega
        go_wp2
        go_roundw
        case rel => exact ⟨q, by omega, by go_num, by rw [W2.out], by rw [W1.out, ← S.out]; exact HO.out.set _ _, HB.out.setCell (Nat.le_refl _) _⟩
        case measure => simp [intOf]
      · obtain rfl : k = 0 := by omega
        rw [show T / 2 - T / 2 % 2 ^ (64 * 0) = T / 2 by rw [show 2 ^ (64 * 0) = 1 from rfl, Nat.mod_one, Nat.sub_zero]] at ho
        have HO := Lib.hid ho
        have HB := Lib.hid (hbl)
        clear ho hbl
        go_wp2
        go_ret
        exact ⟨_, rfl, by rw [HH'.out]; exact HO.out, Nat.le_refl _, HB.out⟩

end Go.Proofs.Ytdbfpbnabpapdaa
