/- What is proved here: contracts of the reference's Into, From, Mul and Pow; of the law package's same. -/
import Derived.Test.YtdbfpbnabpapdaaRefHalf
namespace Go.Proofs.Ytdbfpbnabpapdaa
open Go.RowKit

/-- A row that is as it came in, or that the call has made itself. -/
def Held (w wr : World) (n v k : Nat) (av : Value) : Prop :=
  ∃ ad cp xs, av = .slice ad n cp ∧ n ≤ cp ∧ cp ≤ maxLen ∧ View wr ad n xs ∧ val xs = v ∧ (k = 0 ∨ ∃ g, ad = some ⟨g, 0, none⟩ ∧ cp = n ∧ w.heap.size ≤ g ∧ Own wr g (row n v))

theorem Held.made {w w2 : World} {n v k g : Nat} (hn : n ≤ 8) (hg : w.heap.size ≤ g) (ho : Own w2 g (row n v)) (hv : v < 2 ^ (64 * n)) : Held w w2 n v k (.slice (some ⟨g, 0, none⟩) n n) :=
  ⟨_, n, row n v, rfl, Nat.le_refl _, by unfold maxLen; omega, ho.vrow, val_row_lt hv, .inr ⟨g, rfl, rfl, hg, ho⟩⟩

set_option maxHeartbeats 1000000 in
theorem refInto_any (a : Option Addr) (n c : Nat) (xs : List Nat) (am : Option Addr) (cm : Nat) (ms : List Nat) (w : World) (hn : n ≤ c) (hm : c ≤ maxLen) (hnm : n ≤ cm) (hmm : cm ≤ maxLen)
    (hv : View w a n xs) (hvm : View w am n ms) (hM : IsMod n ms) (hx : val xs < val ms) :
    Calls Try.prog 18 #[.slice a n c, .slice am n cm] w (Makes1 n (val xs * 2 ^ (64 * n) % val ms) w) := by
  obtain ⟨h1, h8, hodd, hM1⟩ := hM
  have pM := Lib.hid (val_lt_of hvm.small (K := n) (by rw [hvm.len]; exact Nat.le_refl _))
  have HX := Lib.hid hx
  have Z := Lib.hid (show val xs * 2 ^ 0 % val ms = val xs from by rw [Nat.pow_zero, Nat.mul_one, Nat.mod_eq_of_lt HX.out])
  clear hx
  go_enter Try.func18, Try.ntmps18
  go_wp2
  go_loopw [0, 5] (fun av i wr => ∃ k : Nat, k ≤ 64 * n ∧ i = .int .i64 (k : Int) ∧ Held w wr n (val xs * 2 ^ k % val ms) k av ∧ Below w.heap.size w wr) (fun _ i _ => 64 * n - (intOf i).toNat)
  case atStart => exact ⟨0, Nat.zero_le _, rfl, ⟨_, _, xs, rfl, hn, hm, hv, Z.out.symm, .inl rfl⟩, Below.refl _ _⟩
  case round =>
    obtain ⟨k, hk, rfl, ⟨ad, cp, zs, rfl, hcp, hcm, hvz, hz, hown⟩, hbl⟩ := hrel
    by_cases hlt : k < 64 * n
    · have u := Lib.hid (hvm.below (Nat.le_refl _) hbl)
      have VZ := Lib.hid hvz
      have HZ := Lib.hid hz
      have HB := Lib.hid hbl
      have hlm : Hid (val xs * 2 ^ k % val ms < val ms) := Nat.mod_lt _ (by omega)
      have hlm2 : Hid (val xs * 2 ^ (k + 1) % val ms < val ms) := Nat.mod_lt _ (by omega)
      have E := Lib.hid (show 2 * (val xs * 2 ^ k % val ms) % val ms = val xs * 2 ^ (k + 1) % val ms from dbl_mod (val ms) (val xs) k)
      have hki : (k : Int) < 64 * (n : Int) := by omega
      clear hvz hz hbl hown
      go_wp2_with fail
      refine (refTwice_any _ n _ zs _ cm ms _ hnm hmm VZ.out u.out h8 (by rw [HZ.out]; exact hlm.out)).mono ?_
      rintro e w2 ⟨g2, rfl, o2, hg2, hb2⟩
      rw [HZ.out, E.out] at o2
      have HH := Lib.hid (Held.made (w := w) (k := k + 1) h8 (Nat.le_trans HB.out.size hg2) o2 (Nat.lt_trans hlm2.out pM.out))
      have HB2 := Lib.hid (below_then HB.out hb2)
      clear o2 hg2 hb2
      go_wp2
      go_roundw
      case rel => exact ⟨k + 1, by omega, by go_num, HH.out, HB2.out⟩
      case measure => simp [intOf]; omega
    · obtain rfl : k = 64 * n := by omega
      rcases hown with h0 | ⟨g, rfl, rfl, hg, ho⟩
      · omega
      · have HO := Lib.hid ho
        have HB := Lib.hid hbl
        have HG := Lib.hid hg
        clear ho hbl hg hvz hz
        have hki : ¬ ((64 * cp : Nat) : Int) < 64 * (cp : Int) := by omega
        go_wp2
        go_ret
        exact ⟨g, rfl, HO.out, HG.out, HB.out⟩

set_option maxHeartbeats 1000000 in
theorem refFrom_any (a : Option Addr) (n c : Nat) (xs : List Nat) (am : Option Addr) (cm : Nat) (ms : List Nat) (w : World) (hn : n ≤ c) (hm : c ≤ maxLen) (hnm : n ≤ cm) (hmm : cm ≤ maxLen)
    (hv : View w a n xs) (hvm : View w am n ms) (hM : IsMod n ms) (hx : val xs < val ms) :
    Calls Try.prog 19 #[.slice a n c, .slice am n cm] w (Makes1 n (fromOf (val ms) (64 * n) (val xs)) w) := by
  obtain ⟨h1, h8, hodd, hM1⟩ := hM
  have pM := Lib.hid (val_lt_of hvm.small (K := n) (by rw [hvm.len]; exact Nat.le_refl _))
  have HX := Lib.hid hx
  have Z := Lib.hid (show fromOf (val ms) 0 (val xs) = val xs from rfl)
  clear hx
  go_enter Try.func19, Try.ntmps19
  go_wp2
  go_loopw [0, 5] (fun av i wr => ∃ k : Nat, k ≤ 64 * n ∧ i = .int .i64 (k : Int) ∧ Held w wr n (fromOf (val ms) k (val xs)) k av ∧ Below w.heap.size w wr) (fun _ i _ => 64 * n - (intOf i).toNat)
  case atStart => exact ⟨0, Nat.zero_le _, rfl, ⟨_, _, xs, rfl, hn, hm, hv, Z.out.symm, .inl rfl⟩, Below.refl _ _⟩
  case round =>
    obtain ⟨k, hk, rfl, ⟨ad, cp, zs, rfl, hcp, hcm, hvz, hz, hown⟩, hbl⟩ := hrel
    by_cases hlt : k < 64 * n
    · have u := Lib.hid (hvm.below (Nat.le_refl _) hbl)
      have VZ := Lib.hid hvz
      have HZ := Lib.hid hz
      have HB := Lib.hid hbl
      have hlm : Hid (fromOf (val ms) k (val xs) < val ms) := fromOf_lt hodd HX.out k
      have hlm2 : Hid (fromOf (val ms) (k + 1) (val xs) < val ms) := fromOf_lt hodd HX.out (k + 1)
      have E := Lib.hid (show halfOf (val ms) (fromOf (val ms) k (val xs)) = fromOf (val ms) (k + 1) (val xs) from rfl)
      have hki : (k : Int) < 64 * (n : Int) := by omega
      clear hvz hz hbl hown
      go_wp2_with fail
      refine (refHalf_any _ n _ zs _ cm ms _ hcp hcm hnm hmm VZ.out u.out h1 h8).mono ?_
      rintro e w2 ⟨g2, rfl, o2, hg2, hb2⟩
      rw [HZ.out, E.out] at o2
      have HH := Lib.hid (Held.made (w := w) (k := k + 1) h8 (Nat.le_trans HB.out.size hg2) o2 (Nat.lt_trans hlm2.out pM.out))
      have HB2 := Lib.hid (below_then HB.out hb2)
      clear o2 hg2 hb2
      go_wp2
      go_roundw
      case rel => exact ⟨k + 1, by omega, by go_num, HH.out, HB2.out⟩
      case measure => simp [intOf]; omega
    · obtain rfl : k = 64 * n := by omega
      rcases hown with h0 | ⟨g, rfl, rfl, hg, ho⟩
      · omega
      · have HO := Lib.hid ho
        have HB := Lib.hid hbl
        have HG := Lib.hid hg
        clear ho hbl hg hvz hz
        have hki : ¬ ((64 * cp : Nat) : Int) < 64 * (cp : Int) := by omega
        go_wp2
        go_ret
        exact ⟨g, rfl, HO.out, HG.out, HB.out⟩


set_option maxHeartbeats 1000000 in
theorem refMul2_any (a : Option Addr) (n c : Nat) (xs : List Nat) (a' : Option Addr) (c' : Nat) (ys : List Nat) (am : Option Addr) (cm : Nat) (ms : List Nat) (w : World) (hn : n ≤ c) (hm : c ≤ maxLen) (hn' : n ≤ c') (hm' : c' ≤ maxLen) (hnm : n ≤ cm) (hmm : cm ≤ maxLen)
    (hv : View w a n xs) (hv' : View w a' n ys) (hvm : View w am n ms) (hM : IsMod n ms) (hy : val ys < val ms) :
    Calls Try.prog 15 #[.slice a n c, .slice a' n c', .slice am n cm] w (Makes1 n (fromOf (val ms) (64 * n) (val xs * val ys % val ms)) w) := by
  have hM' := hM
  obtain ⟨h1, h8, hodd, hM1⟩ := hM'
  have pM := Lib.hid (val_lt_of hvm.small (K := n) (by rw [hvm.len]; exact Nat.le_refl _))
  have HM := Lib.hid hM
  have HL : Hid (val xs * val ys % val ms < val ms) := Nat.mod_lt _ (by omega)
  clear hM
  go_enter Try.func15, Try.ntmps15
  go_wp2_with fail
  refine (refMulMod_any _ n c xs _ c' ys _ cm ms _ hn hm hn' hm' hnm hmm hv hv' hvm h8 (by omega) hy).mono ?_
  rintro e w1 ⟨g, rfl, o1, hg, hb⟩
  have O1 := Lib.hid o1
  have HB := Lib.hid hb
  have u := Lib.hid (hvm.below (Nat.le_refl _) hb)
  have EV := Lib.hid (val_elem pM.out HL.out)
  clear o1 hg hb
  go_wp2_with fail
  refine (refFrom_any _ n _ (row n (val xs * val ys % val ms)) _ cm ms _ (Nat.le_refl _) (by unfold maxLen; omega) hnm hmm O1.out.vrow u.out HM.out (by rw [EV.out]; exact HL.out)).mono ?_
  rintro e w2 ⟨g2, rfl, o2, hg2, hb2⟩
  rw [EV.out] at o2
  have O2 := Lib.hid o2
  have HG2 := Lib.hid (Nat.le_trans HB.out.size hg2)
  have HB2 := Lib.hid (below_then HB.out hb2)
  clear o2 hg2 hb2
  go_wp2
  go_ret
  exact ⟨g2, rfl, O2.out, HG2.out, HB2.out⟩

theorem val_one' {n : Nat} (h : 1 ≤ n) : val (row n 1) = 1 := by
  rw [val_row, Nat.mod_eq_of_lt]
  exact Nat.one_lt_two_pow (by omega)

theorem pow_bit0 {M A E q : Nat} (hb : E / 2 ^ q % 2 = 0) : (A ^ (E / 2 ^ (q + 1)) % M) * (A ^ (E / 2 ^ (q + 1)) % M) % M = A ^ (E / 2 ^ q) % M := by
  have := pow_bit A E q 0 hb.symm
  rw [Nat.pow_zero, Nat.mul_one] at this
  rw [← this, ← Nat.mul_mod]

theorem pow_bit1 {M A E q : Nat} (hb : E / 2 ^ q % 2 = 1) : (A ^ (E / 2 ^ (q + 1)) % M) * (A ^ (E / 2 ^ (q + 1)) % M) % M * A % M = A ^ (E / 2 ^ q) % M := by
  have := pow_bit A E q 1 hb.symm
  rw [Nat.pow_one] at this
  rw [← this, ← Nat.mul_mod, Nat.mod_mul_mod]

set_option maxHeartbeats 2000000 in
theorem refPow_any (a : Option Addr) (n c : Nat) (xs : List Nat) (ae : Option Addr) (ne ce : Nat) (es : List Nat) (am : Option Addr) (cm : Nat) (ms : List Nat) (w : World) (hn : n ≤ c) (hm : c ≤ maxLen) (hne : ne ≤ ce) (hme : ce ≤ maxLen) (h16 : ne ≤ 16) (hnm : n ≤ cm) (hmm : cm ≤ maxLen)
    (hv : View w a n xs) (hve : View w ae ne es) (hvm : View w am n ms) (hM : IsMod n ms) (hx : val xs < val ms) :
    Calls Try.prog 21 #[.slice a n c, .slice ae ne ce, .slice am n cm] w (Makes1 n (val xs ^ val es % val ms) w) := by
  have hM' := hM
  obtain ⟨h1, h8, hodd, hM1⟩ := hM'
  have hM0 : 0 < val ms := by omega
  have pM := Lib.hid (val_lt_of hvm.small (K := n) (by rw [hvm.len]; exact Nat.le_refl _))
  have pE := Lib.hid (val_lt_of hve.small (K := ne) (by rw [hve.len]; exact Nat.le_refl _))
  have t1 := take_short hve.len h16
  have hnb : nbits (val es) ≤ 64 * ne := nbits_le pE.out
  have Z := Lib.hid (show row n (val xs ^ (val es / 2 ^ nbits (val es)) % val ms) = row n 1 by rw [div_nbits, Nat.pow_zero, Nat.mod_eq_of_lt hM1])
  have E1 := Lib.hid (row_set n 0 0 1 (by decide) (by decide) (by omega))
  have hn0 : (0 : Int) < (n : Int) := by omega
  clear hM
  go_enter Try.func21, Try.ntmps21
  go_wp2_with (at_make; refine wpList_make_limbs _ rfl _ _ rfl n _ _ rfl rfl (by omega) (by omega) (by omega) ?_; intro w1 ho hbl; have hc := ho.cell (i := 0) (by simp; omega); have hf := ho.frozen 0; have HO := Lib.hid (ho.set 0 1); have HB := Lib.hid (hbl.setCell (p := ⟨w.heap.size, 0, none⟩) (Nat.le_refl _) (.int .u64 ((1 : Nat) : Int))); clear ho hbl)
  have u1 := Lib.hid (hve.below (Nat.le_refl _) HB.out)
  refine (refBits_any _ ne ce es _ hne hme u1.out).mono ?_
  rintro e w' ⟨rfl, rfl⟩
  have HO1 : Hid (Own (w1.setCell ⟨w.heap.size, 0, none⟩ (.int .u64 ((1 : Nat) : Int))) w.heap.size (row n 1)) := by
    have e1 := E1.out
    rw [row_zero] at e1
    have := HO.out
    rw [e1] at this
    show Own _ _ _
    simpa using this
  clear HO hc hf u1 E1
  have HB' := HB
  rw [t1]
  clear t1
  generalize nbits (val es) = N at *
  rw [show ((1 : Nat) : Int) = 1 from rfl] at HO1 HB
  clear HB'
  generalize w1.setCell ⟨w.heap.size, 0, none⟩ (.int .u64 1) = w2 at *
  go_wp2
  go_loopw [7, 8] (fun ov i wr => ∃ (k g : Nat), k ≤ N ∧ i = .int .i64 ((k : Int) - 1) ∧ ov = .slice (some ⟨g, 0, none⟩) n n ∧ w.heap.size ≤ g ∧ Own wr g (row n (val xs ^ (val es / 2 ^ k) % val ms)) ∧ Below w.heap.size w wr) (fun _ i _ => ((intOf i) + 1).toNat)
  case atStart => exact ⟨N, w.heap.size, Nat.le_refl _, rfl, rfl, Nat.le_refl _, by rw [Z.out]; exact HO1.out, HB.out⟩
  case round =>
    obtain ⟨k, g, hk, rfl, rfl, hg, ho, hbl⟩ := hrel
    clear HO1 HB
    by_cases hlt : 1 ≤ k
    · obtain ⟨q, rfl⟩ : ∃ q, k = q + 1 := ⟨k - 1, by omega⟩
      have HLM := Lib.hid (Nat.mod_lt (val xs ^ (val es / 2 ^ (q + 1))) hM0)
      have EV := Lib.hid (val_elem pM.out HLM.out)
      have u1 := Lib.hid (hv.below (Nat.le_refl _) hbl)
      have u2 := Lib.hid (hve.below (Nat.le_refl _) hbl)
      have u3 := Lib.hid (hvm.below (Nat.le_refl _) hbl)
      have HO := Lib.hid ho
      have HB := Lib.hid hbl
      clear ho hbl hg
      go_wp2_with fail
      refine (refMulMod_any _ n _ (row n (val xs ^ (val es / 2 ^ (q + 1)) % val ms)) _ _ (row n (val xs ^ (val es / 2 ^ (q + 1)) % val ms)) _ cm ms _ (Nat.le_refl _) (by unfold maxLen; omega) (Nat.le_refl _) (by unfold maxLen; omega) hnm hmm HO.out.vrow HO.out.vrow u3.out h8 hM0 (by rw [EV.out]; exact HLM.out)).mono ?_
      rintro e w3 ⟨g2, rfl, o2, hg2, hb2⟩
      rw [EV.out] at o2
      have U1 := Lib.hid (u1.out.below (Nat.le_refl _) hb2)
      have U2 := Lib.hid (u2.out.below (Nat.le_refl _) hb2)
      have U3 := Lib.hid (u3.out.below (Nat.le_refl _) hb2)
      have O2 := Lib.hid o2
      have HG2 := Lib.hid (Nat.le_trans HB.out.size hg2)
      have HB2 := Lib.hid (below_then HB.out hb2)
      clear o2 hg2 hb2 u1 u2 u3 HO HB
      go_wp2_with fail
      refine (bit_any _ _ _ _ es _ (by omega) (by unfold maxLen; omega) (by unfold maxLen; omega) U2.out).mono ?_
      rintro e w' ⟨rfl, rfl⟩
      rw [Int.toNat_natCast, bitOf_div hve.small]
      by_cases hb : val es / 2 ^ q % 2 = 1
      · rw [hb]
        have E := Lib.hid (pow_bit1 (M := val ms) (A := val xs) hb)
        have HL2 := Lib.hid (Nat.mod_lt ((val xs ^ (val es / 2 ^ (q + 1)) % val ms) * (val xs ^ (val es / 2 ^ (q + 1)) % val ms)) hM0)
        clear hb
        go_wp2_with fail
        refine (refMulMod_any _ n _ (row n ((val xs ^ (val es / 2 ^ (q + 1)) % val ms) * (val xs ^ (val es / 2 ^ (q + 1)) % val ms) % val ms)) _ c xs _ cm ms _ (Nat.le_refl _) (by unfold maxLen; omega) hn hm hnm hmm O2.out.vrow U1.out U3.out h8 hM0 hx).mono ?_
        rintro e w4 ⟨g3, rfl, o3, hg3, hb3⟩
        rw [val_elem pM.out HL2.out, E.out] at o3
        have O3 := Lib.hid o3
        have HG3 := Lib.hid (Nat.le_trans HB2.out.size hg3)
        have HB3 := Lib.hid (below_then HB2.out hb3)
        clear o3 hg3 hb3
        go_wp2
        go_roundw
        case rel => exact ⟨q, g3, by omega, by go_num, rfl, HG3.out, O3.out, HB3.out⟩
        case measure => simp [intOf]
      · have hb0 : val es / 2 ^ q % 2 = 0 := by omega
        rw [hb0]
        have E := Lib.hid (pow_bit0 (M := val ms) (A := val xs) hb0)
        rw [E.out] at O2
        clear hb hb0
        go_wp2
        go_roundw
        case rel => exact ⟨q, g2, by omega, by go_num, rfl, HG2.out, O2.out, HB2.out⟩
        case measure => simp [intOf]
    · obtain rfl : k = 0 := by omega
      rw [Nat.pow_zero, Nat.div_one] at ho
      have HO := Lib.hid ho
      have HB := Lib.hid hbl
      clear ho hbl
      go_wp2
      go_ret
      exact ⟨g, rfl, HO.out, hg, HB.out⟩

/-- The law package's same: both are that row. -/
theorem same2_ok (a : Option Addr) (n c : Nat) (xs : List Nat) (a' : Option Addr) (n' c' : Nat) (w : World) (hm : n ≤ maxLen) (hv : View w a n xs) (hv' : View w a' n' xs) :
    Calls Try.prog 14 #[.slice a n c, .int .i64 0, .int .i64 0, .slice a' n' c'] w fun e w' => e = .returned (.bool true) ∧ Below w.heap.size w w' := by
  go_enter Try.func14, Try.ntmps14
  go_wp2_with fail
  refine (same_true _ n c xs _ n' c' _ hm hv hv').mono ?_
  rintro e w1 ⟨rfl, hb⟩
  have HB := Lib.hid hb
  clear hb
  go_wp2
  go_ret
  exact ⟨rfl, HB.out⟩

/-- A refusal. -/
theorem same2_bad (v : Value) (w : World) :
    Calls Try.prog 14 #[.slice none 0 0, .int .i64 1, .int .i64 1, v] w fun e w' => e = .returned (.bool true) ∧ w = w' := by
  go_enter Try.func14, Try.ntmps14
  go_wp2
  go_ret
  exact ⟨rfl, rfl⟩
end Go.Proofs.Ytdbfpbnabpapdaa
