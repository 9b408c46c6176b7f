/- What is proved here: contracts of math/bits.LeadingZeros64, nat.shiftUp and nat.shiftDown: a number times, or divided by, a power of 2 below 2^64. -/
import Derived.Test.YtkkmekdhejhapaaGreatOwn
import Derived.Test.YtkkmekdhejhapaaGreatBits
import Derived.Laws.Bits64b
import Derived.Deep.RegionWith
namespace Go.Proofs.YtkkmekdhejhapaaGreat
open Go.RowKit
theorem clz_any (x : Nat) (w : World) (h : x < 2 ^ 64) :
    Calls Tryz.prog 212 #[.int .u64 (x : Int)] w fun e w' => e = .returned (.int .i64 ((64 - nbits x : Nat) : Int)) ∧ w = w' := by
  have hb := nbits_le h
  go_enter Tryz.func212, Tryz.ntmps212
  go_wp2_with fail
  refine (len64_any x _ h).mono ?_
  rintro e w' ⟨rfl, rfl⟩
  clear h
  go_wp2
  go_ret
  exact ⟨ret_int (by omega), rfl⟩
def linLo (c X p : Nat) : Nat := (c * (X % p)) % p
def linHi (c X p : Nat) : Nat := (c * (X % p)) / p
theorem lin_digit (c X p D : Nat) (hp : 0 < p) :
    linLo c X (p * D) = linLo c X p + (c * (X / p % D) + linHi c X p) % D * p ∧ linHi c X (p * D) = (c * (X / p % D) + linHi c X p) / D := by
  unfold linLo linHi
  rw [Nat.mod_mul (x := X)]
  generalize X % p = x
  generalize X / p % D = a
  have e : c * (x + p * a) = c * x + p * (c * a) := by rw [Nat.mul_add, Nat.mul_left_comm]
  rw [e, Nat.mod_mul, ← Nat.div_div_eq_div_mul, Nat.add_mul_mod_self_left, Nat.add_mul_div_left _ _ hp]
  rw [show c * x / p + c * a = c * a + c * x / p by omega]
  exact ⟨by rw [Nat.mul_comm p], rfl⟩
theorem linHi_lt (c X p : Nat) (hp : 0 < p) (hc : 0 < c) : linHi c X p < c := by
  unfold linHi
  apply Nat.div_lt_of_lt_mul
  rw [Nat.mul_comm p]
  exact Nat.mul_lt_mul_of_pos_left (Nat.mod_lt X hp) hc
theorem linLimb_step {zs : List Nat} (s1 : Small zs) {K k c : Nat} (hk : k < K) {b d : Nat} (hb : b = (c * lm zs k + linHi c (val zs) (2 ^ (64 * k))) % 2 ^ 64) (hd : d = (c * lm zs k + linHi c (val zs) (2 ^ (64 * k))) / 2 ^ 64) :
    (row K (linLo c (val zs) (2 ^ (64 * k)))).set k b = row K (linLo c (val zs) (2 ^ (64 * (k + 1)))) ∧ d = linHi c (val zs) (2 ^ (64 * (k + 1))) := by
  have hp := Nat.two_pow_pos (64 * k)
  obtain ⟨e1, e2⟩ := lin_digit c (val zs) (2 ^ (64 * k)) (2 ^ 64) hp
  rw [← lm_val s1, Nat.mul_comm (2 ^ (64 * k)), ← pow64] at e1
  rw [← lm_val s1, Nat.mul_comm (2 ^ (64 * k)), ← pow64] at e2
  refine ⟨?_, by rw [e2, hd]⟩
  rw [row_set _ _ _ b (show linLo c (val zs) (2 ^ (64 * k)) < _ from Nat.mod_lt _ hp) (by rw [hb]; exact Nat.mod_lt _ (by decide)) hk, e1, hb]
theorem split64 {s : Nat} (hs : s ≤ 63) : (2 : Nat) ^ 64 = 2 ^ s * 2 ^ (64 - s) := by rw [← Nat.pow_add]; congr 1; omega
theorem shl_or (x h s : Nat) (_hx : x < 2 ^ 64) (hs : s ≤ 63) (hh : h < 2 ^ s) :
    bits BinOp.or IntKind.u64 (IntKind.u64.wrap ((x : Int) * 2 ^ s)) (h : Int) = (((2 ^ s * x + h) % 2 ^ 64 : Nat) : Int) ∧ x / 2 ^ (64 - s) = (2 ^ s * x + h) / 2 ^ 64 := by
  have e := split64 hs
  have hp := Nat.two_pow_pos s
  have e1 : 2 ^ s * x % 2 ^ 64 = 2 ^ s * (x % 2 ^ (64 - s)) := by rw [e, Nat.mul_mod_mul_left]
  have e2 : 2 ^ s * x / 2 ^ 64 = x / 2 ^ (64 - s) := by rw [e, ← Nat.div_div_eq_div_mul, Nat.mul_div_cancel_left _ hp]
  have h1 := Nat.mod_lt x (Nat.two_pow_pos (64 - s))
  have h2 : 2 ^ s * (x % 2 ^ (64 - s) + 1) ≤ 2 ^ 64 := by rw [e]; exact Nat.mul_le_mul_left _ h1
  rw [Nat.mul_add] at h2
  have h3 : (2 ^ s * x) % 2 ^ 64 + h < 2 ^ 64 := by rw [e1]; omega
  have h4 := Nat.div_add_mod (2 ^ s * x) (2 ^ 64)
  have e3 : (2 ^ s * x + h) % 2 ^ 64 = (2 ^ s * x) % 2 ^ 64 + h := by omega
  have e4 : (2 ^ s * x + h) / 2 ^ 64 = (2 ^ s * x) / 2 ^ 64 := by omega
  constructor
  · have w1 : IntKind.u64.wrap ((x : Int) * 2 ^ s) = ((2 ^ s * x % 2 ^ 64 : Nat) : Int) := by
      rw [IntKind.wrap_u64, show (x : Int) * 2 ^ s = ((2 ^ s * x : Nat) : Int) by simp [Int.mul_comm]]
      omega
    have hh2 : h < 2 ^ 64 := by omega
    rw [w1, bits_or_u64_nat _ _ (by omega) (by omega), e3, e1]
    congr 1
    have := Nat.shiftLeft_add_eq_or_of_lt hh (x % 2 ^ (64 - s))
    rw [Nat.shiftLeft_eq, Nat.mul_comm] at this
    exact this.symm
  · rw [e4, e2]
set_option maxHeartbeats 1000000 in
theorem shiftUp_any (a : Option Addr) (n c : Nat) (xs : List Nat) (s K : Nat) (w : World) (hn : n ≤ maxLen) (hs : s ≤ 63) (hK : K ≤ 40) (hv : View w a n xs) :
    Calls Tryz.prog 213 #[.slice a n c, .int .i64 (s : Int), .int .i64 (K : Int)] w (Makes1 K (2 ^ s * (val xs % 2 ^ (64 * K))) w) := by
  have Z := Lib.hid (show row K (linLo (2 ^ s) (val xs) (2 ^ (64 * 0))) = List.replicate K 0 by rw [show 2 ^ (64 * 0) = 1 from rfl, show linLo (2 ^ s) (val xs) 1 = 0 from Nat.mod_one _, row_zero])
  have Z2 := Lib.hid (show linHi (2 ^ s) (val xs) (2 ^ (64 * 0)) = 0 by simp [linHi, Nat.mod_one])
  have D := Lib.hid (show row K (linLo (2 ^ s) (val xs) (2 ^ (64 * K))) = row K (2 ^ s * (val xs % 2 ^ (64 * K))) from row_mod _ _)
  go_enter Tryz.func213, Tryz.ntmps213
  go_wp2_with (at_make; refine wpList_make_limbs _ rfl _ _ rfl K _ _ rfl rfl (by omega) (by omega) (by omega) ?_; intro w1 ho hbl)
  have HO0 := Lib.hid ho
  have HB0 := Lib.hid hbl
  clear ho hbl
  go_loopw [8, 14] (fun cr i wr => ∃ k : Nat, k ≤ K ∧ i = .int .i64 k ∧ cr = .int .u64 ((linHi (2 ^ s) (val xs) (2 ^ (64 * k)) : Nat) : Int) ∧ Own wr w.heap.size (row K (linLo (2 ^ s) (val xs) (2 ^ (64 * k)))) ∧ Below w.heap.size w wr) (fun _ i _ => K - (intOf i).toNat)
  case atStart => exact ⟨0, Nat.zero_le _, rfl, by rw [Z2.out]; rfl, by rw [Z.out]; exact HO0.out, HB0.out⟩
  case round =>
    clear HO0 HB0
    obtain ⟨k, hk, rfl, rfl, ho, hbl⟩ := hrel
    by_cases hlt : k < K
    · have S := Lib.hid (linLimb_step hv.small (c := 2 ^ s) hlt rfl rfl)
      have u1 := hv.below (Nat.le_refl _) hbl
      have hx := u1.lt k
      have hcell := ho.cell (i := k) (by rw [length_row]; exact hlt)
      have hfr := ho.frozen k
      have hc1 := linHi_lt (2 ^ s) (val xs) (2 ^ (64 * k)) (Nat.two_pow_pos _) (Nat.two_pow_pos _)
      have O := Lib.hid (shl_or (lm xs k) (linHi (2 ^ s) (val xs) (2 ^ (64 * k))) s hx hs hc1)
      generalize hy : lm (row K (linLo (2 ^ s) (val xs) (2 ^ (64 * k)))) k = y at hcell
      clear hy hc1
      have HO := Lib.hid ho
      have HB := Lib.hid hbl
      clear ho hbl
      go_wp2_with fail
      refine (limb_any _ _ _ _ xs _ (by omega) hn u1).mono ?_
      rintro e w' ⟨rfl, rfl⟩
      rw [Int.toNat_natCast]
      go_wp2
      go_roundw
      case rel => exact ⟨k + 1, by omega, by go_num, by rw [← S.out.2, ← O.out.2]; simp, by rw [O.out.1, ← S.out.1]; exact HO.out.set _ _, HB.out.setCell (Nat.le_refl _) _⟩
      case measure => simp [intOf]; omega
    · obtain rfl : k = K := by omega
      have HO := Lib.hid ho
      have HB := Lib.hid hbl
      clear ho hbl
      go_wp2
      go_ret
      exact ⟨_, rfl, by rw [← D.out]; exact HO.out, Nat.le_refl _, HB.out⟩
theorem shr_or (x y s : Nat) (hx : x < 2 ^ 64) (hs : s ≤ 63) :
    bits BinOp.or IntKind.u64 ((x : Int) / 2 ^ s) (IntKind.u64.wrap ((y : Int) * 2 ^ (64 - s))) = (((x + 2 ^ 64 * y) / 2 ^ s % 2 ^ 64 : Nat) : Int) := by
  have e := split64 hs
  have hp := Nat.two_pow_pos s
  have hq := Nat.two_pow_pos (64 - s)
  have e1 : (x + 2 ^ 64 * y) / 2 ^ s = x / 2 ^ s + 2 ^ (64 - s) * y := by rw [e, Nat.mul_assoc, Nat.add_mul_div_left _ _ hp]
  have h1 : x / 2 ^ s < 2 ^ (64 - s) := Nat.div_lt_of_lt_mul (by rw [← e]; exact hx)
  have e2 : 2 ^ (64 - s) * y % 2 ^ 64 = 2 ^ (64 - s) * (y % 2 ^ s) := by rw [e, Nat.mul_comm (2 ^ s), Nat.mul_mod_mul_left]
  have h2 := Nat.mod_lt y hp
  have h3 : 2 ^ (64 - s) * (y % 2 ^ s + 1) ≤ 2 ^ 64 := by rw [e, Nat.mul_comm (2 ^ s)]; exact Nat.mul_le_mul_left _ h2
  rw [Nat.mul_add] at h3
  have e3 : (x / 2 ^ s + 2 ^ (64 - s) * y) % 2 ^ 64 = x / 2 ^ s + 2 ^ (64 - s) * (y % 2 ^ s) := by
    have := Nat.div_add_mod (2 ^ (64 - s) * y) (2 ^ 64)
    rw [e2] at this
    generalize x / 2 ^ s = f at *
    generalize 2 ^ (64 - s) * y = P at *
    generalize 2 ^ (64 - s) * (y % 2 ^ s) = Q at *
    omega
  have w1 : IntKind.u64.wrap ((y : Int) * 2 ^ (64 - s)) = ((2 ^ (64 - s) * (y % 2 ^ s) : Nat) : Int) := by
    rw [IntKind.wrap_u64, show (y : Int) * 2 ^ (64 - s) = ((2 ^ (64 - s) * y : Nat) : Int) by simp [Int.mul_comm], ← e2]
    omega
  have w2 : (x : Int) / 2 ^ s = ((x / 2 ^ s : Nat) : Int) := by simp
  rw [w1, w2, bits_or_u64_nat _ _ (by omega) (by omega), e1, e3]
  congr 1
  have := Nat.shiftLeft_add_eq_or_of_lt h1 (y % 2 ^ s)
  rw [Nat.shiftLeft_eq, Nat.mul_comm] at this
  rw [Nat.or_comm, ← this]
  omega
theorem shr_limb {zs : List Nat} (hz : Small zs) (k s : Nat) (hs : s ≤ 63) : (lm zs k + 2 ^ 64 * lm zs (k + 1)) / 2 ^ s % 2 ^ 64 = val zs / 2 ^ s / 2 ^ (64 * k) % 2 ^ 64 := by
  have e1 : val zs / 2 ^ s / 2 ^ (64 * k) = val zs / 2 ^ (64 * k) / 2 ^ s := by rw [Nat.div_div_eq_div_mul, Nat.mul_comm, ← Nat.div_div_eq_div_mul]
  rw [e1, lm_val hz k, lm_val hz (k + 1), show 64 * (k + 1) = 64 * k + 64 by omega, Nat.pow_add, ← Nat.div_div_eq_div_mul]
  generalize val zs / 2 ^ (64 * k) = U
  have e := split64 hs
  have hp := Nat.two_pow_pos s
  have e2 : U = (U % 2 ^ 64 + 2 ^ 64 * (U / 2 ^ 64 % 2 ^ 64)) + 2 ^ 64 * (2 ^ 64 * (U / 2 ^ 64 / 2 ^ 64)) := by omega
  have e3 : U / 2 ^ s = (U % 2 ^ 64 + 2 ^ 64 * (U / 2 ^ 64 % 2 ^ 64)) / 2 ^ s + 2 ^ (64 - s) * (2 ^ 64 * (U / 2 ^ 64 / 2 ^ 64)) := by
    conv => lhs; rw [e2]
    generalize U % 2 ^ 64 + 2 ^ 64 * (U / 2 ^ 64 % 2 ^ 64) = A
    rw [e, Nat.mul_assoc, Nat.add_mul_div_left _ _ hp]
  rw [e3, Nat.mul_left_comm, Nat.add_mul_mod_self_left]
theorem shr_step {zs : List Nat} {K k s : Nat} (hk : k < K) {b : Nat} (hb : b = val zs / 2 ^ s / 2 ^ (64 * k) % 2 ^ 64) :
    (row K (val zs / 2 ^ s % 2 ^ (64 * k))).set k b = row K (val zs / 2 ^ s % 2 ^ (64 * (k + 1))) := by
  rw [row_set _ _ _ b (Nat.mod_lt _ (Nat.two_pow_pos _)) (by rw [hb]; exact Nat.mod_lt _ (by decide)) hk, mod_limb, hb]
set_option maxHeartbeats 1000000 in
theorem shiftDown_any (a : Option Addr) (n c : Nat) (xs : List Nat) (s : Nat) (w : World) (hn : n ≤ 40) (hs : s ≤ 63) (hv : View w a n xs) :
    Calls Tryz.prog 215 #[.slice a n c, .int .i64 (s : Int)] w (Makes1 n (val xs / 2 ^ s) w) := by
  have Z := Lib.hid (show row n (val xs / 2 ^ s % 2 ^ (64 * 0)) = List.replicate n 0 by rw [show 2 ^ (64 * 0) = 1 from rfl, Nat.mod_one, row_zero])
  have D := Lib.hid (show row n (val xs / 2 ^ s % 2 ^ (64 * n)) = row n (val xs / 2 ^ s) from row_mod _ _)
  go_enter Tryz.func215, Tryz.ntmps215
  go_wp2_with (at_make; refine wpList_make_limbs _ rfl _ _ rfl n _ _ rfl rfl (by omega) (by omega) (by omega) ?_; intro w1 ho hbl)
  have HO0 := Lib.hid ho
  have HB0 := Lib.hid hbl
  clear ho hbl
  go_loopw [12] (fun i wr => ∃ k : Nat, k ≤ n ∧ i = .int .i64 k ∧ Own wr w.heap.size (row n (val xs / 2 ^ s % 2 ^ (64 * k))) ∧ Below w.heap.size w wr) (fun i _ => n - (intOf i).toNat)
  case atStart => exact ⟨0, Nat.zero_le _, rfl, by rw [Z.out]; exact HO0.out, HB0.out⟩
  case round =>
    clear HO0 HB0
    obtain ⟨k, hk, rfl, ho, hbl⟩ := hrel
    by_cases hlt : k < n
    · have S := Lib.hid (shr_step (zs := xs) (s := s) hlt rfl)
      have u1 := hv.below (Nat.le_refl _) hbl
      have u1d := u1.below (Nat.le_refl _) (Below.refl wr.heap.size wr).drew
      obtain ⟨b, off, rfl, _, hc⟩ := u1.cell k hlt
      have hx := u1.lt k
      have hcell := ho.cell (i := k) (by rw [length_row]; exact hlt)
      have hfr := ho.frozen k
      have O := Lib.hid (shr_or (lm xs k) (lm xs (k + 1)) s hx hs)
      have O2 := Lib.hid (shr_limb hv.small k s hs)
      generalize hy : lm (row n (val xs / 2 ^ s % 2 ^ (64 * k))) k = y at hcell
      clear hy
      have HO := Lib.hid ho
      have HB := Lib.hid hbl
      have hlt' : (k : Int) < (n : Int) := by omega
      clear ho hbl u1
      go_wp2
      have hto : IntKind.i64.wrap ((k : Int) + 1) = (k : Int) + 1 := IntWalk.i64_in _ (by omega)
      have hts : IntKind.i64.wrap (64 - (s : Int)) = 64 - (s : Int) := IntWalk.i64_in _ (by omega)
      go_region_with (go_at_call 165; refine (limb_any _ _ _ _ xs _ (by omega) (by unfold maxLen; omega) u1d).mono ?_; rintro e w' ⟨rfl, rfl⟩)
      all_goals clear hto hts
      all_goals
        go_wp2
        go_roundw
        case rel => exact ⟨k + 1, by omega, by go_num, by rw [O.out, O2.out, ← S.out]; exact (HO.out.set _ _).drew, (HB.out.setCell (Nat.le_refl _) _).drew⟩
        case measure => simp [intOf]; omega
    · obtain rfl : k = n := by omega
      have HO := Lib.hid ho
      have HB := Lib.hid hbl
      clear ho hbl
      go_wp2
      go_ret
      exact ⟨_, rfl, by rw [← D.out]; exact HO.out, Nat.le_refl _, HB.out⟩
end Go.Proofs.YtkkmekdhejhapaaGreat
