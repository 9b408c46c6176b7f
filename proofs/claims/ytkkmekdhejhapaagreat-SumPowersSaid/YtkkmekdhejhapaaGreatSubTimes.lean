/- What is proved here: contracts of nat.subTimes and nat.addBack: a window of a row, less a multiple of a number, and more by a number. -/
import Derived.Test.YtkkmekdhejhapaaGreatMulAdd
import Derived.Deep.RegionWith
namespace Go.Proofs.YtkkmekdhejhapaaGreat
open Go.RowKit
theorem subLo_eq (x y b : Nat) (hx : x < 2 ^ 64) (hy : y < 2 ^ 64) (hb : b ≤ 1) : subLo x y b + y + b = x + subHi x y b * 2 ^ 64 := by
  unfold subLo subHi
  split <;> omega
theorem subHi_le (x y b : Nat) : subHi x y b ≤ 1 := by unfold subHi; split <;> omega
theorem subLo_lt (x y b : Nat) : subLo x y b < 2 ^ 64 := Nat.mod_lt _ (by decide)
structure Subbing (xs : List Nat) (i0 q Y : Nat) (k c b : Nat) (zs : List Nat) : Prop where
  len : zs.length = xs.length
  small : Small zs
  carry : c < 2 ^ 64
  borrow : b ≤ 1
  rest : ∀ j, j < i0 ∨ i0 + k ≤ j → lm zs j = lm xs j
  sum : val zs + q * (Y % 2 ^ (64 * k)) * 2 ^ (64 * i0) = val xs + (c + b) * 2 ^ (64 * (i0 + k))
theorem Subbing.start {xs : List Nat} (hs : Small xs) (i0 q Y : Nat) : Subbing xs i0 q Y 0 0 0 xs :=
  ⟨rfl, hs, by decide, by decide, fun _ _ => rfl, by simp [Nat.mod_one]⟩
theorem Subbing.step {xs zs : List Nat} {i0 q Y k c b : Nat} (h : Subbing xs i0 q Y k c b zs) (hq : q < 2 ^ 64) (hi : i0 + k < xs.length) (y : Nat) (hy : y = Y / 2 ^ (64 * k) % 2 ^ 64) :
    Subbing xs i0 q Y (k + 1) (mulHi y q 0 c) (subHi (lm zs (i0 + k)) (mulLo y q 0 c) b) (zs.set (i0 + k) (subLo (lm zs (i0 + k)) (mulLo y q 0 c) b)) := by
  have hyl : y < 2 ^ 64 := by rw [hy]; exact Nat.mod_lt _ (by decide)
  have ho := lm_lt h.small (i0 + k)
  have hl : i0 + k < zs.length := by rw [h.len]; exact hi
  have hv := val_set zs (i0 + k) (subLo (lm zs (i0 + k)) (mulLo y q 0 c) b) hl
  have hs := h.sum
  have e1 := subLo_eq (lm zs (i0 + k)) (mulLo y q 0 c) b ho (Nat.mod_lt _ (by decide)) h.borrow
  have e0 : y * q + c = mulLo y q 0 c + 2 ^ 64 * mulHi y q 0 c := by
    unfold mulLo mulHi; rw [Nat.add_zero]; exact (Nat.mod_add_div _ _).symm
  refine ⟨by simpa using h.len, h.small.set _ (subLo_lt _ _ _), mulHi_lt hyl hq (by decide) h.carry, subHi_le _ _ _, ?_, ?_⟩
  · intro j hj
    rw [lm_set _ _ _ _ hl, if_neg (by omega)]
    exact h.rest j (by omega)
  · rw [mod_limb, ← hy]
    generalize mulLo y q 0 c = lo at *
    generalize mulHi y q 0 c = hi' at *
    generalize subLo (lm zs (i0 + k)) lo b = l' at *
    generalize subHi (lm zs (i0 + k)) lo b = b' at *
    generalize lm zs (i0 + k) = o at *
    rw [show 64 * (i0 + (k + 1)) = 64 * (i0 + k) + 64 by omega, Nat.pow_add]
    rw [show 64 * (i0 + k) = 64 * i0 + 64 * k by omega, Nat.pow_add] at *
    generalize 2 ^ (64 * i0) = P at *
    generalize 2 ^ (64 * k) = Q at *
    generalize Y % Q = R at *
    generalize val zs = A at *
    generalize val (zs.set _ _) = A' at *
    generalize val xs = B at *
    have f1 : (l' + lo + b) * (P * Q) = (o + b' * 2 ^ 64) * (P * Q) := by rw [e1]
    have f2 : (l' + lo + b) * (P * Q) = l' * (P * Q) + lo * (P * Q) + b * (P * Q) := by rw [Nat.add_mul, Nat.add_mul]
    have f3 : (o + b' * 2 ^ 64) * (P * Q) = o * (P * Q) + b' * (P * Q * 2 ^ 64) := by rw [Nat.add_mul, Nat.mul_assoc b', Nat.mul_comm (2 ^ 64)]
    have g1 : (y * q + c) * (P * Q) = (lo + 2 ^ 64 * hi') * (P * Q) := by rw [e0]
    have g2 : (y * q + c) * (P * Q) = y * q * (P * Q) + c * (P * Q) := by rw [Nat.add_mul]
    have g3 : (lo + 2 ^ 64 * hi') * (P * Q) = lo * (P * Q) + hi' * (P * Q * 2 ^ 64) := by
      rw [Nat.add_mul, Nat.mul_comm (2 ^ 64) hi', Nat.mul_assoc hi', Nat.mul_comm (2 ^ 64)]
    have e4 : q * (R + y * Q) * P = q * R * P + y * q * (P * Q) := by
      rw [Nat.mul_add, Nat.add_mul]
      congr 1
      rw [Nat.mul_comm y q, Nat.mul_assoc, Nat.mul_assoc, Nat.mul_assoc, Nat.mul_comm Q P]
    have e5 : (hi' + b') * (P * Q * 2 ^ 64) = hi' * (P * Q * 2 ^ 64) + b' * (P * Q * 2 ^ 64) := Nat.add_mul _ _ _
    have e6 : (c + b) * (P * Q) = c * (P * Q) + b * (P * Q) := Nat.add_mul _ _ _
    rw [e4, e5]
    rw [e6] at hs
    omega
structure Taken (xs : List Nat) (i0 q Y n b : Nat) (zs : List Nat) : Prop where
  len : zs.length = xs.length
  small : Small zs
  borrow : b ≤ 1
  rest : ∀ j, j < i0 ∨ i0 + n + 1 ≤ j → lm zs j = lm xs j
  sum : val zs + q * Y * 2 ^ (64 * i0) = val xs + b * 2 ^ (64 * (i0 + n + 1))
theorem Subbing.done {xs zs : List Nat} {i0 q Y n c b : Nat} (h : Subbing xs i0 q Y n c b zs) (hY : Y < 2 ^ (64 * n)) (hi : i0 + n < xs.length) :
    Taken xs i0 q Y n (subHi (lm zs (i0 + n)) c b) (zs.set (i0 + n) (subLo (lm zs (i0 + n)) c b)) := by
  have ho := lm_lt h.small (i0 + n)
  have hl : i0 + n < zs.length := by rw [h.len]; exact hi
  have hv := val_set zs (i0 + n) (subLo (lm zs (i0 + n)) c b) hl
  have hs := h.sum
  rw [Nat.mod_eq_of_lt hY] at hs
  have e1 := subLo_eq (lm zs (i0 + n)) c b ho h.carry h.borrow
  refine ⟨by simpa using h.len, h.small.set _ (subLo_lt _ _ _), subHi_le _ _ _, ?_, ?_⟩
  · intro j hj
    rw [lm_set _ _ _ _ hl, if_neg (by omega)]
    exact h.rest j (by omega)
  · generalize subLo (lm zs (i0 + n)) c b = l' at *
    generalize subHi (lm zs (i0 + n)) c b = b' at *
    generalize lm zs (i0 + n) = o at *
    rw [show 64 * (i0 + n + 1) = 64 * (i0 + n) + 64 by omega, Nat.pow_add]
    generalize 2 ^ (64 * (i0 + n)) = T at *
    have f1 : (l' + c + b) * T = (o + b' * 2 ^ 64) * T := by rw [e1]
    have f2 : (l' + c + b) * T = l' * T + (c + b) * T := by rw [Nat.add_assoc, Nat.add_mul]
    have f3 : (o + b' * 2 ^ 64) * T = o * T + b' * (T * 2 ^ 64) := by rw [Nat.add_mul, Nat.mul_assoc b', Nat.mul_comm (2 ^ 64)]
    omega
theorem mulAdd_any0 (x y c : Nat) (w : World) (hx : x < 2 ^ 64) (hy : y < 2 ^ 64) (hc : c < 2 ^ 64) :
    Calls Tryz.prog 220 #[.int .u64 (x : Int), .int .u64 (y : Int), .int .u64 0, .int .u64 (c : Int)] w fun e w' => e = .returned (.tuple #[.int .u64 ((mulHi x y 0 c : Nat) : Int), .int .u64 ((mulLo x y 0 c : Nat) : Int)]) ∧ w = w' :=
  mulAdd_any x y 0 c w hx hy (by decide) hc
def SubsTimes (xs : List Nat) (i0 q Y n g : Nat) (w : World) (e : Ending) (w' : World) : Prop :=
  ∃ b zs, e = .returned (.int .u64 ((b : Nat) : Int)) ∧ Taken xs i0 q Y n b zs ∧ Own w' g zs ∧ Below g w w'
set_option maxHeartbeats 2000000 in
theorem subTimes_any (n m cp cp' g i0 q : Nat) (xs ys : List Nat) (a : Option Addr) (w : World) (hm : m = n + 1) (hn : n ≤ 32) (hq : q < 2 ^ 64) (hi : i0 + n + 1 ≤ xs.length) (ho : Own w g xs) (hs : Small xs) (hv : ViewB g w a n ys) :
    Calls Tryz.prog 217 #[.slice (some ⟨g, i0, none⟩) m cp, .slice a n cp', .int .u64 (q : Int)] w (SubsTimes xs i0 q (val ys) n g w) := by
  have hmi : (m : Int) = (n : Int) + 1 := by omega
  have HM := Lib.hid hm
  have hnm : (n : Int) < (m : Int) := by omega
  have hY := Lib.hid (val_lt_of hv.small (K := n) (by rw [hv.len]; exact Nat.le_refl _))
  clear hm hmi
  go_enter Tryz.func217, Tryz.ntmps217
  go_wp2
  have HO0 := Lib.hid ho
  have HS := Lib.hid hs
  clear ho hs
  go_loopw [7, 8, 15] (fun cr br i wr => ∃ k c b zs, k ≤ n ∧ i = .int .i64 (k : Nat) ∧ cr = .int .u64 ((c : Nat) : Int) ∧ br = .int .u64 ((b : Nat) : Int) ∧ Subbing xs i0 q (val ys) k c b zs ∧ Own wr g zs ∧ Below g w wr) (fun _ _ i _ => n - (intOf i).toNat)
  case atStart => exact ⟨0, 0, 0, xs, Nat.zero_le _, rfl, rfl, rfl, Subbing.start HS.out _ _ _, HO0.out, Below.refl _ _⟩
  case round =>
    clear HO0
    obtain ⟨k, c, b, zs, hk, rfl, rfl, rfl, hA, ho, hbl⟩ := hrel
    by_cases hlt : k < n
    · have u := hv.below (Nat.le_refl _) hbl
      obtain ⟨bb, off, rfl, _, hc⟩ := u.cell k hlt
      have hy := u.lt k
      have hlen : i0 + k < zs.length := by rw [hA.len]; omega
      have hcell := ho.cell hlen
      have hfr := ho.frozen (i0 + k)
      have hcl := hA.carry
      have hbl1 := hA.borrow
      have HA := Lib.hid (hA.step hq (by omega) (lm ys k) (lm_val hv.small k))
      have HO := Lib.hid (ho.set (i0 + k) (subLo (lm zs (i0 + k)) (mulLo (lm ys k) q 0 c) b))
      have HB := Lib.hid hbl
      have hkm : (k : Int) < (m : Int) := by omega
      clear hA ho hbl u hlen
      generalize lm zs (i0 + k) = o at *
      generalize lm ys k = y at *
      go_wp2_with fail
      refine (mulAdd_any0 _ _ _ _ hy hq hcl).mono ?_
      rintro e w' ⟨rfl, rfl⟩
      clear hy hcl
      go_wp2_with (simp only [sub64_run _ _ _ hbl1])
      go_roundw
      case rel => exact ⟨k + 1, _, _, _, by omega, by go_num, rfl, rfl, HA.out, HO.out, HB.out.setCell (Nat.le_refl _) _⟩
      case measure => simp [intOf]; omega
    · obtain rfl : k = n := by omega
      have hlen : i0 + k < zs.length := by rw [hA.len]; omega
      have hcell := ho.cell hlen
      have hfr := ho.frozen (i0 + k)
      have hbl1 := hA.borrow
      have HA := Lib.hid (hA.done hY.out (by omega))
      have HO := Lib.hid (ho.set (i0 + k) (subLo (lm zs (i0 + k)) c b))
      have HB := Lib.hid hbl
      clear hA ho hbl hlen
      generalize lm zs (i0 + k) = o at *
      go_wp2_with (simp only [sub64_run _ _ _ hbl1])
      go_ret
      exact ⟨_, _, rfl, HA.out, HO.out, HB.out.setCell (Nat.le_refl _) _⟩
theorem Adding.step1 {xs zs : List Nat} {i0 Y k c : Nat} (h : Adding xs i0 1 Y k c zs) (hi : i0 + k < xs.length) (y : Nat) (hy : y = Y / 2 ^ (64 * k) % 2 ^ 64) :
    Adding xs i0 1 Y (k + 1) (sumHi (lm zs (i0 + k)) y c) (zs.set (i0 + k) (sumLo (lm zs (i0 + k)) y c)) := by
  have := h.step (by decide) hi y hy
  have e1 : mulHi y 1 (lm zs (i0 + k)) c = sumHi (lm zs (i0 + k)) y c := by unfold mulHi sumHi; congr 1; omega
  have e2 : mulLo y 1 (lm zs (i0 + k)) c = sumLo (lm zs (i0 + k)) y c := by unfold mulLo sumLo; congr 1; omega
  rwa [e1, e2] at this
theorem sumHi_le {x y c : Nat} (hx : x < 2 ^ 64) (hy : y < 2 ^ 64) (hc : c ≤ 1) : sumHi x y c ≤ 1 := by unfold sumHi; omega
def AddsBack (xs : List Nat) (i0 Y m g : Nat) (w : World) (e : Ending) (w' : World) : Prop :=
  ∃ c zs, e = .returned (.int .u64 ((c : Nat) : Int)) ∧ c ≤ 1 ∧ Adding xs i0 1 Y m c zs ∧ Own w' g zs ∧ Below g w w'
set_option maxHeartbeats 2000000 in
theorem addBack_any (n m cp cp' g i0 : Nat) (xs ys : List Nat) (a : Option Addr) (w : World) (hm : m ≤ 40) (hi : i0 + m ≤ xs.length) (ho : Own w g xs) (hs : Small xs) (hv : ViewB g w a n ys) (hn : n ≤ maxLen) :
    Calls Tryz.prog 218 #[.slice (some ⟨g, i0, none⟩) m cp, .slice a n cp'] w (AddsBack xs i0 (val ys) m g w) := by
  go_enter Tryz.func218, Tryz.ntmps218
  go_wp2
  have HO0 := Lib.hid ho
  have HS := Lib.hid hs
  clear ho hs
  go_loopw [5, 9] (fun cr i wr => ∃ k c zs, k ≤ m ∧ i = .int .i64 (k : Nat) ∧ cr = .int .u64 ((c : Nat) : Int) ∧ c ≤ 1 ∧ Adding xs i0 1 (val ys) k c zs ∧ Own wr g zs ∧ Below g w wr) (fun _ i _ => m - (intOf i).toNat)
  case atStart => exact ⟨0, 0, xs, Nat.zero_le _, rfl, rfl, by decide, Adding.start HS.out _ _ _, HO0.out, Below.refl _ _⟩
  case round =>
    clear HO0
    obtain ⟨k, c, zs, hk, rfl, rfl, hc1, hA, ho, hbl⟩ := hrel
    by_cases hlt : k < m
    · have u := (hv.below (Nat.le_refl _) hbl).view
      have ud := u.below (Nat.le_refl _) (Below.refl wr.heap.size wr).drew
      have hy := u.lt k
      have hlen : i0 + k < zs.length := by rw [hA.len]; omega
      have hcell := ho.cell hlen
      have hfr := ho.frozen (i0 + k)
      have ho' := lm_lt hA.small (i0 + k)
      have C := Lib.hid (sumHi_le ho' hy hc1)
      have HA := Lib.hid (hA.step1 (by omega) (lm ys k) (lm_val hv.small k))
      have HO := Lib.hid (ho.set (i0 + k) (sumLo (lm zs (i0 + k)) (lm ys k) c))
      have HB := Lib.hid hbl
      have hlt' : (k : Int) < (m : Int) := by omega
      clear hA ho hbl u hlen ho' hy
      generalize lm zs (i0 + k) = o at *
      go_wp2
      go_region_with (first | (go_at_call 165; refine (limb_any _ _ _ _ ys _ (by omega) hn ud).mono ?_; rintro e w' ⟨rfl, rfl⟩) | (simp only [add64_run _ _ _ hc1]))
      all_goals
        go_wp2
        go_roundw
        case rel => exact ⟨k + 1, _, _, by omega, by go_num, rfl, C.out, HA.out, HO.out.drew, (HB.out.setCell (Nat.le_refl _) _).drew⟩
        case measure => simp [intOf]; omega
    · obtain rfl : k = m := by omega
      have HA := Lib.hid hA
      have HO := Lib.hid ho
      have HB := Lib.hid hbl
      clear hA ho hbl
      go_wp2
      go_ret
      exact ⟨_, _, rfl, hc1, HA.out, HO.out, HB.out⟩
end Go.Proofs.YtkkmekdhejhapaaGreat
