/- What is proved here: contracts of nat.addTimes and nat.Mul: the product of two numbers (of at most sixteen limbs each). -/
import Derived.Test.YtdbfpbnabpapdaaMulAdd
import Derived.Test.YtdbfpbnabpapdaaAdd
import Derived.StillTailTactics
import Derived.Deep.RegionLaw
import Derived.Deep.RegionWith
namespace Go.Proofs.Ytdbfpbnabpapdaa
open Go.RowKit

/-- What nat.addTimes leaves. -/
def AddsTimes (xs : List Nat) (i0 x Y n g : Nat) (w : World) (e : Ending) (w' : World) : Prop :=
  ∃ c zs, e = .returned (.int .u64 ((c : Nat) : Int)) ∧ Adding xs i0 x Y n c zs ∧ Own w' g zs ∧ Below g w w'

set_option maxHeartbeats 1000000 in
theorem addTimes_any (ad : Option Addr) (n cp cp' g i0 x : Nat) (xs ys : List Nat) (a : Option Addr) (w : World) (hn : n ≤ 32) (hx : x < 2 ^ 64) (had : n = 0 ∨ ad = some ⟨g, i0, none⟩) (hi : i0 + n ≤ xs.length) (ho : Own w g xs) (hs : Small xs) (hv : ViewB g w a n ys) :
    Calls Try.prog 41 #[.slice ad n cp, .slice a n cp', .int .u64 (x : Int)] w (AddsTimes xs i0 x (val ys) n g w) := by
  go_enter Try.func41, Try.ntmps41
  go_wp2
  have HO := Lib.hid ho
  have HS := Lib.hid hs
  clear ho hs
  go_loopw [7, 11] (fun cr i wr => ∃ k c zs, k ≤ n ∧ i = .int .i64 (k : Nat) ∧ cr = .int .u64 ((c : Nat) : Int) ∧ Adding xs i0 x (val ys) k c zs ∧ Own wr g zs ∧ Below g w wr) (fun _ i _ => n - (intOf i).toNat)
  case atStart => exact ⟨0, 0, xs, Nat.zero_le _, rfl, rfl, Adding.start HS.out _ _ _, HO.out, Below.refl _ _⟩
  case round =>
    obtain ⟨k, c, zs, hk, rfl, rfl, hA, ho, hbl⟩ := hrel
    by_cases hlt : k < n
    · obtain rfl : ad = some ⟨g, i0, none⟩ := by rcases had with h | h; exact absurd h (by omega); exact h
      have u := hv.below (Nat.le_refl _) hbl
      obtain ⟨b, off, rfl, _, hc⟩ := u.cell k hlt
      have hy := u.lt k
      have hlen : i0 + k < zs.length := by rw [hA.len]; omega
      have hcell := ho.cell hlen
      have hfr := ho.frozen (i0 + k)
      have ho' := lm_lt hA.small (i0 + k)
      have hcl := hA.carry
      have HA := Lib.hid (hA.step hx (by omega) (lm ys k) (lm_val hv.small k))
      have HO := Lib.hid (ho.set (i0 + k) (mulLo (lm ys k) x (lm zs (i0 + k)) c))
      have HB := Lib.hid hbl
      clear hA ho hbl had u hlen
      have hlt' : (k : Int) < (n : Int) := by omega
      generalize lm zs (i0 + k) = o at *
      generalize lm ys k = y at *
      go_wp2
      go_region_with (go_at_call 56; refine (mulAdd_any _ _ _ _ _ hy hx ho' hcl).mono ?_; rintro e w' ⟨rfl, rfl⟩)
      all_goals
        go_wp2
        go_roundw
        case rel => exact ⟨k + 1, _, _, by omega, by go_num, rfl, HA.out, HO.out.drew, (HB.out.setCell (Nat.le_refl _) _).drew⟩
        case measure => simp [intOf]; omega
    · obtain rfl : k = n := by omega
      have HA := Lib.hid hA
      have HO := Lib.hid ho
      have HB := Lib.hid hbl
      clear hA ho hbl
      go_wp2
      go_ret
      exact ⟨c, zs, rfl, HA.out, HO.out, HB.out⟩

set_option maxHeartbeats 2000000 in
theorem mul_any (a : Option Addr) (n c : Nat) (xs : List Nat) (a' : Option Addr) (n' c' : Nat) (ys : List Nat) (w : World) (hn : n ≤ c) (hm : c ≤ maxLen) (hn' : n' ≤ c') (hm' : c' ≤ maxLen) (hv : View w a n xs) (hv' : View w a' n' ys) :
    Calls Try.prog 23 #[.slice a n c, .slice a' n' c'] w (Makes1 (min n 16 + min n' 16) (val (xs.take 16) * val (ys.take 16)) w) := by
  have v1 := hv.take 16
  have v2 := hv'.take 16
  clear hv hv'
  generalize xs.take 16 = zs at *
  generalize ys.take 16 = ts at *
  have b1 : min n 16 ≤ 16 := by omega
  have b2 : min n' 16 ≤ 16 := by omega
  go_enter Try.func23, Try.ntmps23
  go_wp2_with fail
  refine (cut_any _ _ _ _ hn hm).mono ?_
  rintro e w' ⟨rfl, rfl⟩
  go_wp2_with fail
  refine (cut_any _ _ _ _ hn' hm').mono ?_
  rintro e w' ⟨rfl, rfl⟩
  clear hn hm hn' hm'
  generalize min n 16 = m at *
  generalize min n' 16 = m' at *
  have pA := Lib.hid (val_lt_of v1.small (K := m) (by have := v1.len; omega))
  have pB := Lib.hid (val_lt_of v2.small (K := m') (by have := v2.len; omega))
  rcases Nat.eq_zero_or_pos m' with h0 | h0
  · subst h0
    go_wp2_with (at_make; refine wpList_make_limbs _ rfl _ _ rfl m _ _ rfl rfl (by omega) (by omega) (by omega) ?_; intro w1 ho hbl)
    have HO0 := Lib.hid ho
    have HB0 := Lib.hid hbl
    clear ho hbl
    go_loopw [20] (fun i wr => ∃ k us, k ≤ m ∧ i = .int .i64 (k : Nat) ∧ Mulling (val zs) (val ts) 0 m k us ∧ Own wr w.heap.size us ∧ Below w.heap.size w wr) (fun i _ => m - (intOf i).toNat)
    case atStart => exact ⟨0, _, Nat.zero_le _, rfl, Mulling.start _ _ _ _, HO0.out, HB0.out⟩
    case round =>
      obtain ⟨k, us, hk, rfl, hM, ho, hbl⟩ := hrel
      clear HO0 HB0
      by_cases hlt : k < m
      · have u1 := v1.viewB (Nat.le_refl _) hbl
        have u2 := v2.viewB (Nat.le_refl _) hbl
        obtain ⟨b, off, rfl, _, hc⟩ := u1.cell k hlt
        have hy := u1.lt k
        have hd := Lib.hid (lm_val v1.small k)
        have HM := Lib.hid hM
        have HO := Lib.hid ho
        have HB := Lib.hid hbl
        have HU := Lib.hid u2
        clear hM ho hbl u1 u2
        go_wp2_with fail
        go_region_with (go_at_call 41; refine (addTimes_any _ 0 _ _ w.heap.size k (lm zs k) us ts _ _ (by omega) hy (.inl rfl) (by have := HM.out.len; omega) HO.out.drew HM.out.small (HU.out.below (Nat.le_refl _) (Below.refl _ _).drew)).mono ?_; rintro e w2 ⟨cr, vs, rfl, hA, ho2, hb2⟩; have hcell2 := ho2.cell (i := k) (by rw [hA.len]; have := HM.out.len; omega); have hfr2 := ho2.frozen k; have HA := Lib.hid hA; have HO2 := Lib.hid ho2; have HB2 := Lib.hid hb2; clear hA ho2 hb2)
        all_goals
          go_wp2
          go_roundw
          case rel => exact ⟨k + 1, _, by omega, by go_num, HM.out.step pB.out (by omega) (by rw [← hd.out]; exact HA.out), HO2.out.set _ _, (HB.out.drew.trans HB2.out).setCell (Nat.le_refl _) _⟩
          case measure => simp [intOf]; omega
      · obtain rfl : k = m := by omega
        have HM := Lib.hid (hM.done pA.out)
        have HO := Lib.hid ho
        have HB := Lib.hid hbl
        clear hM ho hbl
        go_wp2
        go_ret
        exact ⟨_, rfl, by rw [Nat.add_zero, ← HM.out]; exact HO.out, Nat.le_refl _, HB.out⟩
  · go_wp2_with (at_make; refine wpList_make_limbs _ rfl _ _ rfl (m + m') _ _ rfl rfl (by omega) (by omega) (by omega) ?_; intro w1 ho hbl)
    have HO0 := Lib.hid ho
    have HB0 := Lib.hid hbl
    clear ho hbl
    go_loopw [20] (fun i wr => ∃ k us, k ≤ m ∧ i = .int .i64 (k : Nat) ∧ Mulling (val zs) (val ts) m' (m + m') k us ∧ Own wr w.heap.size us ∧ Below w.heap.size w wr) (fun i _ => m - (intOf i).toNat)
    case atStart => exact ⟨0, _, Nat.zero_le _, rfl, Mulling.start _ _ _ _, HO0.out, HB0.out⟩
    case round =>
      obtain ⟨k, us, hk, rfl, hM, ho, hbl⟩ := hrel
      clear HO0 HB0
      by_cases hlt : k < m
      · have u1 := v1.viewB (Nat.le_refl _) hbl
        have u2 := v2.viewB (Nat.le_refl _) hbl
        obtain ⟨b, off, rfl, _, hc⟩ := u1.cell k hlt
        have hy := u1.lt k
        have hd := Lib.hid (lm_val v1.small k)
        have HM := Lib.hid hM
        have HO := Lib.hid ho
        have HB := Lib.hid hbl
        have HU := Lib.hid u2
        clear hM ho hbl u1 u2
        have hkm : (k : Int) + (m' : Int) < (m : Int) + (m' : Int) := by omega
        go_wp2_with fail
        have hto : ((k : Int) + (m' : Int)).toNat = k + m' := by omega
        go_region_with (go_at_call 41; refine (addTimes_any _ m' _ _ w.heap.size k (lm zs k) us ts _ _ (by omega) hy (.inr rfl) (by have := HM.out.len; omega) HO.out.drew HM.out.small (HU.out.below (Nat.le_refl _) (Below.refl _ _).drew)).mono ?_; rintro e w2 ⟨cr, vs, rfl, hA, ho2, hb2⟩; have hcell2 := ho2.cell (i := k + m') (by rw [hA.len]; have := HM.out.len; omega); have hfr2 := ho2.frozen (k + m'); have HA := Lib.hid hA; have HO2 := Lib.hid ho2; have HB2 := Lib.hid hb2; clear hA ho2 hb2)
        all_goals clear hto
        all_goals
          go_wp2
          go_roundw
          case rel => exact ⟨k + 1, _, by omega, by go_num, HM.out.step pB.out (by omega) (by rw [← hd.out]; exact HA.out), HO2.out.set _ _, (HB.out.drew.trans HB2.out).setCell (Nat.le_refl _) _⟩
          case measure => simp [intOf]; omega
      · obtain rfl : k = m := by omega
        have HM := Lib.hid (hM.done pA.out)
        have HO := Lib.hid ho
        have HB := Lib.hid hbl
        clear hM ho hbl
        go_wp2
        go_ret
        exact ⟨_, rfl, by rw [← HM.out]; exact HO.out, Nat.le_refl _, HB.out⟩
end Go.Proofs.Ytdbfpbnabpapdaa
