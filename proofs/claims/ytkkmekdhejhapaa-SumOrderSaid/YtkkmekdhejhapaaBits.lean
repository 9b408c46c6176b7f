/- What is proved here: contracts of math/bits.Len64, nat.trim, nat.Bits and of the reference's Bits: how many bits a number has. -/
import Derived.Test.YtkkmekdhejhapaaView
import Derived.Lib.Strings
import Derived.Lib.Slices
import Derived.Lib.Small
import Derived.Lib.Walk
import Derived.Lib.BitFns
namespace Go.Proofs.Ytkkmekdhejhapaa
open Go.RowKit
set_option maxRecDepth 100000 in
theorem tab_size : (Lib.len8tab.size : Int) = 256 := by
  have : Lib.len8tab.size = 256 := by decide
  omega
set_option maxRecDepth 100000 in
theorem tab_all : ∀ n : Fin 256, (Lib.len8tab[n.val]?.getD 0).toNat = nbits n.val := by decide +kernel
theorem tab_at (n : Nat) (h : n < 256) (h' : n < Lib.len8tab.size) : (Lib.len8tab[n]'h').toNat = nbits n := by
  have := tab_all ⟨n, h⟩
  simp only at this
  rw [getElem?_pos Lib.len8tab n h'] at this
  exact this
theorem nbits_le {v k : Nat} (h : v < 2 ^ k) : nbits v ≤ k := by
  unfold nbits
  split
  · exact Nat.zero_le _
  · next h0 => exact (Nat.log2_lt h0).2 h
theorem len_way (x k : Nat) (y : Int) (hk : k ≤ 56) (hy : y.toNat = x / 2 ^ k) (hx : 2 ^ k ≤ x ∨ k = 0) (hb : x / 2 ^ k < 256) (h : y.toNat < Lib.len8tab.size) :
    wrap64 ((k : Int) + wrap64 ((Lib.len8tab[y.toNat]'h).toNat : Int)) = ((nbits x : Nat) : Int) := by
  have e : (Lib.len8tab[y.toNat]'h).toNat = nbits (x / 2 ^ k) := by rw [tab_at _ (by omega) h, hy]
  have l := nbits_le (v := x / 2 ^ k) (k := 8) hb
  have s : nbits x = k + nbits (x / 2 ^ k) := by
    rcases hx with hx | rfl
    · have := nbits_add (x := x / 2 ^ k) (v := x % 2 ^ k) (k := k) (Nat.mod_lt _ (Nat.two_pow_pos _)) (by have := Nat.div_pos hx (Nat.two_pow_pos k); omega)
      rw [← this]; congr 1
      have := Nat.div_add_mod x (2 ^ k)
      rw [Nat.mul_comm]; omega
    · simp
  rw [e, s]
  generalize nbits (x / 2 ^ k) = q at *
  unfold wrap64
  omega
set_option maxHeartbeats 4000000 in
set_option maxRecDepth 100000 in
theorem len64_int (x : Int) (w : World) (h0 : 0 ≤ x) (h1 : x ≤ 18446744073709551615) :
    Calls Try.prog 69 #[.int .u64 x] w fun e w' => e = .returned (.int .i64 ((nbits x.toNat : Nat) : Int)) ∧ w = w' := by
  have hsz := tab_size
  go_enter Try.func69, Try.ntmps69
  go_wp2
  all_goals (go_ret; refine ⟨ret_int ?_, rfl⟩)
  · exact len_way x.toNat 56 _ (by omega) (by omega) (.inl (by omega)) (by omega) _
  · exact len_way x.toNat 48 _ (by omega) (by omega) (.inl (by omega)) (by omega) _
  · exact len_way x.toNat 40 _ (by omega) (by omega) (.inl (by omega)) (by omega) _
  · exact len_way x.toNat 32 _ (by omega) (by omega) (.inl (by omega)) (by omega) _
  · exact len_way x.toNat 24 _ (by omega) (by omega) (.inl (by omega)) (by omega) _
  · exact len_way x.toNat 16 _ (by omega) (by omega) (.inl (by omega)) (by omega) _
  · exact len_way x.toNat 8 _ (by omega) (by omega) (.inl (by omega)) (by omega) _
  · have r := len_way x.toNat 0 x (by omega) (by simp) (.inr rfl) (by simp; omega) (by omega)
    simpa using r
theorem len64_any (x : Nat) (w : World) (h : x < 2 ^ 64) :
    Calls Try.prog 69 #[.int .u64 (x : Int)] w fun e w' => e = .returned (.int .i64 ((nbits x : Nat) : Int)) ∧ w = w' := by
  have := len64_int x w (by omega) (by omega)
  rwa [Int.toNat_natCast] at this
def TrimTo (a : Option Addr) (xs : List Nat) (w : World) (e : Ending) (w' : World) : Prop :=
  ∃ k : Nat, k ≤ xs.length ∧ e = .returned (.slice a k k) ∧ w = w' ∧ (∀ j, k ≤ j → lm xs j = 0) ∧ (k = 0 ∨ lm xs (k - 1) ≠ 0)
theorem trim_step {xs : List Nat} {q : Nat} (h : ∀ j, q + 1 ≤ j → lm xs j = 0) (h1 : lm xs q = 0) : ∀ j, q ≤ j → lm xs j = 0 := by
  intro j hj
  by_cases e : j = q
  · rw [e, h1]
  · exact h j (by omega)
set_option maxHeartbeats 400000 in
theorem trim_any (a : Option Addr) (n c : Nat) (xs : List Nat) (w : World) (hn : n ≤ c) (hm : c ≤ maxLen) (hv : View w a n xs) :
    Calls Try.prog 101 #[.slice a n c] w (TrimTo a xs w) := by
  unfold maxLen at hm
  have hl := hv.len
  have HZ := Lib.hid (show ∀ j, n ≤ j → lm xs j = 0 from fun j hj => lm_zero (by omega))
  have HL := Lib.hid hl
  clear hl
  go_enter Try.func101, Try.ntmps101
  go_wp2
  go_loop [3] (fun i => ∃ k : Nat, k ≤ n ∧ i = .int .i64 k ∧ Hid (∀ j, k ≤ j → lm xs j = 0)) (fun i => (intOf i).toNat)
  case atStart => exact ⟨n, Nat.le_refl _, rfl, HZ⟩
  case round =>
    obtain ⟨k, hk, rfl, HA⟩ := hrel
    by_cases h0 : k = 0
    · subst h0
      go_wp2
      go_ret
      exact ⟨0, Nat.zero_le _, rfl, rfl, HA.out, .inl rfl⟩
    · obtain ⟨q, rfl⟩ : ∃ q, k = q + 1 := ⟨k - 1, by omega⟩
      obtain ⟨b, off, rfl, _, hc⟩ := hv.cell q (by omega)
      by_cases h1 : lm xs q = 0
      · have R := Lib.hid (trim_step HA.out h1)
        rw [h1] at hc
        clear h1
        go_wp2
        go_round
        case rel => exact ⟨q, by omega, by go_num, R⟩
        case measure => simp [intOf]
      · have R := Lib.hid h1
        have hb : (((lm xs q : Nat) : Int) == 0) = false := by simp [h1]
        clear h1
        go_wp2
        go_ret
        exact ⟨q + 1, by have := HL.out; omega, rfl, rfl, HA.out, .inr R.out⟩
theorem val_of_zeros {xs : List Nat} (hs : Small xs) (h : ∀ j, 0 ≤ j → lm xs j = 0) : val xs = 0 := by
  have := val_eq_of_limbs hs (ys := []) (fun y hy => by cases hy) (fun j => by rw [h j (by omega), lm_nil])
  simpa [val] using this
set_option maxHeartbeats 400000 in
theorem bits_any (a : Option Addr) (n c : Nat) (xs : List Nat) (w : World) (hn : n ≤ c) (hm : c ≤ maxLen) (hv : View w a n xs) :
    Calls Try.prog 96 #[.slice a n c] w fun e w' => e = .returned (.int .i64 ((nbits (val (xs.take 16)) : Nat) : Int)) ∧ w = w' := by
  have v1 := hv.take 16
  clear hv
  generalize xs.take 16 = zs at *
  have b1 : min n 16 ≤ 16 := by omega
  go_enter Try.func96, Try.ntmps96
  go_wp2_with fail
  refine (cut_any _ _ _ _ hn hm).mono ?_
  rintro e w' ⟨rfl, rfl⟩
  clear hn hm
  generalize min n 16 = m at *
  have HL := Lib.hid v1.len
  go_wp2_with fail
  refine (trim_any _ _ _ zs _ (Nat.le_refl _) (by unfold maxLen; omega) v1).mono ?_
  rintro e w' ⟨k, hk, rfl, rfl, hz, hq⟩
  have HZ := Lib.hid hz
  have HQ := Lib.hid hq
  have hk' : k ≤ 16 := by have := HL.out; omega
  have hkm : k ≤ m := by have := HL.out; omega
  clear hz hq hk
  by_cases h0 : k = 0
  · subst h0
    have R := Lib.hid (show nbits (val zs) = 0 by rw [val_of_zeros v1.small HZ.out]; rfl)
    clear HZ
    go_wp2
    go_ret
    rw [R.out]
    exact ⟨rfl, rfl⟩
  · obtain ⟨q, rfl⟩ : ∃ q, k = q + 1 := ⟨k - 1, by omega⟩
    have hq : lm zs q ≠ 0 := by rcases HQ.out with h | h; exact absurd h (by omega); simpa using h
    have R := Lib.hid (nbits_row v1.small q HZ.out hq)
    obtain ⟨b, off, rfl, _, hc⟩ := v1.cell q (by omega)
    have hx := v1.lt q
    have hbn := nbits_le hx
    clear hq HZ HQ
    go_wp2_with fail
    refine (len64_any _ _ hx).mono ?_
    rintro e w' ⟨rfl, rfl⟩
    clear hx
    go_wp2
    go_ret
    refine ⟨ret_int ?_, rfl⟩
    rw [R.out]
    simp
    
end Go.Proofs.Ytkkmekdhejhapaa
