/- What is proved here: contracts of mont.isModulus, isElement, one, bring and mulAdd. -/
import Derived.Test.YtkkmekdhejhapaaMath
import Derived.Test.YtkkmekdhejhapaaShort
import Derived.Test.YtkkmekdhejhapaaRem
namespace Go.Proofs.Ytkkmekdhejhapaa
open Go.RowKit
def IsMod (n : Nat) (ms : List Nat) : Prop := 1 ≤ n ∧ n ≤ 8 ∧ val ms % 2 = 1 ∧ 1 < val ms
def IsElem (n : Nat) (xs : List Nat) (n' : Nat) (ms : List Nat) : Prop := n = n' ∧ val xs < val ms
theorem lm0_odd {ms : List Nat} (hs : Small ms) : lm ms 0 % 2 = val ms % 2 := by
  rw [lm_val hs]
  simp only [Nat.mul_zero, Nat.pow_zero, Nat.div_one]
  omega
theorem nbits_gt {v : Nat} : 1 < nbits v ↔ 1 < v := by
  unfold nbits
  split
  · next h => omega
  · next h =>
    have := Nat.le_log2 (k := 1) h
    omega
theorem ret_bool {a b : Bool} (h : a = b) : Ending.returned (.bool a) = .returned (.bool b) := by rw [h]
set_option maxHeartbeats 400000 in
theorem isModulus_any (a : Option Addr) (n c : Nat) (ms : List Nat) (w : World) (hn : n ≤ c) (hm : c ≤ maxLen) (hv : View w a n ms) (r : Bool) (hr : r = true ↔ IsMod n ms) :
    Calls Try.prog 75 #[.slice a n c] w fun e w' => e = .returned (.bool r) ∧ w = w' := by
  by_cases h0 : n = 0
  · obtain rfl : r = false := by cases r; rfl; exact absurd (hr.1 rfl).1 (by omega)
    subst h0
    go_enter Try.func75, Try.ntmps75
    go_wp2
    go_ret
    exact ⟨rfl, rfl⟩
  · have h0' : ((n : Int) == 0) = false := by simpa using h0
    by_cases h8 : 8 < n
    · obtain rfl : r = false := by cases r; rfl; exact absurd (hr.1 rfl).2.1 (by omega)
      go_enter Try.func75, Try.ntmps75
      go_wp2
      go_ret
      exact ⟨rfl, rfl⟩
    · have h8' : ¬ (8 : Int) < (n : Int) := by omega
      have HL := Lib.hid (lm0_odd hv.small)
      obtain ⟨b, off, rfl, _, hc⟩ := hv.cell 0 (by omega)
      rw [Nat.add_zero] at hc
      have hl := hv.lt 0
      have hnn : (0 : Int) < (n : Int) := by omega
      generalize lm ms 0 = x at *
      by_cases hx : x % 2 = 1
      · have hx' : ((x : Int) % 2 == 1) = true := by simp; omega
        go_enter Try.func75, Try.ntmps75
        go_wp2_with fail
        refine (bits_short _ n c ms _ hn hm hv (by omega) rfl).mono ?_
        rintro e w' ⟨rfl, rfl⟩
        by_cases hb : 1 < nbits (val ms)
        · obtain rfl : r = true := hr.2 ⟨by omega, by omega, by rw [← HL.out]; exact hx, nbits_gt.1 hb⟩
          clear hr
          go_wp2
          go_ret
          exact ⟨ret_bool (decide_eq_true (by omega)), rfl⟩
        · obtain rfl : r = false := by cases r; rfl; exact absurd (nbits_gt.2 (hr.1 rfl).2.2.2) hb
          clear hr
          go_wp2
          go_ret
          exact ⟨ret_bool (decide_eq_false (by omega)), rfl⟩
      · have hx' : ((x : Int) % 2 == 1) = false := by simp; omega
        obtain rfl : r = false := by cases r; rfl; exact absurd (HL.out.trans (hr.1 rfl).2.2.1) hx
        clear hr HL hv hx
        go_enter Try.func75, Try.ntmps75
        go_wp2
        go_ret
        exact ⟨rfl, rfl⟩
theorem cmpI_neg (x y : Nat) : (cmpI x y < 0) = (x < y) := by
  unfold cmpI
  split
  · next h => simp [h]
  · next h =>
    split
    · simp [h]
    · simp [h]
set_option maxHeartbeats 400000 in
theorem isElement_any (a : Option Addr) (n c : Nat) (xs : List Nat) (a' : Option Addr) (n' c' : Nat) (ms : List Nat) (w : World) (hn : n ≤ c) (hm : c ≤ maxLen) (hn' : n' ≤ c') (hm' : c' ≤ maxLen) (hv : View w a n xs) (hv' : View w a' n' ms) (h16 : n' ≤ 16) (r : Bool) (hr : r = true ↔ IsElem n xs n' ms) :
    Calls Try.prog 76 #[.slice a n c, .slice a' n' c'] w fun e w' => e = .returned (.bool r) ∧ w = w' := by
  by_cases h : n = n'
  · subst h
    have hb : ((n : Int) == (n : Int)) = true := by simp
    go_enter Try.func76, Try.ntmps76
    go_wp2_with fail
    refine (cmp_short _ n c xs _ n c' ms _ hn hm hn' hm' hv hv' h16 h16 rfl).mono ?_
    rintro e w' ⟨rfl, rfl⟩
    have hc := cmpI_neg (val xs) (val ms)
    generalize cmpI (val xs) (val ms) = q at *
    by_cases hq : q < 0
    · obtain rfl : r = true := hr.2 ⟨rfl, by rw [← hc]; exact hq⟩
      clear hc hr
      go_wp2
      go_ret
      exact ⟨rfl, rfl⟩
    · obtain rfl : r = false := by cases r; rfl; exact absurd (hr.1 rfl).2 (by rw [← hc]; exact hq)
      clear hc hr
      go_wp2
      go_ret
      exact ⟨ret_bool (decide_eq_false (by omega)), rfl⟩
  · obtain rfl : r = false := by cases r; rfl; exact absurd (hr.1 rfl).1 h
    have hb : ((n : Int) == (n' : Int)) = false := by simp; omega
    clear hr hv hv' h
    go_enter Try.func76, Try.ntmps76
    go_wp2
    go_ret
    exact ⟨rfl, rfl⟩
theorem sumLo_lt (x y c : Nat) : sumLo x y c < 2 ^ 64 := Nat.mod_lt _ (by decide)
theorem add64_zero (x c : Nat) (hc : c ≤ 1) (w : World) :
    (callFunc 50 #[.int .u64 (x : Int), .int .u64 0, .int .u64 (c : Int)]).run Try.prog w =
      .ok (.value (.tuple #[.int .u64 ((sumLo x 0 c : Nat) : Int), .int .u64 ((sumHi x 0 c : Nat) : Int)])) w := add64_run x 0 c hc w
theorem prLo_lt (x y : Nat) : prLo x y < 2 ^ 64 := Nat.mod_lt _ (by decide)
theorem mulAdd2_sum (x y m c : Nat) (hx : x < 2 ^ 64) (hy : y < 2 ^ 64) (hm : m < 2 ^ 64) (hc : c < 2 ^ 64) :
    sumLo (sumLo (prHi x y) 0 (sumHi (prLo x y) m 0)) 0 (sumHi (sumLo (prLo x y) m 0) c 0) = mulHi x y m c ∧ sumLo (sumLo (prLo x y) m 0) c 0 = mulLo x y m c := by
  have h : x * y ≤ (2 ^ 64 - 1) * (2 ^ 64 - 1) := Nat.mul_le_mul (by omega) (by omega)
  unfold prHi prLo sumHi sumLo mulHi mulLo
  generalize x * y = p at *
  omega
set_option maxHeartbeats 1000000 in
theorem mulAdd2_any (x y m c : Nat) (w : World) (hx : x < 2 ^ 64) (hy : y < 2 ^ 64) (hm : m < 2 ^ 64) (hc : c < 2 ^ 64) :
    Calls Try.prog 102 #[.int .u64 (x : Int), .int .u64 (y : Int), .int .u64 (m : Int), .int .u64 (c : Int)] w fun e w' => e = .returned (.tuple #[.int .u64 ((mulHi x y m c : Nat) : Int), .int .u64 ((mulLo x y m c : Nat) : Int)]) ∧ w = w' := by
  obtain ⟨e1, e2⟩ := mulAdd2_sum x y m c hx hy hm hc
  have c1 := sumHi_le (prLo_lt x y) hm (by decide : 0 ≤ 1)
  have c2 := sumHi_le (sumLo_lt (prLo x y) m 0) hc (by decide : 0 ≤ 1)
  have E1 := Lib.hid e1
  have E2 := Lib.hid e2
  have C1 := Lib.hid c1
  have C2 := Lib.hid c2
  clear e1 e2 c1 c2
  go_enter Try.func102, Try.ntmps102
  go_wp2_with fail
  refine (mul64_named x y _ hx hy).mono ?_
  rintro e w' ⟨rfl, rfl⟩
  clear hx hy hm hc
  go_wp2_with (simp only [add64_run0, add64_zero _ _ C1.out, add64_zero _ _ C2.out])
  go_ret2
  rw [← E1.out, ← E2.out]
  exact ⟨rfl, rfl⟩
theorem mulAdd2_zero (x y m : Nat) (w : World) (hx : x < 2 ^ 64) (hy : y < 2 ^ 64) (hm : m < 2 ^ 64) :
    Calls Try.prog 102 #[.int .u64 (x : Int), .int .u64 (y : Int), .int .u64 (m : Int), .int .u64 0] w fun e w' => e = .returned (.tuple #[.int .u64 ((mulHi x y m 0 : Nat) : Int), .int .u64 ((mulLo x y m 0 : Nat) : Int)]) ∧ w = w' :=
  mulAdd2_any x y m 0 w hx hy hm (by decide)
end Go.Proofs.Ytkkmekdhejhapaa
