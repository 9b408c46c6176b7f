/- What is proved here: plain facts on lists of limbs (numbers below 2^64, the lowest first) and on the number that such a list is; nothing of any program; plain facts on numbers modulo an odd number: halving, cancelling powers of 2, the step of a product that drops its lowest limb, the inverse of an odd limb; nothing of any program. -/
import Derived.WalkKit
namespace Go.Proofs.Ytkkmekdhejhapaa
def lm (xs : List Nat) (i : Nat) : Nat := xs.getD i 0
def Small (xs : List Nat) : Prop := ∀ x ∈ xs, x < 2 ^ 64
def val : List Nat → Nat
  | [] => 0
  | x :: xs => x + 2 ^ 64 * val xs
def row : Nat → Nat → List Nat
  | 0, _ => []
  | m + 1, v => v % 2 ^ 64 :: row m (v / 2 ^ 64)
theorem lm_nil (i : Nat) : lm [] i = 0 := by simp [lm]
theorem lm_cons_zero (x : Nat) (xs : List Nat) : lm (x :: xs) 0 = x := by simp [lm]
theorem lm_cons_succ (x : Nat) (xs : List Nat) (i : Nat) : lm (x :: xs) (i + 1) = lm xs i := by simp [lm]
theorem lm_zero {xs : List Nat} {i : Nat} (h : xs.length ≤ i) : lm xs i = 0 := by
  simp [lm, List.getElem?_eq_none h]
theorem lm_lt {xs : List Nat} (h : Small xs) (i : Nat) : lm xs i < 2 ^ 64 := by
  unfold lm
  by_cases hi : i < xs.length
  · simp only [List.getD_eq_getElem?_getD, List.getElem?_eq_getElem hi, Option.getD_some]
    exact h _ (List.getElem_mem _)
  · simp only [List.getD_eq_getElem?_getD, List.getElem?_eq_none (show xs.length ≤ i by omega), Option.getD_none]
    decide
theorem Small.tail {x : Nat} {xs : List Nat} (h : Small (x :: xs)) : Small xs := fun y hy => h y (List.mem_cons_of_mem _ hy)
theorem Small.head {x : Nat} {xs : List Nat} (h : Small (x :: xs)) : x < 2 ^ 64 := h x List.mem_cons_self
theorem Small.take {xs : List Nat} (h : Small xs) (k : Nat) : Small (xs.take k) := fun y hy => h y (List.mem_of_mem_take hy)
theorem lm_take {xs : List Nat} {k i : Nat} (h : i < k) : lm (xs.take k) i = lm xs i := by
  simp only [lm, List.getD_eq_getElem?_getD, List.getElem?_take]; rw [if_pos h]
theorem pow64 (k : Nat) : 2 ^ (64 * (k + 1)) = 2 ^ 64 * 2 ^ (64 * k) := by
  rw [← Nat.pow_add]; congr 1; omega
theorem val_lt {xs : List Nat} (h : Small xs) : val xs < 2 ^ (64 * xs.length) := by
  induction xs with
  | nil => simp [val]
  | cons x xs ih =>
    have h1 := ih h.tail
    have h2 := h.head
    simp only [val, List.length_cons, pow64]
    generalize 2 ^ (64 * xs.length) = P at *
    have : 2 ^ 64 * (val xs + 1) ≤ 2 ^ 64 * P := Nat.mul_le_mul_left _ h1
    omega
theorem lm_val {xs : List Nat} (h : Small xs) (k : Nat) : lm xs k = val xs / 2 ^ (64 * k) % 2 ^ 64 := by
  induction xs generalizing k with
  | nil => simp [lm_nil, val]
  | cons x xs ih =>
    have h2 := h.head
    cases k with
    | zero => simp only [lm_cons_zero, val, Nat.mul_zero, Nat.pow_zero, Nat.div_one]; omega
    | succ k =>
      rw [lm_cons_succ, ih h.tail, pow64, ← Nat.div_div_eq_div_mul]
      congr 2
      simp only [val]
      omega
theorem length_row (m v : Nat) : (row m v).length = m := by
  induction m generalizing v with
  | zero => rfl
  | succ m ih => simp [row, ih]
theorem small_row (m v : Nat) : Small (row m v) := by
  induction m generalizing v with
  | zero => intro x hx; cases hx
  | succ m ih =>
    intro x hx
    simp only [row, List.mem_cons] at hx
    rcases hx with rfl | hx
    · exact Nat.mod_lt _ (by decide)
    · exact ih _ x hx
theorem val_row (m v : Nat) : val (row m v) = v % 2 ^ (64 * m) := by
  induction m generalizing v with
  | zero => simp [row, val, Nat.mod_one]
  | succ m ih =>
    simp only [row, val, ih, pow64]
    rw [Nat.mod_mul]
theorem row_val {xs : List Nat} (h : Small xs) : row xs.length (val xs) = xs := by
  induction xs with
  | nil => rfl
  | cons x xs ih =>
    have h2 := h.head
    simp only [List.length_cons, row, val]
    rw [show (x + 2 ^ 64 * val xs) % 2 ^ 64 = x by omega, show (x + 2 ^ 64 * val xs) / 2 ^ 64 = val xs by omega, ih h.tail]
theorem val_inj {xs ys : List Nat} (hx : Small xs) (hy : Small ys) (hl : xs.length = ys.length) (h : val xs = val ys) : xs = ys := by
  rw [← row_val hx, ← row_val hy, hl, h]
theorem row_zero (m : Nat) : row m 0 = List.replicate m 0 := by
  induction m with
  | zero => rfl
  | succ m ih => simp [row, ih, List.replicate_succ]
theorem row_mod (m v : Nat) : row m (v % 2 ^ (64 * m)) = row m v := by
  refine val_inj (small_row _ _) (small_row _ _) (by simp [length_row]) ?_
  rw [val_row, val_row, Nat.mod_mod]
theorem row_set (m v i x : Nat) (hv : v < 2 ^ (64 * i)) (hx : x < 2 ^ 64) (hi : i < m) : (row m v).set i x = row m (v + x * 2 ^ (64 * i)) := by
  induction m generalizing v i with
  | zero => omega
  | succ m ih =>
    cases i with
    | zero =>
      simp only [Nat.mul_zero, Nat.pow_zero] at hv
      obtain rfl : v = 0 := by omega
      simp only [row, List.set_cons_zero, Nat.mul_zero, Nat.pow_zero, Nat.mul_one, Nat.zero_add]
      rw [Nat.mod_eq_of_lt hx, Nat.div_eq_of_lt hx]
    | succ i =>
      simp only [row, List.set_cons_succ]
      rw [pow64] at hv ⊢
      have e1 : (v + x * (2 ^ 64 * 2 ^ (64 * i))) % 2 ^ 64 = v % 2 ^ 64 := by
        rw [Nat.mul_left_comm, Nat.add_mul_mod_self_left]
      have e2 : (v + x * (2 ^ 64 * 2 ^ (64 * i))) / 2 ^ 64 = v / 2 ^ 64 + x * 2 ^ (64 * i) := by
        rw [Nat.mul_left_comm, Nat.add_mul_div_left _ _ (by decide)]
      rw [e1, e2, ih _ _ (Nat.div_lt_of_lt_mul hv) (by omega)]
theorem lm_row (m v i : Nat) (hi : i < m) : lm (row m v) i = v / 2 ^ (64 * i) % 2 ^ 64 := by
  induction m generalizing v i with
  | zero => omega
  | succ m ih =>
    cases i with
    | zero => simp [row, lm_cons_zero]
    | succ i => simp only [row, lm_cons_succ]; rw [ih _ _ (by omega), pow64, ← Nat.div_div_eq_div_mul]
def cmpI (x y : Nat) : Int := if x < y then -1 else if y < x then 1 else 0
theorem cmpI_lt {x y : Nat} (h : x < y) : cmpI x y = -1 := by simp [cmpI, h]
theorem cmpI_gt {x y : Nat} (h : y < x) : cmpI x y = 1 := by simp [cmpI, h]; omega
theorem cmpI_self (x : Nat) : cmpI x x = 0 := by simp [cmpI]
theorem div_eq_of_limbs {xs ys : List Nat} (hx : Small xs) (hy : Small ys) (k : Nat) (h : ∀ j, k ≤ j → lm xs j = lm ys j) : val xs / 2 ^ (64 * k) = val ys / 2 ^ (64 * k) := by
  induction k generalizing xs ys with
  | zero =>
    have : val xs = val ys := by
      induction xs generalizing ys with
      | nil =>
        induction ys with
        | nil => rfl
        | cons y ys ih =>
          have h0 := h 0 (Nat.zero_le _)
          have := ih hy.tail (fun j _ => by have := h (j + 1) (Nat.zero_le _); rw [lm_nil] at this ⊢; rw [this, lm_cons_succ])
          rw [lm_nil, lm_cons_zero] at h0
          simp only [val] at this ⊢
          omega
      | cons x xs ih =>
        cases ys with
        | nil =>
          have h0 := h 0 (Nat.zero_le _)
          have := ih (ys := []) hx.tail hy (fun j _ => by have := h (j + 1) (Nat.zero_le _); rw [lm_nil] at this ⊢; rw [← this, lm_cons_succ])
          rw [lm_nil, lm_cons_zero] at h0
          simp only [val] at this ⊢
          omega
        | cons y ys =>
          have h0 := h 0 (Nat.zero_le _)
          have := ih hx.tail hy.tail (fun j _ => by have := h (j + 1) (Nat.zero_le _); rwa [lm_cons_succ, lm_cons_succ] at this)
          rw [lm_cons_zero, lm_cons_zero] at h0
          simp only [val]
          omega
    rw [this]
  | succ k ih =>
    have tailv : ∀ zs : List Nat, Small zs → val zs / 2 ^ 64 = val zs.tail ∧ Small zs.tail ∧ ∀ j, lm zs.tail j = lm zs (j + 1) := by
      intro zs hz
      cases zs with
      | nil => exact ⟨by simp [val], hz, fun j => by simp [lm]⟩
      | cons z zs => exact ⟨by have := hz.head; simp only [val, List.tail_cons]; omega, hz.tail, fun j => by simp [lm]⟩
    obtain ⟨ex, sx, lx⟩ := tailv xs hx
    obtain ⟨ey, sy, ly⟩ := tailv ys hy
    rw [pow64, ← Nat.div_div_eq_div_mul, ← Nat.div_div_eq_div_mul, ex, ey]
    exact ih sx sy (fun j hj => by rw [lx, ly]; exact h _ (by omega))
theorem val_eq_of_limbs {xs ys : List Nat} (hx : Small xs) (hy : Small ys) (h : ∀ j, lm xs j = lm ys j) : val xs = val ys := by
  have := div_eq_of_limbs hx hy 0 (fun j _ => h j)
  simpa using this
theorem lt_of_div_lt {a b : Nat} (p : Nat) (h : a / p < b / p) : a < b := by
  rcases Nat.lt_or_ge a b with g | g
  · exact g
  · have := Nat.div_le_div_right (c := p) g
    omega
theorem val_lt_of_limb {xs ys : List Nat} (hx : Small xs) (hy : Small ys) (k : Nat) (h : ∀ j, k < j → lm xs j = lm ys j) (hk : lm xs k < lm ys k) : val xs < val ys := by
  have e := div_eq_of_limbs hx hy (k + 1) (fun j hj => h j hj)
  rw [lm_val hx, lm_val hy] at hk
  rw [show 64 * (k + 1) = 64 * k + 64 by omega, Nat.pow_add, ← Nat.div_div_eq_div_mul, ← Nat.div_div_eq_div_mul] at e
  apply lt_of_div_lt (2 ^ (64 * k))
  generalize val xs / 2 ^ (64 * k) = X at *
  generalize val ys / 2 ^ (64 * k) = Y at *
  omega
def nbits (v : Nat) : Nat := if v = 0 then 0 else v.log2 + 1
theorem nbits_of {v k : Nat} (h1 : 2 ^ k ≤ v) (h2 : v < 2 ^ (k + 1)) : nbits v = k + 1 := by
  have h0 : v ≠ 0 := by have := Nat.two_pow_pos k; omega
  have e : v.log2 = k := (Nat.log2_eq_iff h0).2 ⟨h1, h2⟩
  simp [nbits, h0, e]
theorem nbits_add {x v k : Nat} (hv : v < 2 ^ k) (hx : x ≠ 0) : nbits (v + x * 2 ^ k) = k + nbits x := by
  have hx0 : 0 < x := by omega
  have l1 := (Nat.le_log2 hx).1 (Nat.le_refl _)
  have l2 : x < 2 ^ (x.log2 + 1) := Nat.lt_log2_self
  have e : nbits x = x.log2 + 1 := by simp [nbits, hx]
  rw [e, show k + (x.log2 + 1) = (x.log2 + k) + 1 by omega]
  refine nbits_of ?_ ?_
  · rw [Nat.pow_add]
    have := Nat.mul_le_mul_right (2 ^ k) l1
    omega
  · rw [show x.log2 + k + 1 = (x.log2 + 1) + k by omega, Nat.pow_add]
    have := Nat.mul_le_mul_right (2 ^ k) (show x + 1 ≤ 2 ^ (x.log2 + 1) from l2)
    rw [Nat.add_mul] at this
    omega
theorem val_zeros (k : Nat) : val (List.replicate k 0) = 0 := by
  induction k with
  | zero => rfl
  | succ k ih => simp [List.replicate_succ, val, ih]
theorem nbits_row {xs : List Nat} (hs : Small xs) (k : Nat) (h : ∀ j, k + 1 ≤ j → lm xs j = 0) (h1 : lm xs k ≠ 0) : nbits (val xs) = 64 * k + nbits (lm xs k) := by
  have e := div_eq_of_limbs hs (ys := []) (fun y hy => by cases hy) (k + 1) (fun j hj => by rw [h j hj, lm_nil])
  have e2 := lm_val hs k
  simp only [val, Nat.zero_div] at e
  rw [show 64 * (k + 1) = 64 * k + 64 by omega, Nat.pow_add, ← Nat.div_div_eq_div_mul] at e
  have e3 : val xs / 2 ^ (64 * k) = lm xs k := by
    rw [e2]; generalize val xs / 2 ^ (64 * k) = X at *; omega
  have e4 := Nat.div_add_mod (val xs) (2 ^ (64 * k))
  rw [e3] at e4
  have := nbits_add (x := lm xs k) (v := val xs % 2 ^ (64 * k)) (k := 64 * k) (Nat.mod_lt _ (Nat.two_pow_pos _)) h1
  rw [← this]
  congr 1
  rw [Nat.mul_comm (lm xs k)]
  omega
def sumLo (x y c : Nat) : Nat := (x + y + c) % 2 ^ 64
def sumHi (x y c : Nat) : Nat := (x + y + c) / 2 ^ 64
def subLo (x y b : Nat) : Nat := (x + 2 ^ 64 - y - b) % 2 ^ 64
def subHi (x y b : Nat) : Nat := if x < y + b then 1 else 0
def addLo (X Y p : Nat) : Nat := (X % p + Y % p) % p
def addHi (X Y p : Nat) : Nat := (X % p + Y % p) / p
def difLo (X Y p : Nat) : Nat := (X % p + p - Y % p) % p
def difHi (X Y p : Nat) : Nat := if X % p < Y % p then 1 else 0
theorem addHi_le (X Y p : Nat) (hp : 0 < p) : addHi X Y p ≤ 1 := by
  have h1 := Nat.mod_lt X hp
  have h2 := Nat.mod_lt Y hp
  unfold addHi
  exact Nat.lt_succ_iff.1 (Nat.div_lt_of_lt_mul (by omega))
theorem difHi_le (X Y p : Nat) : difHi X Y p ≤ 1 := by unfold difHi; split <;> omega
theorem addLo_lt (X Y p : Nat) (hp : 0 < p) : addLo X Y p < p := Nat.mod_lt _ hp
theorem difLo_lt (X Y p : Nat) (hp : 0 < p) : difLo X Y p < p := Nat.mod_lt _ hp
theorem addLo_one (X Y : Nat) : addLo X Y 1 = 0 := Nat.mod_one _
theorem addHi_one (X Y : Nat) : addHi X Y 1 = 0 := by simp [addHi, Nat.mod_one]
theorem difLo_one (X Y : Nat) : difLo X Y 1 = 0 := Nat.mod_one _
theorem difHi_one (X Y : Nat) : difHi X Y 1 = 0 := by simp [difHi, Nat.mod_one]
theorem add_digit (X Y p D : Nat) (hp : 0 < p) :
    addLo X Y (p * D) = addLo X Y p + (X / p % D + Y / p % D + addHi X Y p) % D * p ∧ addHi X Y (p * D) = (X / p % D + Y / p % D + addHi X Y p) / D := by
  unfold addLo addHi
  rw [Nat.mod_mul (x := X), Nat.mod_mul (x := Y)]
  generalize X % p = x
  generalize Y % p = y
  generalize X / p % D = a
  generalize Y / p % D = b
  have e : x + p * a + (y + p * b) = (x + y) + p * (a + b) := by rw [Nat.mul_add]; omega
  rw [e, Nat.mod_mul, ← Nat.div_div_eq_div_mul, Nat.add_mul_mod_self_left, Nat.add_mul_div_left _ _ hp]
  rw [show (x + y) / p + (a + b) = a + b + (x + y) / p by omega]
  exact ⟨by rw [Nat.mul_comm p], rfl⟩
theorem dif_digit (X Y p D : Nat) (hp : 0 < p) (hD : 0 < D) :
    difLo X Y (p * D) = difLo X Y p + (X / p % D + D - Y / p % D - difHi X Y p) % D * p ∧ difHi X Y (p * D) = (if X / p % D < Y / p % D + difHi X Y p then 1 else 0) := by
  unfold difLo difHi
  rw [Nat.mod_mul (x := X), Nat.mod_mul (x := Y)]
  have hx := Nat.mod_lt X hp
  have hy := Nat.mod_lt Y hp
  have ha := Nat.mod_lt (X / p) hD
  have hb := Nat.mod_lt (Y / p) hD
  generalize X % p = x at *
  generalize Y % p = y at *
  generalize X / p % D = a at *
  generalize Y / p % D = b at *
  by_cases h : x < y
  · rw [if_pos h]
    have e1 : (x + p - y) % p = x + p - y := Nat.mod_eq_of_lt (by omega)
    by_cases h2 : a < b + 1
    · rw [if_pos h2]
      have hl : p * a ≤ p * b := Nat.mul_le_mul_left _ (by omega)
      rw [if_pos (by omega), e1]
      have e2 : (a + D - b - 1) % D = a + D - b - 1 := Nat.mod_eq_of_lt (by omega)
      rw [e2]
      refine ⟨?_, rfl⟩
      have e3 : (a + D - b - 1) * p + p * b + p = p * a + p * D := by
        rw [← Nat.mul_comm p (a + D - b - 1), ← Nat.mul_add, ← Nat.mul_add_one, ← Nat.mul_add]; congr 1; omega
      have hlt : p * (a + D - b - 1) < p * D := Nat.mul_lt_mul_of_pos_left (by omega) hp
      have hlt2 : p * (a + D - b - 1) + p ≤ p * D := by rw [← Nat.mul_add_one]; exact Nat.mul_le_mul_left _ (by omega)
      rw [Nat.mul_comm p (a + D - b - 1)] at hlt hlt2
      rw [Nat.mod_eq_of_lt (by omega)]
      omega
    · rw [if_neg h2]
      have hl : p * (b + 1) ≤ p * a := Nat.mul_le_mul_left _ (by omega)
      rw [Nat.mul_add_one] at hl
      rw [if_neg (by omega), e1]
      have e2 : (a + D - b - 1) % D = a - b - 1 := by
        rw [show a + D - b - 1 = (a - b - 1) + D by omega, Nat.add_mod_right]; exact Nat.mod_eq_of_lt (by omega)
      rw [e2]
      refine ⟨?_, rfl⟩
      have e3 : (a - b - 1) * p + p * b + p = p * a := by
        rw [← Nat.mul_comm p (a - b - 1), ← Nat.mul_add, ← Nat.mul_add_one]; congr 1; omega
      have hlt : p * a ≤ p * D := Nat.mul_le_mul_left _ (by omega)
      have hlt2 : p * a + p ≤ p * D := by rw [← Nat.mul_add_one]; exact Nat.mul_le_mul_left _ (by omega)
      rw [show x + p * a + p * D - (y + p * b) = (x + p - y + (a - b - 1) * p) + p * D by omega, Nat.add_mod_right]
      exact Nat.mod_eq_of_lt (by omega)
  · rw [if_neg h]
    have e1 : (x + p - y) % p = x - y := by rw [show x + p - y = (x - y) + p by omega, Nat.add_mod_right]; exact Nat.mod_eq_of_lt (by omega)
    by_cases h2 : a < b
    · rw [if_pos (show a < b + 0 by omega)]
      have hl : p * (a + 1) ≤ p * b := Nat.mul_le_mul_left _ (by omega)
      rw [Nat.mul_add_one] at hl
      rw [if_pos (by omega), e1]
      have e2 : (a + D - b - 0) % D = a + D - b := Nat.mod_eq_of_lt (by omega)
      rw [e2]
      refine ⟨?_, rfl⟩
      have e3 : (a + D - b) * p + p * b = p * a + p * D := by
        rw [← Nat.mul_comm p (a + D - b), ← Nat.mul_add, ← Nat.mul_add]; congr 1; omega
      have hlt2 : p * (a + D - b) + p ≤ p * D := by rw [← Nat.mul_add_one]; exact Nat.mul_le_mul_left _ (by omega)
      rw [Nat.mul_comm p (a + D - b)] at hlt2
      rw [Nat.mod_eq_of_lt (by omega)]
      omega
    · rw [if_neg (show ¬ a < b + 0 by omega)]
      have hl : p * b ≤ p * a := Nat.mul_le_mul_left _ (by omega)
      rw [if_neg (by omega), e1]
      have e2 : (a + D - b - 0) % D = a - b := by
        rw [show a + D - b - 0 = (a - b) + D by omega, Nat.add_mod_right]; exact Nat.mod_eq_of_lt (by omega)
      rw [e2]
      refine ⟨?_, rfl⟩
      have e3 : (a - b) * p + p * b = p * a := by
        rw [← Nat.mul_comm p (a - b), ← Nat.mul_add]; congr 1; omega
      have hlt2 : p * a + p ≤ p * D := by rw [← Nat.mul_add_one]; exact Nat.mul_le_mul_left _ (by omega)
      rw [show x + p * a + p * D - (y + p * b) = (x - y + (a - b) * p) + p * D by omega, Nat.add_mod_right]
      exact Nat.mod_eq_of_lt (by omega)
theorem lm_set (xs : List Nat) (i x j : Nat) (hi : i < xs.length) : lm (xs.set i x) j = if j = i then x else lm xs j := by
  unfold lm
  rw [List.getD_eq_getElem?_getD, List.getD_eq_getElem?_getD, List.getElem?_set]
  by_cases h : i = j
  · subst h; simp [hi]
  · rw [if_neg h, if_neg (fun e => h e.symm)]
theorem Small.set {xs : List Nat} (h : Small xs) (i : Nat) {x : Nat} (hx : x < 2 ^ 64) : Small (xs.set i x) := by
  intro y hy
  rcases List.mem_or_eq_of_mem_set hy with h1 | h1
  · exact h y h1
  · rw [h1]; exact hx
theorem val_set (xs : List Nat) (i x : Nat) (hi : i < xs.length) : val (xs.set i x) + lm xs i * 2 ^ (64 * i) = val xs + x * 2 ^ (64 * i) := by
  induction xs generalizing i with
  | nil => simp at hi
  | cons y ys ih =>
    cases i with
    | zero => simp only [List.set_cons_zero, val, lm_cons_zero, Nat.mul_zero, Nat.pow_zero, Nat.mul_one]; omega
    | succ i =>
      have := ih i (by simpa using hi)
      simp only [List.set_cons_succ, val, lm_cons_succ]
      rw [pow64]
      have e : ∀ q : Nat, q * (2 ^ 64 * 2 ^ (64 * i)) = 2 ^ 64 * (q * 2 ^ (64 * i)) := fun q => Nat.mul_left_comm _ _ _
      rw [e, e]
      omega
theorem mod_limb (Y k : Nat) : Y % 2 ^ (64 * (k + 1)) = Y % 2 ^ (64 * k) + Y / 2 ^ (64 * k) % 2 ^ 64 * 2 ^ (64 * k) := by
  rw [show 64 * (k + 1) = 64 * k + 64 by omega, Nat.pow_add, Nat.mod_mul, Nat.mul_comm (2 ^ (64 * k))]
def mulLo (x y m c : Nat) : Nat := (x * y + m + c) % 2 ^ 64
def mulHi (x y m c : Nat) : Nat := (x * y + m + c) / 2 ^ 64
theorem mulHi_lt {x y m c : Nat} (hx : x < 2 ^ 64) (hy : y < 2 ^ 64) (hm : m < 2 ^ 64) (hc : c < 2 ^ 64) : mulHi x y m c < 2 ^ 64 := by
  have h : x * y ≤ (2 ^ 64 - 1) * (2 ^ 64 - 1) := Nat.mul_le_mul (by omega) (by omega)
  unfold mulHi
  generalize x * y = p at *
  omega
structure Adding (xs : List Nat) (i0 x Y : Nat) (k c : Nat) (zs : List Nat) : Prop where
  len : zs.length = xs.length
  small : Small zs
  carry : c < 2 ^ 64
  rest : ∀ j, j < i0 ∨ i0 + k ≤ j → lm zs j = lm xs j
  sum : val zs + c * 2 ^ (64 * (i0 + k)) = val xs + x * (Y % 2 ^ (64 * k)) * 2 ^ (64 * i0)
theorem Adding.start {xs : List Nat} (hs : Small xs) (i0 x Y : Nat) : Adding xs i0 x Y 0 0 xs :=
  ⟨rfl, hs, by decide, fun _ _ => rfl, by simp [Nat.mod_one]⟩
theorem Adding.step {xs zs : List Nat} {i0 x Y k c : Nat} (h : Adding xs i0 x Y k c zs) (hx : x < 2 ^ 64) (hi : i0 + k < xs.length) (y : Nat) (hy : y = Y / 2 ^ (64 * k) % 2 ^ 64) :
    Adding xs i0 x Y (k + 1) (mulHi y x (lm zs (i0 + k)) c) (zs.set (i0 + k) (mulLo y x (lm zs (i0 + k)) c)) := by
  have hyl : y < 2 ^ 64 := by rw [hy]; exact Nat.mod_lt _ (by decide)
  have ho := lm_lt h.small (i0 + k)
  have hl : i0 + k < zs.length := by rw [h.len]; exact hi
  have hv := val_set zs (i0 + k) (mulLo y x (lm zs (i0 + k)) c) hl
  have hs := h.sum
  refine ⟨by simpa using h.len, h.small.set _ (Nat.mod_lt _ (by decide)), mulHi_lt hyl hx ho h.carry, ?_, ?_⟩
  · intro j hj
    rw [lm_set _ _ _ _ hl, if_neg (by omega)]
    exact h.rest j (by omega)
  · rw [mod_limb, ← hy]
    have e0 : y * x + lm zs (i0 + k) + c = mulLo y x (lm zs (i0 + k)) c + 2 ^ 64 * mulHi y x (lm zs (i0 + k)) c := by
      unfold mulLo mulHi; exact (Nat.mod_add_div _ _).symm
    generalize mulLo y x (lm zs (i0 + k)) c = lo at *
    generalize mulHi y x (lm zs (i0 + k)) c = hi' at *
    generalize lm zs (i0 + k) = o at *
    rw [show 64 * (i0 + (k + 1)) = 64 * (i0 + k) + 64 by omega, Nat.pow_add]
    rw [show 64 * (i0 + k) = 64 * i0 + 64 * k by omega, Nat.pow_add] at *
    generalize 2 ^ (64 * i0) = P at *
    generalize 2 ^ (64 * k) = Q at *
    generalize Y % Q = R at *
    generalize val zs = A at *
    generalize val (zs.set _ _) = A' at *
    generalize val xs = B at *
    have e1 : (y * x + o + c) * (P * Q) = (lo + 2 ^ 64 * hi') * (P * Q) := by rw [e0]
    have e2 : (y * x + o + c) * (P * Q) = y * x * (P * Q) + o * (P * Q) + c * (P * Q) := by rw [Nat.add_mul, Nat.add_mul]
    have e3 : (lo + 2 ^ 64 * hi') * (P * Q) = lo * (P * Q) + hi' * (P * Q * 2 ^ 64) := by
      rw [Nat.add_mul, Nat.mul_comm (2 ^ 64) hi', Nat.mul_assoc hi', Nat.mul_comm (2 ^ 64)]
    have e4 : x * (R + y * Q) * P = x * R * P + y * x * (P * Q) := by
      rw [Nat.mul_add, Nat.add_mul]
      congr 1
      rw [Nat.mul_comm y x, Nat.mul_assoc, Nat.mul_assoc, Nat.mul_assoc, Nat.mul_comm Q P]
    rw [e4]
    omega
theorem lm_zero_of_lt {zs : List Nat} (hs : Small zs) {j : Nat} (h : val zs < 2 ^ (64 * j)) {i : Nat} (hi : j ≤ i) : lm zs i = 0 := by
  rw [lm_val hs, Nat.div_eq_of_lt (Nat.lt_of_lt_of_le h (Nat.pow_le_pow_right (by decide) (by omega)))]
structure Mulling (A B m' L : Nat) (k : Nat) (zs : List Nat) : Prop where
  len : zs.length = L
  small : Small zs
  num : val zs = A % 2 ^ (64 * k) * B
theorem Mulling.start (A B m' L : Nat) : Mulling A B m' L 0 (List.replicate L 0) :=
  ⟨by simp, fun x hx => by rw [(List.mem_replicate.1 hx).2]; decide, by rw [val_zeros]; simp [Nat.mod_one]⟩
theorem Mulling.lt {A B m' L k : Nat} {zs : List Nat} (h : Mulling A B m' L k zs) (hB : B < 2 ^ (64 * m')) : val zs < 2 ^ (64 * (k + m')) := by
  rw [h.num, show 64 * (k + m') = 64 * k + 64 * m' by omega, Nat.pow_add]
  have h1 := Nat.mod_lt A (Nat.two_pow_pos (64 * k))
  have hp := Nat.two_pow_pos (64 * m')
  exact Nat.lt_of_le_of_lt (Nat.mul_le_mul_left _ (Nat.le_of_lt hB)) (Nat.mul_lt_mul_of_pos_right h1 hp)
theorem Mulling.step {A B m' L k c : Nat} {zs ts : List Nat} (h : Mulling A B m' L k zs) (hB : B < 2 ^ (64 * m')) (hl : k + m' < L) (hA : Adding zs k (A / 2 ^ (64 * k) % 2 ^ 64) B m' c ts) :
    Mulling A B m' L (k + 1) (ts.set (k + m') c) := by
  have hlen : k + m' < ts.length := by rw [hA.len, h.len]; exact hl
  have h0 : lm ts (k + m') = 0 := by
    rw [hA.rest _ (.inr (Nat.le_refl _))]
    exact lm_zero_of_lt h.small (h.lt hB) (Nat.le_refl _)
  have hv := val_set ts (k + m') c hlen
  rw [h0] at hv
  refine ⟨by simp [hA.len, h.len], hA.small.set _ hA.carry, ?_⟩
  have hs := hA.sum
  rw [Nat.mod_eq_of_lt hB, h.num] at hs
  rw [mod_limb, Nat.add_mul]
  have e : A / 2 ^ (64 * k) % 2 ^ 64 * 2 ^ (64 * k) * B = A / 2 ^ (64 * k) % 2 ^ 64 * B * 2 ^ (64 * k) := Nat.mul_right_comm _ _ _
  rw [e]
  omega
theorem Mulling.done {A B m m' L : Nat} {zs : List Nat} (h : Mulling A B m' L m zs) (hA : A < 2 ^ (64 * m)) : zs = row L (A * B) := by
  have e := h.num
  rw [Nat.mod_eq_of_lt hA] at e
  rw [← e, ← h.len, row_val h.small]
theorem addLimb_step {zs ts : List Nat} (s1 : Small zs) (s2 : Small ts) {K k : Nat} (hk : k < K) :
    (row K (addLo (val zs) (val ts) (2 ^ (64 * k)))).set k (sumLo (lm zs k) (lm ts k) (addHi (val zs) (val ts) (2 ^ (64 * k)))) = row K (addLo (val zs) (val ts) (2 ^ (64 * (k + 1)))) ∧
    sumHi (lm zs k) (lm ts k) (addHi (val zs) (val ts) (2 ^ (64 * k))) = addHi (val zs) (val ts) (2 ^ (64 * (k + 1))) := by
  have hp := Nat.two_pow_pos (64 * k)
  obtain ⟨e1, e2⟩ := add_digit (val zs) (val ts) (2 ^ (64 * k)) (2 ^ 64) hp
  rw [← lm_val s1, ← lm_val s2, Nat.mul_comm, ← pow64] at e1
  rw [← lm_val s1, ← lm_val s2, Nat.mul_comm, ← pow64] at e2
  refine ⟨?_, e2.symm⟩
  rw [row_set _ _ _ (sumLo _ _ _) (addLo_lt _ _ _ hp) (Nat.mod_lt _ (by decide)) hk, e1]
  rfl
theorem add_done {zs ts : List Nat} {K : Nat} (h1 : val zs < 2 ^ (64 * K)) (h2 : val ts < 2 ^ (64 * K)) :
    row K (addLo (val zs) (val ts) (2 ^ (64 * K))) = row K (val zs + val ts) ∧ addHi (val zs) (val ts) (2 ^ (64 * K)) = (val zs + val ts) / 2 ^ (64 * K) := by
  unfold addLo addHi
  rw [Nat.mod_eq_of_lt h1, Nat.mod_eq_of_lt h2, row_mod]
  exact ⟨rfl, rfl⟩
theorem val_lt_of {zs : List Nat} (hs : Small zs) {K : Nat} (h : zs.length ≤ K) : val zs < 2 ^ (64 * K) :=
  Nat.lt_of_lt_of_le (val_lt hs) (Nat.pow_le_pow_right (by decide) (by omega))
theorem cancel_two {M x y : Nat} (hM : M % 2 = 1) (h : 2 * x % M = 2 * y % M) : x % M = y % M := by
  have e : ∀ z, z % M = (2 * z % M) * ((M + 1) / 2) % M := by
    intro z
    rw [Nat.mod_mul_mod, show 2 * z * ((M + 1) / 2) = z * (2 * ((M + 1) / 2)) by rw [Nat.mul_comm 2 z, Nat.mul_assoc], show 2 * ((M + 1) / 2) = M + 1 by omega, Nat.mul_add, Nat.mul_one, Nat.add_comm, Nat.add_mul_mod_self_right]
  rw [e x, e y, h]
theorem cancel_pow {M x y k : Nat} (hM : M % 2 = 1) (h : x * 2 ^ k % M = y * 2 ^ k % M) : x % M = y % M := by
  induction k with
  | zero => simpa using h
  | succ k ih =>
    refine ih (cancel_two hM ?_)
    rw [Nat.pow_succ] at h
    rw [Nat.mul_comm 2, Nat.mul_comm 2, Nat.mul_assoc, Nat.mul_assoc]
    exact h
theorem cancel_lt {M x y k : Nat} (hM : M % 2 = 1) (hx : x < M) (hy : y < M) (h : x * 2 ^ k % M = y * 2 ^ k % M) : x = y := by
  have := cancel_pow hM h
  rwa [Nat.mod_eq_of_lt hx, Nat.mod_eq_of_lt hy] at this
def halfOf (M a : Nat) : Nat := if a % 2 = 1 then (a + M) / 2 else a / 2
theorem halfOf_lt {M a : Nat} (hM : M % 2 = 1) (ha : a < M) : halfOf M a < M := by
  unfold halfOf; split <;> omega
theorem halfOf_two {M a : Nat} (hM : M % 2 = 1) (ha : a < M) : 2 * halfOf M a % M = a := by
  unfold halfOf
  split
  · next h => rw [show 2 * ((a + M) / 2) = a + M by omega, Nat.add_mod_right, Nat.mod_eq_of_lt ha]
  · next h => rw [show 2 * (a / 2) = a by omega, Nat.mod_eq_of_lt ha]
def fromOf (M : Nat) : Nat → Nat → Nat
  | 0, a => a
  | k + 1, a => halfOf M (fromOf M k a)
theorem fromOf_lt {M a : Nat} (hM : M % 2 = 1) (ha : a < M) (k : Nat) : fromOf M k a < M := by
  induction k with
  | zero => exact ha
  | succ k ih => exact halfOf_lt hM ih
theorem fromOf_pow {M a : Nat} (hM : M % 2 = 1) (ha : a < M) (k : Nat) : fromOf M k a * 2 ^ k % M = a := by
  induction k with
  | zero => simpa [fromOf] using Nat.mod_eq_of_lt ha
  | succ k ih =>
    have h2 := halfOf_two hM (fromOf_lt hM ha k)
    show halfOf M (fromOf M k a) * 2 ^ (k + 1) % M = a
    rw [Nat.pow_succ, Nat.mul_comm (2 ^ k) 2, ← Nat.mul_assoc, Nat.mul_comm _ 2, ← Nat.mod_mul_mod, h2, ih]
theorem fromOf_eq {M a x k : Nat} (hM : M % 2 = 1) (ha : a < M) (hx : x < M) (h : x * 2 ^ k % M = a) : x = fromOf M k a :=
  cancel_lt hM hx (fromOf_lt hM ha k) (by rw [h, fromOf_pow hM ha k])
theorem val_mod_take {zs : List Nat} (hs : Small zs) (j : Nat) : val zs % 2 ^ (64 * j) = val (zs.take j) := by
  induction zs generalizing j with
  | nil => simp [val]
  | cons z zs ih =>
    cases j with
    | zero => simp [val, Nat.mod_one]
    | succ j =>
      have hz := hs.head
      simp only [List.take_succ_cons, val]
      rw [← ih hs.tail j, pow64, Nat.mod_mul]
      rw [show (z + 2 ^ 64 * val zs) % 2 ^ 64 = z by omega, show (z + 2 ^ 64 * val zs) / 2 ^ 64 = val zs by omega]
theorem val_mod_set {zs : List Nat} (hs : Small zs) {j z : Nat} (hj : j < zs.length) (hz : z < 2 ^ 64) :
    val (zs.set j z) % 2 ^ (64 * (j + 1)) = val zs % 2 ^ (64 * j) + z * 2 ^ (64 * j) := by
  have hs' := hs.set j hz
  rw [mod_limb, ← lm_val hs', lm_set _ _ _ _ hj, if_pos rfl, val_mod_take hs', val_mod_take hs, List.take_set_of_le (Nat.le_refl _)]
structure Stepping (ss bs ms : List Nat) (x t k up over : Nat) (zs : List Nat) : Prop where
  len : zs.length = ss.length
  small : Small zs
  hup : up < 2 ^ 64
  hover : over < 2 ^ 64
  rest : ∀ j, k ≤ j → lm zs j = lm ss j
  sum : 2 ^ 64 * (val zs % 2 ^ (64 * k)) + (up + over) * 2 ^ (64 * (k + 1)) = val ss % 2 ^ (64 * (k + 1)) + x * (val bs % 2 ^ (64 * (k + 1))) + t * (val ms % 2 ^ (64 * (k + 1)))
theorem mulLoHi (x y m c : Nat) : mulLo x y m c + 2 ^ 64 * mulHi x y m c = x * y + m + c := by
  unfold mulLo mulHi; exact Nat.mod_add_div _ _
theorem mulLo_lt (x y m c : Nat) : mulLo x y m c < 2 ^ 64 := Nat.mod_lt _ (by decide)
theorem Stepping.start {ss bs ms : List Nat} (hs : Small ss) (hb : Small bs) (hm : Small ms) {x neg : Nat} (hx : x < 2 ^ 64)
    (hn : lm ms 0 * neg % 2 ^ 64 = 2 ^ 64 - 1) {t : Nat} (ht : t = mulLo (lm bs 0) x (lm ss 0) 0 * neg % 2 ^ 64) :
    Stepping ss bs ms x t 0 (mulHi (lm bs 0) x (lm ss 0) 0) (mulHi (lm ms 0) t (mulLo (lm bs 0) x (lm ss 0) 0) 0) ss := by
  have htl : t < 2 ^ 64 := by rw [ht]; exact Nat.mod_lt _ (by decide)
  have e1 := mulLoHi (lm bs 0) x (lm ss 0) 0
  have e2 := mulLoHi (lm ms 0) t (mulLo (lm bs 0) x (lm ss 0) 0) 0
  have l1 := mulLo_lt (lm bs 0) x (lm ss 0) 0
  have z : mulLo (lm ms 0) t (mulLo (lm bs 0) x (lm ss 0) 0) 0 = 0 := by
    generalize mulLo (lm bs 0) x (lm ss 0) 0 = low at *
    unfold mulLo
    rw [ht, Nat.add_zero, Nat.add_mod, Nat.mul_mod_mod, ← Nat.mul_assoc, Nat.mul_comm (lm ms 0) low, Nat.mul_assoc, Nat.mul_mod, hn, Nat.mod_mul_mod, Nat.mod_add_mod]
    have : low * (2 ^ 64 - 1) + low % 2 ^ 64 = 2 ^ 64 * low := by rw [Nat.mod_eq_of_lt l1]; omega
    rw [Nat.add_mod_mod] at *
    omega
  refine ⟨rfl, hs, mulHi_lt (lm_lt hb 0) hx (lm_lt hs 0) (by decide), mulHi_lt (lm_lt hm 0) htl l1 (by decide), fun _ _ => rfl, ?_⟩
  rw [z] at e2
  simp only [Nat.mul_zero, Nat.pow_zero, Nat.mod_one, Nat.zero_add, Nat.mul_one]
  have f : ∀ {zs : List Nat}, Small zs → val zs % 2 ^ 64 = lm zs 0 := fun h => by rw [lm_val h]; simp
  rw [f hs, f hb, f hm, Nat.mul_comm x, Nat.mul_comm t]
  omega
theorem step_sum {z u ov b x s up m t over Z S B M P c : Nat} (E0 : z + c * (u + ov) = b * x + s + up + m * t + over) (hs : c * Z + (up + over) * (c * P) = S + x * B + t * M) :
    c * (Z + z * P) + (u + ov) * (c * P * c) = S + s * (c * P) + x * (B + b * (c * P)) + t * (M + m * (c * P)) := by
  have E : (z + c * (u + ov)) * (c * P) = (b * x + s + up + m * t + over) * (c * P) := by rw [E0]
  have E1 : (z + c * (u + ov)) * (c * P) = c * (z * P) + (u + ov) * (c * P * c) := by
    rw [Nat.add_mul, Nat.mul_left_comm z, Nat.mul_comm c (u + ov), Nat.mul_assoc (u + ov), Nat.mul_comm c (c * P)]
  have E2 : (b * x + s + up + m * t + over) * (c * P) = x * (b * (c * P)) + s * (c * P) + t * (m * (c * P)) + (up + over) * (c * P) := by
    rw [show b * x + s + up + m * t + over = b * x + s + m * t + (up + over) by omega, Nat.add_mul, Nat.add_mul, Nat.add_mul, Nat.mul_comm b x, Nat.mul_assoc x, Nat.mul_comm m t, Nat.mul_assoc t]
  rw [E1, E2] at E
  rw [Nat.mul_add c, Nat.mul_add x, Nat.mul_add t]
  omega
theorem Stepping.step {ss bs ms zs : List Nat} {x t k up over : Nat} (h : Stepping ss bs ms x t k up over zs) (hss : Small ss) (hb : Small bs) (hm : Small ms) (hx : x < 2 ^ 64) (ht : t < 2 ^ 64) (hk : k + 1 < ss.length) :
    Stepping ss bs ms x t (k + 1) (mulHi (lm bs (k + 1)) x (lm zs (k + 1)) up) (mulHi (lm ms (k + 1)) t (mulLo (lm bs (k + 1)) x (lm zs (k + 1)) up) over)
      (zs.set k (mulLo (lm ms (k + 1)) t (mulLo (lm bs (k + 1)) x (lm zs (k + 1)) up) over)) := by
  have hr := h.rest (k + 1) (by omega)
  rw [hr]
  have e1 := mulLoHi (lm bs (k + 1)) x (lm ss (k + 1)) up
  have l1 := mulLo_lt (lm bs (k + 1)) x (lm ss (k + 1)) up
  have e2 := mulLoHi (lm ms (k + 1)) t (mulLo (lm bs (k + 1)) x (lm ss (k + 1)) up) over
  have l2 := mulLo_lt (lm ms (k + 1)) t (mulLo (lm bs (k + 1)) x (lm ss (k + 1)) up) over
  have hl : k < zs.length := by rw [h.len]; omega
  refine ⟨by simpa using h.len, h.small.set _ l2, mulHi_lt (lm_lt hb _) hx (lm_lt hss _) h.hup, mulHi_lt (lm_lt hm _) ht l1 h.hover, ?_, ?_⟩
  · intro j hj
    rw [lm_set _ _ _ _ hl, if_neg (by omega)]
    exact h.rest j (by omega)
  · rw [val_mod_set h.small hl l2, mod_limb (val ss) (k + 1), mod_limb (val bs) (k + 1), mod_limb (val ms) (k + 1), ← lm_val hss, ← lm_val hb, ← lm_val hm]
    have hs := h.sum
    generalize mulLo (lm ms (k + 1)) t (mulLo (lm bs (k + 1)) x (lm ss (k + 1)) up) over = z at *
    generalize mulHi (lm ms (k + 1)) t (mulLo (lm bs (k + 1)) x (lm ss (k + 1)) up) over = ov at *
    generalize mulLo (lm bs (k + 1)) x (lm ss (k + 1)) up = low at *
    generalize mulHi (lm bs (k + 1)) x (lm ss (k + 1)) up = u at *
    generalize val ss % 2 ^ (64 * (k + 1)) = S at *
    generalize val bs % 2 ^ (64 * (k + 1)) = B at *
    generalize val ms % 2 ^ (64 * (k + 1)) = M at *
    generalize val zs % 2 ^ (64 * k) = Z at *
    generalize lm ss (k + 1) = s at *
    generalize lm bs (k + 1) = b at *
    generalize lm ms (k + 1) = m at *
    rw [show 64 * (k + 1 + 1) = 64 * (k + 1) + 64 by omega, Nat.pow_add]
    have hp : 2 ^ (64 * (k + 1)) = 2 ^ 64 * 2 ^ (64 * k) := pow64 k
    rw [hp] at hs ⊢
    generalize 2 ^ (64 * k) = P at *
    have E0 : z + 2 ^ 64 * (u + ov) = b * x + s + up + m * t + over := by omega
    clear e1 e2 l1 l2 hr hl hp
    exact step_sum E0 hs
theorem Stepping.done {ss bs ms zs : List Nat} {x t K up over : Nat} (h : Stepping ss bs ms x t K up over zs) (hss : Small ss) (hls : ss.length = K + 2) (hb : val bs < 2 ^ (64 * (K + 1))) (hm : val ms < 2 ^ (64 * (K + 1)))
    {lo hi : Nat} (hlo : lo < 2 ^ 64) (hhi : hi < 2 ^ 64) (he : lo + 2 ^ 64 * hi = lm ss (K + 1) + up + over) :
    2 ^ 64 * val ((zs.set K lo).set (K + 1) hi) = val ss + x * val bs + t * val ms ∧ ((zs.set K lo).set (K + 1) hi).length = K + 2 ∧ Small ((zs.set K lo).set (K + 1) hi) := by
  have hl : zs.length = K + 2 := by rw [h.len, hls]
  have s1 := h.small.set K hlo
  have s2 := s1.set (K + 1) hhi
  have l2 : ((zs.set K lo).set (K + 1) hi).length = K + 2 := by simp [hl]
  refine ⟨?_, l2, s2⟩
  have e1 := val_mod_set s1 (j := K + 1) (z := hi) (by simp [hl]) hhi
  rw [val_mod_set h.small (by omega) hlo] at e1
  have b2 := val_lt s2
  rw [l2] at b2
  rw [Nat.mod_eq_of_lt (by simpa using b2)] at e1
  rw [e1]
  have hs := h.sum
  rw [Nat.mod_eq_of_lt hb, Nat.mod_eq_of_lt hm] at hs
  have b1 := val_lt hss
  rw [hls] at b1
  have e2 := mod_limb (val ss) (K + 1)
  rw [Nat.mod_eq_of_lt (by simpa using b1), ← lm_val hss] at e2
  generalize val zs % 2 ^ (64 * K) = Z at *
  generalize val ss % 2 ^ (64 * (K + 1)) = S at *
  generalize lm ss (K + 1) = s at *
  have hp : 2 ^ (64 * (K + 1)) = 2 ^ 64 * 2 ^ (64 * K) := pow64 K
  rw [hp] at hs e2 ⊢
  generalize 2 ^ (64 * K) = P at *
  have E : (lo + 2 ^ 64 * hi) * (2 ^ 64 * P) = (s + up + over) * (2 ^ 64 * P) := by rw [he]
  have E1 : (lo + 2 ^ 64 * hi) * (2 ^ 64 * P) = 2 ^ 64 * (lo * P) + 2 ^ 64 * (hi * (2 ^ 64 * P)) := by
    rw [Nat.add_mul, Nat.mul_left_comm lo, Nat.mul_assoc (2 ^ 64) hi]
  have E2 : (s + up + over) * (2 ^ 64 * P) = s * (2 ^ 64 * P) + (up + over) * (2 ^ 64 * P) := by rw [Nat.add_assoc, Nat.add_mul]
  rw [E1, E2] at E
  simp only [Nat.mul_add]
  omega
structure Reducing (A B M K k : Nat) (ss : List Nat) : Prop where
  len : ss.length = K + 1
  small : Small ss
  lt : val ss < 2 * M
  sum : ∃ T, val ss * 2 ^ (64 * k) = A % 2 ^ (64 * k) * B + T * M
theorem Reducing.start {A B M K : Nat} (hM : 0 < M) : Reducing A B M K 0 (List.replicate (K + 1) 0) :=
  ⟨by simp, fun x hx => by rw [(List.mem_replicate.1 hx).2]; decide, by rw [val_zeros]; omega, 0, by rw [val_zeros]; simp [Nat.mod_one]⟩
theorem Reducing.step {A B M K k x t : Nat} {ss us : List Nat} (h : Reducing A B M K k ss) (hB : B < M) (hx : x = A / 2 ^ (64 * k) % 2 ^ 64) (ht : t < 2 ^ 64)
    (hl : us.length = K + 1) (hs : Small us) (he : 2 ^ 64 * val us = val ss + x * B + t * M) : Reducing A B M K (k + 1) us := by
  have hxl : x < 2 ^ 64 := by rw [hx]; exact Nat.mod_lt _ (by decide)
  obtain ⟨T, hT⟩ := h.sum
  refine ⟨hl, hs, ?_, T + t * 2 ^ (64 * k), ?_⟩
  · have h1 := h.lt
    have h2 : x * B ≤ (2 ^ 64 - 1) * M := Nat.mul_le_mul (by omega) (Nat.le_of_lt hB)
    have h3 : t * M ≤ (2 ^ 64 - 1) * M := Nat.mul_le_mul_right _ (by omega)
    generalize x * B = p at *
    generalize t * M = q at *
    omega
  · rw [mod_limb, ← hx, pow64, ← Nat.mul_assoc, Nat.mul_comm (val us), he]
    simp only [Nat.add_mul]
    rw [hT]
    have e1 : x * B * 2 ^ (64 * k) = x * 2 ^ (64 * k) * B := Nat.mul_right_comm _ _ _
    have e2 : t * M * 2 ^ (64 * k) = t * 2 ^ (64 * k) * M := Nat.mul_right_comm _ _ _
    rw [e1, e2]
    omega
theorem Reducing.done {A B M K : Nat} {ss : List Nat} (h : Reducing A B M K K ss) (hA : A < 2 ^ (64 * K)) : val ss % M * 2 ^ (64 * K) % M = A * B % M := by
  obtain ⟨T, hT⟩ := h.sum
  rw [Nat.mod_mul_mod, hT, Nat.mod_eq_of_lt hA, Nat.add_mul_mod_self_right]
theorem settled {ss : List Nat} {M K : Nat} (hs : Small ss) (hl : ss.length = K + 1) (h2 : val ss < 2 * M) (hM : M < 2 ^ (64 * K)) :
    (lm ss K < (if val ss % 2 ^ (64 * K) < M then 1 else 0) → val (ss.take K) = val ss % M) ∧
    (¬ lm ss K < (if val ss % 2 ^ (64 * K) < M then 1 else 0) → (val ss % 2 ^ (64 * K) + 2 ^ (64 * K) - M) % 2 ^ (64 * K) = val ss % M) := by
  have b := val_lt hs
  rw [hl] at b
  have e := mod_limb (val ss) K
  rw [Nat.mod_eq_of_lt b, ← lm_val hs] at e
  have hq := Nat.mod_lt (val ss) (Nat.two_pow_pos (64 * K))
  rw [← val_mod_take hs]
  generalize val ss % 2 ^ (64 * K) = L at *
  generalize val ss = V at *
  generalize lm ss K = h at *
  generalize 2 ^ (64 * K) = R at *
  refine ⟨fun hh => ?_, fun hh => ?_⟩
  · by_cases c : L < M
    · rw [if_pos c] at hh
      obtain rfl : h = 0 := by omega
      rw [Nat.zero_mul, Nat.add_zero] at e
      rw [e, Nat.mod_eq_of_lt c]
    · rw [if_neg c] at hh; omega
  · have hr : V % M = V - M ∧ M ≤ V := by
      have hge : M ≤ V := by
        by_cases c : L < M
        · rw [if_pos c] at hh
          have : R ≤ h * R := Nat.le_mul_of_pos_left _ (by omega)
          omega
        · omega
      exact ⟨by rw [Nat.mod_eq_sub_mod hge, Nat.mod_eq_of_lt (by omega)], hge⟩
    rw [hr.1]
    rcases Nat.eq_zero_or_pos h with h0 | h0
    · subst h0
      rw [Nat.zero_mul, Nat.add_zero] at e
      subst e
      rw [show V + R - M = V - M + R by omega, Nat.add_mod_right, Nat.mod_eq_of_lt (by omega)]
    · have h1 : h = 1 := by
        rcases Nat.lt_or_ge h 2 with g | g
        · omega
        · have : 2 * R ≤ h * R := Nat.mul_le_mul_right _ g
          omega
      subst h1
      rw [show L + R - M = V - M by omega, Nat.mod_eq_of_lt (by omega)]
def NegOf (m n : Nat) : Prop := n < 2 ^ 64 ∧ (m % 2 = 0 → n = 0) ∧ (m % 2 = 1 → m * n % 2 ^ 64 = 2 ^ 64 - 1)
theorem NegOf.unique {m n n' : Nat} (h : NegOf m n) (h' : NegOf m n') : n = n' := by
  rcases Nat.mod_two_eq_zero_or_one m with e | e
  · rw [h.2.1 e, h'.2.1 e]
  · have h1 := h.2.2 e
    have h2 := h'.2.2 e
    have l1 := h.1
    have l2 := h'.1
    -- n' ≡ n' * (m * n) * -1 ≡ (m * n') * n * -1 ≡ n
    have k1 : m * n * n' % 2 ^ 64 = (2 ^ 64 - 1) * n' % 2 ^ 64 := by rw [← Nat.mod_mul_mod, h1]
    have k2 : m * n' * n % 2 ^ 64 = (2 ^ 64 - 1) * n % 2 ^ 64 := by rw [← Nat.mod_mul_mod, h2]
    rw [Nat.mul_right_comm] at k2
    rw [k1] at k2
    omega
theorem newton {m i i' P Q : Int} (h : P ∣ m * i - 1) (hQ : Q ∣ P * P) (hQ2 : Q ∣ 2 ^ 64) (hi : ∃ q, i' = i * (2 - m * i) + 2 ^ 64 * q) : Q ∣ m * i' - 1 := by
  obtain ⟨q, rfl⟩ := hi
  obtain ⟨c, hc⟩ := h
  have e : m * (i * (2 - m * i) + 2 ^ 64 * q) - 1 = P * P * (-(c * c)) + 2 ^ 64 * (m * q) := by
    have : m * i = P * c + 1 := by omega
    have e1 : m * (i * (2 - m * i) + 2 ^ 64 * q) = m * i * (2 - m * i) + 2 ^ 64 * (m * q) := by
      rw [Int.mul_add, ← Int.mul_assoc, Int.mul_left_comm]
    rw [e1, this]
    have e2 : (P * c + 1) * (2 - (P * c + 1)) = 1 - P * c * (P * c) := by
      rw [Int.mul_sub, Int.add_mul, Int.add_mul, Int.mul_add]; omega
    have e3 : P * c * (P * c) = P * P * (c * c) := by
      rw [Int.mul_assoc, Int.mul_assoc, Int.mul_left_comm c]
    rw [e2, Int.mul_neg, e3]
    omega
  rw [e]
  exact Int.dvd_add (Int.dvd_mul_of_dvd_left hQ) (Int.dvd_mul_of_dvd_left hQ2)
end Go.Proofs.Ytkkmekdhejhapaa
