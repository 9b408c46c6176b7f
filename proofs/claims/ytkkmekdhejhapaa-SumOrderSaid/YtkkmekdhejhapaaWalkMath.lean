/- What is proved here: how two whole numbers get smaller, step by step, in Bernstein's and Yang's way of Euclid: the second one comes to 0, what divides both is kept, and so many steps at once are told by four factors; nothing of any program; sixty steps are found from the lowest limbs of two numbers; what comes of many turns of sixty steps is the inverse modulo p; nothing of any program. -/
import Derived.WalkKit
import Derived.Test.YtkkmekdhejhapaaPrime
namespace Go.Proofs.Ytkkmekdhejhapaa
section
structure DS where
  t : Int
  f : Int
  g : Int
def ds (s : DS) : DS :=
  if s.g % 2 = 1 ∧ 0 < s.t then ⟨1 - s.t, s.g, (s.g - s.f) / 2⟩
  else if s.g % 2 = 1 then ⟨s.t + 1, s.f, (s.g + s.f) / 2⟩
  else ⟨s.t + 1, s.f, s.g / 2⟩
def dsn : Nat → DS → DS
  | 0, s => s
  | n + 1, s => ds (dsn n s)
theorem dsn_add (m n : Nat) (s : DS) : dsn (m + n) s = dsn n (dsn m s) := by
  induction n with
  | zero => rfl
  | succ n ih => show ds (dsn (m + n) s) = _; rw [ih]; rfl
theorem dsn_one (n : Nat) (s : DS) : dsn (n + 1) s = dsn n (ds s) := by rw [Nat.add_comm, dsn_add]; rfl
def DIn (M : Int) (s : DS) : Prop := s.f % 2 = 1 ∧ -M ≤ s.f ∧ s.f ≤ M ∧ -M ≤ s.g ∧ s.g ≤ M
theorem DIn.step {M : Int} {s : DS} (h : DIn M s) : DIn M (ds s) := by
  obtain ⟨t, f, g⟩ := s
  obtain ⟨h0, h1, h2, h3, h4⟩ := h
  simp only [] at h0 h1 h2 h3 h4
  unfold ds DIn
  simp only []
  split
  · simp only []; omega
  · split <;> simp only [] <;> omega
theorem DIn.steps {M : Int} {s : DS} (h : DIn M s) (n : Nat) : DIn M (dsn n s) := by
  induction n with
  | zero => exact h
  | succ n ih => exact ih.step
theorem ds_zero {s : DS} (h : s.g = 0) : ds s = ⟨s.t + 1, s.f, 0⟩ := by
  unfold ds
  rw [h]
  simp
theorem dsn_zero {s : DS} (h : s.g = 0) (n : Nat) : (dsn n s).g = 0 := by
  induction n with
  | zero => exact h
  | succ n ih => show (ds (dsn n s)).g = 0; rw [ds_zero ih]
theorem ds_wait (M B : Int) (hB : B = M ∨ B = M - 1) : ∀ (k : Nat) (s : DS), -s.t < k → DIn M s → -B ≤ s.g → s.g ≤ B →
    ∃ n, (dsn n s).f = s.f ∧ 0 < (dsn n s).t ∧ -B ≤ (dsn n s).g ∧ (dsn n s).g ≤ B := by
  intro k
  induction k with
  | zero => intro s hk h h1 h2; exact ⟨0, rfl, by show 0 < s.t; omega, h1, h2⟩
  | succ k ih =>
    intro s hk h h1 h2
    by_cases ht : 0 < s.t
    · exact ⟨0, rfl, ht, h1, h2⟩
    · have hs := h.step
      obtain ⟨t, f, g⟩ := s
      obtain ⟨a0, a1, a2, a3, a4⟩ := h
      simp only [] at a0 a1 a2 a3 a4 h1 h2 hk ht
      have e : ds ⟨t, f, g⟩ = ⟨t + 1, f, (ds ⟨t, f, g⟩).g⟩ := by
        unfold ds; simp only []; rw [if_neg (by omega)]; split <;> rfl
      have eg : -B ≤ (ds ⟨t, f, g⟩).g ∧ (ds ⟨t, f, g⟩).g ≤ B := by
        unfold ds; simp only []; rw [if_neg (by omega)]; split <;> simp only [] <;> omega
      obtain ⟨n, b1, b2, b3, b4⟩ := ih (ds ⟨t, f, g⟩) (by rw [e]; simp only []; omega) hs eg.1 eg.2
      refine ⟨n + 1, ?_⟩
      rw [dsn_one]
      refine ⟨b1.trans (by rw [e]), b2, b3, b4⟩
theorem ds_half (B : Int) : ∀ (k : Nat) (s : DS), s.g.natAbs < k → 0 < s.t → -B ≤ s.g → s.g ≤ B →
    ∃ n, (dsn n s).f = s.f ∧ -B ≤ (dsn n s).g ∧ (dsn n s).g ≤ B ∧ ((dsn n s).g = 0 ∨ 0 < (dsn n s).t ∧ (dsn n s).g % 2 = 1) := by
  intro k
  induction k with
  | zero => intro s hk; omega
  | succ k ih =>
    intro s hk ht h1 h2
    by_cases h0 : s.g = 0
    · exact ⟨0, rfl, h1, h2, .inl h0⟩
    · by_cases h3 : s.g % 2 = 1
      · exact ⟨0, rfl, h1, h2, .inr ⟨ht, h3⟩⟩
      · have e : ds s = ⟨s.t + 1, s.f, s.g / 2⟩ := by unfold ds; rw [if_neg (fun c => h3 c.1), if_neg h3]
        obtain ⟨n, b1, b2, b3, b4⟩ := ih (ds s) (by rw [e]; simp only []; omega) (by rw [e]; simp only []; omega) (by rw [e]; simp only []; omega) (by rw [e]; simp only []; omega)
        refine ⟨n + 1, ?_⟩
        rw [dsn_one]
        exact ⟨b1.trans (by rw [e]), b2, b3, b4⟩
theorem ds_next (M B : Int) (hB : B = M ∨ B = M - 1) (s : DS) (h : DIn M s) (h1 : -B ≤ s.g) (h2 : s.g ≤ B) :
    ∃ n, (dsn n s).f = s.f ∧ -B ≤ (dsn n s).g ∧ (dsn n s).g ≤ B ∧ ((dsn n s).g = 0 ∨ 0 < (dsn n s).t ∧ (dsn n s).g % 2 = 1) := by
  obtain ⟨m, a1, a2, a3, a4⟩ := ds_wait M B hB (s.t.natAbs + 1) s (by omega) h h1 h2
  obtain ⟨n, b1, b2, b3, b4⟩ := ds_half B ((dsn m s).g.natAbs + 1) (dsn m s) (by omega) a2 a3 a4
  refine ⟨m + n, ?_⟩
  rw [dsn_add]
  exact ⟨b1.trans a1, b2, b3, b4⟩
theorem ds_swap {s : DS} (ht : 0 < s.t) (hg : s.g % 2 = 1) : ds s = ⟨1 - s.t, s.g, (s.g - s.f) / 2⟩ := if_pos ⟨hg, ht⟩
theorem ds_same : ∀ (k : Nat) (s : DS), -s.t < k → s.f % 2 = 1 → s.g = s.f → ∃ n, (dsn n s).g = 0 := by
  intro k
  induction k with
  | zero =>
    intro s hk hf hg
    refine ⟨1, ?_⟩
    show (ds s).g = 0
    rw [ds_swap (by omega) (by omega)]
    simp only []; omega
  | succ k ih =>
    intro s hk hf hg
    by_cases ht : 0 < s.t
    · refine ⟨1, ?_⟩
      show (ds s).g = 0
      rw [ds_swap ht (by omega)]
      simp only []; omega
    · have e : ds s = ⟨s.t + 1, s.f, (s.g + s.f) / 2⟩ := by unfold ds; rw [if_neg (fun c => ht c.2), if_pos (by omega)]
      obtain ⟨n, hn⟩ := ih (ds s) (by rw [e]; simp only []; omega) (by rw [e]; exact hf) (by rw [e]; simp only []; omega)
      exact ⟨n + 1, by rw [dsn_one]; exact hn⟩
theorem ds_ends : ∀ (M : Nat) (s : DS), DIn M s → ∃ n, (dsn n s).g = 0 := by
  intro M
  induction M with
  | zero => intro s h; obtain ⟨h0, h1, h2, h3, h4⟩ := h; exact ⟨0, by show s.g = 0; omega⟩
  | succ M ih =>
    intro s h
    obtain ⟨n, a1, a2, a3, a4⟩ := ds_next _ _ (.inl rfl) s h h.2.2.2.1 h.2.2.2.2
    rcases a4 with a4 | ⟨a4, a5⟩
    · exact ⟨n, a4⟩
    have e := ds_swap a4 a5
    have hs := (h.steps n).step
    rw [a1] at e
    have hf := h.1
    have hf1 := h.2.1
    have hf2 := h.2.2.1
    by_cases c : (ds (dsn n s)).g = (ds (dsn n s)).f
    · obtain ⟨k, hk⟩ := ds_same ((ds (dsn n s)).t.natAbs + 1) (ds (dsn n s)) (by omega) hs.1 c
      exact ⟨n + 1 + k, by rw [dsn_add]; exact hk⟩
    · have hb : -((M + 1 : Nat) - 1 : Int) ≤ (ds (dsn n s)).g ∧ (ds (dsn n s)).g ≤ ((M + 1 : Nat) - 1 : Int) := by
        rw [e] at c ⊢
        simp only [] at c ⊢
        generalize (dsn n s).g = x at a2 a3 a5 c
        generalize s.f = y at *
        omega
      obtain ⟨m, b1, b2, b3, b4⟩ := ds_next _ _ (.inr rfl) (ds (dsn n s)) hs hb.1 hb.2
      rcases b4 with b4 | ⟨b4, b5⟩
      · exact ⟨n + 1 + m, by rw [dsn_add]; exact b4⟩
      have e2 := ds_swap b4 b5
      rw [b1] at e2
      have hs2 := (hs.steps m).step
      have q1 := hs.1
      have q2 := hs.2.1
      have q3 := hs.2.2.1
      have q : DIn M (ds (dsn m (ds (dsn n s)))) := by
        refine ⟨hs2.1, ?_⟩
        rw [e2]
        simp only []
        generalize (dsn m (ds (dsn n s))).g = x at b2 b3 b5
        generalize (ds (dsn n s)).f = y at *
        omega
      obtain ⟨k, hk⟩ := ih _ q
      exact ⟨n + 1 + (m + 1) + k, by rw [dsn_add, dsn_add]; exact hk⟩
theorem ds_dvd {s : DS} {q : Int} (hf : s.f % 2 = 1) (h1 : q ∣ (ds s).f) (h2 : q ∣ (ds s).g) : q ∣ s.f ∧ q ∣ s.g := by
  obtain ⟨t, f, g⟩ := s
  unfold ds at h1 h2
  simp only [] at hf h1 h2 ⊢
  split at h1
  · next c =>
    rw [if_pos c] at h2
    simp only [] at h1 h2
    obtain ⟨x, hx⟩ := h1
    obtain ⟨y, hy⟩ := h2
    exact ⟨⟨x - 2 * y, by rw [Int.mul_sub, ← hx, ← Int.mul_assoc, Int.mul_comm q 2, Int.mul_assoc, ← hy]; omega⟩, ⟨x, hx⟩⟩
  · next c =>
    rw [if_neg c] at h2
    split at h1
    · next d =>
      rw [if_pos d] at h2
      simp only [] at h1 h2
      obtain ⟨x, hx⟩ := h1
      obtain ⟨y, hy⟩ := h2
      exact ⟨⟨x, hx⟩, ⟨2 * y - x, by rw [Int.mul_sub, ← hx, ← Int.mul_assoc, Int.mul_comm q 2, Int.mul_assoc, ← hy]; omega⟩⟩
    · next d =>
      rw [if_neg d] at h2
      simp only [] at h1 h2
      obtain ⟨x, hx⟩ := h1
      obtain ⟨y, hy⟩ := h2
      exact ⟨⟨x, hx⟩, ⟨2 * y, by rw [← Int.mul_assoc, Int.mul_comm q 2, Int.mul_assoc, ← hy]; omega⟩⟩
theorem dsn_dvd {M : Int} {s : DS} (h : DIn M s) (n : Nat) (h0 : (dsn n s).g = 0) : (dsn n s).f ∣ s.f ∧ (dsn n s).f ∣ s.g := by
  have key : ∀ m, m ≤ n → (dsn n s).f ∣ (dsn (n - m) s).f ∧ (dsn n s).f ∣ (dsn (n - m) s).g := by
    intro m
    induction m with
    | zero => intro _; exact ⟨Int.dvd_refl _, by rw [show n - 0 = n from rfl, h0]; exact Int.dvd_zero _⟩
    | succ m ih =>
      intro hm
      have := ih (by omega)
      rw [show n - m = (n - (m + 1)) + 1 by omega] at this
      exact ds_dvd (h.steps _).1 this.1 this.2
  have := key n (Nat.le_refl n)
  rwa [Nat.sub_self] at this
def DT (T : Nat) (s : DS) : Prop := -(T : Int) ≤ s.t ∧ (0 < s.t → s.g.natAbs * 2 ^ (s.t.toNat - 1) < 2 ^ T)
theorem DT.le {T : Nat} {s : DS} (h : DT T s) (h0 : s.g ≠ 0) : s.t ≤ T := by
  by_cases c : 0 < s.t
  · have h1 := h.2 c
    by_cases c2 : s.t ≤ T
    · exact c2
    · have : 2 ^ T ≤ 2 ^ (s.t.toNat - 1) := Nat.pow_le_pow_right (by omega) (by omega)
      have h2 : 1 * 2 ^ (s.t.toNat - 1) ≤ s.g.natAbs * 2 ^ (s.t.toNat - 1) := Nat.mul_le_mul_right _ (by omega)
      omega
  · omega
theorem DT.step {T : Nat} {M : Int} {s : DS} (hT : M < 2 ^ T) (hi : DIn M s) (h : DT T s) : DT T (ds s) := by
  have hi2 := hi.step
  have hM : ∀ x : Int, -M ≤ x → x ≤ M → x.natAbs < 2 ^ T := by
    intro x h1 h2
    have : ((2 ^ T : Nat) : Int) = 2 ^ T := by simp
    omega
  by_cases hz : s.g = 0
  · rw [ds_zero hz]
    refine ⟨by have := h.1; simp only []; omega, ?_⟩
    intro _
    simp only [Int.natAbs_zero, Nat.zero_mul]
    exact Nat.pow_pos (by omega)
  have hle := h.le hz
  by_cases c : s.g % 2 = 1 ∧ 0 < s.t
  · rw [ds_swap c.2 c.1] at hi2 ⊢
    refine ⟨by simp only []; omega, ?_⟩
    intro q
    simp only [] at q
    omega
  · by_cases c2 : s.t = 0
    · have e : (ds s).t = 1 := by unfold ds; rw [if_neg c]; split <;> simp only [] <;> omega
      refine ⟨by omega, ?_⟩
      intro _
      rw [e]
      have := hM _ hi2.2.2.2.1 hi2.2.2.2.2
      simpa using this
    · by_cases c3 : 0 < s.t
      · have c4 : ¬ s.g % 2 = 1 := fun q => c ⟨q, c3⟩
        have e : ds s = ⟨s.t + 1, s.f, s.g / 2⟩ := by unfold ds; rw [if_neg c, if_neg c4]
        rw [e]
        refine ⟨by simp only []; omega, ?_⟩
        intro _
        have h1 := h.2 c3
        simp only []
        rw [show (s.t + 1).toNat - 1 = (s.t.toNat - 1) + 1 by omega, Nat.pow_succ]
        have e2 : s.g.natAbs = (s.g / 2).natAbs * 2 := by omega
        rw [e2] at h1
        calc (s.g / 2).natAbs * (2 ^ (s.t.toNat - 1) * 2) = (s.g / 2).natAbs * 2 * 2 ^ (s.t.toNat - 1) := by rw [Nat.mul_assoc, Nat.mul_comm 2]
          _ < _ := h1
      · have e : (ds s).t = s.t + 1 := by unfold ds; rw [if_neg c]; split <;> rfl
        have := h.1
        exact ⟨by omega, fun q => by omega⟩
theorem DT.steps {T : Nat} {M : Int} {s : DS} (hT : M < 2 ^ T) (hi : DIn M s) (h : DT T s) (n : Nat) : DT T (dsn n s) := by
  induction n with
  | zero => exact h
  | succ n ih => exact ih.step hT (hi.steps n)
theorem ds_turns {M : Nat} {s : DS} (h : DIn M s) (k : Nat) (hk : 0 < k) : ∃ N, (dsn (k * N) s).g = 0 ∧ ∀ i, i < N → (dsn (k * i) s).g ≠ 0 := by
  obtain ⟨n, hn⟩ := ds_ends M s h
  have h1 : (dsn (k * n) s).g = 0 := by
    have : n ≤ k * n := Nat.le_mul_of_pos_left n hk
    rw [show k * n = n + (k * n - n) by omega, dsn_add]
    exact dsn_zero hn _
  have key : ∀ m, (dsn (k * m) s).g = 0 → ∃ N, (dsn (k * N) s).g = 0 ∧ ∀ i, i < N → (dsn (k * i) s).g ≠ 0 := by
    intro m
    induction m using Nat.strongRecOn with
    | ind m ih =>
      intro hm
      by_cases c : ∃ i, i < m ∧ (dsn (k * i) s).g = 0
      · obtain ⟨i, hi, h0⟩ := c
        exact ih i hi h0
      · exact ⟨m, hm, fun i hi h0 => c ⟨i, hi, h0⟩⟩
  exact key n h1
end

section
structure WK (f0 g0 t0 : Int) (i : Nat) (t f g a b c d : Int) : Prop where
  ht : t = (dsn i ⟨t0, f0, g0⟩).t
  hb : t.natAbs ≤ 1000 + i
  u0 : 0 ≤ f
  u1 : f ≤ 18446744073709551615
  v0 : 0 ≤ g
  v1 : g ≤ 18446744073709551615
  hf : (2 : Int) ^ (64 - i) ∣ f - (dsn i ⟨t0, f0, g0⟩).f
  hg : (2 : Int) ^ (64 - i) ∣ g - (dsn i ⟨t0, f0, g0⟩).g
  h1 : a * f0 + b * g0 = 2 ^ i * (dsn i ⟨t0, f0, g0⟩).f
  h2 : c * f0 + d * g0 = 2 ^ i * (dsn i ⟨t0, f0, g0⟩).g
  b1 : a.natAbs + b.natAbs ≤ 2 ^ i
  b2 : c.natAbs + d.natAbs ≤ 2 ^ i
theorem two_dvd_pow {k : Nat} (h : 0 < k) : (2 : Int) ∣ 2 ^ k := by
  obtain ⟨j, rfl⟩ : ∃ j, k = j + 1 := ⟨k - 1, by omega⟩
  exact ⟨2 ^ j, by rw [Int.pow_succ, Int.mul_comm]⟩
theorem pow_dvd64 {i : Nat} (h : i ≤ 64) : (2 : Int) ^ (64 - i) ∣ 18446744073709551616 := by
  refine ⟨2 ^ i, ?_⟩
  rw [← Int.pow_add, show 64 - i + i = 64 by omega]
  rfl
theorem half_dvd {i : Nat} {x y : Int} (hi : i < 64) (h : (2 : Int) ^ (64 - i) ∣ x - 2 * y) (hx : x % 2 = 0) : (2 : Int) ^ (64 - (i + 1)) ∣ x / 2 - y := by
  obtain ⟨q, hq⟩ := h
  refine ⟨q, ?_⟩
  rw [show 64 - i = (64 - (i + 1)) + 1 by omega, Int.pow_succ] at hq
  generalize (2 : Int) ^ (64 - (i + 1)) = P at *
  have : P * 2 * q = 2 * (P * q) := by rw [Int.mul_comm P 2, Int.mul_assoc]
  omega
theorem less_dvd {i : Nat} {x : Int} (h : (2 : Int) ^ (64 - i) ∣ x) : (2 : Int) ^ (64 - (i + 1)) ∣ x :=
  Int.dvd_trans (by
    by_cases c : i < 64
    · exact ⟨2, by rw [show 64 - i = (64 - (i + 1)) + 1 by omega, Int.pow_succ]⟩
    · rw [show 64 - i = 0 by omega, show 64 - (i + 1) = 0 by omega]; exact Int.dvd_refl _) h
section
variable {f0 g0 t0 : Int} {i : Nat} {t f g a b c d : Int}
theorem WK.odd (h : WK f0 g0 t0 i t f g a b c d) (hi : i < 60) : g % 2 = (dsn i ⟨t0, f0, g0⟩).g % 2 := by
  have := Int.dvd_trans (two_dvd_pow (k := 64 - i) (by omega)) h.hg
  omega
theorem WK.oddf (h : WK f0 g0 t0 i t f g a b c d) (hi : i < 60) : f % 2 = (dsn i ⟨t0, f0, g0⟩).f % 2 := by
  have := Int.dvd_trans (two_dvd_pow (k := 64 - i) (by omega)) h.hf
  omega
theorem pow2i (i : Nat) : (2 : Nat) ^ (i + 1) = 2 ^ i + 2 ^ i := by rw [Nat.pow_succ]; omega
theorem pow2iI (i : Nat) (x : Int) : (2 : Int) ^ (i + 1) * x = 2 ^ i * (2 * x) := by rw [Int.pow_succ, Int.mul_assoc]
theorem WK.even (h : WK f0 g0 t0 i t f g a b c d) (hi : i < 60) (ho : ¬ g % 2 = 1) : WK f0 g0 t0 (i + 1) (t + 1) f (g / 2) (2 * a) (2 * b) c d := by
  have ho2 := h.odd hi
  have e : dsn (i + 1) ⟨t0, f0, g0⟩ = ⟨t + 1, (dsn i ⟨t0, f0, g0⟩).f, (dsn i ⟨t0, f0, g0⟩).g / 2⟩ := by
    show ds _ = _
    rw [ds, if_neg (by omega), if_neg (by omega), ← h.ht]
  obtain ⟨ht, hb, f1, f2, g1, g2, hf, hg, h1, h2, b1, b2⟩ := h
  generalize (dsn i ⟨t0, f0, g0⟩).g = y at *
  generalize (dsn i ⟨t0, f0, g0⟩).f = x at *
  constructor <;> first | rw [e] | skip
  all_goals try simp only []
  · omega
  · exact f1
  · exact f2
  · omega
  · omega
  · exact less_dvd hf
  · exact half_dvd (by omega) (by rw [show g - 2 * (y / 2) = g - y by omega]; exact hg) (by omega)
  · rw [pow2iI, Int.mul_assoc, Int.mul_assoc, ← Int.mul_add, h1, ← Int.mul_assoc, ← Int.mul_assoc, Int.mul_comm 2]
  · rw [pow2iI, h2, show 2 * (y / 2) = y by omega]
  · rw [pow2i]; omega
  · rw [pow2i]; omega
theorem WK.stay (h : WK f0 g0 t0 i t f g a b c d) (hf0 : (dsn i ⟨t0, f0, g0⟩).f % 2 = 1) (hi : i < 60) (ho : g % 2 = 1) (hp : ¬ 0 < t) : WK f0 g0 t0 (i + 1) (t + 1) f ((g + f) % 18446744073709551616 / 2) (2 * a) (2 * b) (c + a) (d + b) := by
  have ho2 := h.odd hi
  have ho3 := h.oddf hi
  have e : dsn (i + 1) ⟨t0, f0, g0⟩ = ⟨t + 1, (dsn i ⟨t0, f0, g0⟩).f, ((dsn i ⟨t0, f0, g0⟩).g + (dsn i ⟨t0, f0, g0⟩).f) / 2⟩ := by
    show ds _ = _
    rw [ds, if_neg (fun q => by have := h.ht; omega), if_pos (by omega), ← h.ht]
  obtain ⟨ht, hb, f1, f2, g1, g2, hf, hg, h1, h2, b1, b2⟩ := h
  generalize (dsn i ⟨t0, f0, g0⟩).g = y at *
  generalize (dsn i ⟨t0, f0, g0⟩).f = x at *
  constructor <;> first | rw [e] | skip
  all_goals try simp only []
  · omega
  · exact f1
  · exact f2
  · omega
  · omega
  · exact less_dvd hf
  · refine half_dvd (by omega) ?_ (by omega)
    rw [show (g + f) % 18446744073709551616 - 2 * ((y + x) / 2) = (g - y) + (f - x) - 18446744073709551616 * ((g + f) / 18446744073709551616) by omega]
    exact Int.dvd_sub (Int.dvd_add hg hf) (Int.dvd_trans (pow_dvd64 (by omega)) (Int.dvd_mul_right _ _))
  · rw [pow2iI, Int.mul_assoc, Int.mul_assoc, ← Int.mul_add, h1, ← Int.mul_assoc, ← Int.mul_assoc, Int.mul_comm 2]
  · rw [pow2iI, show 2 * ((y + x) / 2) = y + x by omega, Int.mul_add, ← h1, ← h2]; grind
  · rw [pow2i]; omega
  · rw [pow2i]; omega
theorem WK.swap (h : WK f0 g0 t0 i t f g a b c d) (hf0 : (dsn i ⟨t0, f0, g0⟩).f % 2 = 1) (hi : i < 60) (ho : g % 2 = 1) (hp : 0 < t) : WK f0 g0 t0 (i + 1) (-t + 1) g (((-f) % 18446744073709551616 + g) % 18446744073709551616 / 2) (2 * c) (2 * d) (-a + c) (-b + d) := by
  have ho2 := h.odd hi
  have ho3 := h.oddf hi
  have e : dsn (i + 1) ⟨t0, f0, g0⟩ = ⟨-t + 1, (dsn i ⟨t0, f0, g0⟩).g, ((dsn i ⟨t0, f0, g0⟩).g - (dsn i ⟨t0, f0, g0⟩).f) / 2⟩ := by
    show ds _ = _
    rw [ds, if_pos (by have := h.ht; omega), ← h.ht]
    congr 1
    omega
  obtain ⟨ht, hb, f1, f2, g1, g2, hf, hg, h1, h2, b1, b2⟩ := h
  generalize (dsn i ⟨t0, f0, g0⟩).g = y at *
  generalize (dsn i ⟨t0, f0, g0⟩).f = x at *
  constructor <;> first | rw [e] | skip
  all_goals try simp only []
  · omega
  · exact g1
  · exact g2
  · omega
  · omega
  · exact less_dvd hg
  · refine half_dvd (by omega) ?_ (by omega)
    rw [show ((-f) % 18446744073709551616 + g) % 18446744073709551616 - 2 * ((y - x) / 2) = (g - y) - (f - x) - 18446744073709551616 * ((g - f) / 18446744073709551616) by omega]
    exact Int.dvd_sub (Int.dvd_sub hg hf) (Int.dvd_trans (pow_dvd64 (by omega)) (Int.dvd_mul_right _ _))
  · rw [pow2iI, Int.mul_assoc, Int.mul_assoc, ← Int.mul_add, h2, ← Int.mul_assoc, ← Int.mul_assoc, Int.mul_comm 2]
  · rw [pow2iI, show 2 * ((y - x) / 2) = y - x by omega, Int.mul_sub, ← h1, ← h2]; grind
  · rw [pow2i]; omega
  · rw [pow2i]; omega
theorem WK.start (f0 g0 t0 : Int) {F G : Int} (hb : t0.natAbs ≤ 1000) (hF : (18446744073709551616 : Int) ∣ F - f0) (hG : (18446744073709551616 : Int) ∣ G - g0) (h1 : 0 ≤ F) (h2 : F ≤ 18446744073709551615) (h3 : 0 ≤ G) (h4 : G ≤ 18446744073709551615) : WK f0 g0 t0 0 t0 F G 1 0 0 1 :=
  ⟨rfl, hb, h1, h2, h3, h4, hF, hG, by show 1 * f0 + 0 * g0 = 1 * f0; omega, by show 0 * f0 + 1 * g0 = 1 * g0; omega, by decide, by decide⟩
end
theorem div_sixty {x x0 p m0 n k u v s t : Int} (hx : x = x0 + 18446744073709551616 * u) (hp : p = m0 + 18446744073709551616 * v) (hn : m0 * n + 1 = 18446744073709551616 * s) (hk : k = x0 * n - 1152921504606846976 * t) : (1152921504606846976 : Int) ∣ x + p * k := by
  refine ⟨16 * u + 16 * (s * x0) + 16 * (v * (x0 * n)) - p * t, ?_⟩
  have e : x0 * (m0 * n) = 18446744073709551616 * (s * x0) - x0 := by
    rw [show m0 * n = 18446744073709551616 * s - 1 by omega]; grind
  subst hk hx
  have e2 : p * (x0 * n - 1152921504606846976 * t) = x0 * (m0 * n) + 18446744073709551616 * (v * (x0 * n)) - 1152921504606846976 * (p * t) := by
    rw [hp]; grind
  rw [e2, e]
  omega
structure IV (A : Nat) (k : Nat) (s : DS) (d e : Int) : Prop where
  hs : s = dsn (60 * k) ⟨1, (pN : Int), (A : Int)⟩
  d1 : -(pN : Int) ≤ d
  d2 : d ≤ (pN : Int)
  e1 : -(pN : Int) ≤ e
  e2 : e ≤ (pN : Int)
  hd : (pN : Int) ∣ d * A - s.f
  he : (pN : Int) ∣ e * A - s.g
  z : k = 0 → d = 0
theorem pN_odd : pN % 2 = 1 := by decide +kernel
theorem lt_pow {n a b k : Nat} (h : n / 2 ^ a < 2 ^ b) (hk : k = b + a) : n < 2 ^ k := by
  subst hk
  rw [Nat.pow_add]
  exact (Nat.div_lt_iff_lt_mul (Nat.two_pow_pos a)).1 h
theorem pN_big {k : Nat} (hk : k = 189 + 192) : pN < 2 ^ k := lt_pow (a := 192) (b := 189) (by decide +kernel) hk
theorem IV.start (A : Nat) : IV A 0 ⟨1, (pN : Int), (A : Int)⟩ 0 1 :=
  ⟨rfl, by omega, by omega, by omega, by have := pOne; omega, by rw [Int.zero_mul, Int.zero_sub]; exact Int.dvd_neg.2 (Int.dvd_refl _), by rw [Int.one_mul, Int.sub_self]; exact Int.dvd_zero _, fun _ => rfl⟩
theorem start_in (A : Nat) (h : A < pN) : DIn (pN : Int) ⟨1, (pN : Int), (A : Int)⟩ := by
  have := pN_odd
  exact ⟨by show (pN : Int) % 2 = 1; omega, by show -(pN : Int) ≤ pN; omega, Int.le_refl _, by show -(pN : Int) ≤ A; omega, by show (A : Int) ≤ pN; omega⟩
theorem IV.inn {A k : Nat} {s : DS} {d e : Int} (h : IV A k s d e) (hA : A < pN) : DIn (pN : Int) s := by rw [h.hs]; exact (start_in A hA).steps _
theorem cast_pow {n T : Nat} (h : n < 2 ^ T) : (n : Int) < 2 ^ T := by
  have h1 := Int.ofNat_lt.2 h
  rwa [Int.natCast_pow] at h1
theorem IV.turn {A k : Nat} {s : DS} {d e : Int} (h : IV A k s d e) (hA : A < pN) (hz : s.g ≠ 0) : s.t.natAbs ≤ 1000 := by
  have h0 : DT 381 ⟨1, (pN : Int), (A : Int)⟩ := by
    refine ⟨by show -((381 : Nat) : Int) ≤ 1; omega, ?_⟩
    intro _
    show (A : Int).natAbs * 2 ^ ((1 : Int).toNat - 1) < 2 ^ 381
    have := pN_big (k := 381) rfl
    rw [show (1 : Int).toNat - 1 = 0 from rfl, Nat.pow_zero, Nat.mul_one, Int.natAbs_natCast]
    generalize 2 ^ 381 = x at *
    omega
  have h1 := h0.steps (cast_pow (pN_big rfl)) (start_in A hA) (60 * k)
  rw [← h.hs] at h1
  have := h1.1
  have := h1.le hz
  omega
theorem pN_sixty {x : Int} (h : (pN : Int) ∣ 1152921504606846976 * x) : (pN : Int) ∣ x := by
  obtain ⟨q, hq⟩ := h
  obtain ⟨i, hi⟩ : ∃ i : Nat, 1152921504606846976 * i % pN = 1 := ⟨1152921504606846976 ^ (pN - 2) % pN, p_inv _ (by decide) (by decide +kernel)⟩
  have e : (1152921504606846976 : Int) * i = 1 + (pN : Int) * ((1152921504606846976 * i / pN : Nat) : Int) := by
    have := Nat.mod_add_div (1152921504606846976 * i) pN
    rw [hi] at this
    have h2 := congrArg (Nat.cast : Nat → Int) this
    simpa using h2.symm
  refine ⟨i * q - ((1152921504606846976 * i / pN : Nat) : Int) * x, ?_⟩
  generalize ((1152921504606846976 * i / pN : Nat) : Int) = r at *
  generalize (pN : Int) = P at *
  clear hi
  grind
theorem IV.next {A k : Nat} {s s' : DS} {d e d' e' a b c f : Int} (h : IV A k s d e) (hs : s' = dsn 60 s)
    (h1 : a * s.f + b * s.g = 1152921504606846976 * s'.f) (h2 : c * s.f + f * s.g = 1152921504606846976 * s'.g)
    (hd : (pN : Int) ∣ 1152921504606846976 * d' - (d * a + e * b)) (he : (pN : Int) ∣ 1152921504606846976 * e' - (d * c + e * f))
    (d1 : -(pN : Int) ≤ d') (d2 : d' ≤ pN) (e1 : -(pN : Int) ≤ e') (e2 : e' ≤ pN) : IV A (k + 1) s' d' e' := by
  refine ⟨?_, d1, d2, e1, e2, ?_, ?_, fun c => absurd c (Nat.succ_ne_zero k)⟩
  · rw [hs, h.hs, ← dsn_add, Nat.mul_succ]
  · refine pN_sixty ?_
    have q1 := h.hd
    have q2 := h.he
    generalize (pN : Int) = P at *
    have : 1152921504606846976 * (d' * A - s'.f) = (1152921504606846976 * d' - (d * a + e * b)) * A + (d * A - s.f) * a + (e * A - s.g) * b := by
      rw [Int.mul_sub, ← h1]; grind
    rw [this]
    exact Int.dvd_add (Int.dvd_add (Int.dvd_trans hd (Int.dvd_mul_right _ _)) (Int.dvd_trans q1 (Int.dvd_mul_right _ _))) (Int.dvd_trans q2 (Int.dvd_mul_right _ _))
  · refine pN_sixty ?_
    have q1 := h.hd
    have q2 := h.he
    generalize (pN : Int) = P at *
    have : 1152921504606846976 * (e' * A - s'.g) = (1152921504606846976 * e' - (d * c + e * f)) * A + (d * A - s.f) * c + (e * A - s.g) * f := by
      rw [Int.mul_sub, ← h2]; grind
    rw [this]
    exact Int.dvd_add (Int.dvd_add (Int.dvd_trans he (Int.dvd_mul_right _ _)) (Int.dvd_trans q1 (Int.dvd_mul_right _ _))) (Int.dvd_trans q2 (Int.dvd_mul_right _ _))
theorem IV.unit {A k : Nat} {s : DS} {d e : Int} (h : IV A k s d e) (hA : A < pN) (h0 : 0 < A) (hz : s.g = 0) : s.f = 1 ∨ s.f = -1 := by
  have hs := h.hs
  subst hs
  obtain ⟨h1, h2⟩ := dsn_dvd (start_in A hA) (60 * k) hz
  generalize (dsn (60 * k) ⟨1, (pN : Int), (A : Int)⟩).f = x at *
  simp only [] at h1 h2
  have h3 : x.natAbs ∣ pN := Int.natAbs_dvd_natAbs.2 h1
  have h4 : x.natAbs ∣ A := Int.natAbs_dvd_natAbs.2 h2
  have h5 := Nat.le_of_dvd h0 h4
  have h6 := pN_prime.2 x.natAbs h3
  omega
theorem dinv_uniq {A y : Nat} {x : Int} (hy : A * y % pN = 1) (hyl : y < pN) (hx : (pN : Int) ∣ x * A - 1) (h0 : 0 ≤ x) (h1 : x ≤ pN) : x = y := by
  have e : (A : Int) * y = 1 + (pN : Int) * ((A * y / pN : Nat) : Int) := by
    have := Nat.mod_add_div (A * y) pN
    rw [hy] at this
    have h2 := congrArg (Nat.cast : Nat → Int) this
    simpa using h2.symm
  have p1 := pOne
  generalize ((A * y / pN : Nat) : Int) = r at *
  have hd : (pN : Int) ∣ x - y := by
    obtain ⟨q, hq⟩ := hx
    refine ⟨q * y - x * r, ?_⟩
    generalize (pN : Int) = P at *
    have e1 : x * A = P * q + 1 := by omega
    have e2 : x * (A * y) = (P * q + 1) * y := by rw [← e1]; grind
    rw [e] at e2
    grind
  have hne : x ≠ pN := by
    intro c
    have h2 : (pN : Int) ∣ 1 := by
      have h3 := Int.dvd_sub (Int.dvd_mul_right (pN : Int) (A : Int)) hx
      rw [c] at h3
      rwa [show (pN : Int) * A - (pN * A - 1) = 1 by omega] at h3
    have := Int.le_of_dvd (by omega) h2
    omega
  obtain ⟨q, hq⟩ := hd
  have : q = 0 := by
    rcases Int.lt_trichotomy q 0 with c | c | c
    · exfalso
      have : (pN : Int) * q ≤ (pN : Int) * (-1) := Int.mul_le_mul_of_nonneg_left (by omega) (by omega)
      omega
    · exact c
    · exfalso
      have : (pN : Int) * 1 ≤ (pN : Int) * q := Int.mul_le_mul_of_nonneg_left (by omega) (by omega)
      omega
  subst this
  omega
theorem IV.done {A k : Nat} {s : DS} {d e r : Int} (h : IV A k s d e) (hA : A < pN) (hz : s.g = 0) (hk : A = 0 → k = 0)
    (hr : r = (if s.f < 0 then -d else d) + (if (if s.f < 0 then -d else d) < 0 then (pN : Int) else 0)) : r = ((A ^ (pN - 2) % pN : Nat) : Int) := by
  have p1 := pOne
  by_cases c : A = 0
  · have h0 := hk c
    have hs := h.hs
    have hd := h.z h0
    subst c h0
    rw [show s = ⟨1, (pN : Int), ((0 : Nat) : Int)⟩ from hs, hd] at hr
    simp only [] at hr
    rw [if_neg (by omega), if_neg (by omega)] at hr
    rw [hr, Nat.zero_pow (by have : 2 < pN := by decide +kernel
                             omega)]
    rfl
  · have hu := h.unit hA (by omega) hz
    have hd := h.hd
    have h1 := h.d1
    have h2 := h.d2
    have q := p_inv A (by omega) hA
    have hm := Nat.mod_lt (A ^ (pN - 2)) (show 0 < pN by omega)
    generalize A ^ (pN - 2) % pN = y at *
    refine dinv_uniq q hm ?_ ?_ ?_
    · have h3 : (pN : Int) ∣ (if s.f < 0 then -d else d) * A - 1 := by
        rcases hu with hu | hu
        · rw [if_neg (by omega)]; rwa [hu] at hd
        · rw [if_pos (by omega)]
          rw [hu] at hd
          have := Int.dvd_neg.2 hd
          rwa [show -(d * A - -1) = -d * A - 1 by rw [Int.neg_mul]; omega] at this
      rw [hr]
      generalize (if s.f < 0 then -d else d) = x at *
      split
      · rw [Int.add_mul, show x * A + pN * A - 1 = (x * A - 1) + pN * A by omega]
        exact Int.dvd_add h3 (Int.dvd_mul_right _ _)
      · rwa [Int.add_zero]
    · rw [hr]; split <;> split <;> omega
    · rw [hr]; split <;> split <;> omega
end
end Go.Proofs.Ytkkmekdhejhapaa
