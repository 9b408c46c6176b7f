/- What is proved here: how two whole numbers get smaller, step by step, in Bernstein's and Yang's way of Euclid: the second one comes to 0, what divides both is kept, and so many steps at once are told by four factors; nothing of any program. -/
import Derived.WalkKit
namespace Go.Proofs.Ytkkmekdhejhapaa
structure DS where
  t : Int
  f : Int
  g : Int
def ds (s : DS) : DS :=
  if s.g % 2 = 1 ∧ 0 < s.t then ⟨1 - s.t, s.g, (s.g - s.f) / 2⟩
  else if s.g % 2 = 1 then ⟨s.t + 1, s.f, (s.g + s.f) / 2⟩
  else ⟨s.t + 1, s.f, s.g / 2⟩
def dsn : Nat → DS → DS
  | 0, s => s
  | n + 1, s => ds (dsn n s)
theorem dsn_add (m n : Nat) (s : DS) : dsn (m + n) s = dsn n (dsn m s) := by
  induction n with
  | zero => rfl
  | succ n ih => show ds (dsn (m + n) s) = _; rw [ih]; rfl
theorem dsn_one (n : Nat) (s : DS) : dsn (n + 1) s = dsn n (ds s) := by rw [Nat.add_comm, dsn_add]; rfl
def DIn (M : Int) (s : DS) : Prop := s.f % 2 = 1 ∧ -M ≤ s.f ∧ s.f ≤ M ∧ -M ≤ s.g ∧ s.g ≤ M
theorem DIn.step {M : Int} {s : DS} (h : DIn M s) : DIn M (ds s) := by
  obtain ⟨t, f, g⟩ := s
  obtain ⟨h0, h1, h2, h3, h4⟩ := h
  simp only [] at h0 h1 h2 h3 h4
  unfold ds DIn
  simp only []
  split
  · simp only []; omega
  · split <;> simp only [] <;> omega
theorem DIn.steps {M : Int} {s : DS} (h : DIn M s) (n : Nat) : DIn M (dsn n s) := by
  induction n with
  | zero => exact h
  | succ n ih => exact ih.step
theorem ds_zero {s : DS} (h : s.g = 0) : ds s = ⟨s.t + 1, s.f, 0⟩ := by
  unfold ds
  rw [h]
  simp
theorem dsn_zero {s : DS} (h : s.g = 0) (n : Nat) : (dsn n s).g = 0 := by
  induction n with
  | zero => exact h
  | succ n ih => show (ds (dsn n s)).g = 0; rw [ds_zero ih]
theorem ds_wait (M B : Int) (hB : B = M ∨ B = M - 1) : ∀ (k : Nat) (s : DS), -s.t < k → DIn M s → -B ≤ s.g → s.g ≤ B →
    ∃ n, (dsn n s).f = s.f ∧ 0 < (dsn n s).t ∧ -B ≤ (dsn n s).g ∧ (dsn n s).g ≤ B := by
  intro k
  induction k with
  | zero => intro s hk h h1 h2; exact ⟨0, rfl, by show 0 < s.t; omega, h1, h2⟩
  | succ k ih =>
    intro s hk h h1 h2
    by_cases ht : 0 < s.t
    · exact ⟨0, rfl, ht, h1, h2⟩
    · have hs := h.step
      obtain ⟨t, f, g⟩ := s
      obtain ⟨a0, a1, a2, a3, a4⟩ := h
      simp only [] at a0 a1 a2 a3 a4 h1 h2 hk ht
      have e : ds ⟨t, f, g⟩ = ⟨t + 1, f, (ds ⟨t, f, g⟩).g⟩ := by
        unfold ds; simp only []; rw [if_neg (by omega)]; split <;> rfl
      have eg : -B ≤ (ds ⟨t, f, g⟩).g ∧ (ds ⟨t, f, g⟩).g ≤ B := by
        unfold ds; simp only []; rw [if_neg (by omega)]; split <;> simp only [] <;> omega
      obtain ⟨n, b1, b2, b3, b4⟩ := ih (ds ⟨t, f, g⟩) (by rw [e]; simp only []; omega) hs eg.1 eg.2
      refine ⟨n + 1, ?_⟩
      rw [dsn_one]
      refine ⟨b1.trans (by rw [e]), b2, b3, b4⟩
theorem ds_half (B : Int) : ∀ (k : Nat) (s : DS), s.g.natAbs < k → 0 < s.t → -B ≤ s.g → s.g ≤ B →
    ∃ n, (dsn n s).f = s.f ∧ -B ≤ (dsn n s).g ∧ (dsn n s).g ≤ B ∧ ((dsn n s).g = 0 ∨ 0 < (dsn n s).t ∧ (dsn n s).g % 2 = 1) := by
  intro k
  induction k with
  | zero => intro s hk; omega
  | succ k ih =>
    intro s hk ht h1 h2
    by_cases h0 : s.g = 0
    · exact ⟨0, rfl, h1, h2, .inl h0⟩
    · by_cases h3 : s.g % 2 = 1
      · exact ⟨0, rfl, h1, h2, .inr ⟨ht, h3⟩⟩
      · have e : ds s = ⟨s.t + 1, s.f, s.g / 2⟩ := by unfold ds; rw [if_neg (fun c => h3 c.1), if_neg h3]
        obtain ⟨n, b1, b2, b3, b4⟩ := ih (ds s) (by rw [e]; simp only []; omega) (by rw [e]; simp only []; omega) (by rw [e]; simp only []; omega) (by rw [e]; simp only []; omega)
        refine ⟨n + 1, ?_⟩
        rw [dsn_one]
        exact ⟨b1.trans (by rw [e]), b2, b3, b4⟩
theorem ds_next (M B : Int) (hB : B = M ∨ B = M - 1) (s : DS) (h : DIn M s) (h1 : -B ≤ s.g) (h2 : s.g ≤ B) :
    ∃ n, (dsn n s).f = s.f ∧ -B ≤ (dsn n s).g ∧ (dsn n s).g ≤ B ∧ ((dsn n s).g = 0 ∨ 0 < (dsn n s).t ∧ (dsn n s).g % 2 = 1) := by
  obtain ⟨m, a1, a2, a3, a4⟩ := ds_wait M B hB (s.t.natAbs + 1) s (by omega) h h1 h2
  obtain ⟨n, b1, b2, b3, b4⟩ := ds_half B ((dsn m s).g.natAbs + 1) (dsn m s) (by omega) a2 a3 a4
  refine ⟨m + n, ?_⟩
  rw [dsn_add]
  exact ⟨b1.trans a1, b2, b3, b4⟩
theorem ds_swap {s : DS} (ht : 0 < s.t) (hg : s.g % 2 = 1) : ds s = ⟨1 - s.t, s.g, (s.g - s.f) / 2⟩ := if_pos ⟨hg, ht⟩
theorem ds_same : ∀ (k : Nat) (s : DS), -s.t < k → s.f % 2 = 1 → s.g = s.f → ∃ n, (dsn n s).g = 0 := by
  intro k
  induction k with
  | zero =>
    intro s hk hf hg
    refine ⟨1, ?_⟩
    show (ds s).g = 0
    rw [ds_swap (by omega) (by omega)]
    simp only []; omega
  | succ k ih =>
    intro s hk hf hg
    by_cases ht : 0 < s.t
    · refine ⟨1, ?_⟩
      show (ds s).g = 0
      rw [ds_swap ht (by omega)]
      simp only []; omega
    · have e : ds s = ⟨s.t + 1, s.f, (s.g + s.f) / 2⟩ := by unfold ds; rw [if_neg (fun c => ht c.2), if_pos (by omega)]
      obtain ⟨n, hn⟩ := ih (ds s) (by rw [e]; simp only []; omega) (by rw [e]; exact hf) (by rw [e]; simp only []; omega)
      exact ⟨n + 1, by rw [dsn_one]; exact hn⟩
theorem ds_ends : ∀ (M : Nat) (s : DS), DIn M s → ∃ n, (dsn n s).g = 0 := by
  intro M
  induction M with
  | zero => intro s h; obtain ⟨h0, h1, h2, h3, h4⟩ := h; exact ⟨0, by show s.g = 0; omega⟩
  | succ M ih =>
    intro s h
    obtain ⟨n, a1, a2, a3, a4⟩ := ds_next _ _ (.inl rfl) s h h.2.2.2.1 h.2.2.2.2
    rcases a4 with a4 | ⟨a4, a5⟩
    · exact ⟨n, a4⟩
    have e := ds_swap a4 a5
    have hs := (h.steps n).step
    rw [a1] at e
    have hf := h.1
    have hf1 := h.2.1
    have hf2 := h.2.2.1
    by_cases c : (ds (dsn n s)).g = (ds (dsn n s)).f
    · obtain ⟨k, hk⟩ := ds_same ((ds (dsn n s)).t.natAbs + 1) (ds (dsn n s)) (by omega) hs.1 c
      exact ⟨n + 1 + k, by rw [dsn_add]; exact hk⟩
    · have hb : -((M + 1 : Nat) - 1 : Int) ≤ (ds (dsn n s)).g ∧ (ds (dsn n s)).g ≤ ((M + 1 : Nat) - 1 : Int) := by
        rw [e] at c ⊢
        simp only [] at c ⊢
        generalize (dsn n s).g = x at a2 a3 a5 c
        generalize s.f = y at *
        omega
      obtain ⟨m, b1, b2, b3, b4⟩ := ds_next _ _ (.inr rfl) (ds (dsn n s)) hs hb.1 hb.2
      rcases b4 with b4 | ⟨b4, b5⟩
      · exact ⟨n + 1 + m, by rw [dsn_add]; exact b4⟩
      have e2 := ds_swap b4 b5
      rw [b1] at e2
      have hs2 := (hs.steps m).step
      have q1 := hs.1
      have q2 := hs.2.1
      have q3 := hs.2.2.1
      have q : DIn M (ds (dsn m (ds (dsn n s)))) := by
        refine ⟨hs2.1, ?_⟩
        rw [e2]
        simp only []
        generalize (dsn m (ds (dsn n s))).g = x at b2 b3 b5
        generalize (ds (dsn n s)).f = y at *
        omega
      obtain ⟨k, hk⟩ := ih _ q
      exact ⟨n + 1 + (m + 1) + k, by rw [dsn_add, dsn_add]; exact hk⟩
theorem ds_dvd {s : DS} {q : Int} (hf : s.f % 2 = 1) (h1 : q ∣ (ds s).f) (h2 : q ∣ (ds s).g) : q ∣ s.f ∧ q ∣ s.g := by
  obtain ⟨t, f, g⟩ := s
  unfold ds at h1 h2
  simp only [] at hf h1 h2 ⊢
  split at h1
  · next c =>
    rw [if_pos c] at h2
    simp only [] at h1 h2
    obtain ⟨x, hx⟩ := h1
    obtain ⟨y, hy⟩ := h2
    exact ⟨⟨x - 2 * y, by rw [Int.mul_sub, ← hx, ← Int.mul_assoc, Int.mul_comm q 2, Int.mul_assoc, ← hy]; omega⟩, ⟨x, hx⟩⟩
  · next c =>
    rw [if_neg c] at h2
    split at h1
    · next d =>
      rw [if_pos d] at h2
      simp only [] at h1 h2
      obtain ⟨x, hx⟩ := h1
      obtain ⟨y, hy⟩ := h2
      exact ⟨⟨x, hx⟩, ⟨2 * y - x, by rw [Int.mul_sub, ← hx, ← Int.mul_assoc, Int.mul_comm q 2, Int.mul_assoc, ← hy]; omega⟩⟩
    · next d =>
      rw [if_neg d] at h2
      simp only [] at h1 h2
      obtain ⟨x, hx⟩ := h1
      obtain ⟨y, hy⟩ := h2
      exact ⟨⟨x, hx⟩, ⟨2 * y, by rw [← Int.mul_assoc, Int.mul_comm q 2, Int.mul_assoc, ← hy]; omega⟩⟩
theorem dsn_dvd {M : Int} {s : DS} (h : DIn M s) (n : Nat) (h0 : (dsn n s).g = 0) : (dsn n s).f ∣ s.f ∧ (dsn n s).f ∣ s.g := by
  have key : ∀ m, m ≤ n → (dsn n s).f ∣ (dsn (n - m) s).f ∧ (dsn n s).f ∣ (dsn (n - m) s).g := by
    intro m
    induction m with
    | zero => intro _; exact ⟨Int.dvd_refl _, by rw [show n - 0 = n from rfl, h0]; exact Int.dvd_zero _⟩
    | succ m ih =>
      intro hm
      have := ih (by omega)
      rw [show n - m = (n - (m + 1)) + 1 by omega] at this
      exact ds_dvd (h.steps _).1 this.1 this.2
  have := key n (Nat.le_refl n)
  rwa [Nat.sub_self] at this
def DT (T : Nat) (s : DS) : Prop := -(T : Int) ≤ s.t ∧ (0 < s.t → s.g.natAbs * 2 ^ (s.t.toNat - 1) < 2 ^ T)
theorem DT.le {T : Nat} {s : DS} (h : DT T s) (h0 : s.g ≠ 0) : s.t ≤ T := by
  by_cases c : 0 < s.t
  · have h1 := h.2 c
    by_cases c2 : s.t ≤ T
    · exact c2
    · have : 2 ^ T ≤ 2 ^ (s.t.toNat - 1) := Nat.pow_le_pow_right (by omega) (by omega)
      have h2 : 1 * 2 ^ (s.t.toNat - 1) ≤ s.g.natAbs * 2 ^ (s.t.toNat - 1) := Nat.mul_le_mul_right _ (by omega)
      omega
  · omega
theorem DT.step {T : Nat} {M : Int} {s : DS} (hT : M < 2 ^ T) (hi : DIn M s) (h : DT T s) : DT T (ds s) := by
  have hi2 := hi.step
  have hM : ∀ x : Int, -M ≤ x → x ≤ M → x.natAbs < 2 ^ T := by
    intro x h1 h2
    have : ((2 ^ T : Nat) : Int) = 2 ^ T := by simp
    omega
  by_cases hz : s.g = 0
  · rw [ds_zero hz]
    refine ⟨by have := h.1; simp only []; omega, ?_⟩
    intro _
    simp only [Int.natAbs_zero, Nat.zero_mul]
    exact Nat.pow_pos (by omega)
  have hle := h.le hz
  by_cases c : s.g % 2 = 1 ∧ 0 < s.t
  · rw [ds_swap c.2 c.1] at hi2 ⊢
    refine ⟨by simp only []; omega, ?_⟩
    intro q
    simp only [] at q
    omega
  · by_cases c2 : s.t = 0
    · have e : (ds s).t = 1 := by unfold ds; rw [if_neg c]; split <;> simp only [] <;> omega
      refine ⟨by omega, ?_⟩
      intro _
      rw [e]
      have := hM _ hi2.2.2.2.1 hi2.2.2.2.2
      simpa using this
    · by_cases c3 : 0 < s.t
      · have c4 : ¬ s.g % 2 = 1 := fun q => c ⟨q, c3⟩
        have e : ds s = ⟨s.t + 1, s.f, s.g / 2⟩ := by unfold ds; rw [if_neg c, if_neg c4]
        rw [e]
        refine ⟨by simp only []; omega, ?_⟩
        intro _
        have h1 := h.2 c3
        simp only []
        rw [show (s.t + 1).toNat - 1 = (s.t.toNat - 1) + 1 by omega, Nat.pow_succ]
        have e2 : s.g.natAbs = (s.g / 2).natAbs * 2 := by omega
        rw [e2] at h1
        calc (s.g / 2).natAbs * (2 ^ (s.t.toNat - 1) * 2) = (s.g / 2).natAbs * 2 * 2 ^ (s.t.toNat - 1) := by rw [Nat.mul_assoc, Nat.mul_comm 2]
          _ < _ := h1
      · have e : (ds s).t = s.t + 1 := by unfold ds; rw [if_neg c]; split <;> rfl
        have := h.1
        exact ⟨by omega, fun q => by omega⟩
theorem DT.steps {T : Nat} {M : Int} {s : DS} (hT : M < 2 ^ T) (hi : DIn M s) (h : DT T s) (n : Nat) : DT T (dsn n s) := by
  induction n with
  | zero => exact h
  | succ n ih => exact ih.step hT (hi.steps n)
theorem ds_turns {M : Nat} {s : DS} (h : DIn M s) (k : Nat) (hk : 0 < k) : ∃ N, (dsn (k * N) s).g = 0 ∧ ∀ i, i < N → (dsn (k * i) s).g ≠ 0 := by
  obtain ⟨n, hn⟩ := ds_ends M s h
  have h1 : (dsn (k * n) s).g = 0 := by
    have : n ≤ k * n := Nat.le_mul_of_pos_left n hk
    rw [show k * n = n + (k * n - n) by omega, dsn_add]
    exact dsn_zero hn _
  have key : ∀ m, (dsn (k * m) s).g = 0 → ∃ N, (dsn (k * N) s).g = 0 ∧ ∀ i, i < N → (dsn (k * i) s).g ≠ 0 := by
    intro m
    induction m using Nat.strongRecOn with
    | ind m ih =>
      intro hm
      by_cases c : ∃ i, i < m ∧ (dsn (k * i) s).g = 0
      · obtain ⟨i, hi, h0⟩ := c
        exact ih i hi h0
      · exact ⟨m, hm, fun i hi h0 => c ⟨i, hi, h0⟩⟩
  exact key n h1
end Go.Proofs.Ytkkmekdhejhapaa
