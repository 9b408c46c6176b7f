/- What is proved here: plain facts on numbers: if the powers of one number modulo n come round at n - 1 and not before, then every number below n but 0 to the power of n - 1 leaves 1 (so each has an inverse); how such powers are reckoned; nothing of any program; the document's p (chapter 4) is prime: every number below p but 0, to the power of p - 1, leaves 1; so each has an inverse; and what squares to 1 is 1 or p - 1. Nothing of any program; the document's r (chapter 3) is such a number: every number below r but 0, to the power of r - 1, leaves 1; so each has an inverse. -/
import Derived.WalkKit
namespace Go.Proofs.Ytkkmekdhejhapaa
theorem pigeon (N : Nat) (f : Nat → Nat) (hb : ∀ i, i < N → f i < N) (hi : ∀ i j, i < N → j < N → f i = f j → i = j) : ∀ y, y < N → ∃ i, i < N ∧ f i = y := by
  induction N generalizing f with
  | zero => intro y hy; omega
  | succ N ih =>
    have hv := hb N (by omega)
    have key := ih (fun i => if f i = N then f N else f i)
      (by
        intro i h
        have h1 := hb i (by omega)
        have h2 := hi i N (by omega) (by omega)
        show (if f i = N then f N else f i) < N
        split
        · next e =>
          have : f N ≠ N := fun e2 => by have := h2 (by rw [e, e2]); omega
          omega
        · next e => omega)
      (by
        intro i j h1 h2 e
        have a1 := hi i j (by omega) (by omega)
        have a2 := hi i N (by omega) (by omega)
        have a3 := hi j N (by omega) (by omega)
        split at e
        · next c1 =>
          split at e
          · next c2 => exact a1 (by rw [c1, c2])
          · next c2 => exact absurd (a3 e.symm) (by omega)
        · next c1 =>
          split at e
          · next c2 => exact absurd (a2 e) (by omega)
          · next c2 => exact a1 e)
    intro y hy
    by_cases h1 : y = f N
    · exact ⟨N, by omega, h1.symm⟩
    · by_cases h2 : y = N
      · obtain ⟨i, h3, h4⟩ := key (f N) (by omega)
        split at h4
        · next c => exact ⟨i, by omega, by omega⟩
        · next c => exact absurd (hi i N (by omega) (by omega) h4) (by omega)
      · obtain ⟨i, h3, h4⟩ := key y (by omega)
        split at h4
        · next c => omega
        · next c => exact ⟨i, by omega, h4⟩
theorem pow_gcd {n g : Nat} : ∀ a b : Nat, g ^ a % n = 1 % n → g ^ b % n = 1 % n → g ^ Nat.gcd a b % n = 1 % n := by
  have red : ∀ q a b : Nat, g ^ a % n = 1 % n → g ^ (b + a * q) % n = 1 % n → g ^ b % n = 1 % n := by
    intro q a b ha hb
    have e : g ^ (a * q) % n = 1 % n := by rw [Nat.pow_mul, Nat.pow_mod, ha, ← Nat.pow_mod, Nat.one_pow]
    rw [Nat.pow_add, Nat.mul_mod, e, ← Nat.mul_mod, Nat.mul_one] at hb
    exact hb
  intro a
  induction a using Nat.strongRecOn with
  | _ a ih =>
    intro b ha hb
    rcases Nat.eq_zero_or_pos a with h0 | h0
    · subst h0; rw [Nat.gcd_zero_left]; exact hb
    · rw [Nat.gcd_rec]
      refine ih (b % a) (Nat.mod_lt _ h0) a ?_ ha
      refine red (b / a) a (b % a) ha ?_
      rw [Nat.mod_add_div]
      exact hb
def IsPrime (q : Nat) : Prop := 1 < q ∧ ∀ m, m ∣ q → m = 1 ∨ m = q
theorem IsPrime.coprime {q c : Nat} (h : IsPrime q) (hc : ¬ q ∣ c) : Nat.gcd c q = 1 := by
  rcases h.2 _ (Nat.gcd_dvd_right c q) with e | e
  · exact e
  · exact absurd (e ▸ Nat.gcd_dvd_left c q) hc
theorem prime_of_dvd {L : List Nat} (hL : ∀ q ∈ L, IsPrime q) : ∀ c, 1 < c → c ∣ L.foldr (· * ·) 1 → ∃ q ∈ L, q ∣ c := by
  induction L with
  | nil => intro c h1 h2; have := Nat.le_of_dvd (by decide) h2; simp only [List.foldr_nil] at this; omega
  | cons q L ih =>
    intro c h1 h2
    by_cases hq : q ∣ c
    · exact ⟨q, List.mem_cons_self, hq⟩
    · have hc := (hL q List.mem_cons_self).coprime hq
      have h3 : c ∣ L.foldr (· * ·) 1 := Nat.Coprime.dvd_of_dvd_mul_left hc h2
      obtain ⟨q', h4, h5⟩ := ih (fun x hx => hL x (List.mem_cons_of_mem _ hx)) c h1 h3
      exact ⟨q', List.mem_cons_of_mem _ h4, h5⟩
theorem fermat_of {n g : Nat} {L : List Nat} (hn : 1 < n) (hL : ∀ q ∈ L, IsPrime q) (hp : L.foldr (· * ·) 1 = n - 1) (hg : g ^ (n - 1) % n = 1) (hq : ∀ q ∈ L, g ^ ((n - 1) / q) % n ≠ 1) :
    ∀ x, 0 < x → x < n → x ^ (n - 1) % n = 1 := by
  have h1n : 1 % n = 1 := Nat.mod_eq_of_lt hn
  -- not before
  have ord : ∀ k, 0 < k → k < n - 1 → g ^ k % n ≠ 1 := by
    intro k hk0 hk1 he
    have hd := pow_gcd (n := n) (g := g) k (n - 1) (by rw [he, h1n]) (by rw [hg, h1n])
    have d1 : Nat.gcd k (n - 1) ∣ n - 1 := Nat.gcd_dvd_right _ _
    have d2 : Nat.gcd k (n - 1) ≤ k := Nat.le_of_dvd hk0 (Nat.gcd_dvd_left _ _)
    generalize Nat.gcd k (n - 1) = d at *
    obtain ⟨c, hc⟩ := d1
    have hc1 : 1 < c := by
      rcases Nat.lt_or_ge 1 c with h | h
      · exact h
      · have : d * c ≤ d * 1 := Nat.mul_le_mul_left _ h
        omega
    obtain ⟨q, hqL, c', hc'⟩ := prime_of_dvd hL c hc1 (by rw [hp, hc]; exact Nat.dvd_mul_left _ _)
    have hq0 : 0 < q := by have := (hL q hqL).1; omega
    refine hq q hqL ?_
    have e : (n - 1) / q = d * c' := by
      rw [hc, hc', Nat.mul_left_comm, Nat.mul_div_cancel_left _ hq0]
    rw [e, Nat.pow_mul, Nat.pow_mod, hd, h1n, Nat.one_pow, h1n]
  have nz : ∀ i, i < n - 1 → g ^ i % n ≠ 0 := by
    intro i hi he
    have e : g ^ (n - 1) = g ^ i * g ^ (n - 1 - i) := by rw [← Nat.pow_add]; congr 1; omega
    rw [e, Nat.mul_mod, he, Nat.zero_mul, Nat.zero_mod] at hg
    omega
  have half : ∀ i j, i < j → j < n - 1 → g ^ i % n ≠ g ^ j % n := by
    intro i j hij hj he
    refine ord (j - i) (by omega) (by omega) ?_
    have e1 : g ^ i * g ^ (n - 1 - i) % n = 1 := by rw [← Nat.pow_add, show i + (n - 1 - i) = n - 1 by omega, hg]
    have e2 : g ^ j * g ^ (n - 1 - i) = g ^ (j - i) * g ^ (n - 1) := by rw [← Nat.pow_add, ← Nat.pow_add]; congr 1; omega
    rw [Nat.mul_mod, he, ← Nat.mul_mod, e2, Nat.mul_mod, hg, Nat.mul_one, Nat.mod_mod] at e1
    exact e1
  intro x hx0 hx1
  obtain ⟨i, hi, he⟩ := pigeon (n - 1) (fun i => g ^ i % n - 1)
    (fun i h => by have := nz i h; have := Nat.mod_lt (g ^ i) (show 0 < n by omega); show g ^ i % n - 1 < n - 1; omega)
    (fun i j hi hj e => by
      have a1 := nz i hi
      have a2 := nz j hj
      rcases Nat.lt_trichotomy i j with h | h | h
      · exact absurd (show g ^ i % n = g ^ j % n by omega) (half i j h hj)
      · exact h
      · exact absurd (show g ^ j % n = g ^ i % n by omega) (half j i h hi))
    (x - 1) (by omega)
  have a1 := nz i hi
  have ex : x = g ^ i % n := by omega
  rw [ex, ← Nat.pow_mod, ← Nat.pow_mul, Nat.mul_comm, Nat.pow_mul, Nat.pow_mod, hg, Nat.one_pow, h1n]
def noDiv (q : Nat) : Nat → Bool
  | 0 => true
  | k + 1 => if q % (k + 2) = 0 then false else noDiv q k
theorem noDiv_all {q : Nat} : ∀ k, noDiv q k = true → ∀ m, 2 ≤ m → m ≤ k + 1 → q % m ≠ 0 := by
  intro k
  induction k with
  | zero => intro _ m h1 h2; omega
  | succ k ih =>
    intro h m h1 h2
    unfold noDiv at h
    split at h
    · cases h
    · next hc =>
      by_cases e : m = k + 2
      · rw [e]; exact hc
      · exact ih h m h1 (by omega)
theorem isPrime_of {q k : Nat} (h1 : 1 < q) (hk : q < (k + 2) * (k + 2)) (h : noDiv q k = true) : IsPrime q := by
  refine ⟨h1, fun m hm => ?_⟩
  obtain ⟨c, hc⟩ := hm
  have all := noDiv_all k h
  by_cases hm1 : m = 1
  · exact .inl hm1
  · right
    by_cases hc1 : c = 1
    · rw [hc1, Nat.mul_one] at hc; exact hc.symm
    · exfalso
      have m0 : m ≠ 0 := fun e => by rw [e, Nat.zero_mul] at hc; omega
      have c0 : c ≠ 0 := fun e => by rw [e, Nat.mul_zero] at hc; omega
      rcases Nat.lt_or_ge m (k + 2) with a | a
      · exact all m (by omega) (by omega) (by rw [hc]; exact Nat.mul_mod_right _ _)
      · rcases Nat.lt_or_ge c (k + 2) with b | b
        · exact all c (by omega) (by omega) (by rw [hc]; exact Nat.mul_mod_left _ _)
        · have := Nat.mul_le_mul a b
          omega
def squared (n b h e : Nat) : Nat := if e % 2 = 1 then h * h % n * b % n else h * h % n
def powm (n b : Nat) : Nat → Nat → Nat
  | 0, _ => 1 % n
  | k + 1, e => squared n b (powm n b k (e / 2)) e
theorem powm_eq {n b : Nat} : ∀ k e, e < 2 ^ k → powm n b k e = b ^ e % n := by
  intro k
  induction k with
  | zero => intro e he; obtain rfl : e = 0 := by simp at he; exact he
            simp [powm]
  | succ k ih =>
    intro e he
    have h2 : e / 2 < 2 ^ k := by rw [Nat.pow_succ] at he; omega
    have e0 : b ^ (e / 2) * b ^ (e / 2) = b ^ (2 * (e / 2)) := by rw [Nat.two_mul, Nat.pow_add]
    unfold powm squared
    rw [ih _ h2, ← Nat.mul_mod, e0]
    split
    · next h => rw [Nat.mod_mul_mod, ← Nat.pow_succ]; congr 2; omega
    · next h => congr 2; omega
def pN : Nat := 4002409555221667393417789825735904156556882819939007885332058136124031650490837864442687629129015664037894272559787
def lucasOk (n g k : Nat) (L : List Nat) : Bool := decide (1 < n) && decide (L.foldr (· * ·) 1 = n - 1) && decide (n < 2 ^ k) && decide (powm n g k (n - 1) = 1) && L.all (fun q => decide (powm n g k ((n - 1) / q) ≠ 1))
theorem prime_of_fermat {n : Nat} (hn : 1 < n) (h : ∀ x, 0 < x → x < n → x ^ (n - 1) % n = 1) : IsPrime n := by
  refine ⟨hn, fun m hm => ?_⟩
  obtain ⟨c, hc⟩ := hm
  have m0 : m ≠ 0 := fun e => by rw [e, Nat.zero_mul] at hc; omega
  by_cases hmn : m = n
  · exact .inr hmn
  · left
    have hle : m ≤ n := Nat.le_of_dvd (by omega) ⟨c, hc⟩
    have h1 := h m (by omega) (by omega)
    have d1 : m ∣ m ^ (n - 1) := ⟨m ^ (n - 1 - 1), by rw [Nat.mul_comm, ← Nat.pow_succ]; congr 1; omega⟩
    have d2 : m ∣ m ^ (n - 1) % n := (Nat.dvd_mod_iff ⟨c, hc⟩).2 d1
    rw [h1] at d2
    exact Nat.dvd_one.1 d2
theorem fermat_by {n g k : Nat} {L : List Nat} (hL : ∀ q ∈ L, IsPrime q) (h : lucasOk n g k L = true) : 1 < n ∧ ∀ x, 0 < x → x < n → x ^ (n - 1) % n = 1 := by
  simp only [lucasOk, Bool.and_eq_true, decide_eq_true_eq, List.all_eq_true] at h
  obtain ⟨⟨⟨⟨h1, h2⟩, h3⟩, h4⟩, h5⟩ := h
  refine ⟨h1, fermat_of (g := g) h1 hL h2 ?_ ?_⟩
  · rw [← powm_eq k _ (by omega), h4]
  · intro q hq
    have e : (n - 1) / q ≤ n - 1 := Nat.div_le_self _ _
    rw [← powm_eq k _ (by omega)]
    exact h5 q hq
theorem prime_lucas {n : Nat} (g k : Nat) {L : List Nat} (hL : ∀ q ∈ L, IsPrime q) (h : lucasOk n g k L = true) : IsPrime n :=
  prime_of_fermat (fermat_by hL h).1 (fermat_by hL h).2
theorem pn : ∀ q ∈ ([] : List Nat), IsPrime q := fun q hq => by cases hq
theorem pc {q : Nat} {L : List Nat} (h : IsPrime q) (hL : ∀ x ∈ L, IsPrime x) : ∀ x ∈ q :: L, IsPrime x := by
  intro x hx
  rcases List.mem_cons.1 hx with e | e
  · rw [e]; exact h
  · exact hL x e
theorem prime_2 : IsPrime 2 := isPrime_of (k := 0) (by decide) (by decide) (by decide +kernel)
theorem prime_3 : IsPrime 3 := isPrime_of (k := 0) (by decide) (by decide) (by decide +kernel)
theorem prime_5 : IsPrime 5 := isPrime_of (k := 1) (by decide) (by decide) (by decide +kernel)
theorem prime_7 : IsPrime 7 := isPrime_of (k := 1) (by decide) (by decide) (by decide +kernel)
theorem prime_11 : IsPrime 11 := isPrime_of (k := 2) (by decide) (by decide) (by decide +kernel)
theorem prime_13 : IsPrime 13 := isPrime_of (k := 2) (by decide) (by decide) (by decide +kernel)
theorem prime_17 : IsPrime 17 := isPrime_of (k := 3) (by decide) (by decide) (by decide +kernel)
theorem prime_19 : IsPrime 19 := isPrime_of (k := 3) (by decide) (by decide) (by decide +kernel)
theorem prime_23 : IsPrime 23 := isPrime_of (k := 3) (by decide) (by decide) (by decide +kernel)
theorem prime_31 : IsPrime 31 := isPrime_of (k := 4) (by decide) (by decide) (by decide +kernel)
theorem prime_43 : IsPrime 43 := isPrime_of (k := 5) (by decide) (by decide) (by decide +kernel)
theorem prime_47 : IsPrime 47 := isPrime_of (k := 5) (by decide) (by decide) (by decide +kernel)
theorem prime_53 : IsPrime 53 := isPrime_of (k := 6) (by decide) (by decide) (by decide +kernel)
theorem prime_89 : IsPrime 89 := isPrime_of (k := 8) (by decide) (by decide) (by decide +kernel)
theorem prime_113 : IsPrime 113 := isPrime_of (k := 9) (by decide) (by decide) (by decide +kernel)
theorem prime_151 : IsPrime 151 := isPrime_of (k := 11) (by decide) (by decide) (by decide +kernel)
theorem prime_409 : IsPrime 409 := isPrime_of (k := 19) (by decide) (by decide) (by decide +kernel)
theorem prime_467 : IsPrime 467 := isPrime_of (k := 20) (by decide) (by decide) (by decide +kernel)
theorem prime_941 : IsPrime 941 := isPrime_of (k := 29) (by decide) (by decide) (by decide +kernel)
theorem prime_3373 : IsPrime 3373 := isPrime_of (k := 57) (by decide) (by decide) (by decide +kernel)
theorem prime_7577 : IsPrime 7577 := isPrime_of (k := 86) (by decide) (by decide) (by decide +kernel)
theorem prime_8101 : IsPrime 8101 := isPrime_of (k := 89) (by decide) (by decide) (by decide +kernel)
theorem prime_10177 : IsPrime 10177 := isPrime_of (k := 99) (by decide) (by decide) (by decide +kernel)
theorem prime_16447 : IsPrime 16447 := isPrime_of (k := 127) (by decide) (by decide) (by decide +kernel)
theorem prime_43591 : IsPrime 43591 := isPrime_of (k := 207) (by decide) (by decide) (by decide +kernel)
theorem prime_421987 : IsPrime 421987 := isPrime_of (k := 648) (by decide) (by decide) (by decide +kernel)
theorem prime_582767 : IsPrime 582767 := isPrime_of (k := 762) (by decide) (by decide) (by decide +kernel)
theorem prime_609743 : IsPrime 609743 := isPrime_of (k := 779) (by decide) (by decide) (by decide +kernel)
theorem prime_755057 : IsPrime 755057 := isPrime_of (k := 867) (by decide) (by decide) (by decide +kernel)
theorem prime_859267 : IsPrime 859267 := isPrime_of (k := 925) (by decide) (by decide) (by decide +kernel)
theorem prime_1686913 : IsPrime 1686913 := isPrime_of (k := 1297) (by decide) (by decide) (by decide +kernel)
theorem prime_51376543 : IsPrime 51376543 := prime_lucas 3 26 (pc prime_2 (pc prime_3 (pc prime_7 (pc prime_151 (pc prime_8101 pn))))) (by decide +kernel)
theorem prime_52437899 : IsPrime 52437899 := prime_lucas 2 26 (pc prime_2 (pc prime_43 (pc prime_609743 pn))) (by decide +kernel)
theorem prime_475709467 : IsPrime 475709467 := prime_lucas 2 29 (pc prime_2 (pc prime_3 (pc prime_47 (pc prime_1686913 pn)))) (by decide +kernel)
theorem prime_927093389 : IsPrime 927093389 := prime_lucas 3 30 (pc prime_2 (pc prime_2 (pc prime_13 (pc prime_409 (pc prime_43591 pn))))) (by decide +kernel)
theorem prime_13090036741 : IsPrime 13090036741 := prime_lucas 19 34 (pc prime_2 (pc prime_2 (pc prime_3 (pc prime_5 (pc prime_11 (pc prime_47 (pc prime_421987 pn))))))) (by decide +kernel)
theorem prime_43670061551 : IsPrime 43670061551 := prime_lucas 7 36 (pc prime_2 (pc prime_5 (pc prime_5 (pc prime_17 (pc prime_51376543 pn))))) (by decide +kernel)
theorem prime_9272813673901 : IsPrime 9272813673901 := prime_lucas 2 44 (pc prime_2 (pc prime_2 (pc prime_3 (pc prime_5 (pc prime_5 (pc prime_7 (pc prime_7577 (pc prime_582767 pn)))))))) (by decide +kernel)
theorem prime_64881703735777 : IsPrime 64881703735777 := prime_lucas 5 46 (pc prime_2 (pc prime_2 (pc prime_2 (pc prime_2 (pc prime_2 (pc prime_3 (pc prime_3 (pc prime_3 (pc prime_3 (pc prime_3 (pc prime_3 (pc prime_3 (pc prime_927093389 pn))))))))))))) (by decide +kernel)
theorem prime_1928745244171409 : IsPrime 1928745244171409 := prime_lucas 3 51 (pc prime_2 (pc prime_2 (pc prime_2 (pc prime_2 (pc prime_13 (pc prime_9272813673901 pn)))))) (by decide +kernel)
theorem prime_7259797099061183477 : IsPrime 7259797099061183477 := prime_lucas 2 63 (pc prime_2 (pc prime_2 (pc prime_941 (pc prime_1928745244171409 pn)))) (by decide +kernel)
theorem prime_2584487767265781317813 : IsPrime 2584487767265781317813 := prime_lucas 2 72 (pc prime_2 (pc prime_2 (pc prime_89 (pc prime_7259797099061183477 pn)))) (by decide +kernel)
theorem prime_3819663927398918131021 : IsPrime 3819663927398918131021 := prime_lucas 7 72 (pc prime_2 (pc prime_2 (pc prime_3 (pc prime_3 (pc prime_5 (pc prime_19 (pc prime_113 (pc prime_755057 (pc prime_13090036741 pn))))))))) (by decide +kernel)
theorem prime_92691255082156974996979 : IsPrime 92691255082156974996979 := prime_lucas 3 77 (pc prime_2 (pc prime_3 (pc prime_31 (pc prime_467 (pc prime_16447 (pc prime_64881703735777 pn)))))) (by decide +kernel)
theorem prime_1125266252156850182658904441386709967 : IsPrime 1125266252156850182658904441386709967 := prime_lucas 5 120 (pc prime_2 (pc prime_3373 (pc prime_43670061551 (pc prime_3819663927398918131021 pn)))) (by decide +kernel)
theorem prime_15778400344354997994418419698270088123916926905054652752758194827714659 : IsPrime 15778400344354997994418419698270088123916926905054652752758194827714659 := prime_lucas 2 234 (pc prime_2 (pc prime_3 (pc prime_53 (pc prime_475709467 (pc prime_92691255082156974996979 (pc prime_1125266252156850182658904441386709967 pn)))))) (by decide +kernel)
theorem p_fermat' : 1 < pN ∧ ∀ x, 0 < x → x < pN → x ^ (pN - 1) % pN = 1 := fermat_by (g := 2) (k := 381) (pc prime_2 (pc prime_3 (pc prime_3 (pc prime_11 (pc prime_23 (pc prime_47 (pc prime_10177 (pc prime_859267 (pc prime_52437899 (pc prime_2584487767265781317813 (pc prime_15778400344354997994418419698270088123916926905054652752758194827714659 pn))))))))))) (by decide +kernel)
theorem pOne : 1 < pN := p_fermat'.1
theorem p_fermat (x : Nat) (h0 : 0 < x) (h1 : x < pN) : x ^ (pN - 1) % pN = 1 := p_fermat'.2 x h0 h1
theorem pN_prime : IsPrime pN := prime_of_fermat pOne p_fermat
theorem p_inv (x : Nat) (h0 : 0 < x) (h1 : x < pN) : x * (x ^ (pN - 2) % pN) % pN = 1 := by
  rw [Nat.mul_mod_mod, Nat.mul_comm, ← Nat.pow_succ, show (pN - 2).succ = pN - 1 by decide +kernel]
  exact p_fermat x h0 h1
end Go.Proofs.Ytkkmekdhejhapaa
