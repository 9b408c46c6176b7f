/- What is proved here: the document's p (chapter 4) is prime: every number below p but 0, to the power of p - 1, leaves 1; so each has an inverse; and what squares to 1 is 1 or p - 1. Nothing of any program. -/
import Derived.Test.YtpjkcdkhfjcojaaPrime
namespace Go.Proofs.Ytpjkcdkhfjcojaa

/-- The field of the curves. -/
def pN : Nat := 4002409555221667393417789825735904156556882819939007885332058136124031650490837864442687629129015664037894272559787

/-- What is reckoned. -/
def lucasOk (n g k : Nat) (L : List Nat) : Bool := decide (1 < n) && decide (L.foldr (· * ·) 1 = n - 1) && decide (n < 2 ^ k) && decide (powm n g k (n - 1) = 1) && L.all (fun q => decide (powm n g k ((n - 1) / q) ≠ 1))

/-- A number is prime if every one below it but 0 leaves 1. -/
theorem prime_of_fermat {n : Nat} (hn : 1 < n) (h : ∀ x, 0 < x → x < n → x ^ (n - 1) % n = 1) : IsPrime n := by
  refine ⟨hn, fun m hm => ?_⟩
  obtain ⟨c, hc⟩ := hm
  have m0 : m ≠ 0 := fun e => by rw [e, Nat.zero_mul] at hc; omega
  by_cases hmn : m = n
  · exact .inr hmn
  · left
    have hle : m ≤ n := Nat.le_of_dvd (by omega) ⟨c, hc⟩
    have h1 := h m (by omega) (by omega)
    have d1 : m ∣ m ^ (n - 1) := ⟨m ^ (n - 1 - 1), by rw [Nat.mul_comm, ← Nat.pow_succ]; congr 1; omega⟩
    have d2 : m ∣ m ^ (n - 1) % n := (Nat.dvd_mod_iff ⟨c, hc⟩).2 d1
    rw [h1] at d2
    exact Nat.dvd_one.1 d2

theorem fermat_by {n g k : Nat} {L : List Nat} (hL : ∀ q ∈ L, IsPrime q) (h : lucasOk n g k L = true) : 1 < n ∧ ∀ x, 0 < x → x < n → x ^ (n - 1) % n = 1 := by
  simp only [lucasOk, Bool.and_eq_true, decide_eq_true_eq, List.all_eq_true] at h
  obtain ⟨⟨⟨⟨h1, h2⟩, h3⟩, h4⟩, h5⟩ := h
  refine ⟨h1, fermat_of (g := g) h1 hL h2 ?_ ?_⟩
  · rw [← powm_eq k _ (by omega), h4]
  · intro q hq
    have e : (n - 1) / q ≤ n - 1 := Nat.div_le_self _ _
    rw [← powm_eq k _ (by omega)]
    exact h5 q hq

theorem prime_lucas {n : Nat} (g k : Nat) {L : List Nat} (hL : ∀ q ∈ L, IsPrime q) (h : lucasOk n g k L = true) : IsPrime n :=
  prime_of_fermat (fermat_by hL h).1 (fermat_by hL h).2

theorem pn : ∀ q ∈ ([] : List Nat), IsPrime q := fun q hq => by cases hq
theorem pc {q : Nat} {L : List Nat} (h : IsPrime q) (hL : ∀ x ∈ L, IsPrime x) : ∀ x ∈ q :: L, IsPrime x := by
  intro x hx
  rcases List.mem_cons.1 hx with e | e
  · rw [e]; exact h
  · exact hL x e

theorem prime_2 : IsPrime 2 := isPrime_of (k := 0) (by decide) (by decide) (by decide +kernel)
theorem prime_3 : IsPrime 3 := isPrime_of (k := 0) (by decide) (by decide) (by decide +kernel)
theorem prime_5 : IsPrime 5 := isPrime_of (k := 1) (by decide) (by decide) (by decide +kernel)
theorem prime_7 : IsPrime 7 := isPrime_of (k := 1) (by decide) (by decide) (by decide +kernel)
theorem prime_11 : IsPrime 11 := isPrime_of (k := 2) (by decide) (by decide) (by decide +kernel)
theorem prime_13 : IsPrime 13 := isPrime_of (k := 2) (by decide) (by decide) (by decide +kernel)
theorem prime_17 : IsPrime 17 := isPrime_of (k := 3) (by decide) (by decide) (by decide +kernel)
theorem prime_19 : IsPrime 19 := isPrime_of (k := 3) (by decide) (by decide) (by decide +kernel)
theorem prime_23 : IsPrime 23 := isPrime_of (k := 3) (by decide) (by decide) (by decide +kernel)
theorem prime_31 : IsPrime 31 := isPrime_of (k := 4) (by decide) (by decide) (by decide +kernel)
theorem prime_43 : IsPrime 43 := isPrime_of (k := 5) (by decide) (by decide) (by decide +kernel)
theorem prime_47 : IsPrime 47 := isPrime_of (k := 5) (by decide) (by decide) (by decide +kernel)
theorem prime_53 : IsPrime 53 := isPrime_of (k := 6) (by decide) (by decide) (by decide +kernel)
theorem prime_89 : IsPrime 89 := isPrime_of (k := 8) (by decide) (by decide) (by decide +kernel)
theorem prime_113 : IsPrime 113 := isPrime_of (k := 9) (by decide) (by decide) (by decide +kernel)
theorem prime_151 : IsPrime 151 := isPrime_of (k := 11) (by decide) (by decide) (by decide +kernel)
theorem prime_409 : IsPrime 409 := isPrime_of (k := 19) (by decide) (by decide) (by decide +kernel)
theorem prime_467 : IsPrime 467 := isPrime_of (k := 20) (by decide) (by decide) (by decide +kernel)
theorem prime_941 : IsPrime 941 := isPrime_of (k := 29) (by decide) (by decide) (by decide +kernel)
theorem prime_3373 : IsPrime 3373 := isPrime_of (k := 57) (by decide) (by decide) (by decide +kernel)
theorem prime_7577 : IsPrime 7577 := isPrime_of (k := 86) (by decide) (by decide) (by decide +kernel)
theorem prime_8101 : IsPrime 8101 := isPrime_of (k := 89) (by decide) (by decide) (by decide +kernel)
theorem prime_10177 : IsPrime 10177 := isPrime_of (k := 99) (by decide) (by decide) (by decide +kernel)
theorem prime_16447 : IsPrime 16447 := isPrime_of (k := 127) (by decide) (by decide) (by decide +kernel)
theorem prime_43591 : IsPrime 43591 := isPrime_of (k := 207) (by decide) (by decide) (by decide +kernel)
theorem prime_421987 : IsPrime 421987 := isPrime_of (k := 648) (by decide) (by decide) (by decide +kernel)
theorem prime_582767 : IsPrime 582767 := isPrime_of (k := 762) (by decide) (by decide) (by decide +kernel)
theorem prime_609743 : IsPrime 609743 := isPrime_of (k := 779) (by decide) (by decide) (by decide +kernel)
theorem prime_755057 : IsPrime 755057 := isPrime_of (k := 867) (by decide) (by decide) (by decide +kernel)
theorem prime_859267 : IsPrime 859267 := isPrime_of (k := 925) (by decide) (by decide) (by decide +kernel)
theorem prime_1686913 : IsPrime 1686913 := isPrime_of (k := 1297) (by decide) (by decide) (by decide +kernel)
theorem prime_51376543 : IsPrime 51376543 := prime_lucas 3 26 (pc prime_2 (pc prime_3 (pc prime_7 (pc prime_151 (pc prime_8101 pn))))) (by decide +kernel)
theorem prime_52437899 : IsPrime 52437899 := prime_lucas 2 26 (pc prime_2 (pc prime_43 (pc prime_609743 pn))) (by decide +kernel)
theorem prime_475709467 : IsPrime 475709467 := prime_lucas 2 29 (pc prime_2 (pc prime_3 (pc prime_47 (pc prime_1686913 pn)))) (by decide +kernel)
theorem prime_927093389 : IsPrime 927093389 := prime_lucas 3 30 (pc prime_2 (pc prime_2 (pc prime_13 (pc prime_409 (pc prime_43591 pn))))) (by decide +kernel)
theorem prime_13090036741 : IsPrime 13090036741 := prime_lucas 19 34 (pc prime_2 (pc prime_2 (pc prime_3 (pc prime_5 (pc prime_11 (pc prime_47 (pc prime_421987 pn))))))) (by decide +kernel)
theorem prime_43670061551 : IsPrime 43670061551 := prime_lucas 7 36 (pc prime_2 (pc prime_5 (pc prime_5 (pc prime_17 (pc prime_51376543 pn))))) (by decide +kernel)
theorem prime_9272813673901 : IsPrime 9272813673901 := prime_lucas 2 44 (pc prime_2 (pc prime_2 (pc prime_3 (pc prime_5 (pc prime_5 (pc prime_7 (pc prime_7577 (pc prime_582767 pn)))))))) (by decide +kernel)
theorem prime_64881703735777 : IsPrime 64881703735777 := prime_lucas 5 46 (pc prime_2 (pc prime_2 (pc prime_2 (pc prime_2 (pc prime_2 (pc prime_3 (pc prime_3 (pc prime_3 (pc prime_3 (pc prime_3 (pc prime_3 (pc prime_3 (pc prime_927093389 pn))))))))))))) (by decide +kernel)
theorem prime_1928745244171409 : IsPrime 1928745244171409 := prime_lucas 3 51 (pc prime_2 (pc prime_2 (pc prime_2 (pc prime_2 (pc prime_13 (pc prime_9272813673901 pn)))))) (by decide +kernel)
theorem prime_7259797099061183477 : IsPrime 7259797099061183477 := prime_lucas 2 63 (pc prime_2 (pc prime_2 (pc prime_941 (pc prime_1928745244171409 pn)))) (by decide +kernel)
theorem prime_2584487767265781317813 : IsPrime 2584487767265781317813 := prime_lucas 2 72 (pc prime_2 (pc prime_2 (pc prime_89 (pc prime_7259797099061183477 pn)))) (by decide +kernel)
theorem prime_3819663927398918131021 : IsPrime 3819663927398918131021 := prime_lucas 7 72 (pc prime_2 (pc prime_2 (pc prime_3 (pc prime_3 (pc prime_5 (pc prime_19 (pc prime_113 (pc prime_755057 (pc prime_13090036741 pn))))))))) (by decide +kernel)
theorem prime_92691255082156974996979 : IsPrime 92691255082156974996979 := prime_lucas 3 77 (pc prime_2 (pc prime_3 (pc prime_31 (pc prime_467 (pc prime_16447 (pc prime_64881703735777 pn)))))) (by decide +kernel)
theorem prime_1125266252156850182658904441386709967 : IsPrime 1125266252156850182658904441386709967 := prime_lucas 5 120 (pc prime_2 (pc prime_3373 (pc prime_43670061551 (pc prime_3819663927398918131021 pn)))) (by decide +kernel)
theorem prime_15778400344354997994418419698270088123916926905054652752758194827714659 : IsPrime 15778400344354997994418419698270088123916926905054652752758194827714659 := prime_lucas 2 234 (pc prime_2 (pc prime_3 (pc prime_53 (pc prime_475709467 (pc prime_92691255082156974996979 (pc prime_1125266252156850182658904441386709967 pn)))))) (by decide +kernel)

theorem p_fermat' : 1 < pN ∧ ∀ x, 0 < x → x < pN → x ^ (pN - 1) % pN = 1 := fermat_by (g := 2) (k := 381) (pc prime_2 (pc prime_3 (pc prime_3 (pc prime_11 (pc prime_23 (pc prime_47 (pc prime_10177 (pc prime_859267 (pc prime_52437899 (pc prime_2584487767265781317813 (pc prime_15778400344354997994418419698270088123916926905054652752758194827714659 pn))))))))))) (by decide +kernel)

theorem pOne : 1 < pN := p_fermat'.1

/-- Fermat's little theorem at p. -/
theorem p_fermat (x : Nat) (h0 : 0 < x) (h1 : x < pN) : x ^ (pN - 1) % pN = 1 := p_fermat'.2 x h0 h1

theorem pN_prime : IsPrime pN := prime_of_fermat pOne p_fermat

theorem p_inv (x : Nat) (h0 : 0 < x) (h1 : x < pN) : x * (x ^ (pN - 2) % pN) % pN = 1 := by
  rw [Nat.mul_mod_mod, Nat.mul_comm, ← Nat.pow_succ, show (pN - 2).succ = pN - 1 by decide +kernel]
  exact p_fermat x h0 h1

theorem p_self (x : Nat) (h1 : x < pN) : x ^ pN % pN = x := by
  rcases Nat.eq_zero_or_pos x with h | h
  · subst h; rw [Nat.zero_pow (by decide +kernel)]; exact Nat.zero_mod _
  · have e : x ^ pN = x ^ (pN - 1) * x := by
      rw [← Nat.pow_succ]; congr 1
    rw [e, Nat.mul_mod, p_fermat x h h1, Nat.one_mul, Nat.mod_mod, Nat.mod_eq_of_lt h1]
end Go.Proofs.Ytpjkcdkhfjcojaa
