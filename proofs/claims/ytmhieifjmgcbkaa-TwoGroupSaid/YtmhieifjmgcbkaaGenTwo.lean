/- What is proved here: r times the generator of the second curve is at infinity; no point of the second curve has the second number 0. -/
import Derived.Test.YtmhieifjmgcbkaaGenOne
namespace Go.Proofs.Ytmhieifjmgcbkaa
open Go.RowKit Cv

/-- 4 + 4 u. -/
def b2 : Zq := fq 4 4
theorem b2_ne : b2 ≠ 0 := fun h => four_ne (congrArg Zq.re h)
instance : DecidableEq Zq := fun x y => decidable_of_iff (x.re = y.re ∧ x.im = y.im) ⟨fun h => Zq.ext' h.1 h.2, fun h => by rw [h]; exact ⟨rfl, rfl⟩⟩
/-- The second curve. -/
def C2 : Cu Zq b2 := ⟨FdQ, b2_ne⟩
abbrev E2 : Type := EP b2

/-! ### no point has the second number 0 -/

def qn (a : Zq) : Zp := a.re * a.re + a.im * a.im
theorem qn_mul (a b : Zq) : qn (a * b) = qn a * qn b := by
  unfold qn
  rw [Zq.re_mul, Zq.im_mul]
  grind
theorem no_cube {c : Nat} (_hc : c < pN) (h0 : fz c ≠ 0) (h : powm pN c 381 ((pN - 1) / 3) ≠ 1) (n : Zp) : n * n * n ≠ fz c := fun he => by
  have h1 : fz (n.val * n.val * n.val) = n * n * n := by
    have h2 := fz_mul (n.val * n.val) n.val
    have h3 := fz_mul n.val n.val
    have h4 : fz (pMul (n.val * n.val) n.val) = fz (n.val * n.val * n.val) := fz_ext (Nat.mod_mod _ _)
    have h5 : fz (pMul n.val n.val) = fz (n.val * n.val) := fz_ext (Nat.mod_mod _ _)
    rw [← h4, h2, ← h5, h3, fz_of]
  rw [he] at h1
  have h2 : n.val * n.val * n.val % pN = c % pN := by
    have := congrArg Fin.val h1
    rwa [fz_val, fz_val] at this
  have hn : n ≠ 0 := fun e => h0 (by rw [← he, e, Fin.mul_zero])
  have hn0 : 0 < n.val := Nat.pos_of_ne_zero fun e => hn (Fin.ext e)
  have h3 := p_fermat n.val hn0 n.isLt
  obtain ⟨m, hm⟩ : ∃ m, m = (pN - 1) / 3 := ⟨_, rfl⟩
  have hm3 : 3 * m = pN - 1 := by rw [hm]; decide +kernel
  have h4 : (n.val * n.val * n.val) ^ m % pN = c ^ m % pN := by rw [Nat.pow_mod, h2, ← Nat.pow_mod]
  have h5 : n.val * n.val * n.val = n.val ^ 3 := by rw [Nat.pow_succ, Nat.pow_succ, Nat.pow_succ, Nat.pow_zero, Nat.one_mul]
  rw [h5, ← Nat.pow_mul, hm3, h3] at h4
  refine h ?_
  rw [powm_eq 381 _ (by decide +kernel), ← hm]
  exact h4.symm
theorem qn_neg (a : Zq) : qn (-a) = qn a := by
  unfold qn
  rw [Zq.re_neg, Zq.im_neg]
  grind
theorem qn_b2 : qn b2 = fz 32 := by decide +kernel
theorem hN2 : NoZero b2 := fun x h => by
  have e : x * x * x = -b2 := by
    generalize b2 = c at h
    grind
  have h1 := congrArg qn e
  rw [qn_mul, qn_mul, qn_neg, qn_b2] at h1
  exact no_cube (c := 32) (by decide +kernel) (by decide +kernel) (by decide +kernel) (qn x) h1

end Go.Proofs.Ytmhieifjmgcbkaa
