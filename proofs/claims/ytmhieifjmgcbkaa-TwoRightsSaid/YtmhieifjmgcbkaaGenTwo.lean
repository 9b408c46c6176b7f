/- What is proved here: r times the generator of the first curve is at infinity; r times the generator of the second curve is at infinity; no point of the second curve has the second number 0. -/
import Derived.Test.YtmhieifjmgcbkaaField
import Derived.Test.YtmhieifjmgcbkaaCurve
namespace Go.Proofs.Ytmhieifjmgcbkaa
section
open Go.RowKit Cv

theorem four_ne : (4 : Zp) ≠ 0 := by decide +kernel
/-- The first curve. -/
def C1 : Cu Zp (4 : Zp) := ⟨FdP, four_ne⟩
abbrev E1 : Type := EP (4 : Zp)

theorem fz_minus {a : Nat} (h : a < pN) : fz (pN - a) = -fz a := by
  rw [← fz_neg]
  exact fz_ext (by rw [pNeg, Nat.mod_mod, Nat.mod_eq_of_lt h])
end

section
open Go.RowKit Cv

/-- 4 + 4 u. -/
def b2 : Zq := fq 4 4
theorem b2_ne : b2 ≠ 0 := fun h => four_ne (congrArg Zq.re h)
instance : DecidableEq Zq := fun x y => decidable_of_iff (x.re = y.re ∧ x.im = y.im) ⟨fun h => Zq.ext' h.1 h.2, fun h => by rw [h]; exact ⟨rfl, rfl⟩⟩
/-- The second curve. -/
def C2 : Cu Zq b2 := ⟨FdQ, b2_ne⟩
abbrev E2 : Type := EP b2

def qadd (a b : Nat × Nat) : Nat × Nat := (pAdd a.1 b.1, pAdd a.2 b.2)
def qsub (a b : Nat × Nat) : Nat × Nat := (pSub a.1 b.1, pSub a.2 b.2)
def qmul (a b : Nat × Nat) : Nat × Nat := (pSub (pMul a.1 b.1) (pMul a.2 b.2), pAdd (pMul a.1 b.2) (pMul a.2 b.1))
/-- The inverse, tried. -/
def qinv (a : Nat × Nat) : Nat × Nat :=
  let i := einv pN 800 (pAdd (pMul a.1 a.1) (pMul a.2 a.2)) pN 1 0
  (pMul a.1 i, pNeg (pMul a.2 i))
def fq2 (a : Nat × Nat) : Zq := fq a.1 a.2
theorem fq2_add (a b : Nat × Nat) : fq2 (qadd a b) = fq2 a + fq2 b := Zq.ext' (fz_add _ _) (fz_add _ _)
theorem fq2_sub (a b : Nat × Nat) : fq2 (qsub a b) = fq2 a - fq2 b := Zq.ext' (fz_sub _ _) (fz_sub _ _)
theorem fq2_mul (a b : Nat × Nat) : fq2 (qmul a b) = fq2 a * fq2 b := Zq.ext' (by
  rw [Zq.re_mul]
  show fz (pSub _ _) = fz a.1 * fz b.1 - fz a.2 * fz b.2
  rw [fz_sub, fz_mul, fz_mul]) (by
  rw [Zq.im_mul]
  show fz (pAdd _ _) = fz a.1 * fz b.2 + fz a.2 * fz b.1
  rw [fz_add, fz_mul, fz_mul])
def codQ : Cod Zq (Nat × Nat) := ⟨fq2, qadd, qsub, qmul, qinv, (1, 0), fun a b => a.1 % pN == b.1 % pN && a.2 % pN == b.2 % pN, fq2_add, fq2_sub, fq2_mul, rfl, fun _ _ h => by
  rw [Bool.and_eq_true, beq_iff_eq, beq_iff_eq] at h
  exact Zq.ext' (fz_ext h.1) (fz_ext h.2)⟩

def g2x : Nat × Nat := (0x024AA2B2F08F0A91260805272DC51051C6E47AD4FA403B02B4510B647AE3D1770BAC0326A805BBEFD48056C8C121BDB8, 0x13E02B6052719F607DACD3A088274F65596BD0D09920B61AB5DA61BBDC7F5049334CF11213945D57E5AC7D055D042B7E)
def g2y : Nat × Nat := (0x0CE5D527727D6E118CC9CDC6DA2E351AADFD9BAA8CBDD3A76D429A695160D12C923AC9CC3BACA289E193548608B82801, 0x0606C4A02EA734CC32ACD2B02BC28B99CB3E287E85A763AF267492AB572E99AB3F370D275CEC1DA1AAA9075FF05F79BE)

theorem g2_on : On b2 (.aff (fq2 g2x) (fq2 g2y)) := by
  show fq2 g2y * fq2 g2y = fq2 g2x * fq2 g2x * fq2 g2x + fq2 (4, 4)
  rw [← fq2_mul, ← fq2_mul, ← fq2_mul, ← fq2_add]
  exact congrArg fq2 (by decide +kernel)
def G2 : E2 := ⟨.aff (fq2 g2x) (fq2 g2y), g2_on⟩

theorem g2_go : codQ.go (g2x, g2y) 260 (rN - 1) = some (g2x, (pN - g2y.1, pN - g2y.2)) := by decide +kernel

theorem g2_order : EP.times C2 rN G2 = EP.zero := by
  have h := Cod.go_ok codQ C2 (G := G2) (g := (g2x, g2y)) rfl 260 (rN - 1) _ g2_go
  have e : rN = rN - 1 + 1 := by decide +kernel
  rw [e]
  show (EP.times C2 (rN - 1) G2).add C2 G2 = _
  refine EP.of_sum C2 ?_
  rw [h]
  exact .inl ⟨rfl, Zq.ext' (fz_minus (by decide +kernel)) (fz_minus (by decide +kernel)), rfl⟩

/-! ### no point has the second number 0 -/

def qn (a : Zq) : Zp := a.re * a.re + a.im * a.im
theorem qn_mul (a b : Zq) : qn (a * b) = qn a * qn b := by
  unfold qn
  rw [Zq.re_mul, Zq.im_mul]
  grind
theorem no_cube {c : Nat} (_hc : c < pN) (h0 : fz c ≠ 0) (h : powm pN c 381 ((pN - 1) / 3) ≠ 1) (n : Zp) : n * n * n ≠ fz c := fun he => by
  have h1 : fz (n.val * n.val * n.val) = n * n * n := by
    have h2 := fz_mul (n.val * n.val) n.val
    have h3 := fz_mul n.val n.val
    have h4 : fz (pMul (n.val * n.val) n.val) = fz (n.val * n.val * n.val) := fz_ext (Nat.mod_mod _ _)
    have h5 : fz (pMul n.val n.val) = fz (n.val * n.val) := fz_ext (Nat.mod_mod _ _)
    rw [← h4, h2, ← h5, h3, fz_of]
  rw [he] at h1
  have h2 : n.val * n.val * n.val % pN = c % pN := by
    have := congrArg Fin.val h1
    rwa [fz_val, fz_val] at this
  have hn : n ≠ 0 := fun e => h0 (by rw [← he, e, Fin.mul_zero])
  have hn0 : 0 < n.val := Nat.pos_of_ne_zero fun e => hn (Fin.ext e)
  have h3 := p_fermat n.val hn0 n.isLt
  obtain ⟨m, hm⟩ : ∃ m, m = (pN - 1) / 3 := ⟨_, rfl⟩
  have hm3 : 3 * m = pN - 1 := by rw [hm]; decide +kernel
  have h4 : (n.val * n.val * n.val) ^ m % pN = c ^ m % pN := by rw [Nat.pow_mod, h2, ← Nat.pow_mod]
  have h5 : n.val * n.val * n.val = n.val ^ 3 := by rw [Nat.pow_succ, Nat.pow_succ, Nat.pow_succ, Nat.pow_zero, Nat.one_mul]
  rw [h5, ← Nat.pow_mul, hm3, h3] at h4
  refine h ?_
  rw [powm_eq 381 _ (by decide +kernel), ← hm]
  exact h4.symm
theorem qn_neg (a : Zq) : qn (-a) = qn a := by
  unfold qn
  rw [Zq.re_neg, Zq.im_neg]
  grind
theorem qn_b2 : qn b2 = fz 32 := by decide +kernel
theorem hN2 : NoZero b2 := fun x h => by
  have e : x * x * x = -b2 := by
    generalize b2 = c at h
    grind
  have h1 := congrArg qn e
  rw [qn_mul, qn_mul, qn_neg, qn_b2] at h1
  exact no_cube (c := 32) (by decide +kernel) (by decide +kernel) (by decide +kernel) (qn x) h1
end
end Go.Proofs.Ytmhieifjmgcbkaa
