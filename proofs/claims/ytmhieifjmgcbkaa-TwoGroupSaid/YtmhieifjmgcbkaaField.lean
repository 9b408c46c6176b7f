/- What is proved here: the numbers below p as a field (Zp), and those with u (Zq); what the functions on numbers are there. -/
import Derived.Test.YtmhieifjmgcbkaaDuo1
import Derived.Test.YtmhieifjmgcbkaaCurve
namespace Go.Proofs.Ytmhieifjmgcbkaa
open Go.RowKit

instance : NeZero pN := ⟨by decide +kernel⟩
abbrev Zp : Type := Fin pN
/-- A number, modulo p. -/
def fz (a : Nat) : Zp := Fin.ofNat pN a

theorem fz_val (a : Nat) : (fz a).val = a % pN := rfl
theorem fz_ext {a b : Nat} (h : a % pN = b % pN) : fz a = fz b := Fin.ext h
theorem fz_cl (a : Nat) : fz (pCl a) = fz a := fz_ext (Nat.mod_mod _ _)
theorem fz_add (a b : Nat) : fz (pAdd a b) = fz a + fz b := Fin.ext (by
  rw [Fin.val_add, fz_val, fz_val, fz_val, pAdd, Nat.mod_mod, ← Nat.add_mod])
theorem fz_mul (a b : Nat) : fz (pMul a b) = fz a * fz b := Fin.ext (by
  rw [Fin.val_mul, fz_val, fz_val, fz_val, pMul, Nat.mod_mod, ← Nat.mul_mod])
theorem fz_neg (a : Nat) : fz (pNeg a) = - fz a := Fin.ext (by
  rw [Fin.val_neg', fz_val, fz_val, pNeg, Nat.mod_mod])
theorem fz_sub (a b : Nat) : fz (pSub a b) = fz a - fz b := Fin.ext (by
  rw [Fin.sub_def, fz_val]
  show pSub a b % pN = (pN - (fz b).val + (fz a).val) % pN
  rw [fz_val, fz_val, pSub, Nat.mod_mod, Nat.add_mod_mod, Nat.add_comm])
theorem fz_inj {a b : Nat} (ha : a < pN) (hb : b < pN) (h : fz a = fz b) : a = b := by
  have := congrArg Fin.val h
  rwa [fz_val, fz_val, Nat.mod_eq_of_lt ha, Nat.mod_eq_of_lt hb] at this
theorem fz_of (x : Zp) : fz x.val = x := Fin.ext (by rw [fz_val, Nat.mod_eq_of_lt x.isLt])
theorem fz_zero {a : Nat} (ha : a < pN) : fz a = 0 ↔ a = 0 := ⟨fun h => fz_inj ha (by decide +kernel) h, fun h => by rw [h]; rfl⟩

def zInv (x : Zp) : Zp := fz (pInv x.val)
theorem fz_inv (a : Nat) : fz (pInv a) = zInv (fz a) := by
  unfold zInv
  refine fz_ext ?_
  rw [fz_val]
  unfold pInv
  rw [Nat.pow_mod a, Nat.mod_mod]
theorem zp_mul_inv (x : Zp) (h : x ≠ 0) : x * zInv x = 1 := by
  have hx : pCl x.val ≠ 0 := by
    rw [pCl_of x.isLt]
    exact fun e => h (Fin.ext e)
  have h1 := congrArg fz (pInv_mul hx)
  rw [fz_mul, fz_of] at h1
  exact h1
def FdP : Cv.Fd Zp := ⟨zInv, zp_mul_inv, by decide +kernel, by decide +kernel⟩

/-! ### the numbers A + B u -/

structure Zq where
  re : Zp
  im : Zp

namespace Zq
theorem ext' {x y : Zq} (h1 : x.re = y.re) (h2 : x.im = y.im) : x = y := by
  obtain ⟨a, b⟩ := x
  obtain ⟨c, d⟩ := y
  simp only at h1 h2
  rw [h1, h2]
def add (x y : Zq) : Zq := ⟨x.re + y.re, x.im + y.im⟩
def mul (x y : Zq) : Zq := ⟨x.re * y.re - x.im * y.im, x.re * y.im + x.im * y.re⟩
def neg (x : Zq) : Zq := ⟨-x.re, -x.im⟩
def sub (x y : Zq) : Zq := ⟨x.re - y.re, x.im - y.im⟩
def nat (n : Nat) : Zq := ⟨fz n, 0⟩
def int : Int → Zq
  | .ofNat n => nat n
  | .negSucc n => neg (nat (n + 1))
def pow (x : Zq) : Nat → Zq
  | 0 => nat 1
  | n + 1 => mul (pow x n) x
end Zq

instance : Add Zq := ⟨Zq.add⟩
instance : Mul Zq := ⟨Zq.mul⟩
instance : Neg Zq := ⟨Zq.neg⟩
instance : Sub Zq := ⟨Zq.sub⟩
instance : NatCast Zq := ⟨Zq.nat⟩
instance : IntCast Zq := ⟨Zq.int⟩
instance (n : Nat) : OfNat Zq n := ⟨Zq.nat n⟩
instance : SMul Nat Zq := ⟨fun n x => Zq.mul (Zq.nat n) x⟩
instance : SMul Int Zq := ⟨fun n x => Zq.mul (Zq.int n) x⟩
instance : HPow Zq Nat Zq := ⟨Zq.pow⟩

namespace Zq
theorem re_add (x y : Zq) : (x + y).re = x.re + y.re := rfl
theorem im_add (x y : Zq) : (x + y).im = x.im + y.im := rfl
theorem re_mul (x y : Zq) : (x * y).re = x.re * y.re - x.im * y.im := rfl
theorem im_mul (x y : Zq) : (x * y).im = x.re * y.im + x.im * y.re := rfl
theorem re_neg (x : Zq) : (-x).re = -x.re := rfl
theorem im_neg (x : Zq) : (-x).im = -x.im := rfl
theorem re_sub (x y : Zq) : (x - y).re = x.re - y.re := rfl
theorem im_sub (x y : Zq) : (x - y).im = x.im - y.im := rfl
theorem re_nat (n : Nat) : (OfNat.ofNat n : Zq).re = fz n := rfl
theorem im_nat (n : Nat) : (OfNat.ofNat n : Zq).im = 0 := rfl
theorem re_zero : (0 : Zq).re = 0 := rfl
theorem re_one : (1 : Zq).re = 1 := rfl
theorem im_zero : (0 : Zq).im = 0 := rfl
theorem im_one : (1 : Zq).im = 0 := rfl
theorem cast_succ (n : Nat) : fz (n + 1) = fz n + 1 := by
  have h := fz_add n 1
  rw [show fz 1 = 1 from rfl] at h
  rw [← h]
  exact fz_ext (Nat.mod_mod _ _).symm
theorem neg_neg (x : Zq) : neg (neg x) = x := ext' (by show - -x.re = x.re; grind) (by show - -x.im = x.im; grind)
theorem neg_zero : neg (nat 0) = nat 0 := ext' (by show -(0 : Zp) = 0; grind) (by show -(0 : Zp) = 0; grind)
theorem neg_mul (x y : Zq) : mul (neg x) y = neg (mul x y) := ext' (by show -x.re * y.re - -x.im * y.im = -(x.re * y.re - x.im * y.im); grind) (by show -x.re * y.im + -x.im * y.re = -(x.re * y.im + x.im * y.re); grind)
theorem int_neg (z : Int) : int (-z) = neg (int z) := by
  match z with
  | .ofNat 0 => exact neg_zero.symm
  | .ofNat (n + 1) => rfl
  | .negSucc n => exact (neg_neg _).symm
end Zq

instance : Cv.Rg Zq where
  add_zero a := Zq.ext' (by rw [Zq.re_add, Zq.re_zero]; grind) (by rw [Zq.im_add, Zq.im_zero]; grind)
  add_comm a b := Zq.ext' (by rw [Zq.re_add, Zq.re_add]; grind) (by rw [Zq.im_add, Zq.im_add]; grind)
  add_assoc a b c := Zq.ext' (by simp only [Zq.re_add]; grind) (by simp only [Zq.im_add]; grind)
  mul_assoc a b c := Zq.ext' (by simp only [Zq.re_mul, Zq.im_mul]; grind) (by simp only [Zq.re_mul, Zq.im_mul]; grind)
  mul_one a := Zq.ext' (by rw [Zq.re_mul, Zq.re_one, Zq.im_one]; grind) (by rw [Zq.im_mul, Zq.re_one, Zq.im_one]; grind)
  one_mul a := Zq.ext' (by rw [Zq.re_mul, Zq.re_one, Zq.im_one]; grind) (by rw [Zq.im_mul, Zq.re_one, Zq.im_one]; grind)
  left_distrib a b c := Zq.ext' (by simp only [Zq.re_mul, Zq.re_add, Zq.im_add]; grind) (by simp only [Zq.im_mul, Zq.re_add, Zq.im_add]; grind)
  right_distrib a b c := Zq.ext' (by simp only [Zq.re_mul, Zq.re_add, Zq.im_add]; grind) (by simp only [Zq.im_mul, Zq.re_add, Zq.im_add]; grind)
  zero_mul a := Zq.ext' (by rw [Zq.re_mul, Zq.re_zero, Zq.im_zero, Fin.zero_mul, Fin.zero_mul, Fin.sub_self]) (by rw [Zq.im_mul, Zq.re_zero, Zq.im_zero, Fin.zero_mul, Fin.zero_mul, Fin.add_zero])
  mul_zero a := Zq.ext' (by rw [Zq.re_mul, Zq.re_zero, Zq.im_zero, Fin.mul_zero, Fin.mul_zero, Fin.sub_self]) (by rw [Zq.im_mul, Zq.re_zero, Zq.im_zero, Fin.mul_zero, Fin.mul_zero, Fin.add_zero])
  pow_zero a := rfl
  pow_succ a n := rfl
  ofNat_succ n := Zq.ext' (by rw [Zq.re_add, Zq.re_nat, Zq.re_nat, Zq.re_one, Zq.cast_succ]) (by rw [Zq.im_add, Zq.im_nat, Zq.im_nat, Zq.im_one, Fin.add_zero])
  ofNat_eq_natCast n := rfl
  nsmul_eq_natCast_mul n a := rfl
  neg_add_cancel a := Zq.ext' (by rw [Zq.re_add, Zq.re_neg, Zq.re_zero]; grind) (by rw [Zq.im_add, Zq.im_neg, Zq.im_zero]; grind)
  sub_eq_add_neg a b := Zq.ext' (by rw [Zq.re_sub, Zq.re_add, Zq.re_neg]; grind) (by rw [Zq.im_sub, Zq.im_add, Zq.im_neg]; grind)
  intCast_ofNat n := rfl
  intCast_neg z := Zq.int_neg z
  zsmul_natCast_eq_nsmul n a := rfl
  neg_zsmul z a := by show Zq.mul (Zq.int (-z)) a = Zq.neg (Zq.mul (Zq.int z) a); rw [Zq.int_neg, Zq.neg_mul]
  mul_comm a b := Zq.ext' (by simp only [Zq.re_mul]; grind) (by simp only [Zq.im_mul]; grind)

/-- Two numbers, as one with u. -/
def fq (a b : Nat) : Zq := ⟨fz a, fz b⟩
def zqInv (x : Zq) : Zq := ⟨x.re * zInv (x.re * x.re + x.im * x.im), -(x.im * zInv (x.re * x.re + x.im * x.im))⟩
theorem zq_norm {x : Zq} (h : x.re * x.re + x.im * x.im = 0) : x = 0 := by
  have h1 : fz (pAdd (pMul x.re.val x.re.val) (pMul x.im.val x.im.val)) = 0 := by
    rw [fz_add, fz_mul, fz_mul, fz_of, fz_of]
    exact h
  obtain ⟨h2, h3⟩ := norm_zero ((fz_zero (pAdd_P _ _)).1 h1)
  rw [pCl_of x.re.isLt] at h2
  rw [pCl_of x.im.isLt] at h3
  exact Zq.ext' (Fin.ext h2) (Fin.ext h3)
theorem zq_mul_inv (x : Zq) (h : x ≠ 0) : x * zqInv x = 1 := by
  have h1 := zp_mul_inv _ (fun e => h (zq_norm e))
  refine Zq.ext' ?_ ?_
  · rw [Zq.re_mul, Zq.re_one, ← h1]
    show x.re * (x.re * zInv (x.re * x.re + x.im * x.im)) - x.im * -(x.im * zInv (x.re * x.re + x.im * x.im)) = _
    generalize zInv (x.re * x.re + x.im * x.im) = i
    clear h1 h
    grind
  · rw [Zq.im_mul, Zq.im_one]
    show x.re * -(x.im * zInv (x.re * x.re + x.im * x.im)) + x.im * (x.re * zInv (x.re * x.re + x.im * x.im)) = _
    generalize zInv (x.re * x.re + x.im * x.im) = i
    clear h1 h
    grind
def FdQ : Cv.Fd Zq := ⟨zqInv, zq_mul_inv, (fun h => FdP.two (congrArg Zq.re h)), (fun h => FdP.three (congrArg Zq.re h))⟩

end Go.Proofs.Ytmhieifjmgcbkaa
