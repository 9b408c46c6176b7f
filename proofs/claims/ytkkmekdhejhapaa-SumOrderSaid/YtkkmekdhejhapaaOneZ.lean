/- What is proved here: the numbers below p as a field (Zp), and those with u (Zq); what the functions on numbers are there; r times the generator of the first curve is at infinity; the type api.G1 and the projective points of package one as segments; arguments of this type are such; the calls of package fp and of its reference on the numbers modulo p as a field; no point of the first curve has the second number 0; points as segments. -/
import Derived.Test.YtkkmekdhejhapaaDuo1
import Derived.Test.YtkkmekdhejhapaaCurve
import Derived.Test.YtkkmekdhejhapaaCells
import Derived.Test.YtkkmekdhejhapaaLit
namespace Go.Proofs.Ytkkmekdhejhapaa
section
open Go.RowKit
instance : NeZero pN := ⟨by decide +kernel⟩
abbrev Zp : Type := Fin pN
def fz (a : Nat) : Zp := Fin.ofNat pN a
theorem fz_val (a : Nat) : (fz a).val = a % pN := rfl
theorem fz_ext {a b : Nat} (h : a % pN = b % pN) : fz a = fz b := Fin.ext h
theorem fz_add (a b : Nat) : fz (pAdd a b) = fz a + fz b := Fin.ext (by
  rw [Fin.val_add, fz_val, fz_val, fz_val, pAdd, Nat.mod_mod, ← Nat.add_mod])
theorem fz_mul (a b : Nat) : fz (pMul a b) = fz a * fz b := Fin.ext (by
  rw [Fin.val_mul, fz_val, fz_val, fz_val, pMul, Nat.mod_mod, ← Nat.mul_mod])
theorem fz_neg (a : Nat) : fz (pNeg a) = - fz a := Fin.ext (by
  rw [Fin.val_neg', fz_val, fz_val, pNeg, Nat.mod_mod])
theorem fz_sub (a b : Nat) : fz (pSub a b) = fz a - fz b := Fin.ext (by
  rw [Fin.sub_def, fz_val]
  show pSub a b % pN = (pN - (fz b).val + (fz a).val) % pN
  rw [fz_val, fz_val, pSub, Nat.mod_mod, Nat.add_mod_mod, Nat.add_comm])
theorem fz_inj {a b : Nat} (ha : a < pN) (hb : b < pN) (h : fz a = fz b) : a = b := by
  have := congrArg Fin.val h
  rwa [fz_val, fz_val, Nat.mod_eq_of_lt ha, Nat.mod_eq_of_lt hb] at this
theorem fz_of (x : Zp) : fz x.val = x := Fin.ext (by rw [fz_val, Nat.mod_eq_of_lt x.isLt])
theorem fz_zero {a : Nat} (ha : a < pN) : fz a = 0 ↔ a = 0 := ⟨fun h => fz_inj ha (by decide +kernel) h, fun h => by rw [h]; rfl⟩
def zInv (x : Zp) : Zp := fz (pInv x.val)
theorem zp_mul_inv (x : Zp) (h : x ≠ 0) : x * zInv x = 1 := by
  have hx : pCl x.val ≠ 0 := by
    rw [pCl_of x.isLt]
    exact fun e => h (Fin.ext e)
  have h1 := congrArg fz (pInv_mul hx)
  rw [fz_mul, fz_of] at h1
  exact h1
def FdP : Cv.Fd Zp := ⟨zInv, zp_mul_inv, by decide +kernel, by decide +kernel⟩
structure Zq where
  re : Zp
  im : Zp
namespace Zq
theorem ext' {x y : Zq} (h1 : x.re = y.re) (h2 : x.im = y.im) : x = y := by
  obtain ⟨a, b⟩ := x
  obtain ⟨c, d⟩ := y
  simp only at h1 h2
  rw [h1, h2]
def add (x y : Zq) : Zq := ⟨x.re + y.re, x.im + y.im⟩
def mul (x y : Zq) : Zq := ⟨x.re * y.re - x.im * y.im, x.re * y.im + x.im * y.re⟩
def neg (x : Zq) : Zq := ⟨-x.re, -x.im⟩
def sub (x y : Zq) : Zq := ⟨x.re - y.re, x.im - y.im⟩
def nat (n : Nat) : Zq := ⟨fz n, 0⟩
def int : Int → Zq
  | .ofNat n => nat n
  | .negSucc n => neg (nat (n + 1))
def pow (x : Zq) : Nat → Zq
  | 0 => nat 1
  | n + 1 => mul (pow x n) x
end Zq
instance : Add Zq := ⟨Zq.add⟩
instance : Mul Zq := ⟨Zq.mul⟩
instance : Neg Zq := ⟨Zq.neg⟩
instance : Sub Zq := ⟨Zq.sub⟩
instance : NatCast Zq := ⟨Zq.nat⟩
instance : IntCast Zq := ⟨Zq.int⟩
instance (n : Nat) : OfNat Zq n := ⟨Zq.nat n⟩
instance : SMul Nat Zq := ⟨fun n x => Zq.mul (Zq.nat n) x⟩
instance : SMul Int Zq := ⟨fun n x => Zq.mul (Zq.int n) x⟩
instance : HPow Zq Nat Zq := ⟨Zq.pow⟩
namespace Zq
theorem re_add (x y : Zq) : (x + y).re = x.re + y.re := rfl
theorem im_add (x y : Zq) : (x + y).im = x.im + y.im := rfl
theorem re_mul (x y : Zq) : (x * y).re = x.re * y.re - x.im * y.im := rfl
theorem im_mul (x y : Zq) : (x * y).im = x.re * y.im + x.im * y.re := rfl
theorem re_neg (x : Zq) : (-x).re = -x.re := rfl
theorem im_neg (x : Zq) : (-x).im = -x.im := rfl
theorem re_sub (x y : Zq) : (x - y).re = x.re - y.re := rfl
theorem im_sub (x y : Zq) : (x - y).im = x.im - y.im := rfl
theorem re_nat (n : Nat) : (OfNat.ofNat n : Zq).re = fz n := rfl
theorem im_nat (n : Nat) : (OfNat.ofNat n : Zq).im = 0 := rfl
theorem re_zero : (0 : Zq).re = 0 := rfl
theorem re_one : (1 : Zq).re = 1 := rfl
theorem im_zero : (0 : Zq).im = 0 := rfl
theorem im_one : (1 : Zq).im = 0 := rfl
theorem cast_succ (n : Nat) : fz (n + 1) = fz n + 1 := by
  have h := fz_add n 1
  rw [show fz 1 = 1 from rfl] at h
  rw [← h]
  exact fz_ext (Nat.mod_mod _ _).symm
theorem neg_neg (x : Zq) : neg (neg x) = x := ext' (by show - -x.re = x.re; grind) (by show - -x.im = x.im; grind)
theorem neg_zero : neg (nat 0) = nat 0 := ext' (by show -(0 : Zp) = 0; grind) (by show -(0 : Zp) = 0; grind)
theorem neg_mul (x y : Zq) : mul (neg x) y = neg (mul x y) := ext' (by show -x.re * y.re - -x.im * y.im = -(x.re * y.re - x.im * y.im); grind) (by show -x.re * y.im + -x.im * y.re = -(x.re * y.im + x.im * y.re); grind)
theorem int_neg (z : Int) : int (-z) = neg (int z) := by
  match z with
  | .ofNat 0 => exact neg_zero.symm
  | .ofNat (n + 1) => rfl
  | .negSucc n => exact (neg_neg _).symm
end Zq
instance : Cv.Rg Zq where
  add_zero a := Zq.ext' (by rw [Zq.re_add, Zq.re_zero]; grind) (by rw [Zq.im_add, Zq.im_zero]; grind)
  add_comm a b := Zq.ext' (by rw [Zq.re_add, Zq.re_add]; grind) (by rw [Zq.im_add, Zq.im_add]; grind)
  add_assoc a b c := Zq.ext' (by simp only [Zq.re_add]; grind) (by simp only [Zq.im_add]; grind)
  mul_assoc a b c := Zq.ext' (by simp only [Zq.re_mul, Zq.im_mul]; grind) (by simp only [Zq.re_mul, Zq.im_mul]; grind)
  mul_one a := Zq.ext' (by rw [Zq.re_mul, Zq.re_one, Zq.im_one]; grind) (by rw [Zq.im_mul, Zq.re_one, Zq.im_one]; grind)
  one_mul a := Zq.ext' (by rw [Zq.re_mul, Zq.re_one, Zq.im_one]; grind) (by rw [Zq.im_mul, Zq.re_one, Zq.im_one]; grind)
  left_distrib a b c := Zq.ext' (by simp only [Zq.re_mul, Zq.re_add, Zq.im_add]; grind) (by simp only [Zq.im_mul, Zq.re_add, Zq.im_add]; grind)
  right_distrib a b c := Zq.ext' (by simp only [Zq.re_mul, Zq.re_add, Zq.im_add]; grind) (by simp only [Zq.im_mul, Zq.re_add, Zq.im_add]; grind)
  zero_mul a := Zq.ext' (by rw [Zq.re_mul, Zq.re_zero, Zq.im_zero, Fin.zero_mul, Fin.zero_mul, Fin.sub_self]) (by rw [Zq.im_mul, Zq.re_zero, Zq.im_zero, Fin.zero_mul, Fin.zero_mul, Fin.add_zero])
  mul_zero a := Zq.ext' (by rw [Zq.re_mul, Zq.re_zero, Zq.im_zero, Fin.mul_zero, Fin.mul_zero, Fin.sub_self]) (by rw [Zq.im_mul, Zq.re_zero, Zq.im_zero, Fin.mul_zero, Fin.mul_zero, Fin.add_zero])
  pow_zero a := rfl
  pow_succ a n := rfl
  ofNat_succ n := Zq.ext' (by rw [Zq.re_add, Zq.re_nat, Zq.re_nat, Zq.re_one, Zq.cast_succ]) (by rw [Zq.im_add, Zq.im_nat, Zq.im_nat, Zq.im_one, Fin.add_zero])
  ofNat_eq_natCast n := rfl
  nsmul_eq_natCast_mul n a := rfl
  neg_add_cancel a := Zq.ext' (by rw [Zq.re_add, Zq.re_neg, Zq.re_zero]; grind) (by rw [Zq.im_add, Zq.im_neg, Zq.im_zero]; grind)
  sub_eq_add_neg a b := Zq.ext' (by rw [Zq.re_sub, Zq.re_add, Zq.re_neg]; grind) (by rw [Zq.im_sub, Zq.im_add, Zq.im_neg]; grind)
  intCast_ofNat n := rfl
  intCast_neg z := Zq.int_neg z
  zsmul_natCast_eq_nsmul n a := rfl
  neg_zsmul z a := by show Zq.mul (Zq.int (-z)) a = Zq.neg (Zq.mul (Zq.int z) a); rw [Zq.int_neg, Zq.neg_mul]
  mul_comm a b := Zq.ext' (by simp only [Zq.re_mul]; grind) (by simp only [Zq.im_mul]; grind)
def fq (a b : Nat) : Zq := ⟨fz a, fz b⟩
def zqInv (x : Zq) : Zq := ⟨x.re * zInv (x.re * x.re + x.im * x.im), -(x.im * zInv (x.re * x.re + x.im * x.im))⟩
theorem zq_norm {x : Zq} (h : x.re * x.re + x.im * x.im = 0) : x = 0 := by
  have h1 : fz (pAdd (pMul x.re.val x.re.val) (pMul x.im.val x.im.val)) = 0 := by
    rw [fz_add, fz_mul, fz_mul, fz_of, fz_of]
    exact h
  obtain ⟨h2, h3⟩ := norm_zero ((fz_zero (pAdd_P _ _)).1 h1)
  rw [pCl_of x.re.isLt] at h2
  rw [pCl_of x.im.isLt] at h3
  exact Zq.ext' (Fin.ext h2) (Fin.ext h3)
theorem zq_mul_inv (x : Zq) (h : x ≠ 0) : x * zqInv x = 1 := by
  have h1 := zp_mul_inv _ (fun e => h (zq_norm e))
  refine Zq.ext' ?_ ?_
  · rw [Zq.re_mul, Zq.re_one, ← h1]
    show x.re * (x.re * zInv (x.re * x.re + x.im * x.im)) - x.im * -(x.im * zInv (x.re * x.re + x.im * x.im)) = _
    generalize zInv (x.re * x.re + x.im * x.im) = i
    clear h1 h
    grind
  · rw [Zq.im_mul, Zq.im_one]
    show x.re * -(x.im * zInv (x.re * x.re + x.im * x.im)) + x.im * (x.re * zInv (x.re * x.re + x.im * x.im)) = _
    generalize zInv (x.re * x.re + x.im * x.im) = i
    clear h1 h
    grind
def FdQ : Cv.Fd Zq := ⟨zqInv, zq_mul_inv, (fun h => FdP.two (congrArg Zq.re h)), (fun h => FdP.three (congrArg Zq.re h))⟩
end

section
section
open Go.RowKit Cv
theorem four_ne : (4 : Zp) ≠ 0 := by decide +kernel
def C1 : Cu Zp (4 : Zp) := ⟨FdP, four_ne⟩
abbrev E1 : Type := EP (4 : Zp)
def g1x : Nat := 0x17F1D3A73197D7942695638C4FA9AC0FC3688C4F9774B905A14E3A3F171BAC586C55E83FF97A1AEFFB3AF00ADB22C6BB
def g1y : Nat := 0x08B3F481E3AAA0F1A09E30ED741D8AE4FCF5E095D5D00AF600DB18CB2C04B3EDD03CC744A2888AE40CAA232946C5E7E1
theorem g1_on : On (4 : Zp) (.aff (fz g1x) (fz g1y)) := by
  show fz g1y * fz g1y = fz g1x * fz g1x * fz g1x + fz 4
  rw [← fz_mul, ← fz_mul, ← fz_mul, ← fz_add]
  exact congrArg fz (by decide +kernel)
def G1 : E1 := ⟨.aff (fz g1x) (fz g1y), g1_on⟩
theorem fz_minus {a : Nat} (h : a < pN) : fz (pN - a) = -fz a := by
  rw [← fz_neg]
  exact fz_ext (by rw [pNeg, Nat.mod_mod, Nat.mod_eq_of_lt h])
end

section
open Go.RowKit Cv
theorem sgBool : Single 4 := ⟨Try.isAgg4, Try.sizeOf4⟩
theorem sgInt : Single 3 := ⟨Try.isAgg3, Try.sizeOf3⟩
theorem sgU64 : Single 24 := ⟨Try.isAgg24, Try.sizeOf24⟩
theorem g1_fields : Try.prog.underlying 28 = some (.struct (List.toArray [⟨"X", 26, 0, false, "", "", 0⟩, ⟨"Y", 26, 6, false, "", "", 48⟩, ⟨"Inf", 4, 12, false, "", "", 96⟩])) := Try.underlying28
theorem flG1 : Flat 28 13 := ⟨Try.isAgg28, Try.sizeOf28⟩
theorem faG1_0 : FieldAt 28 0 0 := ⟨_, _, 5, g1_fields, rfl, rfl, Try.sizeOf26⟩
theorem faG1_1 : FieldAt 28 1 6 := ⟨_, _, 5, g1_fields, rfl, rfl, Try.sizeOf26⟩
theorem faG1_2 : FieldAt 28 2 12 := ⟨_, _, 0, g1_fields, rfl, rfl, Try.sizeOf4⟩
theorem segs_g10 : segs [.n 6 0, .n 6 0, .b false] = List.replicate 12 (Value.int .u64 0) ++ [.bool false] := by
  have h : segs [.n 6 0, .n 6 0, .b false] = segs ([0, 0].map (Seg.n 6)) ++ segs [.b false] := segs_app ([0, 0].map (Seg.n 6)) [.b false]
  rw [h, segs_nums, show [0, 0] = List.replicate 2 0 from rfl, rows_zero, cells0]
  rfl
theorem zG1 (w : World) : (zeroValue 28).run Try.prog w = .ok (sv [.n 6 0, .n 6 0, .b false]) w := by
  rw [Try.zeroValue28 w, sv, segs_g10]
  rfl
theorem stG1 : StructS 28 [.n 6 0, .n 6 0, .b false] [(0, 6), (6, 6), (12, 1)] := by
  refine ⟨_, g1_fields, zG1, fun w => ?_⟩
  simp [Sem.run_bind, Try.sizeOf26, Try.sizeOf4]
def shG1 : List Seg → Prop := fun l => ∃ a b, l = a ++ b ∧ Nums 6 1 a ∧ ∃ c d, b = c ++ d ∧ Nums 6 1 c ∧ ∃ e f, d = e ++ f ∧ (∃ r, e = [.b r]) ∧ f = []
theorem shG1_of {x0 y0 : Nat} {i : Bool} (hx0 : x0 < fpB) (hy0 : y0 < fpB) : shG1 [.n 6 x0, .n 6 y0, .b i] :=
  ⟨[.n 6 x0], [.n 6 y0, .b i], rfl, ⟨[x0], rfl, fpB_all1 hx0, rfl⟩, [.n 6 y0], [.b i], rfl, ⟨[y0], rfl, fpB_all1 hy0, rfl⟩, [.b i], [], rfl, ⟨i, rfl⟩, rfl⟩
theorem one_size {m : List Seg} (h : ∃ r, m = [Seg.b r]) : m.length = 1 ∧ ssize m = 1 := by
  obtain ⟨r, rfl⟩ := h
  exact ⟨rfl, rfl⟩
theorem shG1_size {m : List Seg} (h : shG1 m) : ssize m = 13 := by
  obtain ⟨a, b, rfl, ha, c, d, rfl, hc, e, f, rfl, he, rfl⟩ := h
  rw [ssize_app, ssize_app, ssize_app, (nums_size ha).2, (nums_size hc).2, (one_size he).2]
  rfl
theorem eqG1 : EqT 28 3 3 shG1 sv :=
  EqT.struct (k := 2) g1_fields Try.stoodInHeld28 (fun m hm => by rw [shG1_size hm]; exact flG1)
    (.cons (n := 6) (j := 1) (by decide) rfl (fun _ h => nums_size h) (EqT.nums eqFp flFp rfl) (.cons (n := 6) (j := 1) (by decide) rfl (fun _ h => nums_size h) (EqT.nums eqFp flFp rfl)
      (.cons (n := 1) (j := 1) (by decide) rfl (fun _ h => one_size h) (EqT.more (EqT.bool Try.underlying4 sgBool)) (.nil _))))
theorem gdG1 : Try.prog.eqGuardType Try.prog.depth 28 = false := Try.eqGuardType28
theorem osG1 : OpensS 28 shG1 := OpensS.struct g1_fields (by kernel_rfl)
  (.cons (n := 6) rfl (by kernel_rfl) (OpensS.nums opens_fp rfl) (.cons (n := 6) rfl (by kernel_rfl) (OpensS.nums opens_fp rfl) (.cons (n := 1) rfl (by kernel_rfl) (OpensS.bool Try.underlying4) (.nil _))))
set_option maxRecDepth 20000 in
theorem open_g1 {H : Type} {enc : TypeId × Value → H} {w : World} {r : Reach} {b0 base : Nat} {sp : Nat → Bool} {held : Bool} {v : Value} {d : DataW H} {ps : List MemPlace}
    (hval : Value.okWide Try.prog w r b0 28 v) (hd : DataW.Trod enc Try.prog w base sp held 28 v d ps) : ∃ (x0 y0 : Nat) (i : Bool), x0 < fpB ∧ y0 < fpB ∧ v = sv [.n 6 x0, .n 6 y0, .b i] := by
  simp only [Value.okWide, Try.underlying28] at hval
  obtain ⟨cs, rfl, hs, _⟩ := hval
  obtain ⟨m, ⟨a, b, rfl, ⟨l, h1, h2, rfl⟩, c, d, rfl, ⟨l', h3, h4, rfl⟩, e, f, rfl, ⟨i, rfl⟩, rfl⟩, he⟩ := open_sv osG1 hd
  match l, l', h1, h3, h2, h4, he with
  | [x0], [y0], _, _, h2, h4, he => exact ⟨x0, y0, i, Nat.lt_of_lt_of_eq (h2 _ (by simp)) fpB_eq.symm, Nat.lt_of_lt_of_eq (h4 _ (by simp)) fpB_eq.symm, he⟩
theorem ptg1_fields : Try.prog.underlying 56 = some (.struct (List.toArray [⟨"x", 26, 0, false, "", "chirograph/one", 0⟩, ⟨"y", 26, 6, false, "", "chirograph/one", 48⟩, ⟨"z", 26, 12, false, "", "chirograph/one", 96⟩])) := Try.underlying56
theorem flPG1 : Flat 56 18 := ⟨Try.isAgg56, Try.sizeOf56⟩
theorem faPG1_0 : FieldAt 56 0 0 := ⟨_, _, 5, ptg1_fields, rfl, rfl, Try.sizeOf26⟩
theorem faPG1_1 : FieldAt 56 1 6 := ⟨_, _, 5, ptg1_fields, rfl, rfl, Try.sizeOf26⟩
theorem faPG1_2 : FieldAt 56 2 12 := ⟨_, _, 5, ptg1_fields, rfl, rfl, Try.sizeOf26⟩
theorem zPG1 (w : World) : (zeroValue 56).run Try.prog w = .ok (sv [.n 6 0, .n 6 0, .n 6 0]) w := by
  have h : segs [.n 6 0, .n 6 0, .n 6 0] = segs ([0, 0, 0].map (Seg.n 6)) := rfl
  rw [Try.zeroValue56 w, sv, h, segs_nums, show [0, 0, 0] = List.replicate 3 0 from rfl, rows_zero, cells0]
  rfl
theorem stPG1 : StructS 56 [.n 6 0, .n 6 0, .n 6 0] [(0, 6), (6, 6), (12, 6)] := by
  refine ⟨_, ptg1_fields, zPG1, fun w => ?_⟩
  simp [Sem.run_bind, Try.sizeOf26]
theorem zp_B (x : Zp) : x.val < fpB := Nat.lt_trans x.isLt fpM_lt
theorem val_of {v : Zp} {n : Nat} (h : v = fz n) (hn : n < pN) : v.val = n := by
  rw [h, fz_val, Nat.mod_eq_of_lt hn]
theorem zc (n : Nat) (h : n < pN) : [n] = [(fz n).val] := by rw [fz_val, Nat.mod_eq_of_lt h]
theorem zc0 : [0] = [(0 : Zp).val] := zc 0 (by decide +kernel)
theorem zc1 : [1] = [(1 : Zp).val] := zc 1 (by decide +kernel)
theorem small_P {n : Nat} (h : n < 1000) : n < pN := Nat.lt_trans h (by decide +kernel)
theorem zsub_val (x y : Zp) : (x - y).val = (x.val + (pN - y.val % pN)) % pN := by
  have h : x - y = fz (pSub x.val y.val) := by rw [fz_sub, fz_of, fz_of]
  have h2 := val_of h (pSub_P x.val y.val)
  exact h2.trans (by delta pSub; exact Eq.refl _)
theorem fpMul_e {l m : List Nat} (x y v : Zp) (hl : l = [x.val]) (hm : m = [y.val]) (hv : v = x * y) (w : World) : Calls Try.prog 33 #[nv 6 l, nv 6 m] w (Is (nv 6 [v.val]) w) := by
  subst hl hm hv
  exact fpMul_n _ _ w (zp_B x) (zp_B y) _ (Fin.val_mul x y)
theorem fpAdd_e {l m : List Nat} (x y v : Zp) (hl : l = [x.val]) (hm : m = [y.val]) (hv : v = x + y) (w : World) : Calls Try.prog 34 #[nv 6 l, nv 6 m] w (Is (nv 6 [v.val]) w) := by
  subst hl hm hv
  exact fpAdd_n _ _ w (zp_B x) (zp_B y) _ (Fin.val_add x y)
theorem fpSub_e {l m : List Nat} (x y v : Zp) (hl : l = [x.val]) (hm : m = [y.val]) (hv : v = x - y) (w : World) : Calls Try.prog 46 #[nv 6 l, nv 6 m] w (Is (nv 6 [v.val]) w) := by
  subst hl hm hv
  exact fpSub_n _ _ w (zp_B x) (zp_B y) _ (zsub_val x y)
theorem fpInv_e {l : List Nat} (x v : Zp) (hl : l = [x.val]) (hv : v = FdP.inv x) (w : World) : Calls Try.prog 43 #[nv 6 l] w (Is (nv 6 [v.val]) w) := by
  subst hl hv
  exact fpInv_n _ w (zp_B x) _ (val_of (n := pInv x.val) rfl (pInv_P x.val))
theorem fpRight_e {l : List Nat} (x : Zp) (hl : l = [x.val]) (w : World) : Calls Try.prog 15 #[nv 6 l] w (Is (.bool true) w) := by
  subst hl
  exact fpRight_n _ w (zp_B x) _ (decide_eq_true x.isLt).symm
section
variable {ρ : Operand → Value} {d : Option Tmp} {ty0 t2 : TypeId} {pos : String} {after : Array Edge} {guard : Option (Nat × Bool)} {w : World} {X Y : Operand} {l m : List Nat}
theorem zp_list {x y : Zp} {r : Bool} (hr : r = true ↔ x = y) : r = decide ([x.val] = [y.val]) := by
  rw [Bool.eq_iff_iff, decide_eq_true_iff, hr]
  exact ⟨fun h => by rw [h], fun h => Fin.ext (List.head_eq_of_cons_eq h)⟩
theorem ex_eqz (x y : Zp) (hl : l = [x.val]) (hm : m = [y.val]) (hx : ρ X = nv 6 l) (hy : ρ Y = nv 6 m) (r : Bool) (hr : r = true ↔ x = y) :
    (execOp ρ ⟨d, .binOp .eql 26 X Y t2, ty0, pos, after, guard⟩).run Try.prog w = .ok (.value (.bool r)) w := by
  subst hl hm
  exact ex_eqn eqFp rfl hx hy rfl rfl (fpB_all1 (zp_B x)) (fpB_all1 (zp_B y)) rfl r (zp_list hr)
end
theorem cube_no : powm pN (pN - 4) 381 ((pN - 1) / 3) ≠ 1 := by decide +kernel
theorem hN1 : NoZero (4 : Zp) := fun x h => by
  have h1 : fz (x.val * x.val * x.val) = fz (pN - 4) := by
    have e : fz (x.val * x.val * x.val) = x * x * x := by
      have h2 := fz_mul (x.val * x.val) x.val
      have h3 := fz_mul x.val x.val
      have h4 : fz (pMul (x.val * x.val) x.val) = fz (x.val * x.val * x.val) := fz_ext (Nat.mod_mod _ _)
      have h5 : fz (pMul x.val x.val) = fz (x.val * x.val) := fz_ext (Nat.mod_mod _ _)
      rw [← h4, h2, ← h5, h3, fz_of]
    have e4 : fz (pN - 4) = -4 := by
      have h2 := fz_minus (a := 4) (by decide +kernel)
      rw [h2]
      rfl
    rw [e, e4]
    clear e e4
    grind
  have h2 : x.val * x.val * x.val % pN = (pN - 4) % pN := by
    have := congrArg Fin.val h1
    rwa [fz_val, fz_val] at this
  have hx : x ≠ 0 := fun e => four_ne (cube_zero_b h e)
  have hx0 : 0 < x.val := Nat.pos_of_ne_zero fun e => hx (Fin.ext e)
  have h3 := p_fermat x.val hx0 x.isLt
  obtain ⟨m, hm⟩ : ∃ m, m = (pN - 1) / 3 := ⟨_, rfl⟩
  have hm3 : 3 * m = pN - 1 := by rw [hm]; decide +kernel
  have h4 : (x.val * x.val * x.val) ^ m % pN = (pN - 4) ^ m % pN := by rw [Nat.pow_mod, h2, ← Nat.pow_mod]
  have h5 : x.val * x.val * x.val = x.val ^ 3 := by rw [Nat.pow_succ, Nat.pow_succ, Nat.pow_succ, Nat.pow_zero, Nat.one_mul]
  rw [h5, ← Nat.pow_mul, hm3, h3] at h4
  refine cube_no ?_
  rw [powm_eq 381 _ (by decide +kernel), ← hm]
  exact h4.symm
def ax : Pt Zp → Nat
  | .inf => 0
  | .aff x _ => x.val
def ay : Pt Zp → Nat
  | .inf => 0
  | .aff _ y => y.val
def ai : Pt Zp → Bool
  | .inf => true
  | .aff _ _ => false
theorem ax_P (P : Pt Zp) : ax P < pN := by
  cases P with
  | inf => exact small_P (by decide)
  | aff x y => exact x.isLt
theorem ay_P (P : Pt Zp) : ay P < pN := by
  cases P with
  | inf => exact small_P (by decide)
  | aff x y => exact y.isLt
theorem ax_B (P : Pt Zp) : ax P < fpB := Nat.lt_trans (ax_P P) fpM_lt
theorem ay_B (P : Pt Zp) : ay P < fpB := Nat.lt_trans (ay_P P) fpM_lt
theorem gs_inj {P Q : Pt Zp} (h : [Seg.n 6 (ax P), .n 6 (ay P), .b (ai P)] = [Seg.n 6 (ax Q), .n 6 (ay Q), .b (ai Q)]) : P = Q := by
  simp only [List.cons.injEq, Seg.n.injEq, Seg.b.injEq, true_and, and_true] at h
  obtain ⟨h1, h2, h3⟩ := h
  match P, Q, h1, h2, h3 with
  | .inf, .inf, _, _, _ => rfl
  | .inf, .aff _ _, _, _, h => cases h
  | .aff _ _, .inf, _, _, h => cases h
  | .aff x y, .aff x' y', h1, h2, _ => rw [Fin.ext h1, Fin.ext h2]
end
end
end Go.Proofs.Ytkkmekdhejhapaa
