/- What is proved here: r times the generator of the second curve is at infinity; no point of the second curve has the second number 0; the type api.G2 and the projective points of package two as segments; arguments of this type are such; the calls of package duo and of its reference on the numbers A + B u as a field; no point of the second curve has the second number 0; points as segments; what the functions of package two on three numbers answer; which points of package two may be; sums and negatives of points. -/
import Derived.Test.YtkkmekdhejhapaaGreatOneZ
import Derived.Test.YtkkmekdhejhapaaGreatComp
import Derived.Test.YtkkmekdhejhapaaGreatLimb
namespace Go.Proofs.YtkkmekdhejhapaaGreat
section
section
open Go.RowKit Cv
def b2 : Zq := fq 4 4
theorem b2_ne : b2 ≠ 0 := fun h => four_ne (congrArg Zq.re h)
instance : DecidableEq Zq := fun x y => decidable_of_iff (x.re = y.re ∧ x.im = y.im) ⟨fun h => Zq.ext' h.1 h.2, fun h => by rw [h]; exact ⟨rfl, rfl⟩⟩
def C2 : Cu Zq b2 := ⟨FdQ, b2_ne⟩
abbrev E2 : Type := EP b2
def qadd (a b : Nat × Nat) : Nat × Nat := (pAdd a.1 b.1, pAdd a.2 b.2)
def qmul (a b : Nat × Nat) : Nat × Nat := (pSub (pMul a.1 b.1) (pMul a.2 b.2), pAdd (pMul a.1 b.2) (pMul a.2 b.1))
def fq2 (a : Nat × Nat) : Zq := fq a.1 a.2
theorem fq2_add (a b : Nat × Nat) : fq2 (qadd a b) = fq2 a + fq2 b := Zq.ext' (fz_add _ _) (fz_add _ _)
theorem fq2_mul (a b : Nat × Nat) : fq2 (qmul a b) = fq2 a * fq2 b := Zq.ext' (by
  rw [Zq.re_mul]
  show fz (pSub _ _) = fz a.1 * fz b.1 - fz a.2 * fz b.2
  rw [fz_sub, fz_mul, fz_mul]) (by
  rw [Zq.im_mul]
  show fz (pAdd _ _) = fz a.1 * fz b.2 + fz a.2 * fz b.1
  rw [fz_add, fz_mul, fz_mul])
def g2x : Nat × Nat := (0x024AA2B2F08F0A91260805272DC51051C6E47AD4FA403B02B4510B647AE3D1770BAC0326A805BBEFD48056C8C121BDB8, 0x13E02B6052719F607DACD3A088274F65596BD0D09920B61AB5DA61BBDC7F5049334CF11213945D57E5AC7D055D042B7E)
def g2y : Nat × Nat := (0x0CE5D527727D6E118CC9CDC6DA2E351AADFD9BAA8CBDD3A76D429A695160D12C923AC9CC3BACA289E193548608B82801, 0x0606C4A02EA734CC32ACD2B02BC28B99CB3E287E85A763AF267492AB572E99AB3F370D275CEC1DA1AAA9075FF05F79BE)
theorem g2_on : On b2 (.aff (fq2 g2x) (fq2 g2y)) := by
  show fq2 g2y * fq2 g2y = fq2 g2x * fq2 g2x * fq2 g2x + fq2 (4, 4)
  rw [← fq2_mul, ← fq2_mul, ← fq2_mul, ← fq2_add]
  exact congrArg fq2 (by decide +kernel)
def G2 : E2 := ⟨.aff (fq2 g2x) (fq2 g2y), g2_on⟩
def qn (a : Zq) : Zp := a.re * a.re + a.im * a.im
theorem qn_mul (a b : Zq) : qn (a * b) = qn a * qn b := by
  unfold qn
  rw [Zq.re_mul, Zq.im_mul]
  grind
theorem no_cube {c : Nat} (_hc : c < pN) (h0 : fz c ≠ 0) (h : powm pN c 381 ((pN - 1) / 3) ≠ 1) (n : Zp) : n * n * n ≠ fz c := fun he => by
  have h1 : fz (n.val * n.val * n.val) = n * n * n := by
    have h2 := fz_mul (n.val * n.val) n.val
    have h3 := fz_mul n.val n.val
    have h4 : fz (pMul (n.val * n.val) n.val) = fz (n.val * n.val * n.val) := fz_ext (Nat.mod_mod _ _)
    have h5 : fz (pMul n.val n.val) = fz (n.val * n.val) := fz_ext (Nat.mod_mod _ _)
    rw [← h4, h2, ← h5, h3, fz_of]
  rw [he] at h1
  have h2 : n.val * n.val * n.val % pN = c % pN := by
    have := congrArg Fin.val h1
    rwa [fz_val, fz_val] at this
  have hn : n ≠ 0 := fun e => h0 (by rw [← he, e, Fin.mul_zero])
  have hn0 : 0 < n.val := Nat.pos_of_ne_zero fun e => hn (Fin.ext e)
  have h3 := p_fermat n.val hn0 n.isLt
  obtain ⟨m, hm⟩ : ∃ m, m = (pN - 1) / 3 := ⟨_, rfl⟩
  have hm3 : 3 * m = pN - 1 := by rw [hm]; decide +kernel
  have h4 : (n.val * n.val * n.val) ^ m % pN = c ^ m % pN := by rw [Nat.pow_mod, h2, ← Nat.pow_mod]
  have h5 : n.val * n.val * n.val = n.val ^ 3 := by rw [Nat.pow_succ, Nat.pow_succ, Nat.pow_succ, Nat.pow_zero, Nat.one_mul]
  rw [h5, ← Nat.pow_mul, hm3, h3] at h4
  refine h ?_
  rw [powm_eq 381 _ (by decide +kernel), ← hm]
  exact h4.symm
theorem qn_neg (a : Zq) : qn (-a) = qn a := by
  unfold qn
  rw [Zq.re_neg, Zq.im_neg]
  grind
theorem qn_b2 : qn b2 = fz 32 := by decide +kernel
theorem hN2 : NoZero b2 := fun x h => by
  have e : x * x * x = -b2 := by
    generalize b2 = c at h
    grind
  have h1 := congrArg qn e
  rw [qn_mul, qn_mul, qn_neg, qn_b2] at h1
  exact no_cube (c := 32) (by decide +kernel) (by decide +kernel) (by decide +kernel) (qn x) h1
end

section
open Go.RowKit Cv
theorem g2_fields : Tryz.prog.underlying 30 = some (.struct (List.toArray [⟨"X", 28, 0, false, "", "", 0⟩, ⟨"Y", 28, 12, false, "", "", 96⟩, ⟨"Inf", 4, 24, false, "", "", 192⟩])) := Tryz.underlying30
theorem flG2 : Flat 30 25 := ⟨Tryz.isAgg30, Tryz.sizeOf30⟩
theorem faG2_0 : FieldAt 30 0 0 := ⟨_, _, 11, g2_fields, rfl, rfl, Tryz.sizeOf28⟩
theorem faG2_1 : FieldAt 30 1 12 := ⟨_, _, 11, g2_fields, rfl, rfl, Tryz.sizeOf28⟩
theorem faG2_2 : FieldAt 30 2 24 := ⟨_, _, 0, g2_fields, rfl, rfl, Tryz.sizeOf4⟩
theorem segs_g20 : segs [.n 6 0, .n 6 0, .n 6 0, .n 6 0, .b false] = List.replicate 24 (Value.int .u64 0) ++ [.bool false] := by
  have h : segs [.n 6 0, .n 6 0, .n 6 0, .n 6 0, .b false] = segs ([0, 0, 0, 0].map (Seg.n 6)) ++ segs [.b false] := segs_app ([0, 0, 0, 0].map (Seg.n 6)) [.b false]
  rw [h, segs_nums, show [0, 0, 0, 0] = List.replicate 4 0 from rfl, rows_zero, cells0]
  rfl
theorem zG2 (w : World) : (zeroValue 30).run Tryz.prog w = .ok (sv [.n 6 0, .n 6 0, .n 6 0, .n 6 0, .b false]) w := by
  rw [Tryz.zeroValue30 w, sv, segs_g20]
  rfl
theorem stG2 : StructS 30 [.n 6 0, .n 6 0, .n 6 0, .n 6 0, .b false] [(0, 12), (12, 12), (24, 1)] := by
  refine ⟨_, g2_fields, zG2, fun w => ?_⟩
  simp [Sem.run_bind, Tryz.sizeOf28, Tryz.sizeOf4]
def shG2 : List Seg → Prop := fun l => ∃ a b, l = a ++ b ∧ Nums 6 2 a ∧ ∃ c d, b = c ++ d ∧ Nums 6 2 c ∧ ∃ e f, d = e ++ f ∧ (∃ r, e = [.b r]) ∧ f = []
theorem shG2_of {x0 x1 y0 y1 : Nat} {i : Bool} (hx0 : x0 < fpB) (hx1 : x1 < fpB) (hy0 : y0 < fpB) (hy1 : y1 < fpB) : shG2 [.n 6 x0, .n 6 x1, .n 6 y0, .n 6 y1, .b i] :=
  ⟨[.n 6 x0, .n 6 x1], [.n 6 y0, .n 6 y1, .b i], rfl, ⟨[x0, x1], rfl, fpB_all2 hx0 hx1, rfl⟩, [.n 6 y0, .n 6 y1], [.b i], rfl, ⟨[y0, y1], rfl, fpB_all2 hy0 hy1, rfl⟩, [.b i], [], rfl, ⟨i, rfl⟩, rfl⟩
theorem shG2_size {m : List Seg} (h : shG2 m) : ssize m = 25 := by
  obtain ⟨a, b, rfl, ha, c, d, rfl, hc, e, f, rfl, he, rfl⟩ := h
  rw [ssize_app, ssize_app, ssize_app, (nums_size ha).2, (nums_size hc).2, (one_size he).2]
  rfl
theorem eqG2 : EqT 30 4 3 shG2 sv :=
  EqT.struct (k := 3) g2_fields Tryz.stoodInHeld30 (fun m hm => by rw [shG2_size hm]; exact flG2)
    (.cons (n := 12) (j := 2) (by decide) rfl (fun _ h => nums_size h) (EqT.nums eqFp2 flFp2 rfl) (.cons (n := 12) (j := 2) (by decide) rfl (fun _ h => nums_size h) (EqT.nums eqFp2 flFp2 rfl)
      (.cons (n := 1) (j := 1) (by decide) rfl (fun _ h => one_size h) (EqT.more (EqT.more (EqT.bool Tryz.underlying4 sgBool))) (.nil _))))
theorem gdG2 : Tryz.prog.eqGuardType Tryz.prog.depth 30 = false := Tryz.eqGuardType30
theorem osG2 : OpensS 30 shG2 := OpensS.struct g2_fields (by kernel_rfl)
  (.cons (n := 12) rfl (by kernel_rfl) (OpensS.nums opens_fp2 rfl) (.cons (n := 12) rfl (by kernel_rfl) (OpensS.nums opens_fp2 rfl) (.cons (n := 1) rfl (by kernel_rfl) (OpensS.bool Tryz.underlying4) (.nil _))))
theorem ptg2_fields : Tryz.prog.underlying 91 = some (.struct (List.toArray [⟨"x", 28, 0, false, "", "chirograph/two", 0⟩, ⟨"y", 28, 12, false, "", "chirograph/two", 96⟩, ⟨"z", 28, 24, false, "", "chirograph/two", 192⟩])) := Tryz.underlying91
theorem flPG2 : Flat 91 36 := ⟨Tryz.isAgg91, Tryz.sizeOf91⟩
theorem faPG2_0 : FieldAt 91 0 0 := ⟨_, _, 11, ptg2_fields, rfl, rfl, Tryz.sizeOf28⟩
theorem faPG2_1 : FieldAt 91 1 12 := ⟨_, _, 11, ptg2_fields, rfl, rfl, Tryz.sizeOf28⟩
theorem faPG2_2 : FieldAt 91 2 24 := ⟨_, _, 11, ptg2_fields, rfl, rfl, Tryz.sizeOf28⟩
theorem zPG2 (w : World) : (zeroValue 91).run Tryz.prog w = .ok (sv [.n 6 0, .n 6 0, .n 6 0, .n 6 0, .n 6 0, .n 6 0]) w := by
  have h : segs [.n 6 0, .n 6 0, .n 6 0, .n 6 0, .n 6 0, .n 6 0] = segs ([0, 0, 0, 0, 0, 0].map (Seg.n 6)) := rfl
  rw [Tryz.zeroValue91 w, sv, h, segs_nums, show [0, 0, 0, 0, 0, 0] = List.replicate 6 0 from rfl, rows_zero, cells0]
  rfl
theorem stPG2 : StructS 91 [.n 6 0, .n 6 0, .n 6 0, .n 6 0, .n 6 0, .n 6 0] [(0, 12), (12, 12), (24, 12)] := by
  refine ⟨_, ptg2_fields, zPG2, fun w => ?_⟩
  simp [Sem.run_bind, Tryz.sizeOf28]
theorem zp_B2 (x : Zp) : x.val < fpB := Nat.lt_trans x.isLt fpM_lt
theorem qval_of {v : Zp} {n : Nat} (h : v = fz n) (hn : n < pN) : v.val = n := by
  rw [h, fz_val, Nat.mod_eq_of_lt hn]
theorem qsmall {n : Nat} (h : n < 1000) : n < pN := Nat.lt_trans h (by decide +kernel)
theorem qlit {n : Nat} (h : n < pN) : (fz n).val = n := by rw [fz_val, Nat.mod_eq_of_lt h]
theorem qlist {a b : Nat} {x : Zq} (ha : a = x.re.val) (hb : b = x.im.val) : [a, b] = [x.re.val, x.im.val] := by rw [ha, hb]
theorem qc (n : Nat) (h : n < pN) : [n, 0] = [(Zq.nat n).re.val, (Zq.nat n).im.val] := qlist (qlit h).symm rfl
theorem qc0 : [0, 0] = [(0 : Zq).re.val, (0 : Zq).im.val] := qc 0 (qsmall (by decide))
theorem qc1 : [1, 0] = [(1 : Zq).re.val, (1 : Zq).im.val] := qc 1 (qsmall (by decide))
theorem qc44 : [4, 4] = [b2.re.val, b2.im.val] := qlist (qlit (qsmall (by decide))).symm (qlit (qsmall (by decide))).symm
def b6 : Zq := fq 12 12
theorem b6_is : b6 = 3 * b2 := Zq.ext' (by decide +kernel) (by decide +kernel)
theorem qc1212 : [12, 12] = [b6.re.val, b6.im.val] := qlist (qlit (qsmall (by decide))).symm (qlit (qsmall (by decide))).symm
theorem duoMul_z {l m : List Nat} (x y v : Zq) (hl : l = [x.re.val, x.im.val]) (hm : m = [y.re.val, y.im.val]) (hv : v = x * y) (w : World) : Calls Tryz.prog 96 #[nv 6 l, nv 6 m] w (Is (nv 6 [v.re.val, v.im.val]) w) := by
  subst hl hm hv
  exact duoMul_e _ _ _ _ w (zp_B2 _) (zp_B2 _) (zp_B2 _) (zp_B2 _) _ _ (qval_of (by rw [fz_sub, fz_mul, fz_mul, fz_of, fz_of, fz_of, fz_of]; rfl) (pSub_P _ _)) (qval_of (by rw [fz_add, fz_mul, fz_mul, fz_of, fz_of, fz_of, fz_of]; rfl) (pAdd_P _ _))
theorem duoAdd_z {l m : List Nat} (x y v : Zq) (hl : l = [x.re.val, x.im.val]) (hm : m = [y.re.val, y.im.val]) (hv : v = x + y) (w : World) : Calls Tryz.prog 97 #[nv 6 l, nv 6 m] w (Is (nv 6 [v.re.val, v.im.val]) w) := by
  subst hl hm hv
  exact duoAdd_e _ _ _ _ w (zp_B2 _) (zp_B2 _) (zp_B2 _) (zp_B2 _) _ _ (qval_of (by rw [fz_add, fz_of, fz_of]; rfl) (pAdd_P _ _)) (qval_of (by rw [fz_add, fz_of, fz_of]; rfl) (pAdd_P _ _))
theorem duoSub_z {l m : List Nat} (x y v : Zq) (hl : l = [x.re.val, x.im.val]) (hm : m = [y.re.val, y.im.val]) (hv : v = x - y) (w : World) : Calls Tryz.prog 110 #[nv 6 l, nv 6 m] w (Is (nv 6 [v.re.val, v.im.val]) w) := by
  subst hl hm hv
  exact duoSub_e _ _ _ _ w (zp_B2 _) (zp_B2 _) (zp_B2 _) (zp_B2 _) _ _ (qval_of (by rw [fz_sub, fz_of, fz_of]; rfl) (pSub_P _ _)) (qval_of (by rw [fz_sub, fz_of, fz_of]; rfl) (pSub_P _ _))
theorem duoClean_z {l : List Nat} (x : Zq) (hl : l = [x.re.val, x.im.val]) (w : World) : Calls Tryz.prog 95 #[nv 6 l] w (Is (nv 6 [x.re.val, x.im.val]) w) := by
  subst hl
  exact duoClean_e _ _ w (zp_B2 _) (zp_B2 _) _ _ (Nat.mod_eq_of_lt x.re.isLt).symm (Nat.mod_eq_of_lt x.im.isLt).symm
theorem duoInv_z {l : List Nat} (x v : Zq) (hl : l = [x.re.val, x.im.val]) (hv : v = FdQ.inv x) (w : World) : Calls Tryz.prog 107 #[nv 6 l] w (Is (nv 6 [v.re.val, v.im.val]) w) := by
  subst hl hv
  obtain ⟨i, hi⟩ : ∃ i, i = pInv (pAdd (pMul x.re.val x.re.val) (pMul x.im.val x.im.val)) := ⟨_, rfl⟩
  have hz : fz i = zInv (x.re * x.re + x.im * x.im) := by rw [hi, fz_inv, fz_add, fz_mul, fz_mul, fz_of, fz_of]
  refine duoInv_e _ _ w (zp_B2 _) (zp_B2 _) i hi _ _ (qval_of ?_ (pMul_P _ _)) (qval_of ?_ (pMul_P _ _))
  · rw [fz_mul, fz_cl, fz_of, hz]
    rfl
  · rw [fz_mul, fz_neg, fz_of, hz]
    show -(x.im * zInv (x.re * x.re + x.im * x.im)) = _
    generalize zInv (x.re * x.re + x.im * x.im) = j
    clear hz hi
    grind
section
variable {ρ : Operand → Value} {d : Option Tmp} {ty0 t2 : TypeId} {pos : String} {after : Array Edge} {guard : Option (Nat × Bool)} {w : World} {X Y : Operand} {l m : List Nat}
theorem zq_list {x y : Zq} {r : Bool} (hr : r = true ↔ x = y) : r = decide ([x.re.val, x.im.val] = [y.re.val, y.im.val]) := by
  rw [Bool.eq_iff_iff, decide_eq_true_iff, hr]
  constructor
  · intro h; rw [h]
  · intro h
    simp only [List.cons.injEq, and_true] at h
    exact Zq.ext' (Fin.ext h.1) (Fin.ext h.2)
theorem ex_eqzq (x y : Zq) (hl : l = [x.re.val, x.im.val]) (hm : m = [y.re.val, y.im.val]) (hx : ρ X = nv 6 l) (hy : ρ Y = nv 6 m) (r : Bool) (hr : r = true ↔ x = y) :
    (execOp ρ ⟨d, .binOp .eql 28 X Y t2, ty0, pos, after, guard⟩).run Tryz.prog w = .ok (.value (.bool r)) w := by
  subst hl hm
  exact ex_eqn eqFp2 rfl hx hy rfl rfl (fpB_all2 (zp_B2 _) (zp_B2 _)) (fpB_all2 (zp_B2 _) (zp_B2 _)) rfl r (zq_list hr)
end
def bx0 : Pt Zq → Nat
  | .inf => 0
  | .aff x _ => x.re.val
def bx1 : Pt Zq → Nat
  | .inf => 0
  | .aff x _ => x.im.val
def by0 : Pt Zq → Nat
  | .inf => 0
  | .aff _ y => y.re.val
def by1 : Pt Zq → Nat
  | .inf => 0
  | .aff _ y => y.im.val
def bi : Pt Zq → Bool
  | .inf => true
  | .aff _ _ => false
theorem bx0_P (P : Pt Zq) : bx0 P < pN := by
  cases P with
  | inf => exact qsmall (by decide)
  | aff x y => exact x.re.isLt
theorem bx1_P (P : Pt Zq) : bx1 P < pN := by
  cases P with
  | inf => exact qsmall (by decide)
  | aff x y => exact x.im.isLt
theorem by0_P (P : Pt Zq) : by0 P < pN := by
  cases P with
  | inf => exact qsmall (by decide)
  | aff x y => exact y.re.isLt
theorem by1_P (P : Pt Zq) : by1 P < pN := by
  cases P with
  | inf => exact qsmall (by decide)
  | aff x y => exact y.im.isLt
theorem bx0_B (P : Pt Zq) : bx0 P < fpB := Nat.lt_trans (bx0_P P) fpM_lt
theorem bx1_B (P : Pt Zq) : bx1 P < fpB := Nat.lt_trans (bx1_P P) fpM_lt
theorem by0_B (P : Pt Zq) : by0 P < fpB := Nat.lt_trans (by0_P P) fpM_lt
theorem by1_B (P : Pt Zq) : by1 P < fpB := Nat.lt_trans (by1_P P) fpM_lt
theorem gs_inj2 {P Q : Pt Zq} (h : [Seg.n 6 (bx0 P), .n 6 (bx1 P), .n 6 (by0 P), .n 6 (by1 P), .b (bi P)] = [Seg.n 6 (bx0 Q), .n 6 (bx1 Q), .n 6 (by0 Q), .n 6 (by1 Q), .b (bi Q)]) : P = Q := by
  simp only [List.cons.injEq, Seg.n.injEq, Seg.b.injEq, true_and, and_true] at h
  obtain ⟨h1, h2, h3, h4, h5⟩ := h
  match P, Q, h1, h2, h3, h4, h5 with
  | .inf, .inf, _, _, _, _, _ => rfl
  | .inf, .aff _ _, _, _, _, _, h => cases h
  | .aff _ _, .inf, _, _, _, _, h => cases h
  | .aff x y, .aff x' y', h1, h2, h3, h4, _ => rw [show x = x' from Zq.ext' (Fin.ext h1) (Fin.ext h2), show y = y' from Zq.ext' (Fin.ext h3) (Fin.ext h4)]
end
end

section
open Go.RowKit Cv
set_option maxRecDepth 20000
set_option maxHeartbeats 4000000
theorem twoone_v : CI 104 #[] (nv 6 [1, 0]) := fun w => by
  go_enter Tryz.func104, Tryz.ntmps104
  refine rh1 (brf w) 28 0 [.n 6 0, .n 6 0] [0] (fun γ => [pz (γ 0)]) ?_ ?_
  · exact stpb 0 (fun γ w h => ex_allocsn (K := 6) (l := [0, 0]) zFp2) .nil
  intro γ1 w1 hb1 A2 le2 HB3
  refine rhs HB3 le2 2 0 [.n 6 1, .n 6 0] [1, 2] [nv 6 [1], nv 6 [1, 0]] ?_ ?_
  · refine latv (fun γ w h => ex_one rfl) ?_
    refine latv (fun γ w h => ex_build stFp2 (vs := [(0, nv 6 [1])]) rfl (bdA 1)) ?_
    exact lato 0 2 flFp2.2 (nv_cells 6 [1, 0]) A2 .nil
  intro w4 w4_ hb4 hs4 HB8
  have A5 := A2.keep hb4.out
  have A7 := hs4.here 0 2 (l' := [.n 6 1, .n 6 0]) A5 rfl rfl rfl
  exact wpr (ret1 Tryz.results104 (res_nv (K := 6) (l := [1, 0]) rfl A7 flFp2 rfl)) HB8
theorem twoalike_4 : CI 98 #[.int .u64 4] (nv 6 [4, 4]) := fun w => by
  go_enter Tryz.func98, Tryz.ntmps98
  refine rh1 (brf w) 28 0 [.n 6 0, .n 6 0] [2] (fun γ => [pz (γ 0)]) ?_ ?_
  · exact stpb 0 (fun γ w h => ex_allocsn (K := 6) (l := [0, 0]) zFp2) .nil
  intro γ1 w1 hb1 A2 le2 HB3
  refine rhs HB3 le2 5 0 [.n 6 4, .n 6 4] [3, 4, 5, 6, 7] [.int .u64 4, nv 6 [4], .int .u64 4, nv 6 [4], nv 6 [4, 4]] ?_ ?_
  · refine latm ?_
    refine latv (fun γ w h => ex_limb6 (e := 4) (by decide) rfl) ?_
    refine latm ?_
    refine latv (fun γ w h => ex_limb6 (e := 4) (by decide) rfl) ?_
    refine latv (fun γ w h => ex_build stFp2 (vs := [(0, nv 6 [4]), (1, nv 6 [4])]) rfl (bdAB 4 4)) ?_
    exact lato 0 2 flFp2.2 (nv_cells 6 [4, 4]) A2 .nil
  intro w4 w4_ hb4 hs4 HB8
  have A5 := A2.keep hb4.out
  have A7 := hs4.here 0 2 (l' := [.n 6 4, .n 6 4]) A5 rfl rfl rfl
  exact wpr (ret1 Tryz.results98 (res_nv (K := 6) (l := [4, 4]) rfl A7 flFp2 rfl)) HB8
theorem twoalike_12 : CI 98 #[.int .u64 12] (nv 6 [12, 12]) := fun w => by
  go_enter Tryz.func98, Tryz.ntmps98
  refine rh1 (brf w) 28 0 [.n 6 0, .n 6 0] [2] (fun γ => [pz (γ 0)]) ?_ ?_
  · exact stpb 0 (fun γ w h => ex_allocsn (K := 6) (l := [0, 0]) zFp2) .nil
  intro γ1 w1 hb1 A2 le2 HB3
  refine rhs HB3 le2 5 0 [.n 6 12, .n 6 12] [3, 4, 5, 6, 7] [.int .u64 12, nv 6 [12], .int .u64 12, nv 6 [12], nv 6 [12, 12]] ?_ ?_
  · refine latm ?_
    refine latv (fun γ w h => ex_limb6 (e := 12) (by decide) rfl) ?_
    refine latm ?_
    refine latv (fun γ w h => ex_limb6 (e := 12) (by decide) rfl) ?_
    refine latv (fun γ w h => ex_build stFp2 (vs := [(0, nv 6 [12]), (1, nv 6 [12])]) rfl (bdAB 12 12)) ?_
    exact lato 0 2 flFp2.2 (nv_cells 6 [12, 12]) A2 .nil
  intro w4 w4_ hb4 hs4 HB8
  have A5 := A2.keep hb4.out
  have A7 := hs4.here 0 2 (l' := [.n 6 12, .n 6 12]) A5 rfl rfl rfl
  exact wpr (ret1 Tryz.results98 (res_nv (K := 6) (l := [12, 12]) rfl A7 flFp2 rfl)) HB8
theorem twotwofold_e' (x v : Zq) (hv : v = 2 * x) : CI 159 #[nv 6 [x.re.val, x.im.val]] (nv 6 [v.re.val, v.im.val]) := fun w => by
  obtain ⟨z1, ez1⟩ := nm (x + x : Zq)
  obtain rfl : z1 = v := by subst ez1; rw [hv]; first | done | (clear hv; grind)
  go_enter Tryz.func159, Tryz.ntmps159
  refine rh2 (brf w) 28 0 [.n 6 x.re.val, .n 6 x.im.val] 28 1 [.n 6 0, .n 6 0] [1, 2] (fun γ => [pz (γ 0), pz (γ 1)]) ?_ ?_
  · refine stpb 0 (fun γ w h => ex_boxsn (K := 6) (l := [x.re.val, x.im.val]) rfl) ?_
    exact stpb 1 (fun γ w h => ex_allocsn (K := 6) (l := [0, 0]) zFp2) .nil
  intro γ1 w1 hb1 A2 A3 _ le3 hn1 HB4
  refine rhs HB4 le3 3 0 [.n 6 z1.re.val, .n 6 z1.im.val] [3, 4, 5] [nv 6 [x.re.val, x.im.val], nv 6 [x.re.val, x.im.val], nv 6 [z1.re.val, z1.im.val]] ?_ ?_
  · refine latl 0 2 flFp2 A2 ?_
    refine latl 0 2 flFp2 A2 ?_
    refine latk Tryz.call97 (fun w h => duoAdd_z x x z1 rfl rfl ez1 _) ?_
    exact lato 0 2 flFp2.2 (nv_cells 6 [z1.re.val, z1.im.val]) A3 .nil
  intro w5 w5_ hb5 hs5 HB11
  have A7 := A3.keep hb5.out
  have A10 := hs5.here 0 2 (l' := [.n 6 z1.re.val, .n 6 z1.im.val]) A7 rfl rfl rfl
  exact wpr (ret1 Tryz.results159 (res_nv (K := 6) (l := [z1.re.val, z1.im.val]) rfl A10 flFp2 rfl)) HB11
theorem twotwofold_e {l0 : List Nat} (x v : Zq) (hl0 : l0 = [x.re.val, x.im.val]) (hv : v = 2 * x) : CI 159 #[nv 6 l0] (nv 6 [v.re.val, v.im.val]) := fun w => by
  subst hl0
  exact twotwofold_e' x v hv w
theorem twothreefold_e' (x v : Zq) (hv : v = 3 * x) : CI 108 #[nv 6 [x.re.val, x.im.val]] (nv 6 [v.re.val, v.im.val]) := fun w => by
  obtain ⟨z1, ez1⟩ := nm (2 * x : Zq)
  obtain ⟨z2, ez2⟩ := nm (z1 + x : Zq)
  obtain rfl : z2 = v := by subst ez2 ez1; rw [hv]; first | done | (clear hv; grind)
  go_enter Tryz.func108, Tryz.ntmps108
  refine rh2 (brf w) 28 0 [.n 6 x.re.val, .n 6 x.im.val] 28 1 [.n 6 0, .n 6 0] [1, 2] (fun γ => [pz (γ 0), pz (γ 1)]) ?_ ?_
  · refine stpb 0 (fun γ w h => ex_boxsn (K := 6) (l := [x.re.val, x.im.val]) rfl) ?_
    exact stpb 1 (fun γ w h => ex_allocsn (K := 6) (l := [0, 0]) zFp2) .nil
  intro γ1 w1 hb1 A2 A3 _ le3 hn1 HB4
  refine rhs HB4 le3 4 0 [.n 6 z2.re.val, .n 6 z2.im.val] [3, 4, 5, 6] [nv 6 [x.re.val, x.im.val], nv 6 [z1.re.val, z1.im.val], nv 6 [x.re.val, x.im.val], nv 6 [z2.re.val, z2.im.val]] ?_ ?_
  · refine latl 0 2 flFp2 A2 ?_
    refine latk Tryz.call159 (fun w h => twotwofold_e x z1 rfl ez1 _) ?_
    refine latl 0 2 flFp2 A2 ?_
    refine latk Tryz.call97 (fun w h => duoAdd_z z1 x z2 rfl rfl ez2 _) ?_
    exact lato 0 2 flFp2.2 (nv_cells 6 [z2.re.val, z2.im.val]) A3 .nil
  intro w5 w5_ hb5 hs5 HB11
  have A7 := A3.keep hb5.out
  have A10 := hs5.here 0 2 (l' := [.n 6 z2.re.val, .n 6 z2.im.val]) A7 rfl rfl rfl
  exact wpr (ret1 Tryz.results108 (res_nv (K := 6) (l := [z2.re.val, z2.im.val]) rfl A10 flFp2 rfl)) HB11
theorem twothreefold_e {l0 : List Nat} (x v : Zq) (hl0 : l0 = [x.re.val, x.im.val]) (hv : v = 3 * x) : CI 108 #[nv 6 l0] (nv 6 [v.re.val, v.im.val]) := fun w => by
  subst hl0
  exact twothreefold_e' x v hv w
theorem twoeightfold_e' (x v : Zq) (hv : v = 8 * x) : CI 158 #[nv 6 [x.re.val, x.im.val]] (nv 6 [v.re.val, v.im.val]) := fun w => by
  obtain ⟨z1, ez1⟩ := nm (2 * x : Zq)
  obtain ⟨z2, ez2⟩ := nm (2 * z1 : Zq)
  obtain ⟨z3, ez3⟩ := nm (2 * z2 : Zq)
  obtain rfl : z3 = v := by subst ez3 ez2 ez1; rw [hv]; first | done | (clear hv; grind)
  go_enter Tryz.func158, Tryz.ntmps158
  refine rh2 (brf w) 28 0 [.n 6 x.re.val, .n 6 x.im.val] 28 1 [.n 6 0, .n 6 0] [1, 2] (fun γ => [pz (γ 0), pz (γ 1)]) ?_ ?_
  · refine stpb 0 (fun γ w h => ex_boxsn (K := 6) (l := [x.re.val, x.im.val]) rfl) ?_
    exact stpb 1 (fun γ w h => ex_allocsn (K := 6) (l := [0, 0]) zFp2) .nil
  intro γ1 w1 hb1 A2 A3 _ le3 hn1 HB4
  refine rhs HB4 le3 4 0 [.n 6 z3.re.val, .n 6 z3.im.val] [3, 4, 5, 6] [nv 6 [x.re.val, x.im.val], nv 6 [z1.re.val, z1.im.val], nv 6 [z2.re.val, z2.im.val], nv 6 [z3.re.val, z3.im.val]] ?_ ?_
  · refine latl 0 2 flFp2 A2 ?_
    refine latk Tryz.call159 (fun w h => twotwofold_e x z1 rfl ez1 _) ?_
    refine latk Tryz.call159 (fun w h => twotwofold_e z1 z2 rfl ez2 _) ?_
    refine latk Tryz.call159 (fun w h => twotwofold_e z2 z3 rfl ez3 _) ?_
    exact lato 0 2 flFp2.2 (nv_cells 6 [z3.re.val, z3.im.val]) A3 .nil
  intro w5 w5_ hb5 hs5 HB11
  have A7 := A3.keep hb5.out
  have A10 := hs5.here 0 2 (l' := [.n 6 z3.re.val, .n 6 z3.im.val]) A7 rfl rfl rfl
  exact wpr (ret1 Tryz.results158 (res_nv (K := 6) (l := [z3.re.val, z3.im.val]) rfl A10 flFp2 rfl)) HB11
theorem twoeightfold_e {l0 : List Nat} (x v : Zq) (hl0 : l0 = [x.re.val, x.im.val]) (hv : v = 8 * x) : CI 158 #[nv 6 l0] (nv 6 [v.re.val, v.im.val]) := fun w => by
  subst hl0
  exact twoeightfold_e' x v hv w
theorem twocrossed_e' (x1 y1 x2 y2 v : Zq) (hv : v = x1 * y2 + y1 * x2) : CI 109 #[nv 6 [x1.re.val, x1.im.val], nv 6 [y1.re.val, y1.im.val], nv 6 [x2.re.val, x2.im.val], nv 6 [y2.re.val, y2.im.val]] (nv 6 [v.re.val, v.im.val]) := fun w => by
  obtain ⟨z1, ez1⟩ := nm (x1 * y2 : Zq)
  obtain ⟨z2, ez2⟩ := nm (y1 * x2 : Zq)
  obtain ⟨z3, ez3⟩ := nm (z1 + z2 : Zq)
  obtain rfl : z3 = v := by subst ez3 ez2 ez1; rw [hv]; first | done | (clear hv; grind)
  go_enter Tryz.func109, Tryz.ntmps109
  refine rhc (brf w) [bs 28 0 [.n 6 x1.re.val, .n 6 x1.im.val], bs 28 1 [.n 6 y1.re.val, .n 6 y1.im.val], bs 28 2 [.n 6 x2.re.val, .n 6 x2.im.val], bs 28 3 [.n 6 y2.re.val, .n 6 y2.im.val], bs 28 4 [.n 6 0, .n 6 0]] [4, 5, 6, 7, 8] (fun γ => [pz (γ 0), pz (γ 1), pz (γ 2), pz (γ 3), pz (γ 4)]) ?_ ?_
  · refine stpb 0 (fun γ w h => ex_boxsn (K := 6) (l := [x1.re.val, x1.im.val]) rfl) ?_
    refine stpb 1 (fun γ w h => ex_boxsn (K := 6) (l := [y1.re.val, y1.im.val]) rfl) ?_
    refine stpb 2 (fun γ w h => ex_boxsn (K := 6) (l := [x2.re.val, x2.im.val]) rfl) ?_
    refine stpb 3 (fun γ w h => ex_boxsn (K := 6) (l := [y2.re.val, y2.im.val]) rfl) ?_
    exact stpb 4 (fun γ w h => ex_allocsn (K := 6) (l := [0, 0]) zFp2) .nil
  intro γ1 w1 hb1 hB1 hn1 HB7
  have A2 : SB 28 w1 (γ1 0) [.n 6 x1.re.val, .n 6 x1.im.val] := (hB1 0 rfl).2
  have A3 : SB 28 w1 (γ1 1) [.n 6 y1.re.val, .n 6 y1.im.val] := (hB1 1 rfl).2
  have A4 : SB 28 w1 (γ1 2) [.n 6 x2.re.val, .n 6 x2.im.val] := (hB1 2 rfl).2
  have A5 : SB 28 w1 (γ1 3) [.n 6 y2.re.val, .n 6 y2.im.val] := (hB1 3 rfl).2
  have A6 : SB 28 w1 (γ1 4) [.n 6 0, .n 6 0] := (hB1 4 rfl).2
  have le6 := (hB1 4 rfl).1
  refine rhs HB7 le6 7 0 [.n 6 z3.re.val, .n 6 z3.im.val] [9, 10, 11, 12, 13, 14, 15] [nv 6 [x1.re.val, x1.im.val], nv 6 [y2.re.val, y2.im.val], nv 6 [z1.re.val, z1.im.val], nv 6 [y1.re.val, y1.im.val], nv 6 [x2.re.val, x2.im.val], nv 6 [z2.re.val, z2.im.val], nv 6 [z3.re.val, z3.im.val]] ?_ ?_
  · refine latl 0 2 flFp2 A2 ?_
    refine latl 0 2 flFp2 A5 ?_
    refine latk Tryz.call96 (fun w h => duoMul_z x1 y2 z1 rfl rfl ez1 _) ?_
    refine latl 0 2 flFp2 A3 ?_
    refine latl 0 2 flFp2 A4 ?_
    refine latk Tryz.call96 (fun w h => duoMul_z y1 x2 z2 rfl rfl ez2 _) ?_
    refine latk Tryz.call97 (fun w h => duoAdd_z z1 z2 z3 rfl rfl ez3 _) ?_
    exact lato 0 2 flFp2.2 (nv_cells 6 [z3.re.val, z3.im.val]) A6 .nil
  intro w8 w8_ hb8 hs8 HB20
  have A13 := A6.keep hb8.out
  have A19 := hs8.here 0 2 (l' := [.n 6 z3.re.val, .n 6 z3.im.val]) A13 rfl rfl rfl
  exact wpr (ret1 Tryz.results109 (res_nv (K := 6) (l := [z3.re.val, z3.im.val]) rfl A19 flFp2 rfl)) HB20
theorem twocrossed_e {l0 : List Nat} {l1 : List Nat} {l2 : List Nat} {l3 : List Nat} (x1 y1 x2 y2 v : Zq) (hl0 : l0 = [x1.re.val, x1.im.val]) (hl1 : l1 = [y1.re.val, y1.im.val]) (hl2 : l2 = [x2.re.val, x2.im.val]) (hl3 : l3 = [y2.re.val, y2.im.val]) (hv : v = x1 * y2 + y1 * x2) : CI 109 #[nv 6 l0, nv 6 l1, nv 6 l2, nv 6 l3] (nv 6 [v.re.val, v.im.val]) := fun w => by
  subst hl0 hl1 hl2 hl3
  exact twocrossed_e' x1 y1 x2 y2 v hv w
theorem twoplus_q {s t u : Tri Zq} (hu : u = plusT b6 s t) : CI 60 #[sv [.n 6 s.x.re.val, .n 6 s.x.im.val, .n 6 s.y.re.val, .n 6 s.y.im.val, .n 6 s.z.re.val, .n 6 s.z.im.val], sv [.n 6 t.x.re.val, .n 6 t.x.im.val, .n 6 t.y.re.val, .n 6 t.y.im.val, .n 6 t.z.re.val, .n 6 t.z.im.val]] (sv [.n 6 u.x.re.val, .n 6 u.x.im.val, .n 6 u.y.re.val, .n 6 u.y.im.val, .n 6 u.z.re.val, .n 6 u.z.im.val]) := fun w => by
  obtain ⟨z1, ez1⟩ := nm (s.x * t.x : Zq)
  obtain ⟨z2, ez2⟩ := nm (3 * z1 : Zq)
  obtain ⟨z3, ez3⟩ := nm (s.y * t.y : Zq)
  obtain ⟨z4, ez4⟩ := nm (s.z * t.z : Zq)
  obtain ⟨z5, ez5⟩ := nm (b6 * z4 : Zq)
  obtain ⟨z6, ez6⟩ := nm (s.x * t.z + s.z * t.x : Zq)
  obtain ⟨z7, ez7⟩ := nm (b6 * z6 : Zq)
  obtain ⟨z8, ez8⟩ := nm (s.x * t.y + s.y * t.x : Zq)
  obtain ⟨z9, ez9⟩ := nm (s.y * t.z + s.z * t.y : Zq)
  obtain ⟨z10, ez10⟩ := nm (z3 - z5 : Zq)
  obtain ⟨z11, ez11⟩ := nm (z3 + z5 : Zq)
  obtain ⟨z12, ez12⟩ := nm (z8 * z10 : Zq)
  obtain ⟨z13, ez13⟩ := nm (z9 * z7 : Zq)
  obtain ⟨z14, ez14⟩ := nm (z12 - z13 : Zq)
  obtain ⟨z15, ez15⟩ := nm (z11 * z10 : Zq)
  obtain ⟨z16, ez16⟩ := nm (z2 * z7 : Zq)
  obtain ⟨z17, ez17⟩ := nm (z15 + z16 : Zq)
  obtain ⟨z18, ez18⟩ := nm (z9 * z11 : Zq)
  obtain ⟨z19, ez19⟩ := nm (z2 * z8 : Zq)
  obtain ⟨z20, ez20⟩ := nm (z18 + z19 : Zq)
  have E : plusT b6 s t = ⟨z14, z17, z20⟩ := by subst ez20 ez19 ez18 ez17 ez16 ez15 ez14 ez13 ez12 ez11 ez10 ez9 ez8 ez7 ez6 ez5 ez4 ez3 ez2 ez1; rfl
  rw [hu, E]
  go_enter Tryz.func60, Tryz.ntmps60
  refine rh3 (brf w) 91 0 [.n 6 s.x.re.val, .n 6 s.x.im.val, .n 6 s.y.re.val, .n 6 s.y.im.val, .n 6 s.z.re.val, .n 6 s.z.im.val] 91 1 [.n 6 t.x.re.val, .n 6 t.x.im.val, .n 6 t.y.re.val, .n 6 t.y.im.val, .n 6 t.z.re.val, .n 6 t.z.im.val] 91 2 [.n 6 0, .n 6 0, .n 6 0, .n 6 0, .n 6 0, .n 6 0] [2, 3, 4] (fun γ => [pz (γ 0), pz (γ 1), pz (γ 2)]) ?_ ?_
  · refine stpb 0 (fun γ w h => ex_boxs (l := [.n 6 s.x.re.val, .n 6 s.x.im.val, .n 6 s.y.re.val, .n 6 s.y.im.val, .n 6 s.z.re.val, .n 6 s.z.im.val]) rfl) ?_
    refine stpb 1 (fun γ w h => ex_boxs (l := [.n 6 t.x.re.val, .n 6 t.x.im.val, .n 6 t.y.re.val, .n 6 t.y.im.val, .n 6 t.z.re.val, .n 6 t.z.im.val]) rfl) ?_
    exact stpb 2 (fun γ w h => ex_allocs (l := [.n 6 0, .n 6 0, .n 6 0, .n 6 0, .n 6 0, .n 6 0]) zPG2) .nil
  intro γ1 w1 hb1 A2 A3 A4 _ _ le4 hn1 HB5
  refine rhc HB5 [(28, 11, 13, [.n 6 0, .n 6 0], [.n 6 z2.re.val, .n 6 z2.im.val]), (28, 12, 14, [.n 6 0, .n 6 0], [.n 6 z3.re.val, .n 6 z3.im.val])] [13, 14, 15, 16, 17, 18, 19, 20, 21, 22, 23, 5, 6] (fun γ => [pz (γ1 0), nv 6 [s.x.re.val, s.x.im.val], pz (γ1 1), nv 6 [t.x.re.val, t.x.im.val], nv 6 [z1.re.val, z1.im.val], nv 6 [z2.re.val, z2.im.val], pq (γ1 0) 12, nv 6 [s.y.re.val, s.y.im.val], pq (γ1 1) 12, nv 6 [t.y.re.val, t.y.im.val], nv 6 [z3.re.val, z3.im.val], pz (γ 0), pz (γ 1)]) ?_ ?_
  · refine stpx (fun _ _ => ex_field faPG2_0 rfl) ?_
    refine stpl 0 2 flFp2 A2 ?_
    refine stpx (fun _ _ => ex_field faPG2_0 rfl) ?_
    refine stpl 0 2 flFp2 A3 ?_
    refine stpk Tryz.call96 (fun w h => duoMul_z s.x t.x z1 rfl rfl ez1 _) ?_
    refine stpk Tryz.call108 (fun w h => twothreefold_e z1 z2 rfl ez2 _) ?_
    refine stpx (fun _ _ => ex_field faPG2_1 rfl) ?_
    refine stpl 2 2 flFp2 A2 ?_
    refine stpx (fun _ _ => ex_field faPG2_1 rfl) ?_
    refine stpl 2 2 flFp2 A3 ?_
    refine stpk Tryz.call96 (fun w h => duoMul_z s.y t.y z3 rfl rfl ez3 _) ?_
    refine stpn 0 (fun γ w => ex_allocsn (K := 6) (l := [0, 0]) zFp2) ?_
    refine stpn 1 (fun γ w => ex_allocsn (K := 6) (l := [0, 0]) zFp2) ?_
    refine stpo 0 0 2 flFp2.2 (nv_cells 6 [z2.re.val, z2.im.val]) ?_
    exact stpo 1 0 2 flFp2.2 (nv_cells 6 [z3.re.val, z3.im.val]) .nil
  intro γ6 w6 hb6 hB6 hn6 HB12
  have A7 := A2.keep hb6.out
  have A8 := A3.keep hb6.out
  have A9 := A4.keep hb6.out
  have A10 : SB 28 w6 (γ6 0) [.n 6 z2.re.val, .n 6 z2.im.val] := (hB6 0 rfl).2
  have A11 : SB 28 w6 (γ6 1) [.n 6 z3.re.val, .n 6 z3.im.val] := (hB6 1 rfl).2
  refine rhc HB12 [(28, 7, 8, [.n 6 0, .n 6 0], [.n 6 z5.re.val, .n 6 z5.im.val])] [24, 25, 26, 27, 28, 29, 30, 7] (fun γ => [nv 6 [12, 12], pq (γ1 0) 24, nv 6 [s.z.re.val, s.z.im.val], pq (γ1 1) 24, nv 6 [t.z.re.val, t.z.im.val], nv 6 [z4.re.val, z4.im.val], nv 6 [z5.re.val, z5.im.val], pz (γ 0)]) ?_ ?_
  · refine stpk Tryz.call98 (fun w h => twoalike_12 _) ?_
    refine stpx (fun _ _ => ex_field faPG2_2 rfl) ?_
    refine stpl 4 2 flFp2 A7 ?_
    refine stpx (fun _ _ => ex_field faPG2_2 rfl) ?_
    refine stpl 4 2 flFp2 A8 ?_
    refine stpk Tryz.call96 (fun w h => duoMul_z s.z t.z z4 rfl rfl ez4 _) ?_
    refine stpk Tryz.call96 (fun w h => duoMul_z b6 z4 z5 qc1212 rfl ez5 _) ?_
    refine stpn 0 (fun γ w => ex_allocsn (K := 6) (l := [0, 0]) zFp2) ?_
    exact stpo 0 0 2 flFp2.2 (nv_cells 6 [z5.re.val, z5.im.val]) .nil
  intro γ13 w13 hb13 hB13 _ HB20
  have A14 := A7.keep hb13.out
  have A15 := A8.keep hb13.out
  have A16 := A9.keep hb13.out
  have A17 := A10.keep hb13.out
  have A18 := A11.keep hb13.out
  have A19 : SB 28 w13 (γ13 0) [.n 6 z5.re.val, .n 6 z5.im.val] := (hB13 0 rfl).2
  refine rhc HB20 [(28, 11, 12, [.n 6 0, .n 6 0], [.n 6 z7.re.val, .n 6 z7.im.val])] [31, 32, 33, 34, 35, 36, 37, 38, 39, 40, 41, 8] (fun γ => [nv 6 [12, 12], pz (γ1 0), nv 6 [s.x.re.val, s.x.im.val], pq (γ1 0) 24, nv 6 [s.z.re.val, s.z.im.val], pz (γ1 1), nv 6 [t.x.re.val, t.x.im.val], pq (γ1 1) 24, nv 6 [t.z.re.val, t.z.im.val], nv 6 [z6.re.val, z6.im.val], nv 6 [z7.re.val, z7.im.val], pz (γ 0)]) ?_ ?_
  · refine stpk Tryz.call98 (fun w h => twoalike_12 _) ?_
    refine stpx (fun _ _ => ex_field faPG2_0 rfl) ?_
    refine stpl 0 2 flFp2 A14 ?_
    refine stpx (fun _ _ => ex_field faPG2_2 rfl) ?_
    refine stpl 4 2 flFp2 A14 ?_
    refine stpx (fun _ _ => ex_field faPG2_0 rfl) ?_
    refine stpl 0 2 flFp2 A15 ?_
    refine stpx (fun _ _ => ex_field faPG2_2 rfl) ?_
    refine stpl 4 2 flFp2 A15 ?_
    refine stpk Tryz.call109 (fun w h => twocrossed_e s.x s.z t.x t.z z6 rfl rfl rfl rfl ez6 _) ?_
    refine stpk Tryz.call96 (fun w h => duoMul_z b6 z6 z7 qc1212 rfl ez7 _) ?_
    refine stpn 0 (fun γ w => ex_allocsn (K := 6) (l := [0, 0]) zFp2) ?_
    exact stpo 0 0 2 flFp2.2 (nv_cells 6 [z7.re.val, z7.im.val]) .nil
  intro γ21 w21 hb21 hB21 _ HB29
  have A22 := A14.keep hb21.out
  have A23 := A15.keep hb21.out
  have A24 := A16.keep hb21.out
  have A25 := A17.keep hb21.out
  have A26 := A18.keep hb21.out
  have A27 := A19.keep hb21.out
  have A28 : SB 28 w21 (γ21 0) [.n 6 z7.re.val, .n 6 z7.im.val] := (hB21 0 rfl).2
  refine rhc HB29 [(28, 18, 20, [.n 6 0, .n 6 0], [.n 6 z8.re.val, .n 6 z8.im.val]), (28, 19, 21, [.n 6 0, .n 6 0], [.n 6 z9.re.val, .n 6 z9.im.val])] [42, 43, 44, 45, 46, 47, 48, 49, 50, 51, 52, 53, 54, 55, 56, 57, 58, 59, 9, 10] (fun γ => [pz (γ1 0), nv 6 [s.x.re.val, s.x.im.val], pq (γ1 0) 12, nv 6 [s.y.re.val, s.y.im.val], pz (γ1 1), nv 6 [t.x.re.val, t.x.im.val], pq (γ1 1) 12, nv 6 [t.y.re.val, t.y.im.val], nv 6 [z8.re.val, z8.im.val], pq (γ1 0) 12, nv 6 [s.y.re.val, s.y.im.val], pq (γ1 0) 24, nv 6 [s.z.re.val, s.z.im.val], pq (γ1 1) 12, nv 6 [t.y.re.val, t.y.im.val], pq (γ1 1) 24, nv 6 [t.z.re.val, t.z.im.val], nv 6 [z9.re.val, z9.im.val], pz (γ 0), pz (γ 1)]) ?_ ?_
  · refine stpx (fun _ _ => ex_field faPG2_0 rfl) ?_
    refine stpl 0 2 flFp2 A22 ?_
    refine stpx (fun _ _ => ex_field faPG2_1 rfl) ?_
    refine stpl 2 2 flFp2 A22 ?_
    refine stpx (fun _ _ => ex_field faPG2_0 rfl) ?_
    refine stpl 0 2 flFp2 A23 ?_
    refine stpx (fun _ _ => ex_field faPG2_1 rfl) ?_
    refine stpl 2 2 flFp2 A23 ?_
    refine stpk Tryz.call109 (fun w h => twocrossed_e s.x s.y t.x t.y z8 rfl rfl rfl rfl ez8 _) ?_
    refine stpx (fun _ _ => ex_field faPG2_1 rfl) ?_
    refine stpl 2 2 flFp2 A22 ?_
    refine stpx (fun _ _ => ex_field faPG2_2 rfl) ?_
    refine stpl 4 2 flFp2 A22 ?_
    refine stpx (fun _ _ => ex_field faPG2_1 rfl) ?_
    refine stpl 2 2 flFp2 A23 ?_
    refine stpx (fun _ _ => ex_field faPG2_2 rfl) ?_
    refine stpl 4 2 flFp2 A23 ?_
    refine stpk Tryz.call109 (fun w h => twocrossed_e s.y s.z t.y t.z z9 rfl rfl rfl rfl ez9 _) ?_
    refine stpn 0 (fun γ w => ex_allocsn (K := 6) (l := [0, 0]) zFp2) ?_
    refine stpn 1 (fun γ w => ex_allocsn (K := 6) (l := [0, 0]) zFp2) ?_
    refine stpo 0 0 2 flFp2.2 (nv_cells 6 [z8.re.val, z8.im.val]) ?_
    exact stpo 1 0 2 flFp2.2 (nv_cells 6 [z9.re.val, z9.im.val]) .nil
  intro γ30 w30 hb30 hB30 hn30 HB40
  have A33 := A24.keep hb30.out
  have A34 := A25.keep hb30.out
  have A35 := A26.keep hb30.out
  have A36 := A27.keep hb30.out
  have A37 := A28.keep hb30.out
  have A38 : SB 28 w30 (γ30 0) [.n 6 z8.re.val, .n 6 z8.im.val] := (hB30 0 rfl).2
  have A39 : SB 28 w30 (γ30 1) [.n 6 z9.re.val, .n 6 z9.im.val] := (hB30 1 rfl).2
  refine rhc HB40 [(28, 6, 8, [.n 6 0, .n 6 0], [.n 6 z10.re.val, .n 6 z10.im.val]), (28, 7, 9, [.n 6 0, .n 6 0], [.n 6 z11.re.val, .n 6 z11.im.val])] [60, 61, 62, 63, 64, 65, 11, 12] (fun γ => [nv 6 [z3.re.val, z3.im.val], nv 6 [z5.re.val, z5.im.val], nv 6 [z10.re.val, z10.im.val], nv 6 [z3.re.val, z3.im.val], nv 6 [z5.re.val, z5.im.val], nv 6 [z11.re.val, z11.im.val], pz (γ 0), pz (γ 1)]) ?_ ?_
  · refine stpl 0 2 flFp2 A35 ?_
    refine stpl 0 2 flFp2 A36 ?_
    refine stpk Tryz.call110 (fun w h => duoSub_z z3 z5 z10 rfl rfl ez10 _) ?_
    refine stpl 0 2 flFp2 A35 ?_
    refine stpl 0 2 flFp2 A36 ?_
    refine stpk Tryz.call97 (fun w h => duoAdd_z z3 z5 z11 rfl rfl ez11 _) ?_
    refine stpn 0 (fun γ w => ex_allocsn (K := 6) (l := [0, 0]) zFp2) ?_
    refine stpn 1 (fun γ w => ex_allocsn (K := 6) (l := [0, 0]) zFp2) ?_
    refine stpo 0 0 2 flFp2.2 (nv_cells 6 [z10.re.val, z10.im.val]) ?_
    exact stpo 1 0 2 flFp2.2 (nv_cells 6 [z11.re.val, z11.im.val]) .nil
  intro γ41 w41 hb41 hB41 hn41 HB53
  have A44 := A33.keep hb41.out
  have A45 := A34.keep hb41.out
  have A48 := A37.keep hb41.out
  have A49 := A38.keep hb41.out
  have A50 := A39.keep hb41.out
  have A51 : SB 28 w41 (γ41 0) [.n 6 z10.re.val, .n 6 z10.im.val] := (hB41 0 rfl).2
  have A52 : SB 28 w41 (γ41 1) [.n 6 z11.re.val, .n 6 z11.im.val] := (hB41 1 rfl).2
  refine rhs HB53 le4 22 0 [.n 6 z14.re.val, .n 6 z14.im.val, .n 6 z17.re.val, .n 6 z17.im.val, .n 6 z20.re.val, .n 6 z20.im.val] [66, 67, 68, 69, 70, 71, 72, 73, 74, 75, 76, 77, 78, 79, 80, 81, 82, 83, 84, 85, 86, 87] [nv 6 [z8.re.val, z8.im.val], nv 6 [z10.re.val, z10.im.val], nv 6 [z12.re.val, z12.im.val], nv 6 [z9.re.val, z9.im.val], nv 6 [z7.re.val, z7.im.val], nv 6 [z13.re.val, z13.im.val], nv 6 [z14.re.val, z14.im.val], nv 6 [z11.re.val, z11.im.val], nv 6 [z10.re.val, z10.im.val], nv 6 [z15.re.val, z15.im.val], nv 6 [z2.re.val, z2.im.val], nv 6 [z7.re.val, z7.im.val], nv 6 [z16.re.val, z16.im.val], nv 6 [z17.re.val, z17.im.val], nv 6 [z9.re.val, z9.im.val], nv 6 [z11.re.val, z11.im.val], nv 6 [z18.re.val, z18.im.val], nv 6 [z2.re.val, z2.im.val], nv 6 [z8.re.val, z8.im.val], nv 6 [z19.re.val, z19.im.val], nv 6 [z20.re.val, z20.im.val], sv [.n 6 z14.re.val, .n 6 z14.im.val, .n 6 z17.re.val, .n 6 z17.im.val, .n 6 z20.re.val, .n 6 z20.im.val]] ?_ ?_
  · refine latl 0 2 flFp2 A49 ?_
    refine latl 0 2 flFp2 A51 ?_
    refine latk Tryz.call96 (fun w h => duoMul_z z8 z10 z12 rfl rfl ez12 _) ?_
    refine latl 0 2 flFp2 A50 ?_
    refine latl 0 2 flFp2 A48 ?_
    refine latk Tryz.call96 (fun w h => duoMul_z z9 z7 z13 rfl rfl ez13 _) ?_
    refine latk Tryz.call110 (fun w h => duoSub_z z12 z13 z14 rfl rfl ez14 _) ?_
    refine latl 0 2 flFp2 A52 ?_
    refine latl 0 2 flFp2 A51 ?_
    refine latk Tryz.call96 (fun w h => duoMul_z z11 z10 z15 rfl rfl ez15 _) ?_
    refine latl 0 2 flFp2 A45 ?_
    refine latl 0 2 flFp2 A48 ?_
    refine latk Tryz.call96 (fun w h => duoMul_z z2 z7 z16 rfl rfl ez16 _) ?_
    refine latk Tryz.call97 (fun w h => duoAdd_z z15 z16 z17 rfl rfl ez17 _) ?_
    refine latl 0 2 flFp2 A50 ?_
    refine latl 0 2 flFp2 A52 ?_
    refine latk Tryz.call96 (fun w h => duoMul_z z9 z11 z18 rfl rfl ez18 _) ?_
    refine latl 0 2 flFp2 A45 ?_
    refine latl 0 2 flFp2 A49 ?_
    refine latk Tryz.call96 (fun w h => duoMul_z z2 z8 z19 rfl rfl ez19 _) ?_
    refine latk Tryz.call97 (fun w h => duoAdd_z z18 z19 z20 rfl rfl ez20 _) ?_
    refine latv (fun γ w h => ex_builds stPG2 (l := [.n 6 z14.re.val, .n 6 z14.im.val, .n 6 z17.re.val, .n 6 z17.im.val, .n 6 z20.re.val, .n 6 z20.im.val]) (vs := [(0, nv 6 [z14.re.val, z14.im.val]), (1, nv 6 [z17.re.val, z17.im.val]), (2, nv 6 [z20.re.val, z20.im.val])]) rfl ((fills_cons 0 2 (m := [.n 6 z14.re.val, .n 6 z14.im.val]) (z' := [.n 6 z14.re.val, .n 6 z14.im.val, .n 6 0, .n 6 0, .n 6 0, .n 6 0]) rfl (nv_cells 6 [z14.re.val, z14.im.val]) rfl rfl rfl rfl).trans ((fills_cons 2 2 (m := [.n 6 z17.re.val, .n 6 z17.im.val]) (z' := [.n 6 z14.re.val, .n 6 z14.im.val, .n 6 z17.re.val, .n 6 z17.im.val, .n 6 0, .n 6 0]) rfl (nv_cells 6 [z17.re.val, z17.im.val]) rfl rfl rfl rfl).trans ((fills_cons 4 2 (m := [.n 6 z20.re.val, .n 6 z20.im.val]) (z' := [.n 6 z14.re.val, .n 6 z14.im.val, .n 6 z17.re.val, .n 6 z17.im.val, .n 6 z20.re.val, .n 6 z20.im.val]) rfl (nv_cells 6 [z20.re.val, z20.im.val]) rfl rfl rfl rfl).trans rfl)))) ?_
    exact latq 0 6 flPG2.2 A44 .nil
  intro w54 w54_ hb54 hs54 HB78
  have A57 := A44.keep hb54.out
  have A69 := hs54.here 0 6 (l' := [.n 6 z14.re.val, .n 6 z14.im.val, .n 6 z17.re.val, .n 6 z17.im.val, .n 6 z20.re.val, .n 6 z20.im.val]) A57 rfl rfl rfl
  exact wpr (ret1 Tryz.results60 (res_sv rfl A69 flPG2 rfl)) HB78
theorem twotwice_q {s u : Tri Zq} (hu : u = twiceT b6 s) : CI 106 #[sv [.n 6 s.x.re.val, .n 6 s.x.im.val, .n 6 s.y.re.val, .n 6 s.y.im.val, .n 6 s.z.re.val, .n 6 s.z.im.val]] (sv [.n 6 u.x.re.val, .n 6 u.x.im.val, .n 6 u.y.re.val, .n 6 u.y.im.val, .n 6 u.z.re.val, .n 6 u.z.im.val]) := fun w => by
  obtain ⟨z1, ez1⟩ := nm (s.y * s.y : Zq)
  obtain ⟨z2, ez2⟩ := nm (s.z * s.z : Zq)
  obtain ⟨z3, ez3⟩ := nm (b6 * z2 : Zq)
  obtain ⟨z4, ez4⟩ := nm (3 * z3 : Zq)
  obtain ⟨z5, ez5⟩ := nm (z1 - z4 : Zq)
  obtain ⟨z6, ez6⟩ := nm (z1 + z3 : Zq)
  obtain ⟨z7, ez7⟩ := nm (8 * z1 : Zq)
  obtain ⟨z8, ez8⟩ := nm (s.x * s.y : Zq)
  obtain ⟨z9, ez9⟩ := nm (2 * z8 : Zq)
  obtain ⟨z10, ez10⟩ := nm (z9 * z5 : Zq)
  obtain ⟨z11, ez11⟩ := nm (z6 * z5 : Zq)
  obtain ⟨z12, ez12⟩ := nm (z7 * z3 : Zq)
  obtain ⟨z13, ez13⟩ := nm (z11 + z12 : Zq)
  obtain ⟨z14, ez14⟩ := nm (s.y * s.z : Zq)
  obtain ⟨z15, ez15⟩ := nm (z7 * z14 : Zq)
  have E : twiceT b6 s = ⟨z10, z13, z15⟩ := by subst ez15 ez14 ez13 ez12 ez11 ez10 ez9 ez8 ez7 ez6 ez5 ez4 ez3 ez2 ez1; rfl
  rw [hu, E]
  go_enter Tryz.func106, Tryz.ntmps106
  refine rh2 (brf w) 91 0 [.n 6 s.x.re.val, .n 6 s.x.im.val, .n 6 s.y.re.val, .n 6 s.y.im.val, .n 6 s.z.re.val, .n 6 s.z.im.val] 91 1 [.n 6 0, .n 6 0, .n 6 0, .n 6 0, .n 6 0, .n 6 0] [1, 2] (fun γ => [pz (γ 0), pz (γ 1)]) ?_ ?_
  · refine stpb 0 (fun γ w h => ex_boxs (l := [.n 6 s.x.re.val, .n 6 s.x.im.val, .n 6 s.y.re.val, .n 6 s.y.im.val, .n 6 s.z.re.val, .n 6 s.z.im.val]) rfl) ?_
    exact stpb 1 (fun γ w h => ex_allocs (l := [.n 6 0, .n 6 0, .n 6 0, .n 6 0, .n 6 0, .n 6 0]) zPG2) .nil
  intro γ1 w1 hb1 A2 A3 _ le3 hn1 HB4
  refine rhc HB4 [(28, 12, 14, [.n 6 0, .n 6 0], [.n 6 z1.re.val, .n 6 z1.im.val]), (28, 13, 15, [.n 6 0, .n 6 0], [.n 6 z3.re.val, .n 6 z3.im.val])] [8, 9, 10, 11, 12, 13, 14, 15, 16, 17, 18, 19, 3, 4] (fun γ => [pq (γ1 0) 12, nv 6 [s.y.re.val, s.y.im.val], pq (γ1 0) 12, nv 6 [s.y.re.val, s.y.im.val], nv 6 [z1.re.val, z1.im.val], nv 6 [12, 12], pq (γ1 0) 24, nv 6 [s.z.re.val, s.z.im.val], pq (γ1 0) 24, nv 6 [s.z.re.val, s.z.im.val], nv 6 [z2.re.val, z2.im.val], nv 6 [z3.re.val, z3.im.val], pz (γ 0), pz (γ 1)]) ?_ ?_
  · refine stpx (fun _ _ => ex_field faPG2_1 rfl) ?_
    refine stpl 2 2 flFp2 A2 ?_
    refine stpx (fun _ _ => ex_field faPG2_1 rfl) ?_
    refine stpl 2 2 flFp2 A2 ?_
    refine stpk Tryz.call96 (fun w h => duoMul_z s.y s.y z1 rfl rfl ez1 _) ?_
    refine stpk Tryz.call98 (fun w h => twoalike_12 _) ?_
    refine stpx (fun _ _ => ex_field faPG2_2 rfl) ?_
    refine stpl 4 2 flFp2 A2 ?_
    refine stpx (fun _ _ => ex_field faPG2_2 rfl) ?_
    refine stpl 4 2 flFp2 A2 ?_
    refine stpk Tryz.call96 (fun w h => duoMul_z s.z s.z z2 rfl rfl ez2 _) ?_
    refine stpk Tryz.call96 (fun w h => duoMul_z b6 z2 z3 qc1212 rfl ez3 _) ?_
    refine stpn 0 (fun γ w => ex_allocsn (K := 6) (l := [0, 0]) zFp2) ?_
    refine stpn 1 (fun γ w => ex_allocsn (K := 6) (l := [0, 0]) zFp2) ?_
    refine stpo 0 0 2 flFp2.2 (nv_cells 6 [z1.re.val, z1.im.val]) ?_
    exact stpo 1 0 2 flFp2.2 (nv_cells 6 [z3.re.val, z3.im.val]) .nil
  intro γ5 w5 hb5 hB5 hn5 HB10
  have A6 := A2.keep hb5.out
  have A7 := A3.keep hb5.out
  have A8 : SB 28 w5 (γ5 0) [.n 6 z1.re.val, .n 6 z1.im.val] := (hB5 0 rfl).2
  have A9 : SB 28 w5 (γ5 1) [.n 6 z3.re.val, .n 6 z3.im.val] := (hB5 1 rfl).2
  refine rhc HB10 [(28, 7, 9, [.n 6 0, .n 6 0], [.n 6 z5.re.val, .n 6 z5.im.val]), (28, 8, 10, [.n 6 0, .n 6 0], [.n 6 z6.re.val, .n 6 z6.im.val])] [20, 21, 22, 23, 24, 25, 26, 5, 6] (fun γ => [nv 6 [z1.re.val, z1.im.val], nv 6 [z3.re.val, z3.im.val], nv 6 [z4.re.val, z4.im.val], nv 6 [z5.re.val, z5.im.val], nv 6 [z1.re.val, z1.im.val], nv 6 [z3.re.val, z3.im.val], nv 6 [z6.re.val, z6.im.val], pz (γ 0), pz (γ 1)]) ?_ ?_
  · refine stpl 0 2 flFp2 A8 ?_
    refine stpl 0 2 flFp2 A9 ?_
    refine stpk Tryz.call108 (fun w h => twothreefold_e z3 z4 rfl ez4 _) ?_
    refine stpk Tryz.call110 (fun w h => duoSub_z z1 z4 z5 rfl rfl ez5 _) ?_
    refine stpl 0 2 flFp2 A8 ?_
    refine stpl 0 2 flFp2 A9 ?_
    refine stpk Tryz.call97 (fun w h => duoAdd_z z1 z3 z6 rfl rfl ez6 _) ?_
    refine stpn 0 (fun γ w => ex_allocsn (K := 6) (l := [0, 0]) zFp2) ?_
    refine stpn 1 (fun γ w => ex_allocsn (K := 6) (l := [0, 0]) zFp2) ?_
    refine stpo 0 0 2 flFp2.2 (nv_cells 6 [z5.re.val, z5.im.val]) ?_
    exact stpo 1 0 2 flFp2.2 (nv_cells 6 [z6.re.val, z6.im.val]) .nil
  intro γ11 w11 hb11 hB11 hn11 HB18
  have A12 := A6.keep hb11.out
  have A13 := A7.keep hb11.out
  have A14 := A8.keep hb11.out
  have A15 := A9.keep hb11.out
  have A16 : SB 28 w11 (γ11 0) [.n 6 z5.re.val, .n 6 z5.im.val] := (hB11 0 rfl).2
  have A17 : SB 28 w11 (γ11 1) [.n 6 z6.re.val, .n 6 z6.im.val] := (hB11 1 rfl).2
  refine rhc HB18 [(28, 2, 3, [.n 6 0, .n 6 0], [.n 6 z7.re.val, .n 6 z7.im.val])] [27, 28, 7] (fun γ => [nv 6 [z1.re.val, z1.im.val], nv 6 [z7.re.val, z7.im.val], pz (γ 0)]) ?_ ?_
  · refine stpl 0 2 flFp2 A14 ?_
    refine stpk Tryz.call158 (fun w h => twoeightfold_e z1 z7 rfl ez7 _) ?_
    refine stpn 0 (fun γ w => ex_allocsn (K := 6) (l := [0, 0]) zFp2) ?_
    exact stpo 0 0 2 flFp2.2 (nv_cells 6 [z7.re.val, z7.im.val]) .nil
  intro γ19 w19 hb19 hB19 _ HB27
  have A20 := A12.keep hb19.out
  have A21 := A13.keep hb19.out
  have A23 := A15.keep hb19.out
  have A24 := A16.keep hb19.out
  have A25 := A17.keep hb19.out
  have A26 : SB 28 w19 (γ19 0) [.n 6 z7.re.val, .n 6 z7.im.val] := (hB19 0 rfl).2
  refine rhs HB27 le3 23 0 [.n 6 z10.re.val, .n 6 z10.im.val, .n 6 z13.re.val, .n 6 z13.im.val, .n 6 z15.re.val, .n 6 z15.im.val] [29, 30, 31, 32, 33, 34, 35, 36, 37, 38, 39, 40, 41, 42, 43, 44, 45, 46, 47, 48, 49, 50, 51] [pz (γ1 0), nv 6 [s.x.re.val, s.x.im.val], pq (γ1 0) 12, nv 6 [s.y.re.val, s.y.im.val], nv 6 [z8.re.val, z8.im.val], nv 6 [z9.re.val, z9.im.val], nv 6 [z5.re.val, z5.im.val], nv 6 [z10.re.val, z10.im.val], nv 6 [z6.re.val, z6.im.val], nv 6 [z5.re.val, z5.im.val], nv 6 [z11.re.val, z11.im.val], nv 6 [z7.re.val, z7.im.val], nv 6 [z3.re.val, z3.im.val], nv 6 [z12.re.val, z12.im.val], nv 6 [z13.re.val, z13.im.val], nv 6 [z7.re.val, z7.im.val], pq (γ1 0) 12, nv 6 [s.y.re.val, s.y.im.val], pq (γ1 0) 24, nv 6 [s.z.re.val, s.z.im.val], nv 6 [z14.re.val, z14.im.val], nv 6 [z15.re.val, z15.im.val], sv [.n 6 z10.re.val, .n 6 z10.im.val, .n 6 z13.re.val, .n 6 z13.im.val, .n 6 z15.re.val, .n 6 z15.im.val]] ?_ ?_
  · refine latv (fun γ w h => ex_field faPG2_0 rfl) ?_
    refine latl 0 2 flFp2 A20 ?_
    refine latv (fun γ w h => ex_field faPG2_1 rfl) ?_
    refine latl 2 2 flFp2 A20 ?_
    refine latk Tryz.call96 (fun w h => duoMul_z s.x s.y z8 rfl rfl ez8 _) ?_
    refine latk Tryz.call159 (fun w h => twotwofold_e z8 z9 rfl ez9 _) ?_
    refine latl 0 2 flFp2 A24 ?_
    refine latk Tryz.call96 (fun w h => duoMul_z z9 z5 z10 rfl rfl ez10 _) ?_
    refine latl 0 2 flFp2 A25 ?_
    refine latl 0 2 flFp2 A24 ?_
    refine latk Tryz.call96 (fun w h => duoMul_z z6 z5 z11 rfl rfl ez11 _) ?_
    refine latl 0 2 flFp2 A26 ?_
    refine latl 0 2 flFp2 A23 ?_
    refine latk Tryz.call96 (fun w h => duoMul_z z7 z3 z12 rfl rfl ez12 _) ?_
    refine latk Tryz.call97 (fun w h => duoAdd_z z11 z12 z13 rfl rfl ez13 _) ?_
    refine latl 0 2 flFp2 A26 ?_
    refine latv (fun γ w h => ex_field faPG2_1 rfl) ?_
    refine latl 2 2 flFp2 A20 ?_
    refine latv (fun γ w h => ex_field faPG2_2 rfl) ?_
    refine latl 4 2 flFp2 A20 ?_
    refine latk Tryz.call96 (fun w h => duoMul_z s.y s.z z14 rfl rfl ez14 _) ?_
    refine latk Tryz.call96 (fun w h => duoMul_z z7 z14 z15 rfl rfl ez15 _) ?_
    refine latv (fun γ w h => ex_builds stPG2 (l := [.n 6 z10.re.val, .n 6 z10.im.val, .n 6 z13.re.val, .n 6 z13.im.val, .n 6 z15.re.val, .n 6 z15.im.val]) (vs := [(0, nv 6 [z10.re.val, z10.im.val]), (1, nv 6 [z13.re.val, z13.im.val]), (2, nv 6 [z15.re.val, z15.im.val])]) rfl ((fills_cons 0 2 (m := [.n 6 z10.re.val, .n 6 z10.im.val]) (z' := [.n 6 z10.re.val, .n 6 z10.im.val, .n 6 0, .n 6 0, .n 6 0, .n 6 0]) rfl (nv_cells 6 [z10.re.val, z10.im.val]) rfl rfl rfl rfl).trans ((fills_cons 2 2 (m := [.n 6 z13.re.val, .n 6 z13.im.val]) (z' := [.n 6 z10.re.val, .n 6 z10.im.val, .n 6 z13.re.val, .n 6 z13.im.val, .n 6 0, .n 6 0]) rfl (nv_cells 6 [z13.re.val, z13.im.val]) rfl rfl rfl rfl).trans ((fills_cons 4 2 (m := [.n 6 z15.re.val, .n 6 z15.im.val]) (z' := [.n 6 z10.re.val, .n 6 z10.im.val, .n 6 z13.re.val, .n 6 z13.im.val, .n 6 z15.re.val, .n 6 z15.im.val]) rfl (nv_cells 6 [z15.re.val, z15.im.val]) rfl rfl rfl rfl).trans rfl)))) ?_
    exact latq 0 6 flPG2.2 A21 .nil
  intro w28 w28_ hb28 hs28 HB44
  have A30 := A21.keep hb28.out
  have A38 := hs28.here 0 6 (l' := [.n 6 z10.re.val, .n 6 z10.im.val, .n 6 z13.re.val, .n 6 z13.im.val, .n 6 z15.re.val, .n 6 z15.im.val]) A30 rfl rfl rfl
  exact wpr (ret1 Tryz.results106 (res_sv rfl A38 flPG2 rfl)) HB44
theorem twoZero_v : CI 21 #[] (sv [.n 6 0, .n 6 0, .n 6 0, .n 6 0, .b true]) := fun w => by
  go_enter Tryz.func21, Tryz.ntmps21
  refine rh1 (brf w) 30 0 [.n 6 0, .n 6 0, .n 6 0, .n 6 0, .b false] [0] (fun γ => [pz (γ 0)]) ?_ ?_
  · exact stpb 0 (fun γ w h => ex_allocs (l := [.n 6 0, .n 6 0, .n 6 0, .n 6 0, .b false]) zG2) .nil
  intro γ1 w1 hb1 A2 le2 HB3
  refine rhs HB3 le2 1 0 [.n 6 0, .n 6 0, .n 6 0, .n 6 0, .b true] [1] [sv [.n 6 0, .n 6 0, .n 6 0, .n 6 0, .b true]] ?_ ?_
  · refine latv (fun γ w h => ex_builds stG2 (l := [.n 6 0, .n 6 0, .n 6 0, .n 6 0, .b true]) (vs := [(2, .bool true)]) rfl ((fills_cons 4 1 (m := [.b true]) (z' := [.n 6 0, .n 6 0, .n 6 0, .n 6 0, .b true]) rfl (bool_cells true) rfl rfl rfl rfl).trans rfl)) ?_
    exact latq 0 5 flG2.2 A2 .nil
  intro w4 w4_ hb4 hs4 HB8
  have A5 := A2.keep hb4.out
  have A7 := hs4.here 0 5 (l' := [.n 6 0, .n 6 0, .n 6 0, .n 6 0, .b true]) A5 rfl rfl rfl
  exact wpr (ret1 Tryz.results21 (res_sv rfl A7 flG2 rfl)) HB8
theorem twonowhere_v : CI 103 #[] (sv [.n 6 0, .n 6 0, .n 6 1, .n 6 0, .n 6 0, .n 6 0]) := fun w => by
  go_enter Tryz.func103, Tryz.ntmps103
  refine rh1 (brf w) 91 0 [.n 6 0, .n 6 0, .n 6 0, .n 6 0, .n 6 0, .n 6 0] [0] (fun γ => [pz (γ 0)]) ?_ ?_
  · exact stpb 0 (fun γ w h => ex_allocs (l := [.n 6 0, .n 6 0, .n 6 0, .n 6 0, .n 6 0, .n 6 0]) zPG2) .nil
  intro γ1 w1 hb1 A2 le2 HB3
  refine rhs HB3 le2 2 0 [.n 6 0, .n 6 0, .n 6 1, .n 6 0, .n 6 0, .n 6 0] [1, 2] [nv 6 [1, 0], sv [.n 6 0, .n 6 0, .n 6 1, .n 6 0, .n 6 0, .n 6 0]] ?_ ?_
  · refine latk Tryz.call104 (fun w h => twoone_v _) ?_
    refine latv (fun γ w h => ex_builds stPG2 (l := [.n 6 0, .n 6 0, .n 6 1, .n 6 0, .n 6 0, .n 6 0]) (vs := [(1, nv 6 [1, 0])]) rfl ((fills_cons 2 2 (m := [.n 6 1, .n 6 0]) (z' := [.n 6 0, .n 6 0, .n 6 1, .n 6 0, .n 6 0, .n 6 0]) rfl (nv_cells 6 [1, 0]) rfl rfl rfl rfl).trans rfl)) ?_
    exact latq 0 6 flPG2.2 A2 .nil
  intro w4 w4_ hb4 hs4 HB8
  have A5 := A2.keep hb4.out
  have A7 := hs4.here 0 6 (l' := [.n 6 0, .n 6 0, .n 6 1, .n 6 0, .n 6 0, .n 6 0]) A5 rfl rfl rfl
  exact wpr (ret1 Tryz.results103 (res_sv rfl A7 flPG2 rfl)) HB8
theorem twonowhere_t : sv [.n 6 0, .n 6 0, .n 6 1, .n 6 0, .n 6 0, .n 6 0] = sv [.n 6 ((0 : Zq).re.val), .n 6 ((0 : Zq).im.val), .n 6 ((1 : Zq).re.val), .n 6 ((1 : Zq).im.val), .n 6 ((0 : Zq).re.val), .n 6 ((0 : Zq).im.val)] := by
  have h0 := qc0
  have h1 := qc1
  simp only [List.cons.injEq, and_true] at h0 h1
  rw [← h0.1, ← h0.2, ← h1.1, ← h1.2]
theorem twobring_inf : CI 56 #[sv [.n 6 0, .n 6 0, .n 6 0, .n 6 0, .b true]] (sv [.n 6 0, .n 6 0, .n 6 1, .n 6 0, .n 6 0, .n 6 0]) := fun w => by
  go_enter Tryz.func56, Tryz.ntmps56
  refine rh2 (brf w) 30 0 [.n 6 0, .n 6 0, .n 6 0, .n 6 0, .b true] 91 1 [.n 6 0, .n 6 0, .n 6 0, .n 6 0, .n 6 0, .n 6 0] [1, 2] (fun γ => [pz (γ 0), pz (γ 1)]) ?_ ?_
  · refine stpb 0 (fun γ w h => ex_boxs (l := [.n 6 0, .n 6 0, .n 6 0, .n 6 0, .b true]) rfl) ?_
    exact stpb 1 (fun γ w h => ex_allocs (l := [.n 6 0, .n 6 0, .n 6 0, .n 6 0, .n 6 0, .n 6 0]) zPG2) .nil
  intro γ1 w1 hb1 A2 A3 _ le3 hn1 HB4
  refine wp_seq ?_
  refine rh0 HB4 [3, 4] [pq (γ1 0) 24, .bool true] ?_ ?_
  · refine stpx (fun _ _ => ex_field faG2_2 rfl) ?_
    exact stpv (fun γ w h => ex_load1 4 (s := .b true) (v := .bool true) sgBool rfl (A2.keep h.out) rfl rfl rfl) .nil
  intro w5 hb5 HB8
  have A7 := A3.keep hb5.out
  refine wp_cond_true rfl ?_
  refine rhs HB8 le3 1 0 [.n 6 0, .n 6 0, .n 6 1, .n 6 0, .n 6 0, .n 6 0] [5] [sv [.n 6 0, .n 6 0, .n 6 1, .n 6 0, .n 6 0, .n 6 0]] ?_ ?_
  · refine latk Tryz.call103 (fun w h => twonowhere_v _) ?_
    exact latq 0 6 flPG2.2 A7 .nil
  intro w9 w9_ hb9 hs9 HB15
  have A11 := A7.keep hb9.out
  have A14 := hs9.here 0 6 (l' := [.n 6 0, .n 6 0, .n 6 1, .n 6 0, .n 6 0, .n 6 0]) A11 rfl rfl rfl
  exact wprt (ret1 Tryz.results56 (res_sv rfl A14 flPG2 rfl)) HB15
theorem twobring_aff (x y : Zq) : CI 56 #[sv [.n 6 x.re.val, .n 6 x.im.val, .n 6 y.re.val, .n 6 y.im.val, .b false]] (sv [.n 6 x.re.val, .n 6 x.im.val, .n 6 y.re.val, .n 6 y.im.val, .n 6 1, .n 6 0]) := fun w => by
  go_enter Tryz.func56, Tryz.ntmps56
  refine rh2 (brf w) 30 0 [.n 6 x.re.val, .n 6 x.im.val, .n 6 y.re.val, .n 6 y.im.val, .b false] 91 1 [.n 6 0, .n 6 0, .n 6 0, .n 6 0, .n 6 0, .n 6 0] [1, 2] (fun γ => [pz (γ 0), pz (γ 1)]) ?_ ?_
  · refine stpb 0 (fun γ w h => ex_boxs (l := [.n 6 x.re.val, .n 6 x.im.val, .n 6 y.re.val, .n 6 y.im.val, .b false]) rfl) ?_
    exact stpb 1 (fun γ w h => ex_allocs (l := [.n 6 0, .n 6 0, .n 6 0, .n 6 0, .n 6 0, .n 6 0]) zPG2) .nil
  intro γ1 w1 hb1 A2 A3 _ le3 hn1 HB4
  refine wp_seq ?_
  refine rh0 HB4 [3, 4] [pq (γ1 0) 24, .bool false] ?_ ?_
  · refine stpx (fun _ _ => ex_field faG2_2 rfl) ?_
    exact stpv (fun γ w h => ex_load1 4 (s := .b false) (v := .bool false) sgBool rfl (A2.keep h.out) rfl rfl rfl) .nil
  intro w5 hb5 HB8
  have A6 := A2.keep hb5.out
  have A7 := A3.keep hb5.out
  refine wp_cond_false rfl ?_
  refine wp_skip ?_
  refine th_r ?_
  refine rhs HB8 le3 6 0 [.n 6 x.re.val, .n 6 x.im.val, .n 6 y.re.val, .n 6 y.im.val, .n 6 1, .n 6 0] [6, 7, 8, 9, 10, 11] [pz (γ1 0), nv 6 [x.re.val, x.im.val], pq (γ1 0) 12, nv 6 [y.re.val, y.im.val], nv 6 [1, 0], sv [.n 6 x.re.val, .n 6 x.im.val, .n 6 y.re.val, .n 6 y.im.val, .n 6 1, .n 6 0]] ?_ ?_
  · refine latv (fun γ w h => ex_field faG2_0 rfl) ?_
    refine latl 0 2 flFp2 A6 ?_
    refine latv (fun γ w h => ex_field faG2_1 rfl) ?_
    refine latl 2 2 flFp2 A6 ?_
    refine latk Tryz.call104 (fun w h => twoone_v _) ?_
    refine latv (fun γ w h => ex_builds stPG2 (l := [.n 6 x.re.val, .n 6 x.im.val, .n 6 y.re.val, .n 6 y.im.val, .n 6 1, .n 6 0]) (vs := [(0, nv 6 [x.re.val, x.im.val]), (1, nv 6 [y.re.val, y.im.val]), (2, nv 6 [1, 0])]) rfl ((fills_cons 0 2 (m := [.n 6 x.re.val, .n 6 x.im.val]) (z' := [.n 6 x.re.val, .n 6 x.im.val, .n 6 0, .n 6 0, .n 6 0, .n 6 0]) rfl (nv_cells 6 [x.re.val, x.im.val]) rfl rfl rfl rfl).trans ((fills_cons 2 2 (m := [.n 6 y.re.val, .n 6 y.im.val]) (z' := [.n 6 x.re.val, .n 6 x.im.val, .n 6 y.re.val, .n 6 y.im.val, .n 6 0, .n 6 0]) rfl (nv_cells 6 [y.re.val, y.im.val]) rfl rfl rfl rfl).trans ((fills_cons 4 2 (m := [.n 6 1, .n 6 0]) (z' := [.n 6 x.re.val, .n 6 x.im.val, .n 6 y.re.val, .n 6 y.im.val, .n 6 1, .n 6 0]) rfl (nv_cells 6 [1, 0]) rfl rfl rfl rfl).trans rfl)))) ?_
    exact latq 0 6 flPG2.2 A7 .nil
  intro w9 w9_ hb9 hs9 HB15
  have A11 := A7.keep hb9.out
  have A14 := hs9.here 0 6 (l' := [.n 6 x.re.val, .n 6 x.im.val, .n 6 y.re.val, .n 6 y.im.val, .n 6 1, .n 6 0]) A11 rfl rfl rfl
  exact wpr (ret1 Tryz.results56 (res_sv rfl A14 flPG2 rfl)) HB15
def twoTri : Pt Zq → Tri Zq
  | .inf => ⟨0, 1, 0⟩
  | .aff x y => ⟨x, y, 1⟩
theorem twoTri_is (P : Pt Zq) : (twoTri P).Is P := by
  cases P with
  | inf => exact ⟨rfl, rfl, one_ne FdQ⟩
  | aff x y => exact ⟨by show x = x * 1; grind, by show y = y * 1; grind, one_ne FdQ⟩
theorem twobring_q (P : Pt Zq) : CI 56 #[sv [.n 6 (bx0 P), .n 6 (bx1 P), .n 6 (by0 P), .n 6 (by1 P), .b (bi P)]] (sv [.n 6 (((twoTri P).x).re.val), .n 6 (((twoTri P).x).im.val), .n 6 (((twoTri P).y).re.val), .n 6 (((twoTri P).y).im.val), .n 6 (((twoTri P).z).re.val), .n 6 (((twoTri P).z).im.val)]) := fun w => by
  cases P with
  | inf =>
    have h := twobring_inf w
    rw [twonowhere_t] at h
    exact h
  | aff x y =>
    have h := twobring_aff x y w
    have h1 := qc1
    simp only [List.cons.injEq, and_true] at h1
    simp only [h1.1, h1.2] at h
    exact h
theorem twoback_inf (t : Tri Zq) (hz : t.z = 0) : CI 58 #[sv [.n 6 t.x.re.val, .n 6 t.x.im.val, .n 6 t.y.re.val, .n 6 t.y.im.val, .n 6 t.z.re.val, .n 6 t.z.im.val]] (sv [.n 6 0, .n 6 0, .n 6 0, .n 6 0, .b true]) := fun w => by
  go_enter Tryz.func58, Tryz.ntmps58
  refine rh2 (brf w) 91 0 [.n 6 t.x.re.val, .n 6 t.x.im.val, .n 6 t.y.re.val, .n 6 t.y.im.val, .n 6 t.z.re.val, .n 6 t.z.im.val] 30 1 [.n 6 0, .n 6 0, .n 6 0, .n 6 0, .b false] [1, 2] (fun γ => [pz (γ 0), pz (γ 1)]) ?_ ?_
  · refine stpb 0 (fun γ w h => ex_boxs (l := [.n 6 t.x.re.val, .n 6 t.x.im.val, .n 6 t.y.re.val, .n 6 t.y.im.val, .n 6 t.z.re.val, .n 6 t.z.im.val]) rfl) ?_
    exact stpb 1 (fun γ w h => ex_allocs (l := [.n 6 0, .n 6 0, .n 6 0, .n 6 0, .b false]) zG2) .nil
  intro γ1 w1 hb1 A2 A3 _ le3 hn1 HB4
  refine wp_seq ?_
  refine rh0 HB4 [4, 5, 6, 7] [pq (γ1 0) 24, nv 6 [t.z.re.val, t.z.im.val], nv 6 [0, 0], .bool true] ?_ ?_
  · refine stpx (fun _ _ => ex_field faPG2_2 rfl) ?_
    refine stpl 4 2 flFp2 A2 ?_
    refine stpx (fun _ _ => ex_build stFp2 (vs := []) rfl (bd0)) ?_
    exact stpx (fun _ _ => ex_eqzq t.z ((0 : Zq)) rfl qc0 rfl rfl true ⟨fun _ => hz, fun _ => rfl⟩) .nil
  intro w5 hb5 HB8
  have A7 := A3.keep hb5.out
  refine wp_cond_true rfl ?_
  refine rhs HB8 le3 1 0 [.n 6 0, .n 6 0, .n 6 0, .n 6 0, .b true] [8] [sv [.n 6 0, .n 6 0, .n 6 0, .n 6 0, .b true]] ?_ ?_
  · refine latk Tryz.call21 (fun w h => twoZero_v _) ?_
    exact latq 0 5 flG2.2 A7 .nil
  intro w9 w9_ hb9 hs9 HB15
  have A11 := A7.keep hb9.out
  have A14 := hs9.here 0 5 (l' := [.n 6 0, .n 6 0, .n 6 0, .n 6 0, .b true]) A11 rfl rfl rfl
  exact wprt (ret1 Tryz.results58 (res_sv rfl A14 flG2 rfl)) HB15
theorem twoback_aff (t : Tri Zq) (hz : t.z ≠ 0) (x y : Zq) (hx : x = t.x * FdQ.inv t.z) (hy : y = t.y * FdQ.inv t.z) : CI 58 #[sv [.n 6 t.x.re.val, .n 6 t.x.im.val, .n 6 t.y.re.val, .n 6 t.y.im.val, .n 6 t.z.re.val, .n 6 t.z.im.val]] (sv [.n 6 x.re.val, .n 6 x.im.val, .n 6 y.re.val, .n 6 y.im.val, .b false]) := fun w => by
  obtain ⟨z1, ez1⟩ := nm (FdQ.inv t.z : Zq)
  obtain ⟨z2, ez2⟩ := nm (t.x * z1 : Zq)
  obtain ⟨z3, ez3⟩ := nm (t.y * z1 : Zq)
  obtain rfl : z2 = x := by rw [hx, ez2, ez1]
  obtain rfl : z3 = y := by rw [hy, ez3, ez1]
  go_enter Tryz.func58, Tryz.ntmps58
  refine rh2 (brf w) 91 0 [.n 6 t.x.re.val, .n 6 t.x.im.val, .n 6 t.y.re.val, .n 6 t.y.im.val, .n 6 t.z.re.val, .n 6 t.z.im.val] 30 1 [.n 6 0, .n 6 0, .n 6 0, .n 6 0, .b false] [1, 2] (fun γ => [pz (γ 0), pz (γ 1)]) ?_ ?_
  · refine stpb 0 (fun γ w h => ex_boxs (l := [.n 6 t.x.re.val, .n 6 t.x.im.val, .n 6 t.y.re.val, .n 6 t.y.im.val, .n 6 t.z.re.val, .n 6 t.z.im.val]) rfl) ?_
    exact stpb 1 (fun γ w h => ex_allocs (l := [.n 6 0, .n 6 0, .n 6 0, .n 6 0, .b false]) zG2) .nil
  intro γ1 w1 hb1 A2 A3 _ le3 hn1 HB4
  refine wp_seq ?_
  refine rh0 HB4 [4, 5, 6, 7] [pq (γ1 0) 24, nv 6 [t.z.re.val, t.z.im.val], nv 6 [0, 0], .bool false] ?_ ?_
  · refine stpx (fun _ _ => ex_field faPG2_2 rfl) ?_
    refine stpl 4 2 flFp2 A2 ?_
    refine stpx (fun _ _ => ex_build stFp2 (vs := []) rfl (bd0)) ?_
    exact stpx (fun _ _ => ex_eqzq t.z ((0 : Zq)) rfl qc0 rfl rfl false ⟨fun e => Bool.noConfusion e, fun e => absurd e hz⟩) .nil
  intro w5 hb5 HB8
  have A6 := A2.keep hb5.out
  have A7 := A3.keep hb5.out
  refine wp_cond_false rfl ?_
  refine wp_skip ?_
  refine th_r ?_
  refine rhc HB8 [(28, 3, 4, [.n 6 0, .n 6 0], [.n 6 z1.re.val, .n 6 z1.im.val])] [9, 10, 11, 3] (fun γ => [pq (γ1 0) 24, nv 6 [t.z.re.val, t.z.im.val], nv 6 [z1.re.val, z1.im.val], pz (γ 0)]) ?_ ?_
  · refine stpx (fun _ _ => ex_field faPG2_2 rfl) ?_
    refine stpl 4 2 flFp2 A6 ?_
    refine stpk Tryz.call107 (fun w h => duoInv_z t.z z1 rfl ez1 _) ?_
    refine stpn 0 (fun γ w => ex_allocsn (K := 6) (l := [0, 0]) zFp2) ?_
    exact stpo 0 0 2 flFp2.2 (nv_cells 6 [z1.re.val, z1.im.val]) .nil
  intro γ9 w9 hb9 hB9 _ HB13
  have A10 := A6.keep hb9.out
  have A11 := A7.keep hb9.out
  have A12 : SB 28 w9 (γ9 0) [.n 6 z1.re.val, .n 6 z1.im.val] := (hB9 0 rfl).2
  refine rhs HB13 le3 9 0 [.n 6 z2.re.val, .n 6 z2.im.val, .n 6 z3.re.val, .n 6 z3.im.val, .b false] [12, 13, 14, 15, 16, 17, 18, 19, 20] [pz (γ1 0), nv 6 [t.x.re.val, t.x.im.val], nv 6 [z1.re.val, z1.im.val], nv 6 [z2.re.val, z2.im.val], pq (γ1 0) 12, nv 6 [t.y.re.val, t.y.im.val], nv 6 [z1.re.val, z1.im.val], nv 6 [z3.re.val, z3.im.val], sv [.n 6 z2.re.val, .n 6 z2.im.val, .n 6 z3.re.val, .n 6 z3.im.val, .b false]] ?_ ?_
  · refine latv (fun γ w h => ex_field faPG2_0 rfl) ?_
    refine latl 0 2 flFp2 A10 ?_
    refine latl 0 2 flFp2 A12 ?_
    refine latk Tryz.call96 (fun w h => duoMul_z t.x z1 z2 rfl rfl ez2 _) ?_
    refine latv (fun γ w h => ex_field faPG2_1 rfl) ?_
    refine latl 2 2 flFp2 A10 ?_
    refine latl 0 2 flFp2 A12 ?_
    refine latk Tryz.call96 (fun w h => duoMul_z t.y z1 z3 rfl rfl ez3 _) ?_
    refine latv (fun γ w h => ex_builds stG2 (l := [.n 6 z2.re.val, .n 6 z2.im.val, .n 6 z3.re.val, .n 6 z3.im.val, .b false]) (vs := [(0, nv 6 [z2.re.val, z2.im.val]), (1, nv 6 [z3.re.val, z3.im.val])]) rfl ((fills_cons 0 2 (m := [.n 6 z2.re.val, .n 6 z2.im.val]) (z' := [.n 6 z2.re.val, .n 6 z2.im.val, .n 6 0, .n 6 0, .b false]) rfl (nv_cells 6 [z2.re.val, z2.im.val]) rfl rfl rfl rfl).trans ((fills_cons 2 2 (m := [.n 6 z3.re.val, .n 6 z3.im.val]) (z' := [.n 6 z2.re.val, .n 6 z2.im.val, .n 6 z3.re.val, .n 6 z3.im.val, .b false]) rfl (nv_cells 6 [z3.re.val, z3.im.val]) rfl rfl rfl rfl).trans rfl))) ?_
    exact latq 0 5 flG2.2 A11 .nil
  intro w14 w14_ hb14 hs14 HB22
  have A16 := A11.keep hb14.out
  have A20 := hs14.here 0 5 (l' := [.n 6 z2.re.val, .n 6 z2.im.val, .n 6 z3.re.val, .n 6 z3.im.val, .b false]) A16 rfl rfl rfl
  exact wpr (ret1 Tryz.results58 (res_sv rfl A20 flG2 rfl)) HB22
theorem twoback_q {t : Tri Zq} {P : Pt Zq} (h : t.Is P) : CI 58 #[sv [.n 6 t.x.re.val, .n 6 t.x.im.val, .n 6 t.y.re.val, .n 6 t.y.im.val, .n 6 t.z.re.val, .n 6 t.z.im.val]] (sv [.n 6 (bx0 P), .n 6 (bx1 P), .n 6 (by0 P), .n 6 (by1 P), .b (bi P)]) := fun w => by
  rcases back_ok FdQ h with ⟨h1, rfl⟩ | ⟨h1, hP⟩
  · exact twoback_inf t h1 w
  · obtain ⟨x, hx⟩ : ∃ x, x = t.x * FdQ.inv t.z := ⟨_, rfl⟩
    obtain ⟨y, hy⟩ : ∃ y, y = t.y * FdQ.inv t.z := ⟨_, rfl⟩
    rw [← hx, ← hy] at hP
    subst hP
    exact twoback_aff t h1 x y hx hy w
theorem twoRight_inf : CI 17 #[sv [.n 6 0, .n 6 0, .n 6 0, .n 6 0, .b true]] (.bool true) := fun w => by
  go_enter Tryz.func17, Tryz.ntmps17
  refine rh1 (brf w) 30 0 [.n 6 0, .n 6 0, .n 6 0, .n 6 0, .b true] [1, 2] (fun γ => [pz (γ 0), .bool false]) ?_ ?_
  · refine stpb 0 (fun γ w h => ex_boxs (l := [.n 6 0, .n 6 0, .n 6 0, .n 6 0, .b true]) rfl) ?_
    exact stpa .nil
  intro γ1 w1 hb1 A2 _ HB3
  refine wp_seq ?_
  refine rh0 HB3 [3, 4] [pq (γ1 0) 24, .bool true] ?_ ?_
  · refine stpx (fun _ _ => ex_field faG2_2 rfl) ?_
    exact stpv (fun γ w h => ex_load1 4 (s := .b true) (v := .bool true) sgBool rfl (A2.keep h.out) rfl rfl rfl) .nil
  intro w4 hb4 HB6
  have A5 := A2.keep hb4.out
  refine wp_cond_true rfl ?_
  refine rh0 HB6 [5, 6, 7, 2] [sv [.n 6 0, .n 6 0, .n 6 0, .n 6 0, .b true], sv [.n 6 0, .n 6 0, .n 6 0, .n 6 0, .b true], .bool true, .bool true] ?_ ?_
  · refine stpv (fun γ w h => ex_loads 0 5 (m := [.n 6 0, .n 6 0, .n 6 0, .n 6 0, .b true]) flG2 rfl rfl (A5.keep h.out) rfl rfl) ?_
    refine stpk Tryz.call21 (fun w h => twoZero_v _) ?_
    refine stpx (fun _ _ => ex_eqs gdG2 eqG2 rfl rfl rfl (shG2_of zero_B zero_B zero_B zero_B) (shG2_of zero_B zero_B zero_B zero_B) true (by simp)) ?_
    exact stpa .nil
  intro w7 hb7 HB9
  exact wprt (ret1 Tryz.results17 (res_tmp rfl)) HB9
theorem twoRight_rawinf (x0 : Nat) (x1 : Nat) (y0 : Nat) (y1 : Nat) (hx0 : x0 < fpB) (hx1 : x1 < fpB) (hy0 : y0 < fpB) (hy1 : y1 < fpB) (h0 : ¬ (x0 = 0 ∧ x1 = 0 ∧ y0 = 0 ∧ y1 = 0)) : CI 17 #[sv [.n 6 x0, .n 6 x1, .n 6 y0, .n 6 y1, .b true]] (.bool false) := fun w => by
  go_enter Tryz.func17, Tryz.ntmps17
  refine rh1 (brf w) 30 0 [.n 6 x0, .n 6 x1, .n 6 y0, .n 6 y1, .b true] [1, 2] (fun γ => [pz (γ 0), .bool false]) ?_ ?_
  · refine stpb 0 (fun γ w h => ex_boxs (l := [.n 6 x0, .n 6 x1, .n 6 y0, .n 6 y1, .b true]) rfl) ?_
    exact stpa .nil
  intro γ1 w1 hb1 A2 _ HB3
  refine wp_seq ?_
  refine rh0 HB3 [3, 4] [pq (γ1 0) 24, .bool true] ?_ ?_
  · refine stpx (fun _ _ => ex_field faG2_2 rfl) ?_
    exact stpv (fun γ w h => ex_load1 4 (s := .b true) (v := .bool true) sgBool rfl (A2.keep h.out) rfl rfl rfl) .nil
  intro w4 hb4 HB6
  have A5 := A2.keep hb4.out
  refine wp_cond_true rfl ?_
  refine rh0 HB6 [5, 6, 7, 2] [sv [.n 6 x0, .n 6 x1, .n 6 y0, .n 6 y1, .b true], sv [.n 6 0, .n 6 0, .n 6 0, .n 6 0, .b true], .bool false, .bool false] ?_ ?_
  · refine stpv (fun γ w h => ex_loads 0 5 (m := [.n 6 x0, .n 6 x1, .n 6 y0, .n 6 y1, .b true]) flG2 rfl rfl (A5.keep h.out) rfl rfl) ?_
    refine stpk Tryz.call21 (fun w h => twoZero_v _) ?_
    refine stpx (fun _ _ => ex_eqs gdG2 eqG2 rfl rfl rfl (shG2_of hx0 hx1 hy0 hy1) (shG2_of zero_B zero_B zero_B zero_B) false ⟨fun e => Bool.noConfusion e, fun e => absurd (by simpa using e) h0⟩) ?_
    exact stpa .nil
  intro w7 hb7 HB9
  exact wprt (ret1 Tryz.results17 (res_tmp rfl)) HB9
theorem twobelow_no (x0 : Nat) (x1 : Nat) (hx0 : x0 < fpB) (hx1 : x1 < fpB) (h0 : ¬ (x0 < pN ∧ x1 < pN)) : CI 51 #[nv 6 [x0, x1]] (.bool false) := fun w => by
  obtain ⟨c, ec⟩ : ∃ c, c = x0 % pN := ⟨_, rfl⟩
  obtain ⟨d, ed⟩ : ∃ d, d = x1 % pN := ⟨_, rfl⟩
  have hltc : c < pN := ec ▸ fpM_mod _
  have hltd : d < pN := ed ▸ fpM_mod _
  have hc : c < fpB := Nat.lt_trans hltc fpM_lt
  have hd : d < fpB := Nat.lt_trans hltd fpM_lt
  go_enter Tryz.func51, Tryz.ntmps51
  refine rh1 (brf w) 28 0 [.n 6 x0, .n 6 x1] [1, 2] (fun γ => [pz (γ 0), .bool false]) ?_ ?_
  · refine stpb 0 (fun γ w h => ex_boxsn (K := 6) (l := [x0, x1]) rfl) ?_
    exact stpa .nil
  intro γ1 w1 hb1 A2 _ HB3
  refine rh0 HB3 [3, 4, 5, 6, 2] [nv 6 [x0, x1], nv 6 [c, d], nv 6 [x0, x1], .bool false, .bool false] ?_ ?_
  · refine stpl 0 2 flFp2 A2 ?_
    refine stpk Tryz.call95 (fun w h => duoClean_e x0 x1 _ hx0 hx1 c d ec ed) ?_
    refine stpl 0 2 flFp2 A2 ?_
    refine stpx (fun _ _ => ex_eqn (K := 6) (l := [c, d]) (m := [x0, x1]) eqFp2 rfl rfl rfl rfl rfl (fpB_all2 hc hd) (fpB_all2 hx0 hx1) rfl false (by simp; omega)) ?_
    exact stpa .nil
  intro w4 hb4 HB6
  exact wpr (ret1 Tryz.results51 (res_tmp rfl)) HB6
theorem twobelow_yes (x : Zq) : CI 51 #[nv 6 [x.re.val, x.im.val]] (.bool true) := fun w => by
  go_enter Tryz.func51, Tryz.ntmps51
  refine rh1 (brf w) 28 0 [.n 6 x.re.val, .n 6 x.im.val] [1, 2] (fun γ => [pz (γ 0), .bool false]) ?_ ?_
  · refine stpb 0 (fun γ w h => ex_boxsn (K := 6) (l := [x.re.val, x.im.val]) rfl) ?_
    exact stpa .nil
  intro γ1 w1 hb1 A2 _ HB3
  refine rh0 HB3 [3, 4, 5, 6, 2] [nv 6 [x.re.val, x.im.val], nv 6 [x.re.val, x.im.val], nv 6 [x.re.val, x.im.val], .bool true, .bool true] ?_ ?_
  · refine stpl 0 2 flFp2 A2 ?_
    refine stpk Tryz.call95 (fun w h => duoClean_z x rfl _) ?_
    refine stpl 0 2 flFp2 A2 ?_
    refine stpx (fun _ _ => ex_eqt (K := 6) (l := [x.re.val, x.im.val]) eqFp2 rfl rfl rfl rfl) ?_
    exact stpa .nil
  intro w4 hb4 HB6
  exact wpr (ret1 Tryz.results51 (res_tmp rfl)) HB6
theorem twoRight_rawx (x0 x1 y0 y1 : Nat) (hx0 : x0 < fpB) (hx1 : x1 < fpB) (h0 : ¬ (x0 < pN ∧ x1 < pN)) : CI 17 #[sv [.n 6 x0, .n 6 x1, .n 6 y0, .n 6 y1, .b false]] (.bool false) := fun w => by
  go_enter Tryz.func17, Tryz.ntmps17
  refine rh1 (brf w) 30 0 [.n 6 x0, .n 6 x1, .n 6 y0, .n 6 y1, .b false] [1, 2] (fun γ => [pz (γ 0), .bool false]) ?_ ?_
  · refine stpb 0 (fun γ w h => ex_boxs (l := [.n 6 x0, .n 6 x1, .n 6 y0, .n 6 y1, .b false]) rfl) ?_
    exact stpa .nil
  intro γ1 w1 hb1 A2 _ HB3
  refine wp_seq ?_
  refine rh0 HB3 [3, 4] [pq (γ1 0) 24, .bool false] ?_ ?_
  · refine stpx (fun _ _ => ex_field faG2_2 rfl) ?_
    exact stpv (fun γ w h => ex_load1 4 (s := .b false) (v := .bool false) sgBool rfl (A2.keep h.out) rfl rfl rfl) .nil
  intro w4 hb4 HB6
  have A5 := A2.keep hb4.out
  refine wp_cond_false rfl ?_
  refine wp_skip ?_
  refine th_r ?_
  refine rh0 HB6 [8, 9, 10, 11, 12, 13, 14, 15, 16, 17, 18, 19, 20, 21, 22, 2] [pz (γ1 0), nv 6 [x0, x1], .bool false, .bool false, undef, undef, undef, .bool false, .bool false, undef, undef, undef, undef, undef, .bool false, .bool false] ?_ ?_
  · refine stpx (fun _ _ => ex_field faG2_0 rfl) ?_
    refine stpl 0 2 flFp2 A5 ?_
    refine stpk Tryz.call51 (fun w h => twobelow_no x0 x1 hx0 hx1 h0 _) ?_
    refine stpm ?_
    refine stps ?_
    refine stps ?_
    refine stps ?_
    refine stpx (fun _ _ => ex_pick (r := false) rfl) ?_
    refine stpm ?_
    refine stps ?_
    refine stps ?_
    refine stps ?_
    refine stps ?_
    refine stps ?_
    refine stpx (fun _ _ => ex_pick (r := false) rfl) ?_
    exact stpa .nil
  intro w7 hb7 HB9
  exact wpr (ret1 Tryz.results17 (res_tmp rfl)) HB9
theorem twoRight_rawy (x : Zq) (y0 y1 : Nat) (hy0 : y0 < fpB) (hy1 : y1 < fpB) (h0 : ¬ (y0 < pN ∧ y1 < pN)) : CI 17 #[sv [.n 6 x.re.val, .n 6 x.im.val, .n 6 y0, .n 6 y1, .b false]] (.bool false) := fun w => by
  go_enter Tryz.func17, Tryz.ntmps17
  refine rh1 (brf w) 30 0 [.n 6 x.re.val, .n 6 x.im.val, .n 6 y0, .n 6 y1, .b false] [1, 2] (fun γ => [pz (γ 0), .bool false]) ?_ ?_
  · refine stpb 0 (fun γ w h => ex_boxs (l := [.n 6 x.re.val, .n 6 x.im.val, .n 6 y0, .n 6 y1, .b false]) rfl) ?_
    exact stpa .nil
  intro γ1 w1 hb1 A2 _ HB3
  refine wp_seq ?_
  refine rh0 HB3 [3, 4] [pq (γ1 0) 24, .bool false] ?_ ?_
  · refine stpx (fun _ _ => ex_field faG2_2 rfl) ?_
    exact stpv (fun γ w h => ex_load1 4 (s := .b false) (v := .bool false) sgBool rfl (A2.keep h.out) rfl rfl rfl) .nil
  intro w4 hb4 HB6
  have A5 := A2.keep hb4.out
  refine wp_cond_false rfl ?_
  refine wp_skip ?_
  refine th_r ?_
  refine rh0 HB6 [8, 9, 10, 11, 12, 13, 14, 15, 16, 17, 18, 19, 20, 21, 22, 2] [pz (γ1 0), nv 6 [x.re.val, x.im.val], .bool true, .bool true, pq (γ1 0) 12, nv 6 [y0, y1], .bool false, .bool false, .bool false, undef, undef, undef, undef, undef, .bool false, .bool false] ?_ ?_
  · refine stpx (fun _ _ => ex_field faG2_0 rfl) ?_
    refine stpl 0 2 flFp2 A5 ?_
    refine stpk Tryz.call51 (fun w h => twobelow_yes x _) ?_
    refine stpm ?_
    refine stpx (fun _ _ => ex_field faG2_1 rfl) ?_
    refine stpl 2 2 flFp2 A5 ?_
    refine stpk Tryz.call51 (fun w h => twobelow_no y0 y1 hy0 hy1 h0 _) ?_
    refine stpx (fun _ _ => ex_pick (r := true) rfl) ?_
    refine stpm ?_
    refine stps ?_
    refine stps ?_
    refine stps ?_
    refine stps ?_
    refine stps ?_
    refine stpx (fun _ _ => ex_pick (r := false) rfl) ?_
    exact stpa .nil
  intro w7 hb7 HB9
  exact wpr (ret1 Tryz.results17 (res_tmp rfl)) HB9
theorem twomeets_v (x y : Zq) (r : Bool) (hr : r = true ↔ y * y = x * x * x + b2) : CI 52 #[nv 6 [x.re.val, x.im.val], nv 6 [y.re.val, y.im.val]] (.bool r) := fun w => by
  obtain ⟨z1, ez1⟩ := nm (x * x : Zq)
  obtain ⟨z2, ez2⟩ := nm (z1 * x : Zq)
  obtain ⟨z3, ez3⟩ := nm (y * y : Zq)
  obtain ⟨z4, ez4⟩ := nm (z2 + b2 : Zq)
  go_enter Tryz.func52, Tryz.ntmps52
  refine rh2 (brf w) 28 0 [.n 6 x.re.val, .n 6 x.im.val] 28 1 [.n 6 y.re.val, .n 6 y.im.val] [2, 3, 4] (fun γ => [pz (γ 0), pz (γ 1), .bool false]) ?_ ?_
  · refine stpb 0 (fun γ w h => ex_boxsn (K := 6) (l := [x.re.val, x.im.val]) rfl) ?_
    refine stpb 1 (fun γ w h => ex_boxsn (K := 6) (l := [y.re.val, y.im.val]) rfl) ?_
    exact stpa .nil
  intro γ1 w1 hb1 A2 A3 _ _ hn1 HB4
  refine rhc HB4 [(28, 5, 6, [.n 6 0, .n 6 0], [.n 6 z2.re.val, .n 6 z2.im.val])] [6, 7, 8, 9, 10, 5] (fun γ => [nv 6 [x.re.val, x.im.val], nv 6 [x.re.val, x.im.val], nv 6 [z1.re.val, z1.im.val], nv 6 [x.re.val, x.im.val], nv 6 [z2.re.val, z2.im.val], pz (γ 0)]) ?_ ?_
  · refine stpl 0 2 flFp2 A2 ?_
    refine stpl 0 2 flFp2 A2 ?_
    refine stpk Tryz.call96 (fun w h => duoMul_z x x z1 rfl rfl ez1 _) ?_
    refine stpl 0 2 flFp2 A2 ?_
    refine stpk Tryz.call96 (fun w h => duoMul_z z1 x z2 rfl rfl ez2 _) ?_
    refine stpn 0 (fun γ w => ex_allocsn (K := 6) (l := [0, 0]) zFp2) ?_
    exact stpo 0 0 2 flFp2.2 (nv_cells 6 [z2.re.val, z2.im.val]) .nil
  intro γ5 w5 hb5 hB5 _ HB9
  have A7 := A3.keep hb5.out
  have A8 : SB 28 w5 (γ5 0) [.n 6 z2.re.val, .n 6 z2.im.val] := (hB5 0 rfl).2
  refine rh0 HB9 [11, 12, 13, 14, 15, 16, 17, 4] [nv 6 [y.re.val, y.im.val], nv 6 [y.re.val, y.im.val], nv 6 [z3.re.val, z3.im.val], nv 6 [z2.re.val, z2.im.val], nv 6 [4, 4], nv 6 [z4.re.val, z4.im.val], .bool r, .bool r] ?_ ?_
  · refine stpl 0 2 flFp2 A7 ?_
    refine stpl 0 2 flFp2 A7 ?_
    refine stpk Tryz.call96 (fun w h => duoMul_z y y z3 rfl rfl ez3 _) ?_
    refine stpl 0 2 flFp2 A8 ?_
    refine stpk Tryz.call98 (fun w h => twoalike_4 _) ?_
    refine stpk Tryz.call97 (fun w h => duoAdd_z z2 b2 z4 rfl qc44 ez4 _) ?_
    refine stpx (fun _ _ => ex_eqzq z3 z4 rfl rfl rfl rfl r (by subst ez4 ez3 ez2 ez1; exact hr)) ?_
    exact stpa .nil
  intro w10 hb10 HB14
  exact wpr (ret1 Tryz.results52 (res_tmp rfl)) HB14
theorem twoRight_aff (x y : Zq) (r : Bool) (hr : r = true ↔ y * y = x * x * x + b2) : CI 17 #[sv [.n 6 x.re.val, .n 6 x.im.val, .n 6 y.re.val, .n 6 y.im.val, .b false]] (.bool r) := fun w => by
  go_enter Tryz.func17, Tryz.ntmps17
  refine rh1 (brf w) 30 0 [.n 6 x.re.val, .n 6 x.im.val, .n 6 y.re.val, .n 6 y.im.val, .b false] [1, 2] (fun γ => [pz (γ 0), .bool false]) ?_ ?_
  · refine stpb 0 (fun γ w h => ex_boxs (l := [.n 6 x.re.val, .n 6 x.im.val, .n 6 y.re.val, .n 6 y.im.val, .b false]) rfl) ?_
    exact stpa .nil
  intro γ1 w1 hb1 A2 _ HB3
  refine wp_seq ?_
  refine rh0 HB3 [3, 4] [pq (γ1 0) 24, .bool false] ?_ ?_
  · refine stpx (fun _ _ => ex_field faG2_2 rfl) ?_
    exact stpv (fun γ w h => ex_load1 4 (s := .b false) (v := .bool false) sgBool rfl (A2.keep h.out) rfl rfl rfl) .nil
  intro w4 hb4 HB6
  have A5 := A2.keep hb4.out
  refine wp_cond_false rfl ?_
  refine wp_skip ?_
  refine th_r ?_
  refine rh0 HB6 [8, 9, 10, 11, 12, 13, 14, 15, 16, 17, 18, 19, 20, 21, 22, 2] [pz (γ1 0), nv 6 [x.re.val, x.im.val], .bool true, .bool true, pq (γ1 0) 12, nv 6 [y.re.val, y.im.val], .bool true, .bool true, .bool true, pz (γ1 0), nv 6 [x.re.val, x.im.val], pq (γ1 0) 12, nv 6 [y.re.val, y.im.val], .bool r, .bool r, .bool r] ?_ ?_
  · refine stpx (fun _ _ => ex_field faG2_0 rfl) ?_
    refine stpl 0 2 flFp2 A5 ?_
    refine stpk Tryz.call51 (fun w h => twobelow_yes x _) ?_
    refine stpm ?_
    refine stpx (fun _ _ => ex_field faG2_1 rfl) ?_
    refine stpl 2 2 flFp2 A5 ?_
    refine stpk Tryz.call51 (fun w h => twobelow_yes y _) ?_
    refine stpx (fun _ _ => ex_pick (r := true) rfl) ?_
    refine stpm ?_
    refine stpx (fun _ _ => ex_field faG2_0 rfl) ?_
    refine stpl 0 2 flFp2 A5 ?_
    refine stpx (fun _ _ => ex_field faG2_1 rfl) ?_
    refine stpl 2 2 flFp2 A5 ?_
    refine stpk Tryz.call52 (fun w h => twomeets_v x y r hr _) ?_
    refine stpx (fun _ _ => ex_pick (r := true) rfl) ?_
    exact stpa .nil
  intro w7 hb7 HB9
  exact wpr (ret1 Tryz.results17 (res_tmp rfl)) HB9
def RawOk2 (x0 x1 y0 y1 : Nat) (i : Bool) : Prop := ∃ P : E2, x0 = bx0 P.pt ∧ x1 = bx1 P.pt ∧ y0 = by0 P.pt ∧ y1 = by1 P.pt ∧ i = bi P.pt
theorem twoRight_p (P : E2) (w : World) : Calls Tryz.prog 17 #[sv [.n 6 (bx0 P.pt), .n 6 (bx1 P.pt), .n 6 (by0 P.pt), .n 6 (by1 P.pt), .b (bi P.pt)]] w (Is (.bool true) w) := by
  obtain ⟨P, hP⟩ := P
  cases P with
  | inf => exact twoRight_inf w
  | aff x y => exact twoRight_aff x y true ⟨fun _ => hP, fun _ => rfl⟩ w
theorem twoRight_no {x0 x1 y0 y1 : Nat} {i : Bool} (hx0 : x0 < fpB) (hx1 : x1 < fpB) (hy0 : y0 < fpB) (hy1 : y1 < fpB) (h : ¬ RawOk2 x0 x1 y0 y1 i) (w : World) : Calls Tryz.prog 17 #[sv [.n 6 x0, .n 6 x1, .n 6 y0, .n 6 y1, .b i]] w (Is (.bool false) w) := by
  cases i with
  | true => exact twoRight_rawinf x0 x1 y0 y1 hx0 hx1 hy0 hy1 (fun e => h ⟨EP.zero, e.1, e.2.1, e.2.2.1, e.2.2.2, rfl⟩) w
  | false =>
    by_cases h1 : x0 < pN ∧ x1 < pN
    · by_cases h2 : y0 < pN ∧ y1 < pN
      · exact twoRight_aff ⟨⟨x0, h1.1⟩, ⟨x1, h1.2⟩⟩ ⟨⟨y0, h2.1⟩, ⟨y1, h2.2⟩⟩ false ⟨fun e => Bool.noConfusion e, fun e => absurd ⟨⟨.aff ⟨⟨x0, h1.1⟩, ⟨x1, h1.2⟩⟩ ⟨⟨y0, h2.1⟩, ⟨y1, h2.2⟩⟩, e⟩, rfl, rfl, rfl, rfl, rfl⟩ h⟩ w
      · exact twoRight_rawy ⟨⟨x0, h1.1⟩, ⟨x1, h1.2⟩⟩ y0 y1 hy0 hy1 h2 w
    · exact twoRight_rawx x0 x1 y0 y1 hx0 hx1 h1 w
theorem twojoined_p (P Q R : E2) (hs : P.add C2 Q = R) : CI 59 #[sv [.n 6 (bx0 P.pt), .n 6 (bx1 P.pt), .n 6 (by0 P.pt), .n 6 (by1 P.pt), .b (bi P.pt)], sv [.n 6 (bx0 Q.pt), .n 6 (bx1 Q.pt), .n 6 (by0 Q.pt), .n 6 (by1 Q.pt), .b (bi Q.pt)], .func (.func 60) #[] #[]] (.tuple #[sv [.n 6 (bx0 R.pt), .n 6 (bx1 R.pt), .n 6 (by0 R.pt), .n 6 (by1 R.pt), .b (bi R.pt)], .int .i64 0]) := fun w => by
  obtain ⟨u, hu⟩ : ∃ u, u = plusT b6 (twoTri P.pt) (twoTri Q.pt) := ⟨_, rfl⟩
  have hR : u.Is R.pt := by
    rw [hu, ← hs, b6_is]
    exact plus_ok FdQ hN2 P.on Q.on (twoTri_is _) (twoTri_is _) (EP.sum C2 P Q)
  go_enter Tryz.func59, Tryz.ntmps59
  refine rh3 (brf w) 30 0 [.n 6 (bx0 P.pt), .n 6 (bx1 P.pt), .n 6 (by0 P.pt), .n 6 (by1 P.pt), .b (bi P.pt)] 30 1 [.n 6 (bx0 Q.pt), .n 6 (bx1 Q.pt), .n 6 (by0 Q.pt), .n 6 (by1 Q.pt), .b (bi Q.pt)] 30 2 [.n 6 0, .n 6 0, .n 6 0, .n 6 0, .b false] [3, 4, 6, 7] (fun γ => [pz (γ 0), pz (γ 1), pz (γ 2), .int .i64 0]) ?_ ?_
  · refine stpb 0 (fun γ w h => ex_boxs (l := [.n 6 (bx0 P.pt), .n 6 (bx1 P.pt), .n 6 (by0 P.pt), .n 6 (by1 P.pt), .b (bi P.pt)]) rfl) ?_
    refine stpb 1 (fun γ w h => ex_boxs (l := [.n 6 (bx0 Q.pt), .n 6 (bx1 Q.pt), .n 6 (by0 Q.pt), .n 6 (by1 Q.pt), .b (bi Q.pt)]) rfl) ?_
    refine stpb 2 (fun γ w h => ex_allocs (l := [.n 6 0, .n 6 0, .n 6 0, .n 6 0, .b false]) zG2) ?_
    exact stpa .nil
  intro γ1 w1 hb1 A2 A3 A4 _ _ le4 hn1 HB5
  refine wp_seq ?_
  refine rh0 HB5 [8, 9, 10, 11, 12, 13, 14, 15] [sv [.n 6 (bx0 P.pt), .n 6 (bx1 P.pt), .n 6 (by0 P.pt), .n 6 (by1 P.pt), .b (bi P.pt)], .bool true, .bool false, .bool false, sv [.n 6 (bx0 Q.pt), .n 6 (bx1 Q.pt), .n 6 (by0 Q.pt), .n 6 (by1 Q.pt), .b (bi Q.pt)], .bool true, .bool false, .bool false] ?_ ?_
  · refine stpv (fun γ w h => ex_loads 0 5 (m := [.n 6 (bx0 P.pt), .n 6 (bx1 P.pt), .n 6 (by0 P.pt), .n 6 (by1 P.pt), .b (bi P.pt)]) flG2 rfl rfl (A2.keep h.out) rfl rfl) ?_
    refine stpk Tryz.call17 (fun w h => twoRight_p P _) ?_
    refine stpx (fun _ _ => ex_not (r := true) rfl) ?_
    refine stpm ?_
    refine stpv (fun γ w h => ex_loads 0 5 (m := [.n 6 (bx0 Q.pt), .n 6 (bx1 Q.pt), .n 6 (by0 Q.pt), .n 6 (by1 Q.pt), .b (bi Q.pt)]) flG2 rfl rfl (A3.keep h.out) rfl rfl) ?_
    refine stpk Tryz.call17 (fun w h => twoRight_p Q _) ?_
    refine stpx (fun _ _ => ex_not (r := true) rfl) ?_
    exact stpx (fun _ _ => ex_pick (r := false) rfl) .nil
  intro w6 hb6 HB10
  have A7 := A2.keep hb6.out
  have A8 := A3.keep hb6.out
  have A9 := A4.keep hb6.out
  refine wp_cond_false rfl ?_
  refine wp_skip ?_
  refine th_r ?_
  refine rhs HB10 le4 7 0 [.n 6 (bx0 R.pt), .n 6 (bx1 R.pt), .n 6 (by0 R.pt), .n 6 (by1 R.pt), .b (bi R.pt)] [17, 18, 19, 20, 21, 22, 23, 7] [.func (.func 60) #[] #[], sv [.n 6 (bx0 P.pt), .n 6 (bx1 P.pt), .n 6 (by0 P.pt), .n 6 (by1 P.pt), .b (bi P.pt)], sv [.n 6 (((twoTri P.pt).x).re.val), .n 6 (((twoTri P.pt).x).im.val), .n 6 (((twoTri P.pt).y).re.val), .n 6 (((twoTri P.pt).y).im.val), .n 6 (((twoTri P.pt).z).re.val), .n 6 (((twoTri P.pt).z).im.val)], sv [.n 6 (bx0 Q.pt), .n 6 (bx1 Q.pt), .n 6 (by0 Q.pt), .n 6 (by1 Q.pt), .b (bi Q.pt)], sv [.n 6 (((twoTri Q.pt).x).re.val), .n 6 (((twoTri Q.pt).x).im.val), .n 6 (((twoTri Q.pt).y).re.val), .n 6 (((twoTri Q.pt).y).im.val), .n 6 (((twoTri Q.pt).z).re.val), .n 6 (((twoTri Q.pt).z).im.val)], sv [.n 6 u.x.re.val, .n 6 u.x.im.val, .n 6 u.y.re.val, .n 6 u.y.im.val, .n 6 u.z.re.val, .n 6 u.z.im.val], sv [.n 6 (bx0 R.pt), .n 6 (bx1 R.pt), .n 6 (by0 R.pt), .n 6 (by1 R.pt), .b (bi R.pt)], .int .i64 0] ?_ ?_
  · refine latm ?_
    refine latv (fun γ w h => ex_loads 0 5 (m := [.n 6 (bx0 P.pt), .n 6 (bx1 P.pt), .n 6 (by0 P.pt), .n 6 (by1 P.pt), .b (bi P.pt)]) flG2 rfl rfl (A7.keep h.out) rfl rfl) ?_
    refine latk Tryz.call56 (fun w h => twobring_q P.pt _) ?_
    refine latv (fun γ w h => ex_loads 0 5 (m := [.n 6 (bx0 Q.pt), .n 6 (bx1 Q.pt), .n 6 (by0 Q.pt), .n 6 (by1 Q.pt), .b (bi Q.pt)]) flG2 rfl rfl (A8.keep h.out) rfl rfl) ?_
    refine latk Tryz.call56 (fun w h => twobring_q Q.pt _) ?_
    refine latk Tryz.call60 (fun w h => twoplus_q hu _) ?_
    refine latk Tryz.call58 (fun w h => twoback_q hR _) ?_
    refine latq 0 5 flG2.2 A9 ?_
    exact latf (fun γ w => ex_assign _) .nil
  intro w11 w11_ hb11 hs11 HB19
  have A14 := A9.keep hb11.out
  have A18 := hs11.here 0 5 (l' := [.n 6 (bx0 R.pt), .n 6 (bx1 R.pt), .n 6 (by0 R.pt), .n 6 (by1 R.pt), .b (bi R.pt)]) A14 rfl rfl rfl
  exact wpr (ret2 Tryz.results59 (res_sv rfl A18 flG2 rfl) (res_tmp rfl)) HB19
theorem twoAdd_p (P Q R : E2) (hs : P.add C2 Q = R) : CI 23 #[sv [.n 6 (bx0 P.pt), .n 6 (bx1 P.pt), .n 6 (by0 P.pt), .n 6 (by1 P.pt), .b (bi P.pt)], sv [.n 6 (bx0 Q.pt), .n 6 (bx1 Q.pt), .n 6 (by0 Q.pt), .n 6 (by1 Q.pt), .b (bi Q.pt)]] (.tuple #[sv [.n 6 (bx0 R.pt), .n 6 (bx1 R.pt), .n 6 (by0 R.pt), .n 6 (by1 R.pt), .b (bi R.pt)], .int .i64 0]) := fun w => by
  go_enter Tryz.func23, Tryz.ntmps23
  refine rh3 (brf w) 30 0 [.n 6 (bx0 P.pt), .n 6 (bx1 P.pt), .n 6 (by0 P.pt), .n 6 (by1 P.pt), .b (bi P.pt)] 30 1 [.n 6 (bx0 Q.pt), .n 6 (bx1 Q.pt), .n 6 (by0 Q.pt), .n 6 (by1 Q.pt), .b (bi Q.pt)] 30 2 [.n 6 0, .n 6 0, .n 6 0, .n 6 0, .b false] [2, 3, 4, 5] (fun γ => [pz (γ 0), pz (γ 1), pz (γ 2), .int .i64 0]) ?_ ?_
  · refine stpb 0 (fun γ w h => ex_boxs (l := [.n 6 (bx0 P.pt), .n 6 (bx1 P.pt), .n 6 (by0 P.pt), .n 6 (by1 P.pt), .b (bi P.pt)]) rfl) ?_
    refine stpb 1 (fun γ w h => ex_boxs (l := [.n 6 (bx0 Q.pt), .n 6 (bx1 Q.pt), .n 6 (by0 Q.pt), .n 6 (by1 Q.pt), .b (bi Q.pt)]) rfl) ?_
    refine stpb 2 (fun γ w h => ex_allocs (l := [.n 6 0, .n 6 0, .n 6 0, .n 6 0, .b false]) zG2) ?_
    exact stpa .nil
  intro γ1 w1 hb1 A2 A3 A4 _ _ le4 hn1 HB5
  refine rhs HB5 le4 5 0 [.n 6 (bx0 R.pt), .n 6 (bx1 R.pt), .n 6 (by0 R.pt), .n 6 (by1 R.pt), .b (bi R.pt)] [6, 7, 8, 9, 10, 5] [sv [.n 6 (bx0 P.pt), .n 6 (bx1 P.pt), .n 6 (by0 P.pt), .n 6 (by1 P.pt), .b (bi P.pt)], sv [.n 6 (bx0 Q.pt), .n 6 (bx1 Q.pt), .n 6 (by0 Q.pt), .n 6 (by1 Q.pt), .b (bi Q.pt)], .tuple #[sv [.n 6 (bx0 R.pt), .n 6 (bx1 R.pt), .n 6 (by0 R.pt), .n 6 (by1 R.pt), .b (bi R.pt)], .int .i64 0], sv [.n 6 (bx0 R.pt), .n 6 (bx1 R.pt), .n 6 (by0 R.pt), .n 6 (by1 R.pt), .b (bi R.pt)], .int .i64 0, .int .i64 0] ?_ ?_
  · refine latv (fun γ w h => ex_loads 0 5 (m := [.n 6 (bx0 P.pt), .n 6 (bx1 P.pt), .n 6 (by0 P.pt), .n 6 (by1 P.pt), .b (bi P.pt)]) flG2 rfl rfl (A2.keep h.out) rfl rfl) ?_
    refine latv (fun γ w h => ex_loads 0 5 (m := [.n 6 (bx0 Q.pt), .n 6 (bx1 Q.pt), .n 6 (by0 Q.pt), .n 6 (by1 Q.pt), .b (bi Q.pt)]) flG2 rfl rfl (A3.keep h.out) rfl rfl) ?_
    refine latk Tryz.call59 (fun w h => twojoined_p P Q R hs _) ?_
    refine latv (fun γ w h => ex_extract rfl rfl) ?_
    refine latv (fun γ w h => ex_extract rfl rfl) ?_
    refine latq 0 5 flG2.2 A4 ?_
    exact latf (fun γ w => ex_assign _) .nil
  intro w6 w6_ hb6 hs6 HB14
  have A9 := A4.keep hb6.out
  have A13 := hs6.here 0 5 (l' := [.n 6 (bx0 R.pt), .n 6 (bx1 R.pt), .n 6 (by0 R.pt), .n 6 (by1 R.pt), .b (bi R.pt)]) A9 rfl rfl rfl
  exact wpr (ret2 Tryz.results23 (res_sv rfl A13 flG2 rfl) (res_tmp rfl)) HB14
end
end Go.Proofs.YtkkmekdhejhapaaGreat
