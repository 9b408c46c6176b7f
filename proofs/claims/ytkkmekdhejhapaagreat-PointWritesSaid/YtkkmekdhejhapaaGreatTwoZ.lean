/- What is proved here: r times the generator of the second curve is at infinity; no point of the second curve has the second number 0; the type api.G2 and the projective points of package two as segments; arguments of this type are such; the calls of package duo and of its reference on the numbers A + B u as a field; no point of the second curve has the second number 0; points as segments. -/
import Derived.Test.YtkkmekdhejhapaaGreatOneZ
namespace Go.Proofs.YtkkmekdhejhapaaGreat
section
open Go.RowKit Cv
def b2 : Zq := fq 4 4
theorem b2_ne : b2 ≠ 0 := fun h => four_ne (congrArg Zq.re h)
instance : DecidableEq Zq := fun x y => decidable_of_iff (x.re = y.re ∧ x.im = y.im) ⟨fun h => Zq.ext' h.1 h.2, fun h => by rw [h]; exact ⟨rfl, rfl⟩⟩
def C2 : Cu Zq b2 := ⟨FdQ, b2_ne⟩
abbrev E2 : Type := EP b2
def qadd (a b : Nat × Nat) : Nat × Nat := (pAdd a.1 b.1, pAdd a.2 b.2)
def qsub (a b : Nat × Nat) : Nat × Nat := (pSub a.1 b.1, pSub a.2 b.2)
def qmul (a b : Nat × Nat) : Nat × Nat := (pSub (pMul a.1 b.1) (pMul a.2 b.2), pAdd (pMul a.1 b.2) (pMul a.2 b.1))
def qinv (a : Nat × Nat) : Nat × Nat :=
  let i := einv pN 800 (pAdd (pMul a.1 a.1) (pMul a.2 a.2)) pN 1 0
  (pMul a.1 i, pNeg (pMul a.2 i))
def fq2 (a : Nat × Nat) : Zq := fq a.1 a.2
theorem fq2_add (a b : Nat × Nat) : fq2 (qadd a b) = fq2 a + fq2 b := Zq.ext' (fz_add _ _) (fz_add _ _)
theorem fq2_sub (a b : Nat × Nat) : fq2 (qsub a b) = fq2 a - fq2 b := Zq.ext' (fz_sub _ _) (fz_sub _ _)
theorem fq2_mul (a b : Nat × Nat) : fq2 (qmul a b) = fq2 a * fq2 b := Zq.ext' (by
  rw [Zq.re_mul]
  show fz (pSub _ _) = fz a.1 * fz b.1 - fz a.2 * fz b.2
  rw [fz_sub, fz_mul, fz_mul]) (by
  rw [Zq.im_mul]
  show fz (pAdd _ _) = fz a.1 * fz b.2 + fz a.2 * fz b.1
  rw [fz_add, fz_mul, fz_mul])
def codQ : Cod Zq (Nat × Nat) := ⟨fq2, qadd, qsub, qmul, qinv, (1, 0), fun a b => a.1 % pN == b.1 % pN && a.2 % pN == b.2 % pN, fq2_add, fq2_sub, fq2_mul, rfl, fun _ _ h => by
  rw [Bool.and_eq_true, beq_iff_eq, beq_iff_eq] at h
  exact Zq.ext' (fz_ext h.1) (fz_ext h.2)⟩
def g2x : Nat × Nat := (0x024AA2B2F08F0A91260805272DC51051C6E47AD4FA403B02B4510B647AE3D1770BAC0326A805BBEFD48056C8C121BDB8, 0x13E02B6052719F607DACD3A088274F65596BD0D09920B61AB5DA61BBDC7F5049334CF11213945D57E5AC7D055D042B7E)
def g2y : Nat × Nat := (0x0CE5D527727D6E118CC9CDC6DA2E351AADFD9BAA8CBDD3A76D429A695160D12C923AC9CC3BACA289E193548608B82801, 0x0606C4A02EA734CC32ACD2B02BC28B99CB3E287E85A763AF267492AB572E99AB3F370D275CEC1DA1AAA9075FF05F79BE)
theorem g2_on : On b2 (.aff (fq2 g2x) (fq2 g2y)) := by
  show fq2 g2y * fq2 g2y = fq2 g2x * fq2 g2x * fq2 g2x + fq2 (4, 4)
  rw [← fq2_mul, ← fq2_mul, ← fq2_mul, ← fq2_add]
  exact congrArg fq2 (by decide +kernel)
def G2 : E2 := ⟨.aff (fq2 g2x) (fq2 g2y), g2_on⟩
theorem g2_go : codQ.go (g2x, g2y) 260 (rN - 1) = some (g2x, (pN - g2y.1, pN - g2y.2)) := by decide +kernel
theorem g2_order : EP.times C2 rN G2 = EP.zero := by
  have h := Cod.go_ok codQ C2 (G := G2) (g := (g2x, g2y)) rfl 260 (rN - 1) _ g2_go
  have e : rN = rN - 1 + 1 := by decide +kernel
  rw [e]
  show (EP.times C2 (rN - 1) G2).add C2 G2 = _
  refine EP.of_sum C2 ?_
  rw [h]
  exact .inl ⟨rfl, Zq.ext' (fz_minus (by decide +kernel)) (fz_minus (by decide +kernel)), rfl⟩
def qn (a : Zq) : Zp := a.re * a.re + a.im * a.im
theorem qn_mul (a b : Zq) : qn (a * b) = qn a * qn b := by
  unfold qn
  rw [Zq.re_mul, Zq.im_mul]
  grind
theorem no_cube {c : Nat} (_hc : c < pN) (h0 : fz c ≠ 0) (h : powm pN c 381 ((pN - 1) / 3) ≠ 1) (n : Zp) : n * n * n ≠ fz c := fun he => by
  have h1 : fz (n.val * n.val * n.val) = n * n * n := by
    have h2 := fz_mul (n.val * n.val) n.val
    have h3 := fz_mul n.val n.val
    have h4 : fz (pMul (n.val * n.val) n.val) = fz (n.val * n.val * n.val) := fz_ext (Nat.mod_mod _ _)
    have h5 : fz (pMul n.val n.val) = fz (n.val * n.val) := fz_ext (Nat.mod_mod _ _)
    rw [← h4, h2, ← h5, h3, fz_of]
  rw [he] at h1
  have h2 : n.val * n.val * n.val % pN = c % pN := by
    have := congrArg Fin.val h1
    rwa [fz_val, fz_val] at this
  have hn : n ≠ 0 := fun e => h0 (by rw [← he, e, Fin.mul_zero])
  have hn0 : 0 < n.val := Nat.pos_of_ne_zero fun e => hn (Fin.ext e)
  have h3 := p_fermat n.val hn0 n.isLt
  obtain ⟨m, hm⟩ : ∃ m, m = (pN - 1) / 3 := ⟨_, rfl⟩
  have hm3 : 3 * m = pN - 1 := by rw [hm]; decide +kernel
  have h4 : (n.val * n.val * n.val) ^ m % pN = c ^ m % pN := by rw [Nat.pow_mod, h2, ← Nat.pow_mod]
  have h5 : n.val * n.val * n.val = n.val ^ 3 := by rw [Nat.pow_succ, Nat.pow_succ, Nat.pow_succ, Nat.pow_zero, Nat.one_mul]
  rw [h5, ← Nat.pow_mul, hm3, h3] at h4
  refine h ?_
  rw [powm_eq 381 _ (by decide +kernel), ← hm]
  exact h4.symm
theorem qn_neg (a : Zq) : qn (-a) = qn a := by
  unfold qn
  rw [Zq.re_neg, Zq.im_neg]
  grind
theorem qn_b2 : qn b2 = fz 32 := by decide +kernel
theorem hN2 : NoZero b2 := fun x h => by
  have e : x * x * x = -b2 := by
    generalize b2 = c at h
    grind
  have h1 := congrArg qn e
  rw [qn_mul, qn_mul, qn_neg, qn_b2] at h1
  exact no_cube (c := 32) (by decide +kernel) (by decide +kernel) (by decide +kernel) (qn x) h1
end

section
open Go.RowKit Cv
theorem g2_fields : Tryz.prog.underlying 30 = some (.struct (List.toArray [⟨"X", 28, 0, false, "", "", 0⟩, ⟨"Y", 28, 12, false, "", "", 96⟩, ⟨"Inf", 4, 24, false, "", "", 192⟩])) := Tryz.underlying30
theorem flG2 : Flat 30 25 := ⟨Tryz.isAgg30, Tryz.sizeOf30⟩
theorem faG2_0 : FieldAt 30 0 0 := ⟨_, _, 11, g2_fields, rfl, rfl, Tryz.sizeOf28⟩
theorem faG2_1 : FieldAt 30 1 12 := ⟨_, _, 11, g2_fields, rfl, rfl, Tryz.sizeOf28⟩
theorem faG2_2 : FieldAt 30 2 24 := ⟨_, _, 0, g2_fields, rfl, rfl, Tryz.sizeOf4⟩
theorem segs_g20 : segs [.n 6 0, .n 6 0, .n 6 0, .n 6 0, .b false] = List.replicate 24 (Value.int .u64 0) ++ [.bool false] := by
  have h : segs [.n 6 0, .n 6 0, .n 6 0, .n 6 0, .b false] = segs ([0, 0, 0, 0].map (Seg.n 6)) ++ segs [.b false] := segs_app ([0, 0, 0, 0].map (Seg.n 6)) [.b false]
  rw [h, segs_nums, show [0, 0, 0, 0] = List.replicate 4 0 from rfl, rows_zero, cells0]
  rfl
theorem zG2 (w : World) : (zeroValue 30).run Tryz.prog w = .ok (sv [.n 6 0, .n 6 0, .n 6 0, .n 6 0, .b false]) w := by
  rw [Tryz.zeroValue30 w, sv, segs_g20]
  rfl
theorem stG2 : StructS 30 [.n 6 0, .n 6 0, .n 6 0, .n 6 0, .b false] [(0, 12), (12, 12), (24, 1)] := by
  refine ⟨_, g2_fields, zG2, fun w => ?_⟩
  simp [Sem.run_bind, Tryz.sizeOf28, Tryz.sizeOf4]
def shG2 : List Seg → Prop := fun l => ∃ a b, l = a ++ b ∧ Nums 6 2 a ∧ ∃ c d, b = c ++ d ∧ Nums 6 2 c ∧ ∃ e f, d = e ++ f ∧ (∃ r, e = [.b r]) ∧ f = []
theorem shG2_of {x0 x1 y0 y1 : Nat} {i : Bool} (hx0 : x0 < fpB) (hx1 : x1 < fpB) (hy0 : y0 < fpB) (hy1 : y1 < fpB) : shG2 [.n 6 x0, .n 6 x1, .n 6 y0, .n 6 y1, .b i] :=
  ⟨[.n 6 x0, .n 6 x1], [.n 6 y0, .n 6 y1, .b i], rfl, ⟨[x0, x1], rfl, fpB_all2 hx0 hx1, rfl⟩, [.n 6 y0, .n 6 y1], [.b i], rfl, ⟨[y0, y1], rfl, fpB_all2 hy0 hy1, rfl⟩, [.b i], [], rfl, ⟨i, rfl⟩, rfl⟩
theorem shG2_size {m : List Seg} (h : shG2 m) : ssize m = 25 := by
  obtain ⟨a, b, rfl, ha, c, d, rfl, hc, e, f, rfl, he, rfl⟩ := h
  rw [ssize_app, ssize_app, ssize_app, (nums_size ha).2, (nums_size hc).2, (one_size he).2]
  rfl
theorem eqG2 : EqT 30 4 3 shG2 sv :=
  EqT.struct (k := 3) g2_fields Tryz.stoodInHeld30 (fun m hm => by rw [shG2_size hm]; exact flG2)
    (.cons (n := 12) (j := 2) (by decide) rfl (fun _ h => nums_size h) (EqT.nums eqFp2 flFp2 rfl) (.cons (n := 12) (j := 2) (by decide) rfl (fun _ h => nums_size h) (EqT.nums eqFp2 flFp2 rfl)
      (.cons (n := 1) (j := 1) (by decide) rfl (fun _ h => one_size h) (EqT.more (EqT.more (EqT.bool Tryz.underlying4 sgBool))) (.nil _))))
theorem gdG2 : Tryz.prog.eqGuardType Tryz.prog.depth 30 = false := Tryz.eqGuardType30
theorem osG2 : OpensS 30 shG2 := OpensS.struct g2_fields (by kernel_rfl)
  (.cons (n := 12) rfl (by kernel_rfl) (OpensS.nums opens_fp2 rfl) (.cons (n := 12) rfl (by kernel_rfl) (OpensS.nums opens_fp2 rfl) (.cons (n := 1) rfl (by kernel_rfl) (OpensS.bool Tryz.underlying4) (.nil _))))
set_option maxRecDepth 20000 in
theorem open_g2 {H : Type} {enc : TypeId × Value → H} {w : World} {r : Reach} {b0 base : Nat} {sp : Nat → Bool} {held : Bool} {v : Value} {d : DataW H} {ps : List MemPlace}
    (hval : Value.okWide Tryz.prog w r b0 30 v) (hd : DataW.Trod enc Tryz.prog w base sp held 30 v d ps) : ∃ (x0 x1 y0 y1 : Nat) (i : Bool), x0 < fpB ∧ x1 < fpB ∧ y0 < fpB ∧ y1 < fpB ∧ v = sv [.n 6 x0, .n 6 x1, .n 6 y0, .n 6 y1, .b i] := by
  simp only [Value.okWide, Tryz.underlying30] at hval
  obtain ⟨cs, rfl, hs, _⟩ := hval
  obtain ⟨m, ⟨a, b, rfl, ⟨l, h1, h2, rfl⟩, c, d, rfl, ⟨l', h3, h4, rfl⟩, e, f, rfl, ⟨i, rfl⟩, rfl⟩, he⟩ := open_sv osG2 hd
  match l, l', h1, h3, h2, h4, he with
  | [x0, x1], [y0, y1], _, _, h2, h4, he => exact ⟨x0, x1, y0, y1, i, Nat.lt_of_lt_of_eq (h2 _ (by simp)) fpB_eq.symm, Nat.lt_of_lt_of_eq (h2 _ (by simp)) fpB_eq.symm, Nat.lt_of_lt_of_eq (h4 _ (by simp)) fpB_eq.symm, Nat.lt_of_lt_of_eq (h4 _ (by simp)) fpB_eq.symm, he⟩
theorem ptg2_fields : Tryz.prog.underlying 91 = some (.struct (List.toArray [⟨"x", 28, 0, false, "", "chirograph/two", 0⟩, ⟨"y", 28, 12, false, "", "chirograph/two", 96⟩, ⟨"z", 28, 24, false, "", "chirograph/two", 192⟩])) := Tryz.underlying91
theorem flPG2 : Flat 91 36 := ⟨Tryz.isAgg91, Tryz.sizeOf91⟩
theorem faPG2_0 : FieldAt 91 0 0 := ⟨_, _, 11, ptg2_fields, rfl, rfl, Tryz.sizeOf28⟩
theorem faPG2_1 : FieldAt 91 1 12 := ⟨_, _, 11, ptg2_fields, rfl, rfl, Tryz.sizeOf28⟩
theorem faPG2_2 : FieldAt 91 2 24 := ⟨_, _, 11, ptg2_fields, rfl, rfl, Tryz.sizeOf28⟩
theorem zPG2 (w : World) : (zeroValue 91).run Tryz.prog w = .ok (sv [.n 6 0, .n 6 0, .n 6 0, .n 6 0, .n 6 0, .n 6 0]) w := by
  have h : segs [.n 6 0, .n 6 0, .n 6 0, .n 6 0, .n 6 0, .n 6 0] = segs ([0, 0, 0, 0, 0, 0].map (Seg.n 6)) := rfl
  rw [Tryz.zeroValue91 w, sv, h, segs_nums, show [0, 0, 0, 0, 0, 0] = List.replicate 6 0 from rfl, rows_zero, cells0]
  rfl
theorem stPG2 : StructS 91 [.n 6 0, .n 6 0, .n 6 0, .n 6 0, .n 6 0, .n 6 0] [(0, 12), (12, 12), (24, 12)] := by
  refine ⟨_, ptg2_fields, zPG2, fun w => ?_⟩
  simp [Sem.run_bind, Tryz.sizeOf28]
theorem zp_B2 (x : Zp) : x.val < fpB := Nat.lt_trans x.isLt fpM_lt
theorem qval_of {v : Zp} {n : Nat} (h : v = fz n) (hn : n < pN) : v.val = n := by
  rw [h, fz_val, Nat.mod_eq_of_lt hn]
theorem qsmall {n : Nat} (h : n < 1000) : n < pN := Nat.lt_trans h (by decide +kernel)
theorem qlit {n : Nat} (h : n < pN) : (fz n).val = n := by rw [fz_val, Nat.mod_eq_of_lt h]
theorem qlist {a b : Nat} {x : Zq} (ha : a = x.re.val) (hb : b = x.im.val) : [a, b] = [x.re.val, x.im.val] := by rw [ha, hb]
theorem qc (n : Nat) (h : n < pN) : [n, 0] = [(Zq.nat n).re.val, (Zq.nat n).im.val] := qlist (qlit h).symm rfl
theorem qc0 : [0, 0] = [(0 : Zq).re.val, (0 : Zq).im.val] := qc 0 (qsmall (by decide))
theorem qc1 : [1, 0] = [(1 : Zq).re.val, (1 : Zq).im.val] := qc 1 (qsmall (by decide))
theorem qc44 : [4, 4] = [b2.re.val, b2.im.val] := qlist (qlit (qsmall (by decide))).symm (qlit (qsmall (by decide))).symm
def b6 : Zq := fq 12 12
theorem b6_is : b6 = 3 * b2 := Zq.ext' (by decide +kernel) (by decide +kernel)
theorem qc1212 : [12, 12] = [b6.re.val, b6.im.val] := qlist (qlit (qsmall (by decide))).symm (qlit (qsmall (by decide))).symm
theorem duoMul_z {l m : List Nat} (x y v : Zq) (hl : l = [x.re.val, x.im.val]) (hm : m = [y.re.val, y.im.val]) (hv : v = x * y) (w : World) : Calls Tryz.prog 96 #[nv 6 l, nv 6 m] w (Is (nv 6 [v.re.val, v.im.val]) w) := by
  subst hl hm hv
  exact duoMul_e _ _ _ _ w (zp_B2 _) (zp_B2 _) (zp_B2 _) (zp_B2 _) _ _ (qval_of (by rw [fz_sub, fz_mul, fz_mul, fz_of, fz_of, fz_of, fz_of]; rfl) (pSub_P _ _)) (qval_of (by rw [fz_add, fz_mul, fz_mul, fz_of, fz_of, fz_of, fz_of]; rfl) (pAdd_P _ _))
theorem duoAdd_z {l m : List Nat} (x y v : Zq) (hl : l = [x.re.val, x.im.val]) (hm : m = [y.re.val, y.im.val]) (hv : v = x + y) (w : World) : Calls Tryz.prog 97 #[nv 6 l, nv 6 m] w (Is (nv 6 [v.re.val, v.im.val]) w) := by
  subst hl hm hv
  exact duoAdd_e _ _ _ _ w (zp_B2 _) (zp_B2 _) (zp_B2 _) (zp_B2 _) _ _ (qval_of (by rw [fz_add, fz_of, fz_of]; rfl) (pAdd_P _ _)) (qval_of (by rw [fz_add, fz_of, fz_of]; rfl) (pAdd_P _ _))
theorem duoSub_z {l m : List Nat} (x y v : Zq) (hl : l = [x.re.val, x.im.val]) (hm : m = [y.re.val, y.im.val]) (hv : v = x - y) (w : World) : Calls Tryz.prog 110 #[nv 6 l, nv 6 m] w (Is (nv 6 [v.re.val, v.im.val]) w) := by
  subst hl hm hv
  exact duoSub_e _ _ _ _ w (zp_B2 _) (zp_B2 _) (zp_B2 _) (zp_B2 _) _ _ (qval_of (by rw [fz_sub, fz_of, fz_of]; rfl) (pSub_P _ _)) (qval_of (by rw [fz_sub, fz_of, fz_of]; rfl) (pSub_P _ _))
theorem duoClean_z {l : List Nat} (x : Zq) (hl : l = [x.re.val, x.im.val]) (w : World) : Calls Tryz.prog 95 #[nv 6 l] w (Is (nv 6 [x.re.val, x.im.val]) w) := by
  subst hl
  exact duoClean_e _ _ w (zp_B2 _) (zp_B2 _) _ _ (Nat.mod_eq_of_lt x.re.isLt).symm (Nat.mod_eq_of_lt x.im.isLt).symm
theorem duoInv_z {l : List Nat} (x v : Zq) (hl : l = [x.re.val, x.im.val]) (hv : v = FdQ.inv x) (w : World) : Calls Tryz.prog 107 #[nv 6 l] w (Is (nv 6 [v.re.val, v.im.val]) w) := by
  subst hl hv
  obtain ⟨i, hi⟩ : ∃ i, i = pInv (pAdd (pMul x.re.val x.re.val) (pMul x.im.val x.im.val)) := ⟨_, rfl⟩
  have hz : fz i = zInv (x.re * x.re + x.im * x.im) := by rw [hi, fz_inv, fz_add, fz_mul, fz_mul, fz_of, fz_of]
  refine duoInv_e _ _ w (zp_B2 _) (zp_B2 _) i hi _ _ (qval_of ?_ (pMul_P _ _)) (qval_of ?_ (pMul_P _ _))
  · rw [fz_mul, fz_cl, fz_of, hz]
    rfl
  · rw [fz_mul, fz_neg, fz_of, hz]
    show -(x.im * zInv (x.re * x.re + x.im * x.im)) = _
    generalize zInv (x.re * x.re + x.im * x.im) = j
    clear hz hi
    grind
theorem r5Mul_z {l m : List Nat} (x y v : Zq) (hl : l = [x.re.val, x.im.val]) (hm : m = [y.re.val, y.im.val]) (hv : v = x * y) (w : World) : Calls Tryz.prog 39 #[nv 6 l, nv 6 m] w (Is (nv 6 [v.re.val, v.im.val]) w) := by
  subst hl hm hv
  exact r5Mul_e _ _ _ _ w x.re.isLt x.im.isLt y.re.isLt y.im.isLt _ _ (qval_of (by rw [fz_sub, fz_mul, fz_mul, fz_of, fz_of, fz_of, fz_of]; rfl) (pSub_P _ _)) (qval_of (by rw [fz_add, fz_mul, fz_mul, fz_of, fz_of, fz_of, fz_of]; rfl) (pAdd_P _ _))
theorem r5Add_z {l m : List Nat} (x y v : Zq) (hl : l = [x.re.val, x.im.val]) (hm : m = [y.re.val, y.im.val]) (hv : v = x + y) (w : World) : Calls Tryz.prog 40 #[nv 6 l, nv 6 m] w (Is (nv 6 [v.re.val, v.im.val]) w) := by
  subst hl hm hv
  exact r5Add_e _ _ _ _ w x.re.isLt x.im.isLt y.re.isLt y.im.isLt _ _ (qval_of (by rw [fz_add, fz_of, fz_of]; rfl) (pAdd_P _ _)) (qval_of (by rw [fz_add, fz_of, fz_of]; rfl) (pAdd_P _ _))
theorem r5Clean_z {l : List Nat} (x : Zq) (hl : l = [x.re.val, x.im.val]) (w : World) : Calls Tryz.prog 38 #[nv 6 l] w (Is (nv 6 [x.re.val, x.im.val]) w) := by
  subst hl
  exact r5Clean_e _ _ w (zp_B2 _) (zp_B2 _) _ _ (Nat.mod_eq_of_lt x.re.isLt).symm (Nat.mod_eq_of_lt x.im.isLt).symm
section
variable {ρ : Operand → Value} {d : Option Tmp} {ty0 t2 : TypeId} {pos : String} {after : Array Edge} {guard : Option (Nat × Bool)} {w : World} {X Y : Operand} {l m : List Nat}
theorem zq_list {x y : Zq} {r : Bool} (hr : r = true ↔ x = y) : r = decide ([x.re.val, x.im.val] = [y.re.val, y.im.val]) := by
  rw [Bool.eq_iff_iff, decide_eq_true_iff, hr]
  constructor
  · intro h; rw [h]
  · intro h
    simp only [List.cons.injEq, and_true] at h
    exact Zq.ext' (Fin.ext h.1) (Fin.ext h.2)
theorem ex_eqzq (x y : Zq) (hl : l = [x.re.val, x.im.val]) (hm : m = [y.re.val, y.im.val]) (hx : ρ X = nv 6 l) (hy : ρ Y = nv 6 m) (r : Bool) (hr : r = true ↔ x = y) :
    (execOp ρ ⟨d, .binOp .eql 28 X Y t2, ty0, pos, after, guard⟩).run Tryz.prog w = .ok (.value (.bool r)) w := by
  subst hl hm
  exact ex_eqn eqFp2 rfl hx hy rfl rfl (fpB_all2 (zp_B2 _) (zp_B2 _)) (fpB_all2 (zp_B2 _) (zp_B2 _)) rfl r (zq_list hr)
end
def bx0 : Pt Zq → Nat
  | .inf => 0
  | .aff x _ => x.re.val
def bx1 : Pt Zq → Nat
  | .inf => 0
  | .aff x _ => x.im.val
def by0 : Pt Zq → Nat
  | .inf => 0
  | .aff _ y => y.re.val
def by1 : Pt Zq → Nat
  | .inf => 0
  | .aff _ y => y.im.val
def bi : Pt Zq → Bool
  | .inf => true
  | .aff _ _ => false
theorem bx0_P (P : Pt Zq) : bx0 P < pN := by
  cases P with
  | inf => exact qsmall (by decide)
  | aff x y => exact x.re.isLt
theorem bx1_P (P : Pt Zq) : bx1 P < pN := by
  cases P with
  | inf => exact qsmall (by decide)
  | aff x y => exact x.im.isLt
theorem by0_P (P : Pt Zq) : by0 P < pN := by
  cases P with
  | inf => exact qsmall (by decide)
  | aff x y => exact y.re.isLt
theorem by1_P (P : Pt Zq) : by1 P < pN := by
  cases P with
  | inf => exact qsmall (by decide)
  | aff x y => exact y.im.isLt
theorem bx0_B (P : Pt Zq) : bx0 P < fpB := Nat.lt_trans (bx0_P P) fpM_lt
theorem bx1_B (P : Pt Zq) : bx1 P < fpB := Nat.lt_trans (bx1_P P) fpM_lt
theorem by0_B (P : Pt Zq) : by0 P < fpB := Nat.lt_trans (by0_P P) fpM_lt
theorem by1_B (P : Pt Zq) : by1 P < fpB := Nat.lt_trans (by1_P P) fpM_lt
end
end Go.Proofs.YtkkmekdhejhapaaGreat
