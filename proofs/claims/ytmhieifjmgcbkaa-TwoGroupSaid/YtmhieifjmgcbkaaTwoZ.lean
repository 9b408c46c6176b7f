/- What is proved here: the type api.G2 and the projective points of package two as segments; arguments of this type are such; the calls of package duo and of its reference on the numbers A + B u as a field; no point of the second curve has the second number 0; points as segments. -/
import Derived.Test.YtmhieifjmgcbkaaOneZ
import Derived.Test.YtmhieifjmgcbkaaGenTwo
namespace Go.Proofs.Ytmhieifjmgcbkaa
open Go.RowKit Cv

theorem g2_fields : Try.prog.underlying 28 = some (.struct (List.toArray [⟨"X", 26, 0, false, "", "", 0⟩, ⟨"Y", 26, 12, false, "", "", 96⟩, ⟨"Inf", 4, 24, false, "", "", 192⟩])) := Try.underlying28
theorem flG2 : Flat 28 25 := ⟨Try.isAgg28, Try.sizeOf28⟩
theorem faG2_0 : FieldAt 28 0 0 := ⟨_, _, 11, g2_fields, rfl, rfl, Try.sizeOf26⟩
theorem faG2_1 : FieldAt 28 1 12 := ⟨_, _, 11, g2_fields, rfl, rfl, Try.sizeOf26⟩
theorem faG2_2 : FieldAt 28 2 24 := ⟨_, _, 0, g2_fields, rfl, rfl, Try.sizeOf4⟩
theorem segs_g20 : segs [.n 6 0, .n 6 0, .n 6 0, .n 6 0, .b false] = List.replicate 24 (Value.int .u64 0) ++ [.bool false] := by
  have h : segs [.n 6 0, .n 6 0, .n 6 0, .n 6 0, .b false] = segs ([0, 0, 0, 0].map (Seg.n 6)) ++ segs [.b false] := segs_app ([0, 0, 0, 0].map (Seg.n 6)) [.b false]
  rw [h, segs_nums, show [0, 0, 0, 0] = List.replicate 4 0 from rfl, rows_zero, cells0]
  rfl
theorem zG2 (w : World) : (zeroValue 28).run Try.prog w = .ok (sv [.n 6 0, .n 6 0, .n 6 0, .n 6 0, .b false]) w := by
  rw [Try.zeroValue28 w, sv, segs_g20]
  rfl
theorem stG2 : StructS 28 [.n 6 0, .n 6 0, .n 6 0, .n 6 0, .b false] [(0, 12), (12, 12), (24, 1)] := by
  refine ⟨_, g2_fields, zG2, fun w => ?_⟩
  simp [Sem.run_bind, Try.sizeOf26, Try.sizeOf4]

/-- Segments of such a struct, with bounded numbers. -/
def shG2 : List Seg → Prop := fun l => ∃ a b, l = a ++ b ∧ Nums 6 2 a ∧ ∃ c d, b = c ++ d ∧ Nums 6 2 c ∧ ∃ e f, d = e ++ f ∧ (∃ r, e = [.b r]) ∧ f = []
theorem shG2_of {x0 x1 y0 y1 : Nat} {i : Bool} (hx0 : x0 < fpB) (hx1 : x1 < fpB) (hy0 : y0 < fpB) (hy1 : y1 < fpB) : shG2 [.n 6 x0, .n 6 x1, .n 6 y0, .n 6 y1, .b i] :=
  ⟨[.n 6 x0, .n 6 x1], [.n 6 y0, .n 6 y1, .b i], rfl, ⟨[x0, x1], rfl, fpB_all2 hx0 hx1, rfl⟩, [.n 6 y0, .n 6 y1], [.b i], rfl, ⟨[y0, y1], rfl, fpB_all2 hy0 hy1, rfl⟩, [.b i], [], rfl, ⟨i, rfl⟩, rfl⟩
theorem shG2_size {m : List Seg} (h : shG2 m) : ssize m = 25 := by
  obtain ⟨a, b, rfl, ha, c, d, rfl, hc, e, f, rfl, he, rfl⟩ := h
  rw [ssize_app, ssize_app, ssize_app, (nums_size ha).2, (nums_size hc).2, (one_size he).2]
  rfl
theorem eqG2 : EqT 28 4 3 shG2 sv :=
  EqT.struct (k := 3) g2_fields Try.stoodInHeld28 (fun m hm => by rw [shG2_size hm]; exact flG2)
    (.cons (n := 12) (j := 2) (by decide) rfl (fun _ h => nums_size h) (EqT.nums eqFp2 flFp2 rfl) (.cons (n := 12) (j := 2) (by decide) rfl (fun _ h => nums_size h) (EqT.nums eqFp2 flFp2 rfl)
      (.cons (n := 1) (j := 1) (by decide) rfl (fun _ h => one_size h) (EqT.more (EqT.more (EqT.bool Try.underlying4 sgBool))) (.nil _))))
theorem gdG2 : Try.prog.eqGuardType Try.prog.depth 28 = false := Try.eqGuardType28
theorem osG2 : OpensS 28 shG2 := OpensS.struct g2_fields (by kernel_rfl)
  (.cons (n := 12) rfl (by kernel_rfl) (OpensS.nums opens_fp2 rfl) (.cons (n := 12) rfl (by kernel_rfl) (OpensS.nums opens_fp2 rfl) (.cons (n := 1) rfl (by kernel_rfl) (OpensS.bool Try.underlying4) (.nil _))))

set_option maxRecDepth 20000 in
/-- An argument that is such a point. -/
theorem open_g2 {H : Type} {enc : TypeId × Value → H} {w : World} {r : Reach} {b0 base : Nat} {sp : Nat → Bool} {held : Bool} {v : Value} {d : DataW H} {ps : List MemPlace}
    (hval : Value.okWide Try.prog w r b0 28 v) (hd : DataW.Trod enc Try.prog w base sp held 28 v d ps) : ∃ (x0 x1 y0 y1 : Nat) (i : Bool), x0 < fpB ∧ x1 < fpB ∧ y0 < fpB ∧ y1 < fpB ∧ v = sv [.n 6 x0, .n 6 x1, .n 6 y0, .n 6 y1, .b i] := by
  simp only [Value.okWide, Try.underlying28] at hval
  obtain ⟨cs, rfl, hs, _⟩ := hval
  obtain ⟨m, ⟨a, b, rfl, ⟨l, h1, h2, rfl⟩, c, d, rfl, ⟨l', h3, h4, rfl⟩, e, f, rfl, ⟨i, rfl⟩, rfl⟩, he⟩ := open_sv osG2 hd
  match l, l', h1, h3, h2, h4, he with
  | [x0, x1], [y0, y1], _, _, h2, h4, he => exact ⟨x0, x1, y0, y1, i, Nat.lt_of_lt_of_eq (h2 _ (by simp)) fpB_eq.symm, Nat.lt_of_lt_of_eq (h2 _ (by simp)) fpB_eq.symm, Nat.lt_of_lt_of_eq (h4 _ (by simp)) fpB_eq.symm, Nat.lt_of_lt_of_eq (h4 _ (by simp)) fpB_eq.symm, he⟩

/-! ### three numbers -/

theorem ptg2_fields : Try.prog.underlying 51 = some (.struct (List.toArray [⟨"x", 26, 0, false, "", "chirograph/two", 0⟩, ⟨"y", 26, 12, false, "", "chirograph/two", 96⟩, ⟨"z", 26, 24, false, "", "chirograph/two", 192⟩])) := Try.underlying51
theorem flPG2 : Flat 51 36 := ⟨Try.isAgg51, Try.sizeOf51⟩
theorem faPG2_0 : FieldAt 51 0 0 := ⟨_, _, 11, ptg2_fields, rfl, rfl, Try.sizeOf26⟩
theorem faPG2_1 : FieldAt 51 1 12 := ⟨_, _, 11, ptg2_fields, rfl, rfl, Try.sizeOf26⟩
theorem faPG2_2 : FieldAt 51 2 24 := ⟨_, _, 11, ptg2_fields, rfl, rfl, Try.sizeOf26⟩
theorem zPG2 (w : World) : (zeroValue 51).run Try.prog w = .ok (sv [.n 6 0, .n 6 0, .n 6 0, .n 6 0, .n 6 0, .n 6 0]) w := by
  have h : segs [.n 6 0, .n 6 0, .n 6 0, .n 6 0, .n 6 0, .n 6 0] = segs ([0, 0, 0, 0, 0, 0].map (Seg.n 6)) := rfl
  rw [Try.zeroValue51 w, sv, h, segs_nums, show [0, 0, 0, 0, 0, 0] = List.replicate 6 0 from rfl, rows_zero, cells0]
  rfl
theorem stPG2 : StructS 51 [.n 6 0, .n 6 0, .n 6 0, .n 6 0, .n 6 0, .n 6 0] [(0, 12), (12, 12), (24, 12)] := by
  refine ⟨_, ptg2_fields, zPG2, fun w => ?_⟩
  simp [Sem.run_bind, Try.sizeOf26]

theorem zp_B2 (x : Zp) : x.val < fpB := Nat.lt_trans x.isLt fpM_lt
theorem qval_of {v : Zp} {n : Nat} (h : v = fz n) (hn : n < pN) : v.val = n := by
  rw [h, fz_val, Nat.mod_eq_of_lt hn]
theorem qsmall {n : Nat} (h : n < 1000) : n < pN := Nat.lt_trans h (by decide +kernel)
theorem qlit {n : Nat} (h : n < pN) : (fz n).val = n := by rw [fz_val, Nat.mod_eq_of_lt h]
theorem qlist {a b : Nat} {x : Zq} (ha : a = x.re.val) (hb : b = x.im.val) : [a, b] = [x.re.val, x.im.val] := by rw [ha, hb]
theorem qc (n : Nat) (h : n < pN) : [n, 0] = [(Zq.nat n).re.val, (Zq.nat n).im.val] := qlist (qlit h).symm rfl
theorem qc0 : [0, 0] = [(0 : Zq).re.val, (0 : Zq).im.val] := qc 0 (qsmall (by decide))
theorem qc1 : [1, 0] = [(1 : Zq).re.val, (1 : Zq).im.val] := qc 1 (qsmall (by decide))
theorem qc44 : [4, 4] = [b2.re.val, b2.im.val] := qlist (qlit (qsmall (by decide))).symm (qlit (qsmall (by decide))).symm
/-- 12 + 12 u. -/
def b6 : Zq := fq 12 12
theorem b6_is : b6 = 3 * b2 := Zq.ext' (by decide +kernel) (by decide +kernel)
theorem qc1212 : [12, 12] = [b6.re.val, b6.im.val] := qlist (qlit (qsmall (by decide))).symm (qlit (qsmall (by decide))).symm

theorem duoMul_z {l m : List Nat} (x y v : Zq) (hl : l = [x.re.val, x.im.val]) (hm : m = [y.re.val, y.im.val]) (hv : v = x * y) (w : World) : Calls Try.prog 28 #[nv 6 l, nv 6 m] w (Is (nv 6 [v.re.val, v.im.val]) w) := by
  subst hl hm hv
  exact duoMul_e _ _ _ _ w (zp_B2 _) (zp_B2 _) (zp_B2 _) (zp_B2 _) _ _ (qval_of (by rw [fz_sub, fz_mul, fz_mul, fz_of, fz_of, fz_of, fz_of]; rfl) (pSub_P _ _)) (qval_of (by rw [fz_add, fz_mul, fz_mul, fz_of, fz_of, fz_of, fz_of]; rfl) (pAdd_P _ _))
theorem duoAdd_z {l m : List Nat} (x y v : Zq) (hl : l = [x.re.val, x.im.val]) (hm : m = [y.re.val, y.im.val]) (hv : v = x + y) (w : World) : Calls Try.prog 29 #[nv 6 l, nv 6 m] w (Is (nv 6 [v.re.val, v.im.val]) w) := by
  subst hl hm hv
  exact duoAdd_e _ _ _ _ w (zp_B2 _) (zp_B2 _) (zp_B2 _) (zp_B2 _) _ _ (qval_of (by rw [fz_add, fz_of, fz_of]; rfl) (pAdd_P _ _)) (qval_of (by rw [fz_add, fz_of, fz_of]; rfl) (pAdd_P _ _))
theorem duoSub_z {l m : List Nat} (x y v : Zq) (hl : l = [x.re.val, x.im.val]) (hm : m = [y.re.val, y.im.val]) (hv : v = x - y) (w : World) : Calls Try.prog 58 #[nv 6 l, nv 6 m] w (Is (nv 6 [v.re.val, v.im.val]) w) := by
  subst hl hm hv
  exact duoSub_e _ _ _ _ w (zp_B2 _) (zp_B2 _) (zp_B2 _) (zp_B2 _) _ _ (qval_of (by rw [fz_sub, fz_of, fz_of]; rfl) (pSub_P _ _)) (qval_of (by rw [fz_sub, fz_of, fz_of]; rfl) (pSub_P _ _))
theorem duoNeg_z {l : List Nat} (x v : Zq) (hl : l = [x.re.val, x.im.val]) (hv : v = -x) (w : World) : Calls Try.prog 21 #[nv 6 l] w (Is (nv 6 [v.re.val, v.im.val]) w) := by
  subst hl hv
  exact duoNeg_e _ _ w (zp_B2 _) (zp_B2 _) _ _ (qval_of (by rw [fz_neg, fz_of]; rfl) (pNeg_P _)) (qval_of (by rw [fz_neg, fz_of]; rfl) (pNeg_P _))
theorem duoClean_z {l : List Nat} (x : Zq) (hl : l = [x.re.val, x.im.val]) (w : World) : Calls Try.prog 27 #[nv 6 l] w (Is (nv 6 [x.re.val, x.im.val]) w) := by
  subst hl
  exact duoClean_e _ _ w (zp_B2 _) (zp_B2 _) _ _ (Nat.mod_eq_of_lt x.re.isLt).symm (Nat.mod_eq_of_lt x.im.isLt).symm
theorem duoInv_z {l : List Nat} (x v : Zq) (hl : l = [x.re.val, x.im.val]) (hv : v = FdQ.inv x) (w : World) : Calls Try.prog 54 #[nv 6 l] w (Is (nv 6 [v.re.val, v.im.val]) w) := by
  subst hl hv
  obtain ⟨i, hi⟩ : ∃ i, i = pInv (pAdd (pMul x.re.val x.re.val) (pMul x.im.val x.im.val)) := ⟨_, rfl⟩
  have hz : fz i = zInv (x.re * x.re + x.im * x.im) := by rw [hi, fz_inv, fz_add, fz_mul, fz_mul, fz_of, fz_of]
  refine duoInv_e _ _ w (zp_B2 _) (zp_B2 _) i hi _ _ (qval_of ?_ (pMul_P _ _)) (qval_of ?_ (pMul_P _ _))
  · rw [fz_mul, fz_cl, fz_of, hz]
    rfl
  · rw [fz_mul, fz_neg, fz_of, hz]
    show -(x.im * zInv (x.re * x.re + x.im * x.im)) = _
    generalize zInv (x.re * x.re + x.im * x.im) = j
    clear hz hi
    grind
theorem r5Mul_z {l m : List Nat} (x y v : Zq) (hl : l = [x.re.val, x.im.val]) (hm : m = [y.re.val, y.im.val]) (hv : v = x * y) (w : World) : Calls Try.prog 14 #[nv 6 l, nv 6 m] w (Is (nv 6 [v.re.val, v.im.val]) w) := by
  subst hl hm hv
  exact r5Mul_e _ _ _ _ w x.re.isLt x.im.isLt y.re.isLt y.im.isLt _ _ (qval_of (by rw [fz_sub, fz_mul, fz_mul, fz_of, fz_of, fz_of, fz_of]; rfl) (pSub_P _ _)) (qval_of (by rw [fz_add, fz_mul, fz_mul, fz_of, fz_of, fz_of, fz_of]; rfl) (pAdd_P _ _))
theorem r5Add_z {l m : List Nat} (x y v : Zq) (hl : l = [x.re.val, x.im.val]) (hm : m = [y.re.val, y.im.val]) (hv : v = x + y) (w : World) : Calls Try.prog 15 #[nv 6 l, nv 6 m] w (Is (nv 6 [v.re.val, v.im.val]) w) := by
  subst hl hm hv
  exact r5Add_e _ _ _ _ w x.re.isLt x.im.isLt y.re.isLt y.im.isLt _ _ (qval_of (by rw [fz_add, fz_of, fz_of]; rfl) (pAdd_P _ _)) (qval_of (by rw [fz_add, fz_of, fz_of]; rfl) (pAdd_P _ _))
theorem r5Clean_z {l : List Nat} (x : Zq) (hl : l = [x.re.val, x.im.val]) (w : World) : Calls Try.prog 13 #[nv 6 l] w (Is (nv 6 [x.re.val, x.im.val]) w) := by
  subst hl
  exact r5Clean_e _ _ w (zp_B2 _) (zp_B2 _) _ _ (Nat.mod_eq_of_lt x.re.isLt).symm (Nat.mod_eq_of_lt x.im.isLt).symm

section
variable {ρ : Operand → Value} {d : Option Tmp} {ty0 t2 : TypeId} {pos : String} {after : Array Edge} {guard : Option (Nat × Bool)} {w : World} {X Y : Operand} {l m : List Nat}
theorem zq_list {x y : Zq} {r : Bool} (hr : r = true ↔ x = y) : r = decide ([x.re.val, x.im.val] = [y.re.val, y.im.val]) := by
  rw [Bool.eq_iff_iff, decide_eq_true_iff, hr]
  constructor
  · intro h; rw [h]
  · intro h
    simp only [List.cons.injEq, and_true] at h
    exact Zq.ext' (Fin.ext h.1) (Fin.ext h.2)
theorem ex_eqzq (x y : Zq) (hl : l = [x.re.val, x.im.val]) (hm : m = [y.re.val, y.im.val]) (hx : ρ X = nv 6 l) (hy : ρ Y = nv 6 m) (r : Bool) (hr : r = true ↔ x = y) :
    (execOp ρ ⟨d, .binOp .eql 26 X Y t2, ty0, pos, after, guard⟩).run Try.prog w = .ok (.value (.bool r)) w := by
  subst hl hm
  exact ex_eqn eqFp2 rfl hx hy rfl rfl (fpB_all2 (zp_B2 _) (zp_B2 _)) (fpB_all2 (zp_B2 _) (zp_B2 _)) rfl r (zq_list hr)
end

/-! ### points -/

def bx0 : Pt Zq → Nat
  | .inf => 0
  | .aff x _ => x.re.val
def bx1 : Pt Zq → Nat
  | .inf => 0
  | .aff x _ => x.im.val
def by0 : Pt Zq → Nat
  | .inf => 0
  | .aff _ y => y.re.val
def by1 : Pt Zq → Nat
  | .inf => 0
  | .aff _ y => y.im.val
def bi : Pt Zq → Bool
  | .inf => true
  | .aff _ _ => false
theorem bx0_P (P : Pt Zq) : bx0 P < pN := by
  cases P with
  | inf => exact qsmall (by decide)
  | aff x y => exact x.re.isLt
theorem bx1_P (P : Pt Zq) : bx1 P < pN := by
  cases P with
  | inf => exact qsmall (by decide)
  | aff x y => exact x.im.isLt
theorem by0_P (P : Pt Zq) : by0 P < pN := by
  cases P with
  | inf => exact qsmall (by decide)
  | aff x y => exact y.re.isLt
theorem by1_P (P : Pt Zq) : by1 P < pN := by
  cases P with
  | inf => exact qsmall (by decide)
  | aff x y => exact y.im.isLt
theorem bx0_B (P : Pt Zq) : bx0 P < fpB := Nat.lt_trans (bx0_P P) fpM_lt
theorem bx1_B (P : Pt Zq) : bx1 P < fpB := Nat.lt_trans (bx1_P P) fpM_lt
theorem by0_B (P : Pt Zq) : by0 P < fpB := Nat.lt_trans (by0_P P) fpM_lt
theorem by1_B (P : Pt Zq) : by1 P < fpB := Nat.lt_trans (by1_P P) fpM_lt
end Go.Proofs.Ytmhieifjmgcbkaa
