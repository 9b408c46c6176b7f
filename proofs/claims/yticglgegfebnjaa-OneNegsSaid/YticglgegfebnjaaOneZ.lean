/- What is proved here: r times the generator of the first curve is at infinity; the type api.G1 and the projective points of package one as segments; arguments of this type are such; the calls of package fp and of its reference on the numbers modulo p as a field; no point of the first curve has the second number 0; points as segments. -/
import Derived.Test.YticglgegfebnjaaField
import Derived.Test.YticglgegfebnjaaCurve
import Derived.Test.YticglgegfebnjaaCells
import Derived.Test.YticglgegfebnjaaLit
namespace Go.Proofs.Yticglgegfebnjaa
section
open Go.RowKit Cv

theorem four_ne : (4 : Zp) ≠ 0 := by decide +kernel
/-- The first curve. -/
def C1 : Cu Zp (4 : Zp) := ⟨FdP, four_ne⟩
abbrev E1 : Type := EP (4 : Zp)

def g1x : Nat := 0x17F1D3A73197D7942695638C4FA9AC0FC3688C4F9774B905A14E3A3F171BAC586C55E83FF97A1AEFFB3AF00ADB22C6BB
def g1y : Nat := 0x08B3F481E3AAA0F1A09E30ED741D8AE4FCF5E095D5D00AF600DB18CB2C04B3EDD03CC744A2888AE40CAA232946C5E7E1

theorem fz_minus {a : Nat} (h : a < pN) : fz (pN - a) = -fz a := by
  rw [← fz_neg]
  exact fz_ext (by rw [pNeg, Nat.mod_mod, Nat.mod_eq_of_lt h])
end

section
open Go.RowKit Cv

theorem sgBool : Single 4 := ⟨Try.isAgg4, Try.sizeOf4⟩
theorem sgU64 : Single 22 := ⟨Try.isAgg22, Try.sizeOf22⟩

theorem g1_fields : Try.prog.underlying 26 = some (.struct (List.toArray [⟨"X", 24, 0, false, "", "", 0⟩, ⟨"Y", 24, 6, false, "", "", 48⟩, ⟨"Inf", 4, 12, false, "", "", 96⟩])) := Try.underlying26
theorem flG1 : Flat 26 13 := ⟨Try.isAgg26, Try.sizeOf26⟩
theorem faG1_0 : FieldAt 26 0 0 := ⟨_, _, 5, g1_fields, rfl, rfl, Try.sizeOf24⟩
theorem faG1_1 : FieldAt 26 1 6 := ⟨_, _, 5, g1_fields, rfl, rfl, Try.sizeOf24⟩
theorem faG1_2 : FieldAt 26 2 12 := ⟨_, _, 0, g1_fields, rfl, rfl, Try.sizeOf4⟩
theorem segs_g10 : segs [.n 6 0, .n 6 0, .b false] = List.replicate 12 (Value.int .u64 0) ++ [.bool false] := by
  have h : segs [.n 6 0, .n 6 0, .b false] = segs ([0, 0].map (Seg.n 6)) ++ segs [.b false] := segs_app ([0, 0].map (Seg.n 6)) [.b false]
  rw [h, segs_nums, show [0, 0] = List.replicate 2 0 from rfl, rows_zero, cells0]
  rfl
theorem zG1 (w : World) : (zeroValue 26).run Try.prog w = .ok (sv [.n 6 0, .n 6 0, .b false]) w := by
  rw [Try.zeroValue26 w, sv, segs_g10]
  rfl
theorem stG1 : StructS 26 [.n 6 0, .n 6 0, .b false] [(0, 6), (6, 6), (12, 1)] := by
  refine ⟨_, g1_fields, zG1, fun w => ?_⟩
  simp [Sem.run_bind, Try.sizeOf24, Try.sizeOf4]

/-- Segments of such a struct, with bounded numbers. -/
def shG1 : List Seg → Prop := fun l => ∃ a b, l = a ++ b ∧ Nums 6 1 a ∧ ∃ c d, b = c ++ d ∧ Nums 6 1 c ∧ ∃ e f, d = e ++ f ∧ (∃ r, e = [.b r]) ∧ f = []
theorem shG1_of {x0 y0 : Nat} {i : Bool} (hx0 : x0 < fpB) (hy0 : y0 < fpB) : shG1 [.n 6 x0, .n 6 y0, .b i] :=
  ⟨[.n 6 x0], [.n 6 y0, .b i], rfl, ⟨[x0], rfl, fpB_all1 hx0, rfl⟩, [.n 6 y0], [.b i], rfl, ⟨[y0], rfl, fpB_all1 hy0, rfl⟩, [.b i], [], rfl, ⟨i, rfl⟩, rfl⟩
theorem one_size {m : List Seg} (h : ∃ r, m = [Seg.b r]) : m.length = 1 ∧ ssize m = 1 := by
  obtain ⟨r, rfl⟩ := h
  exact ⟨rfl, rfl⟩
theorem shG1_size {m : List Seg} (h : shG1 m) : ssize m = 13 := by
  obtain ⟨a, b, rfl, ha, c, d, rfl, hc, e, f, rfl, he, rfl⟩ := h
  rw [ssize_app, ssize_app, ssize_app, (nums_size ha).2, (nums_size hc).2, (one_size he).2]
  rfl
theorem eqG1 : EqT 26 3 3 shG1 sv :=
  EqT.struct (k := 2) g1_fields Try.stoodInHeld26 (fun m hm => by rw [shG1_size hm]; exact flG1)
    (.cons (n := 6) (j := 1) (by decide) rfl (fun _ h => nums_size h) (EqT.nums eqFp flFp rfl) (.cons (n := 6) (j := 1) (by decide) rfl (fun _ h => nums_size h) (EqT.nums eqFp flFp rfl)
      (.cons (n := 1) (j := 1) (by decide) rfl (fun _ h => one_size h) (EqT.more (EqT.bool Try.underlying4 sgBool)) (.nil _))))
theorem gdG1 : Try.prog.eqGuardType Try.prog.depth 26 = false := Try.eqGuardType26
theorem osG1 : OpensS 26 shG1 := OpensS.struct g1_fields (by kernel_rfl)
  (.cons (n := 6) rfl (by kernel_rfl) (OpensS.nums opens_fp rfl) (.cons (n := 6) rfl (by kernel_rfl) (OpensS.nums opens_fp rfl) (.cons (n := 1) rfl (by kernel_rfl) (OpensS.bool Try.underlying4) (.nil _))))

set_option maxRecDepth 20000 in
/-- An argument that is such a point. -/
theorem open_g1 {H : Type} {enc : TypeId × Value → H} {w : World} {r : Reach} {b0 base : Nat} {sp : Nat → Bool} {held : Bool} {v : Value} {d : DataW H} {ps : List MemPlace}
    (hval : Value.okWide Try.prog w r b0 26 v) (hd : DataW.Trod enc Try.prog w base sp held 26 v d ps) : ∃ (x0 y0 : Nat) (i : Bool), x0 < fpB ∧ y0 < fpB ∧ v = sv [.n 6 x0, .n 6 y0, .b i] := by
  simp only [Value.okWide, Try.underlying26] at hval
  obtain ⟨cs, rfl, hs, _⟩ := hval
  obtain ⟨m, ⟨a, b, rfl, ⟨l, h1, h2, rfl⟩, c, d, rfl, ⟨l', h3, h4, rfl⟩, e, f, rfl, ⟨i, rfl⟩, rfl⟩, he⟩ := open_sv osG1 hd
  match l, l', h1, h3, h2, h4, he with
  | [x0], [y0], _, _, h2, h4, he => exact ⟨x0, y0, i, Nat.lt_of_lt_of_eq (h2 _ (by simp)) fpB_eq.symm, Nat.lt_of_lt_of_eq (h4 _ (by simp)) fpB_eq.symm, he⟩

/-! ### three numbers -/

theorem ptg1_fields : Try.prog.underlying 58 = some (.struct (List.toArray [⟨"x", 24, 0, false, "", "chirograph/one", 0⟩, ⟨"y", 24, 6, false, "", "chirograph/one", 48⟩, ⟨"z", 24, 12, false, "", "chirograph/one", 96⟩])) := Try.underlying58
theorem flPG1 : Flat 58 18 := ⟨Try.isAgg58, Try.sizeOf58⟩
theorem faPG1_0 : FieldAt 58 0 0 := ⟨_, _, 5, ptg1_fields, rfl, rfl, Try.sizeOf24⟩
theorem faPG1_1 : FieldAt 58 1 6 := ⟨_, _, 5, ptg1_fields, rfl, rfl, Try.sizeOf24⟩
theorem faPG1_2 : FieldAt 58 2 12 := ⟨_, _, 5, ptg1_fields, rfl, rfl, Try.sizeOf24⟩
theorem zPG1 (w : World) : (zeroValue 58).run Try.prog w = .ok (sv [.n 6 0, .n 6 0, .n 6 0]) w := by
  have h : segs [.n 6 0, .n 6 0, .n 6 0] = segs ([0, 0, 0].map (Seg.n 6)) := rfl
  rw [Try.zeroValue58 w, sv, h, segs_nums, show [0, 0, 0] = List.replicate 3 0 from rfl, rows_zero, cells0]
  rfl
theorem stPG1 : StructS 58 [.n 6 0, .n 6 0, .n 6 0] [(0, 6), (6, 6), (12, 6)] := by
  refine ⟨_, ptg1_fields, zPG1, fun w => ?_⟩
  simp [Sem.run_bind, Try.sizeOf24]

theorem zp_B (x : Zp) : x.val < fpB := Nat.lt_trans x.isLt fpM_lt
theorem val_of {v : Zp} {n : Nat} (h : v = fz n) (hn : n < pN) : v.val = n := by
  rw [h, fz_val, Nat.mod_eq_of_lt hn]
theorem zc (n : Nat) (h : n < pN) : [n] = [(fz n).val] := by rw [fz_val, Nat.mod_eq_of_lt h]
theorem zc0 : [0] = [(0 : Zp).val] := zc 0 (by decide +kernel)
theorem zc1 : [1] = [(1 : Zp).val] := zc 1 (by decide +kernel)
theorem small_P {n : Nat} (h : n < 1000) : n < pN := Nat.lt_trans h (by decide +kernel)

theorem zsub_val (x y : Zp) : (x - y).val = (x.val + (pN - y.val % pN)) % pN := by
  have h : x - y = fz (pSub x.val y.val) := by rw [fz_sub, fz_of, fz_of]
  have h2 := val_of h (pSub_P x.val y.val)
  exact h2.trans (by delta pSub; exact Eq.refl _)
theorem zneg_val (x : Zp) : (-x).val = (pN - x.val % pN) % pN := by
  have h : -x = fz (pNeg x.val) := by rw [fz_neg, fz_of]
  have h2 := val_of h (pNeg_P x.val)
  exact h2.trans (by delta pNeg; exact Eq.refl _)
theorem fpMul_e {l m : List Nat} (x y v : Zp) (hl : l = [x.val]) (hm : m = [y.val]) (hv : v = x * y) (w : World) : Calls Try.prog 59 #[nv 6 l, nv 6 m] w (Is (nv 6 [v.val]) w) := by
  subst hl hm hv
  exact fpMul_n _ _ w (zp_B x) (zp_B y) _ (Fin.val_mul x y)
theorem fpAdd_e {l m : List Nat} (x y v : Zp) (hl : l = [x.val]) (hm : m = [y.val]) (hv : v = x + y) (w : World) : Calls Try.prog 60 #[nv 6 l, nv 6 m] w (Is (nv 6 [v.val]) w) := by
  subst hl hm hv
  exact fpAdd_n _ _ w (zp_B x) (zp_B y) _ (Fin.val_add x y)
theorem fpSub_e {l m : List Nat} (x y v : Zp) (hl : l = [x.val]) (hm : m = [y.val]) (hv : v = x - y) (w : World) : Calls Try.prog 63 #[nv 6 l, nv 6 m] w (Is (nv 6 [v.val]) w) := by
  subst hl hm hv
  exact fpSub_n _ _ w (zp_B x) (zp_B y) _ (zsub_val x y)
theorem fpNeg_e {l : List Nat} (x v : Zp) (hl : l = [x.val]) (hv : v = -x) (w : World) : Calls Try.prog 36 #[nv 6 l] w (Is (nv 6 [v.val]) w) := by
  subst hl hv
  exact fpNeg_n _ w (zp_B x) _ (zneg_val x)
theorem fpInv_e {l : List Nat} (x v : Zp) (hl : l = [x.val]) (hv : v = FdP.inv x) (w : World) : Calls Try.prog 67 #[nv 6 l] w (Is (nv 6 [v.val]) w) := by
  subst hl hv
  exact fpInv_n _ w (zp_B x) _ (val_of (n := pInv x.val) rfl (pInv_P x.val))
theorem r4Mul_e {l m : List Nat} (x y v : Zp) (hl : l = [x.val]) (hm : m = [y.val]) (hv : v = x * y) (w : World) : Calls Try.prog 28 #[nv 6 l, nv 6 m] w (Is (nv 6 [v.val]) w) := by
  subst hl hm hv
  exact r4Mul_n _ _ w x.isLt y.isLt _ (Fin.val_mul x y)
theorem r4Add_e {l m : List Nat} (x y v : Zp) (hl : l = [x.val]) (hm : m = [y.val]) (hv : v = x + y) (w : World) : Calls Try.prog 29 #[nv 6 l, nv 6 m] w (Is (nv 6 [v.val]) w) := by
  subst hl hm hv
  exact r4Add_n _ _ w x.isLt y.isLt _ (Fin.val_add x y)
theorem fpRight_e {l : List Nat} (x : Zp) (hl : l = [x.val]) (w : World) : Calls Try.prog 31 #[nv 6 l] w (Is (.bool true) w) := by
  subst hl
  exact fpRight_n _ w (zp_B x) _ (decide_eq_true x.isLt).symm
theorem r4Clean_e {l : List Nat} (x : Zp) (hl : l = [x.val]) (w : World) : Calls Try.prog 27 #[nv 6 l] w (Is (nv 6 [x.val]) w) := by
  subst hl
  exact r4Clean_n _ w (zp_B x) _ (Nat.mod_eq_of_lt x.isLt).symm

section
variable {ρ : Operand → Value} {d : Option Tmp} {ty0 t2 : TypeId} {pos : String} {after : Array Edge} {guard : Option (Nat × Bool)} {w : World} {X Y : Operand} {l m : List Nat}
theorem zp_list {x y : Zp} {r : Bool} (hr : r = true ↔ x = y) : r = decide ([x.val] = [y.val]) := by
  rw [Bool.eq_iff_iff, decide_eq_true_iff, hr]
  exact ⟨fun h => by rw [h], fun h => Fin.ext (List.head_eq_of_cons_eq h)⟩
theorem ex_eqz (x y : Zp) (hl : l = [x.val]) (hm : m = [y.val]) (hx : ρ X = nv 6 l) (hy : ρ Y = nv 6 m) (r : Bool) (hr : r = true ↔ x = y) :
    (execOp ρ ⟨d, .binOp .eql 24 X Y t2, ty0, pos, after, guard⟩).run Try.prog w = .ok (.value (.bool r)) w := by
  subst hl hm
  exact ex_eqn eqFp rfl hx hy rfl rfl (fpB_all1 (zp_B x)) (fpB_all1 (zp_B y)) rfl r (zp_list hr)
end

/-! ### no point has the second number 0 -/

theorem cube_no : powm pN (pN - 4) 381 ((pN - 1) / 3) ≠ 1 := by decide +kernel
theorem hN1 : NoZero (4 : Zp) := fun x h => by
  have h1 : fz (x.val * x.val * x.val) = fz (pN - 4) := by
    have e : fz (x.val * x.val * x.val) = x * x * x := by
      have h2 := fz_mul (x.val * x.val) x.val
      have h3 := fz_mul x.val x.val
      have h4 : fz (pMul (x.val * x.val) x.val) = fz (x.val * x.val * x.val) := fz_ext (Nat.mod_mod _ _)
      have h5 : fz (pMul x.val x.val) = fz (x.val * x.val) := fz_ext (Nat.mod_mod _ _)
      rw [← h4, h2, ← h5, h3, fz_of]
    have e4 : fz (pN - 4) = -4 := by
      have h2 := fz_minus (a := 4) (by decide +kernel)
      rw [h2]
      rfl
    rw [e, e4]
    clear e e4
    grind
  have h2 : x.val * x.val * x.val % pN = (pN - 4) % pN := by
    have := congrArg Fin.val h1
    rwa [fz_val, fz_val] at this
  have hx : x ≠ 0 := fun e => four_ne (cube_zero_b h e)
  have hx0 : 0 < x.val := Nat.pos_of_ne_zero fun e => hx (Fin.ext e)
  have h3 := p_fermat x.val hx0 x.isLt
  obtain ⟨m, hm⟩ : ∃ m, m = (pN - 1) / 3 := ⟨_, rfl⟩
  have hm3 : 3 * m = pN - 1 := by rw [hm]; decide +kernel
  have h4 : (x.val * x.val * x.val) ^ m % pN = (pN - 4) ^ m % pN := by rw [Nat.pow_mod, h2, ← Nat.pow_mod]
  have h5 : x.val * x.val * x.val = x.val ^ 3 := by rw [Nat.pow_succ, Nat.pow_succ, Nat.pow_succ, Nat.pow_zero, Nat.one_mul]
  rw [h5, ← Nat.pow_mul, hm3, h3] at h4
  refine cube_no ?_
  rw [powm_eq 381 _ (by decide +kernel), ← hm]
  exact h4.symm

/-! ### points -/

def ax : Pt Zp → Nat
  | .inf => 0
  | .aff x _ => x.val
def ay : Pt Zp → Nat
  | .inf => 0
  | .aff _ y => y.val
def ai : Pt Zp → Bool
  | .inf => true
  | .aff _ _ => false
theorem ax_P (P : Pt Zp) : ax P < pN := by
  cases P with
  | inf => exact small_P (by decide)
  | aff x y => exact x.isLt
theorem ay_P (P : Pt Zp) : ay P < pN := by
  cases P with
  | inf => exact small_P (by decide)
  | aff x y => exact y.isLt
theorem ax_B (P : Pt Zp) : ax P < fpB := Nat.lt_trans (ax_P P) fpM_lt
theorem ay_B (P : Pt Zp) : ay P < fpB := Nat.lt_trans (ay_P P) fpM_lt
end
end Go.Proofs.Yticglgegfebnjaa
