/- What is proved here: r times the generator of the second curve is at infinity; no point of the second curve has the second number 0; the type api.G2 and the projective points of package two as segments; arguments of this type are such; the calls of package duo and of its reference on the numbers A + B u as a field; no point of the second curve has the second number 0; points as segments; what the functions of package two on three numbers answer; which points of package two may be; sums and negatives of points. -/
import Derived.Test.YtkkmekdhejhapaaOneZ
import Derived.Test.YtkkmekdhejhapaaComp
import Derived.Test.YtkkmekdhejhapaaLimb
namespace Go.Proofs.Ytkkmekdhejhapaa
section
section
open Go.RowKit Cv
def b2 : Zq := fq 4 4
theorem b2_ne : b2 ≠ 0 := fun h => four_ne (congrArg Zq.re h)
instance : DecidableEq Zq := fun x y => decidable_of_iff (x.re = y.re ∧ x.im = y.im) ⟨fun h => Zq.ext' h.1 h.2, fun h => by rw [h]; exact ⟨rfl, rfl⟩⟩
def C2 : Cu Zq b2 := ⟨FdQ, b2_ne⟩
abbrev E2 : Type := EP b2
def qadd (a b : Nat × Nat) : Nat × Nat := (pAdd a.1 b.1, pAdd a.2 b.2)
def qmul (a b : Nat × Nat) : Nat × Nat := (pSub (pMul a.1 b.1) (pMul a.2 b.2), pAdd (pMul a.1 b.2) (pMul a.2 b.1))
def fq2 (a : Nat × Nat) : Zq := fq a.1 a.2
theorem fq2_add (a b : Nat × Nat) : fq2 (qadd a b) = fq2 a + fq2 b := Zq.ext' (fz_add _ _) (fz_add _ _)
theorem fq2_mul (a b : Nat × Nat) : fq2 (qmul a b) = fq2 a * fq2 b := Zq.ext' (by
  rw [Zq.re_mul]
  show fz (pSub _ _) = fz a.1 * fz b.1 - fz a.2 * fz b.2
  rw [fz_sub, fz_mul, fz_mul]) (by
  rw [Zq.im_mul]
  show fz (pAdd _ _) = fz a.1 * fz b.2 + fz a.2 * fz b.1
  rw [fz_add, fz_mul, fz_mul])
def g2x : Nat × Nat := (0x024AA2B2F08F0A91260805272DC51051C6E47AD4FA403B02B4510B647AE3D1770BAC0326A805BBEFD48056C8C121BDB8, 0x13E02B6052719F607DACD3A088274F65596BD0D09920B61AB5DA61BBDC7F5049334CF11213945D57E5AC7D055D042B7E)
def g2y : Nat × Nat := (0x0CE5D527727D6E118CC9CDC6DA2E351AADFD9BAA8CBDD3A76D429A695160D12C923AC9CC3BACA289E193548608B82801, 0x0606C4A02EA734CC32ACD2B02BC28B99CB3E287E85A763AF267492AB572E99AB3F370D275CEC1DA1AAA9075FF05F79BE)
theorem g2_on : On b2 (.aff (fq2 g2x) (fq2 g2y)) := by
  show fq2 g2y * fq2 g2y = fq2 g2x * fq2 g2x * fq2 g2x + fq2 (4, 4)
  rw [← fq2_mul, ← fq2_mul, ← fq2_mul, ← fq2_add]
  exact congrArg fq2 (by decide +kernel)
def G2 : E2 := ⟨.aff (fq2 g2x) (fq2 g2y), g2_on⟩
end

section
open Go.RowKit Cv
theorem g2_fields : Try.prog.underlying 53 = some (.struct (List.toArray [⟨"X", 51, 0, false, "", "", 0⟩, ⟨"Y", 51, 12, false, "", "", 96⟩, ⟨"Inf", 4, 24, false, "", "", 192⟩])) := Try.underlying53
theorem flG2 : Flat 53 25 := ⟨Try.isAgg53, Try.sizeOf53⟩
theorem faG2_0 : FieldAt 53 0 0 := ⟨_, _, 11, g2_fields, rfl, rfl, Try.sizeOf51⟩
theorem faG2_1 : FieldAt 53 1 12 := ⟨_, _, 11, g2_fields, rfl, rfl, Try.sizeOf51⟩
theorem faG2_2 : FieldAt 53 2 24 := ⟨_, _, 0, g2_fields, rfl, rfl, Try.sizeOf4⟩
theorem segs_g20 : segs [.n 6 0, .n 6 0, .n 6 0, .n 6 0, .b false] = List.replicate 24 (Value.int .u64 0) ++ [.bool false] := by
  have h : segs [.n 6 0, .n 6 0, .n 6 0, .n 6 0, .b false] = segs ([0, 0, 0, 0].map (Seg.n 6)) ++ segs [.b false] := segs_app ([0, 0, 0, 0].map (Seg.n 6)) [.b false]
  rw [h, segs_nums, show [0, 0, 0, 0] = List.replicate 4 0 from rfl, rows_zero, cells0]
  rfl
theorem zG2 (w : World) : (zeroValue 53).run Try.prog w = .ok (sv [.n 6 0, .n 6 0, .n 6 0, .n 6 0, .b false]) w := by
  rw [Try.zeroValue53 w, sv, segs_g20]
  rfl
theorem stG2 : StructS 53 [.n 6 0, .n 6 0, .n 6 0, .n 6 0, .b false] [(0, 12), (12, 12), (24, 1)] := by
  refine ⟨_, g2_fields, zG2, fun w => ?_⟩
  simp [Sem.run_bind, Try.sizeOf51, Try.sizeOf4]
def shG2 : List Seg → Prop := fun l => ∃ a b, l = a ++ b ∧ Nums 6 2 a ∧ ∃ c d, b = c ++ d ∧ Nums 6 2 c ∧ ∃ e f, d = e ++ f ∧ (∃ r, e = [.b r]) ∧ f = []
theorem shG2_of {x0 x1 y0 y1 : Nat} {i : Bool} (hx0 : x0 < fpB) (hx1 : x1 < fpB) (hy0 : y0 < fpB) (hy1 : y1 < fpB) : shG2 [.n 6 x0, .n 6 x1, .n 6 y0, .n 6 y1, .b i] :=
  ⟨[.n 6 x0, .n 6 x1], [.n 6 y0, .n 6 y1, .b i], rfl, ⟨[x0, x1], rfl, fpB_all2 hx0 hx1, rfl⟩, [.n 6 y0, .n 6 y1], [.b i], rfl, ⟨[y0, y1], rfl, fpB_all2 hy0 hy1, rfl⟩, [.b i], [], rfl, ⟨i, rfl⟩, rfl⟩
theorem shG2_size {m : List Seg} (h : shG2 m) : ssize m = 25 := by
  obtain ⟨a, b, rfl, ha, c, d, rfl, hc, e, f, rfl, he, rfl⟩ := h
  rw [ssize_app, ssize_app, ssize_app, (nums_size ha).2, (nums_size hc).2, (one_size he).2]
  rfl
theorem eqG2 : EqT 53 4 3 shG2 sv :=
  EqT.struct (k := 3) g2_fields Try.stoodInHeld53 (fun m hm => by rw [shG2_size hm]; exact flG2)
    (.cons (n := 12) (j := 2) (by decide) rfl (fun _ h => nums_size h) (EqT.nums eqFp2 flFp2 rfl) (.cons (n := 12) (j := 2) (by decide) rfl (fun _ h => nums_size h) (EqT.nums eqFp2 flFp2 rfl)
      (.cons (n := 1) (j := 1) (by decide) rfl (fun _ h => one_size h) (EqT.more (EqT.more (EqT.bool Try.underlying4 sgBool))) (.nil _))))
theorem gdG2 : Try.prog.eqGuardType Try.prog.depth 53 = false := Try.eqGuardType53
theorem zp_B2 (x : Zp) : x.val < fpB := Nat.lt_trans x.isLt fpM_lt
theorem qval_of {v : Zp} {n : Nat} (h : v = fz n) (hn : n < pN) : v.val = n := by
  rw [h, fz_val, Nat.mod_eq_of_lt hn]
theorem qsmall {n : Nat} (h : n < 1000) : n < pN := Nat.lt_trans h (by decide +kernel)
theorem qlit {n : Nat} (h : n < pN) : (fz n).val = n := by rw [fz_val, Nat.mod_eq_of_lt h]
theorem qlist {a b : Nat} {x : Zq} (ha : a = x.re.val) (hb : b = x.im.val) : [a, b] = [x.re.val, x.im.val] := by rw [ha, hb]
theorem qc (n : Nat) (h : n < pN) : [n, 0] = [(Zq.nat n).re.val, (Zq.nat n).im.val] := qlist (qlit h).symm rfl
theorem qc44 : [4, 4] = [b2.re.val, b2.im.val] := qlist (qlit (qsmall (by decide))).symm (qlit (qsmall (by decide))).symm
def b6 : Zq := fq 12 12
theorem duoMul_z {l m : List Nat} (x y v : Zq) (hl : l = [x.re.val, x.im.val]) (hm : m = [y.re.val, y.im.val]) (hv : v = x * y) (w : World) : Calls Try.prog 66 #[nv 6 l, nv 6 m] w (Is (nv 6 [v.re.val, v.im.val]) w) := by
  subst hl hm hv
  exact duoMul_e _ _ _ _ w (zp_B2 _) (zp_B2 _) (zp_B2 _) (zp_B2 _) _ _ (qval_of (by rw [fz_sub, fz_mul, fz_mul, fz_of, fz_of, fz_of, fz_of]; rfl) (pSub_P _ _)) (qval_of (by rw [fz_add, fz_mul, fz_mul, fz_of, fz_of, fz_of, fz_of]; rfl) (pAdd_P _ _))
theorem duoAdd_z {l m : List Nat} (x y v : Zq) (hl : l = [x.re.val, x.im.val]) (hm : m = [y.re.val, y.im.val]) (hv : v = x + y) (w : World) : Calls Try.prog 67 #[nv 6 l, nv 6 m] w (Is (nv 6 [v.re.val, v.im.val]) w) := by
  subst hl hm hv
  exact duoAdd_e _ _ _ _ w (zp_B2 _) (zp_B2 _) (zp_B2 _) (zp_B2 _) _ _ (qval_of (by rw [fz_add, fz_of, fz_of]; rfl) (pAdd_P _ _)) (qval_of (by rw [fz_add, fz_of, fz_of]; rfl) (pAdd_P _ _))
theorem duoClean_z {l : List Nat} (x : Zq) (hl : l = [x.re.val, x.im.val]) (w : World) : Calls Try.prog 65 #[nv 6 l] w (Is (nv 6 [x.re.val, x.im.val]) w) := by
  subst hl
  exact duoClean_e _ _ w (zp_B2 _) (zp_B2 _) _ _ (Nat.mod_eq_of_lt x.re.isLt).symm (Nat.mod_eq_of_lt x.im.isLt).symm
section
variable {ρ : Operand → Value} {d : Option Tmp} {ty0 t2 : TypeId} {pos : String} {after : Array Edge} {guard : Option (Nat × Bool)} {w : World} {X Y : Operand} {l m : List Nat}
theorem zq_list {x y : Zq} {r : Bool} (hr : r = true ↔ x = y) : r = decide ([x.re.val, x.im.val] = [y.re.val, y.im.val]) := by
  rw [Bool.eq_iff_iff, decide_eq_true_iff, hr]
  constructor
  · intro h; rw [h]
  · intro h
    simp only [List.cons.injEq, and_true] at h
    exact Zq.ext' (Fin.ext h.1) (Fin.ext h.2)
theorem ex_eqzq (x y : Zq) (hl : l = [x.re.val, x.im.val]) (hm : m = [y.re.val, y.im.val]) (hx : ρ X = nv 6 l) (hy : ρ Y = nv 6 m) (r : Bool) (hr : r = true ↔ x = y) :
    (execOp ρ ⟨d, .binOp .eql 51 X Y t2, ty0, pos, after, guard⟩).run Try.prog w = .ok (.value (.bool r)) w := by
  subst hl hm
  exact ex_eqn eqFp2 rfl hx hy rfl rfl (fpB_all2 (zp_B2 _) (zp_B2 _)) (fpB_all2 (zp_B2 _) (zp_B2 _)) rfl r (zq_list hr)
end
def bx0 : Pt Zq → Nat
  | .inf => 0
  | .aff x _ => x.re.val
def bx1 : Pt Zq → Nat
  | .inf => 0
  | .aff x _ => x.im.val
def by0 : Pt Zq → Nat
  | .inf => 0
  | .aff _ y => y.re.val
def by1 : Pt Zq → Nat
  | .inf => 0
  | .aff _ y => y.im.val
def bi : Pt Zq → Bool
  | .inf => true
  | .aff _ _ => false
end
end

section
open Go.RowKit Cv
set_option maxRecDepth 20000
set_option maxHeartbeats 4000000
theorem twoalike_4 : CI 68 #[.int .u64 4] (nv 6 [4, 4]) := fun w => by
  go_enter Try.func68, Try.ntmps68
  refine rh1 (brf w) 51 0 [.n 6 0, .n 6 0] [2] (fun γ => [pz (γ 0)]) ?_ ?_
  · exact stpb 0 (fun γ w h => ex_allocsn (K := 6) (l := [0, 0]) zFp2) .nil
  intro γ1 w1 hb1 A2 le2 HB3
  refine rhs HB3 le2 5 0 [.n 6 4, .n 6 4] [3, 4, 5, 6, 7] [.int .u64 4, nv 6 [4], .int .u64 4, nv 6 [4], nv 6 [4, 4]] ?_ ?_
  · refine latm ?_
    refine latv (fun γ w h => ex_limb6 (e := 4) (by decide) rfl) ?_
    refine latm ?_
    refine latv (fun γ w h => ex_limb6 (e := 4) (by decide) rfl) ?_
    refine latv (fun γ w h => ex_build stFp2 (vs := [(0, nv 6 [4]), (1, nv 6 [4])]) rfl (bdAB 4 4)) ?_
    exact lato 0 2 flFp2.2 (nv_cells 6 [4, 4]) A2 .nil
  intro w4 w4_ hb4 hs4 HB8
  have A5 := A2.keep hb4.out
  have A7 := hs4.here 0 2 (l' := [.n 6 4, .n 6 4]) A5 rfl rfl rfl
  exact wpr (ret1 Try.results68 (res_nv (K := 6) (l := [4, 4]) rfl A7 flFp2 rfl)) HB8
theorem twoZero_v : CI 37 #[] (sv [.n 6 0, .n 6 0, .n 6 0, .n 6 0, .b true]) := fun w => by
  go_enter Try.func37, Try.ntmps37
  refine rh1 (brf w) 53 0 [.n 6 0, .n 6 0, .n 6 0, .n 6 0, .b false] [0] (fun γ => [pz (γ 0)]) ?_ ?_
  · exact stpb 0 (fun γ w h => ex_allocs (l := [.n 6 0, .n 6 0, .n 6 0, .n 6 0, .b false]) zG2) .nil
  intro γ1 w1 hb1 A2 le2 HB3
  refine rhs HB3 le2 1 0 [.n 6 0, .n 6 0, .n 6 0, .n 6 0, .b true] [1] [sv [.n 6 0, .n 6 0, .n 6 0, .n 6 0, .b true]] ?_ ?_
  · refine latv (fun γ w h => ex_builds stG2 (l := [.n 6 0, .n 6 0, .n 6 0, .n 6 0, .b true]) (vs := [(2, .bool true)]) rfl ((fills_cons 4 1 (m := [.b true]) (z' := [.n 6 0, .n 6 0, .n 6 0, .n 6 0, .b true]) rfl (bool_cells true) rfl rfl rfl rfl).trans rfl)) ?_
    exact latq 0 5 flG2.2 A2 .nil
  intro w4 w4_ hb4 hs4 HB8
  have A5 := A2.keep hb4.out
  have A7 := hs4.here 0 5 (l' := [.n 6 0, .n 6 0, .n 6 0, .n 6 0, .b true]) A5 rfl rfl rfl
  exact wpr (ret1 Try.results37 (res_sv rfl A7 flG2 rfl)) HB8
theorem twoRight_inf : CI 20 #[sv [.n 6 0, .n 6 0, .n 6 0, .n 6 0, .b true]] (.bool true) := fun w => by
  go_enter Try.func20, Try.ntmps20
  refine rh1 (brf w) 53 0 [.n 6 0, .n 6 0, .n 6 0, .n 6 0, .b true] [1, 2] (fun γ => [pz (γ 0), .bool false]) ?_ ?_
  · refine stpb 0 (fun γ w h => ex_boxs (l := [.n 6 0, .n 6 0, .n 6 0, .n 6 0, .b true]) rfl) ?_
    exact stpa .nil
  intro γ1 w1 hb1 A2 _ HB3
  refine wp_seq ?_
  refine rh0 HB3 [3, 4] [pq (γ1 0) 24, .bool true] ?_ ?_
  · refine stpx (fun _ _ => ex_field faG2_2 rfl) ?_
    exact stpv (fun γ w h => ex_load1 4 (s := .b true) (v := .bool true) sgBool rfl (A2.keep h.out) rfl rfl rfl) .nil
  intro w4 hb4 HB6
  have A5 := A2.keep hb4.out
  refine wp_cond_true rfl ?_
  refine rh0 HB6 [5, 6, 7, 2] [sv [.n 6 0, .n 6 0, .n 6 0, .n 6 0, .b true], sv [.n 6 0, .n 6 0, .n 6 0, .n 6 0, .b true], .bool true, .bool true] ?_ ?_
  · refine stpv (fun γ w h => ex_loads 0 5 (m := [.n 6 0, .n 6 0, .n 6 0, .n 6 0, .b true]) flG2 rfl rfl (A5.keep h.out) rfl rfl) ?_
    refine stpk Try.call37 (fun w h => twoZero_v _) ?_
    refine stpx (fun _ _ => ex_eqs gdG2 eqG2 rfl rfl rfl (shG2_of zero_B zero_B zero_B zero_B) (shG2_of zero_B zero_B zero_B zero_B) true (by simp)) ?_
    exact stpa .nil
  intro w7 hb7 HB9
  exact wprt (ret1 Try.results20 (res_tmp rfl)) HB9
theorem twobelow_yes (x : Zq) : CI 38 #[nv 6 [x.re.val, x.im.val]] (.bool true) := fun w => by
  go_enter Try.func38, Try.ntmps38
  refine rh1 (brf w) 51 0 [.n 6 x.re.val, .n 6 x.im.val] [1, 2] (fun γ => [pz (γ 0), .bool false]) ?_ ?_
  · refine stpb 0 (fun γ w h => ex_boxsn (K := 6) (l := [x.re.val, x.im.val]) rfl) ?_
    exact stpa .nil
  intro γ1 w1 hb1 A2 _ HB3
  refine rh0 HB3 [3, 4, 5, 6, 2] [nv 6 [x.re.val, x.im.val], nv 6 [x.re.val, x.im.val], nv 6 [x.re.val, x.im.val], .bool true, .bool true] ?_ ?_
  · refine stpl 0 2 flFp2 A2 ?_
    refine stpk Try.call65 (fun w h => duoClean_z x rfl _) ?_
    refine stpl 0 2 flFp2 A2 ?_
    refine stpx (fun _ _ => ex_eqt (K := 6) (l := [x.re.val, x.im.val]) eqFp2 rfl rfl rfl rfl) ?_
    exact stpa .nil
  intro w4 hb4 HB6
  exact wpr (ret1 Try.results38 (res_tmp rfl)) HB6
theorem twomeets_v (x y : Zq) (r : Bool) (hr : r = true ↔ y * y = x * x * x + b2) : CI 39 #[nv 6 [x.re.val, x.im.val], nv 6 [y.re.val, y.im.val]] (.bool r) := fun w => by
  obtain ⟨z1, ez1⟩ := nm (x * x : Zq)
  obtain ⟨z2, ez2⟩ := nm (z1 * x : Zq)
  obtain ⟨z3, ez3⟩ := nm (y * y : Zq)
  obtain ⟨z4, ez4⟩ := nm (z2 + b2 : Zq)
  go_enter Try.func39, Try.ntmps39
  refine rh2 (brf w) 51 0 [.n 6 x.re.val, .n 6 x.im.val] 51 1 [.n 6 y.re.val, .n 6 y.im.val] [2, 3, 4] (fun γ => [pz (γ 0), pz (γ 1), .bool false]) ?_ ?_
  · refine stpb 0 (fun γ w h => ex_boxsn (K := 6) (l := [x.re.val, x.im.val]) rfl) ?_
    refine stpb 1 (fun γ w h => ex_boxsn (K := 6) (l := [y.re.val, y.im.val]) rfl) ?_
    exact stpa .nil
  intro γ1 w1 hb1 A2 A3 _ _ hn1 HB4
  refine rhc HB4 [(51, 5, 6, [.n 6 0, .n 6 0], [.n 6 z2.re.val, .n 6 z2.im.val])] [6, 7, 8, 9, 10, 5] (fun γ => [nv 6 [x.re.val, x.im.val], nv 6 [x.re.val, x.im.val], nv 6 [z1.re.val, z1.im.val], nv 6 [x.re.val, x.im.val], nv 6 [z2.re.val, z2.im.val], pz (γ 0)]) ?_ ?_
  · refine stpl 0 2 flFp2 A2 ?_
    refine stpl 0 2 flFp2 A2 ?_
    refine stpk Try.call66 (fun w h => duoMul_z x x z1 rfl rfl ez1 _) ?_
    refine stpl 0 2 flFp2 A2 ?_
    refine stpk Try.call66 (fun w h => duoMul_z z1 x z2 rfl rfl ez2 _) ?_
    refine stpn 0 (fun γ w => ex_allocsn (K := 6) (l := [0, 0]) zFp2) ?_
    exact stpo 0 0 2 flFp2.2 (nv_cells 6 [z2.re.val, z2.im.val]) .nil
  intro γ5 w5 hb5 hB5 _ HB9
  have A7 := A3.keep hb5.out
  have A8 : SB 51 w5 (γ5 0) [.n 6 z2.re.val, .n 6 z2.im.val] := (hB5 0 rfl).2
  refine rh0 HB9 [11, 12, 13, 14, 15, 16, 17, 4] [nv 6 [y.re.val, y.im.val], nv 6 [y.re.val, y.im.val], nv 6 [z3.re.val, z3.im.val], nv 6 [z2.re.val, z2.im.val], nv 6 [4, 4], nv 6 [z4.re.val, z4.im.val], .bool r, .bool r] ?_ ?_
  · refine stpl 0 2 flFp2 A7 ?_
    refine stpl 0 2 flFp2 A7 ?_
    refine stpk Try.call66 (fun w h => duoMul_z y y z3 rfl rfl ez3 _) ?_
    refine stpl 0 2 flFp2 A8 ?_
    refine stpk Try.call68 (fun w h => twoalike_4 _) ?_
    refine stpk Try.call67 (fun w h => duoAdd_z z2 b2 z4 rfl qc44 ez4 _) ?_
    refine stpx (fun _ _ => ex_eqzq z3 z4 rfl rfl rfl rfl r (by subst ez4 ez3 ez2 ez1; exact hr)) ?_
    exact stpa .nil
  intro w10 hb10 HB14
  exact wpr (ret1 Try.results39 (res_tmp rfl)) HB14
theorem twoRight_aff (x y : Zq) (r : Bool) (hr : r = true ↔ y * y = x * x * x + b2) : CI 20 #[sv [.n 6 x.re.val, .n 6 x.im.val, .n 6 y.re.val, .n 6 y.im.val, .b false]] (.bool r) := fun w => by
  go_enter Try.func20, Try.ntmps20
  refine rh1 (brf w) 53 0 [.n 6 x.re.val, .n 6 x.im.val, .n 6 y.re.val, .n 6 y.im.val, .b false] [1, 2] (fun γ => [pz (γ 0), .bool false]) ?_ ?_
  · refine stpb 0 (fun γ w h => ex_boxs (l := [.n 6 x.re.val, .n 6 x.im.val, .n 6 y.re.val, .n 6 y.im.val, .b false]) rfl) ?_
    exact stpa .nil
  intro γ1 w1 hb1 A2 _ HB3
  refine wp_seq ?_
  refine rh0 HB3 [3, 4] [pq (γ1 0) 24, .bool false] ?_ ?_
  · refine stpx (fun _ _ => ex_field faG2_2 rfl) ?_
    exact stpv (fun γ w h => ex_load1 4 (s := .b false) (v := .bool false) sgBool rfl (A2.keep h.out) rfl rfl rfl) .nil
  intro w4 hb4 HB6
  have A5 := A2.keep hb4.out
  refine wp_cond_false rfl ?_
  refine wp_skip ?_
  refine th_r ?_
  refine rh0 HB6 [8, 9, 10, 11, 12, 13, 14, 15, 16, 17, 18, 19, 20, 21, 22, 2] [pz (γ1 0), nv 6 [x.re.val, x.im.val], .bool true, .bool true, pq (γ1 0) 12, nv 6 [y.re.val, y.im.val], .bool true, .bool true, .bool true, pz (γ1 0), nv 6 [x.re.val, x.im.val], pq (γ1 0) 12, nv 6 [y.re.val, y.im.val], .bool r, .bool r, .bool r] ?_ ?_
  · refine stpx (fun _ _ => ex_field faG2_0 rfl) ?_
    refine stpl 0 2 flFp2 A5 ?_
    refine stpk Try.call38 (fun w h => twobelow_yes x _) ?_
    refine stpm ?_
    refine stpx (fun _ _ => ex_field faG2_1 rfl) ?_
    refine stpl 2 2 flFp2 A5 ?_
    refine stpk Try.call38 (fun w h => twobelow_yes y _) ?_
    refine stpx (fun _ _ => ex_pick (r := true) rfl) ?_
    refine stpm ?_
    refine stpx (fun _ _ => ex_field faG2_0 rfl) ?_
    refine stpl 0 2 flFp2 A5 ?_
    refine stpx (fun _ _ => ex_field faG2_1 rfl) ?_
    refine stpl 2 2 flFp2 A5 ?_
    refine stpk Try.call39 (fun w h => twomeets_v x y r hr _) ?_
    refine stpx (fun _ _ => ex_pick (r := true) rfl) ?_
    exact stpa .nil
  intro w7 hb7 HB9
  exact wpr (ret1 Try.results20 (res_tmp rfl)) HB9
theorem twoRight_p (P : E2) (w : World) : Calls Try.prog 20 #[sv [.n 6 (bx0 P.pt), .n 6 (bx1 P.pt), .n 6 (by0 P.pt), .n 6 (by1 P.pt), .b (bi P.pt)]] w (Is (.bool true) w) := by
  obtain ⟨P, hP⟩ := P
  cases P with
  | inf => exact twoRight_inf w
  | aff x y => exact twoRight_aff x y true ⟨fun _ => hP, fun _ => rfl⟩ w
end
end Go.Proofs.Ytkkmekdhejhapaa
