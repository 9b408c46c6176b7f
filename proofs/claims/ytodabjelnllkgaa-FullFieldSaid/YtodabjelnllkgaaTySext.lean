/- What is proved here: the types api.Fp6, sext.parts and sext.couple as rows of limbs; method values; a norm of sext is 0 of 0 alone. -/
import Derived.Test.YtodabjelnllkgaaDuo1
namespace Go.Proofs.Ytodabjelnllkgaa
open Go.RowKit

theorem rows_app (K : Nat) (l m : List Nat) : rows K (l ++ m) = rows K l ++ rows K m := by simp [rows]

/-- Three parts of n cells each, one behind the other. -/
theorem fill3 {n : Nat} {pl : Nat → Option (Nat × Nat)} (p0 : pl 0 = some (0, n)) (p1 : pl 1 = some (n, n)) (p2 : pl 2 = some (2 * n, n)) {xs ys zs : List Nat} (hx : xs.length = n) (hy : ys.length = n) (hz : zs.length = n) :
    Instr.fill pl (cellsOf (List.replicate (3 * n) 0)).toArray [(0, lv xs), (1, lv ys), (2, lv zs)] = some (cellsOf (xs ++ (ys ++ zs))).toArray := by
  rw [fill_cons p0 hx (by simp; omega), fill_cons p1 hy (by simp [hx]; omega), fill_cons p2 hz (by simp [hx, hy]; omega), Instr.fill]
  congr 3
  subst hx
  have e1 : List.take xs.length (List.take 0 (List.replicate (3 * xs.length) 0) ++ (xs ++ List.drop (0 + xs.length) (List.replicate (3 * xs.length) 0))) = xs := by simp
  have e2 : List.drop (xs.length + xs.length) (List.take 0 (List.replicate (3 * xs.length) 0) ++ (xs ++ List.drop (0 + xs.length) (List.replicate (3 * xs.length) 0))) = List.replicate xs.length 0 := by
    rw [List.take_zero, List.nil_append, Nat.zero_add, List.drop_replicate, List.drop_append, List.drop_eq_nil_of_le (by omega), List.nil_append, List.drop_replicate]
    congr 1
    omega
  rw [e1, e2]
  have e3 : List.take (2 * xs.length) (xs ++ (ys ++ List.replicate xs.length 0)) = xs ++ ys := by
    rw [← List.append_assoc, List.take_left' (by simp [hy]; omega)]
  have e4 : List.drop (2 * xs.length + xs.length) (xs ++ (ys ++ List.replicate xs.length 0)) = [] := by
    simp [hy]
    omega
  rw [e3, e4, List.append_nil, List.append_assoc]

/-- Two parts of n cells each. -/
theorem fill2 {n : Nat} {pl : Nat → Option (Nat × Nat)} (p0 : pl 0 = some (0, n)) (p1 : pl 1 = some (n, n)) {xs ys : List Nat} (hx : xs.length = n) (hy : ys.length = n) :
    Instr.fill pl (cellsOf (List.replicate (2 * n) 0)).toArray [(0, lv xs), (1, lv ys)] = some (cellsOf (xs ++ ys)).toArray := by
  rw [fill_cons p0 hx (by simp; omega), fill_cons p1 hy (by simp [hx]; omega), Instr.fill]
  congr 3
  subst hx
  have e1 : List.take xs.length (List.take 0 (List.replicate (2 * xs.length) 0) ++ (xs ++ List.drop (0 + xs.length) (List.replicate (2 * xs.length) 0))) = xs := by simp
  have e2 : List.drop (xs.length + xs.length) (List.take 0 (List.replicate (2 * xs.length) 0) ++ (xs ++ List.drop (0 + xs.length) (List.replicate (2 * xs.length) 0))) = [] := by
    simp [List.drop_append]
    omega
  rw [e1, e2, List.append_nil]

theorem bdABC_pl {pl : Nat → Option (Nat × Nat)} (p0 : pl 0 = some (0, 12)) (p1 : pl 1 = some (12, 12)) (p2 : pl 2 = some (24, 12)) (a b c d e f : Nat) : Instr.fill pl (cellsOf (List.replicate 36 0)).toArray [(0, nv 6 [a, b]), (1, nv 6 [c, d]), (2, nv 6 [e, f])] = some (cellsOf (rows 6 [a, b, c, d, e, f])).toArray := by
  have h := fill3 (n := 12) p0 p1 p2 (xs := rows 6 [a, b]) (ys := rows 6 [c, d]) (zs := rows 6 [e, f]) (rows_len _ _) (rows_len _ _) (rows_len _ _)
  rw [← rows_app, ← rows_app] at h
  exact h
theorem bdABC (a b c d e f : Nat) : Instr.fill ((List.toArray [(0, 12), (12, 12), (24, 12)])[·]?) (cellsOf (List.replicate 36 0)).toArray [(0, nv 6 [a, b]), (1, nv 6 [c, d]), (2, nv 6 [e, f])] = some (cellsOf (rows 6 [a, b, c, d, e, f])).toArray := bdABC_pl rfl rfl rfl a b c d e f
theorem bdRow (a b c d e f : Nat) : Instr.fill (fun i => some (i * 12, 12)) (cellsOf (List.replicate 36 0)).toArray [(0, nv 6 [a, b]), (1, nv 6 [c, d]), (2, nv 6 [e, f])] = some (cellsOf (rows 6 [a, b, c, d, e, f])).toArray := bdABC_pl rfl rfl rfl a b c d e f

/-- One part alone, the rest 0. -/
theorem bd6A (a b : Nat) : Instr.fill ((List.toArray [(0, 12), (12, 12), (24, 12)])[·]?) (cellsOf (List.replicate 36 0)).toArray [(0, nv 6 [a, b])] = some (cellsOf (rows 6 [a, b, 0, 0, 0, 0])).toArray := by
  rw [nv, fill_cons (off := 0) (n := 12) rfl (rows_len 6 [a, b]) (by simp), Instr.fill, show [a, b, 0, 0, 0, 0] = [a, b] ++ List.replicate 4 0 from rfl, rows_app, rows_zero]
  congr 3
theorem bdXY (a b c d e f g h i j k l : Nat) : Instr.fill ((List.toArray [(0, 36), (36, 36)])[·]?) (cellsOf (List.replicate 72 0)).toArray [(0, nv 6 [a, b, c, d, e, f]), (1, nv 6 [g, h, i, j, k, l])] = some (cellsOf (rows 6 [a, b, c, d, e, f, g, h, i, j, k, l])).toArray := by
  have hh := fill2 (n := 36) (pl := ((List.toArray [(0, 36), (36, 36)])[·]?)) rfl rfl (xs := rows 6 [a, b, c, d, e, f]) (ys := rows 6 [g, h, i, j, k, l]) (rows_len _ _) (rows_len _ _)
  rw [← rows_app] at hh
  exact hh

theorem flFp6 : Flat 28 (6 * 6) := ⟨Try.isAgg28, Try.sizeOf28⟩

theorem fp6_fields : Try.prog.underlying 28 = some (.struct (List.toArray [⟨"A", 26, 0, false, "", "", 0⟩, ⟨"B", 26, 12, false, "", "", 96⟩, ⟨"C", 26, 24, false, "", "", 192⟩])) := Try.underlying28

theorem faFp6_0 : FieldAt 28 0 0 := ⟨_, _, 11, fp6_fields, rfl, rfl, Try.sizeOf26⟩
theorem faFp6_1 : FieldAt 28 1 12 := ⟨_, _, 11, fp6_fields, rfl, rfl, Try.sizeOf26⟩
theorem faFp6_2 : FieldAt 28 2 24 := ⟨_, _, 11, fp6_fields, rfl, rfl, Try.sizeOf26⟩

theorem eqFp6 : EqF 28 36 4 := EqF.struct Try.eqGuardType28 fp6_fields Try.stoodInHeld28
  (.cons (n := 12) (m := 24) (by decide) rfl flFp2 eqFp2 (.cons (n := 12) (m := 12) (by decide) rfl flFp2 eqFp2 (.cons (n := 12) (m := 0) (by decide) rfl flFp2 eqFp2 (.nil _))))

theorem zFp6 (w : World) : (zeroValue 28).run Try.prog w = .ok (lv (rows 6 [0, 0, 0, 0, 0, 0])) w := by
  rw [Try.zeroValue28 w, show [0, 0, 0, 0, 0, 0] = List.replicate 6 0 from rfl, rows_zero, lv, cells0]
  rfl

theorem stFp6 : Struct 28 36 [(0, 12), (12, 12), (24, 12)] := by
  refine ⟨_, fp6_fields, fun w => ?_, fun w => ?_⟩
  · rw [Try.zeroValue28 w, lv, cells0]; rfl
  · simp [Sem.run_bind, Try.sizeOf26]

theorem opens_fp6 : OpensN 28 36 := opens_struct fp6_fields (by kernel_rfl) fun i hi => by
  rcases Nat.lt_or_ge i 12 with h | h
  · exact ⟨0, _, 12, rfl, opens_fp2, by kernel_rfl, Nat.zero_le _, by simpa using h⟩
  · rcases Nat.lt_or_ge i 24 with h2 | h2
    · exact ⟨1, _, 12, rfl, opens_fp2, by kernel_rfl, h, by simpa using h2⟩
    · exact ⟨2, _, 12, rfl, opens_fp2, by kernel_rfl, h2, by simpa using hi⟩

/-! ### sext.parts and sext.couple -/

theorem flParts : Flat 55 (6 * 6) := ⟨Try.isAgg55, Try.sizeOf55⟩
theorem flCouple : Flat 58 (6 * 12) := ⟨Try.isAgg58, Try.sizeOf58⟩

theorem zParts (w : World) : (zeroValue 55).run Try.prog w = .ok (lv (rows 6 [0, 0, 0, 0, 0, 0])) w := by
  rw [Try.zeroValue55 w, show [0, 0, 0, 0, 0, 0] = List.replicate 6 0 from rfl, rows_zero, lv, cells0]
  rfl
theorem zCouple (w : World) : (zeroValue 58).run Try.prog w = .ok (lv (rows 6 [0, 0, 0, 0, 0, 0, 0, 0, 0, 0, 0, 0])) w := by
  rw [Try.zeroValue58 w, show [0, 0, 0, 0, 0, 0, 0, 0, 0, 0, 0, 0] = List.replicate 12 0 from rfl, rows_zero, lv, cells0]
  rfl

theorem couple_fields : Try.prog.underlying 58 = some (.struct (List.toArray [⟨"x", 55, 0, false, "", "chirograph/sext", 0⟩, ⟨"y", 55, 36, false, "", "chirograph/sext", 288⟩])) := Try.underlying58
theorem faCouple_0 : FieldAt 58 0 0 := ⟨_, _, 35, couple_fields, rfl, rfl, Try.sizeOf55⟩
theorem faCouple_1 : FieldAt 58 1 36 := ⟨_, _, 35, couple_fields, rfl, rfl, Try.sizeOf55⟩
theorem stCouple : Struct 58 72 [(0, 36), (36, 36)] := by
  refine ⟨_, couple_fields, fun w => ?_, fun w => ?_⟩
  · rw [Try.zeroValue58 w, lv, cells0]; rfl
  · simp [Sem.run_bind, Try.sizeOf55]

/-- An array type of k places of m cells, n cells in all. -/
def Ary (ty : TypeId) (k m n : Nat) : Prop :=
  ∃ e : TypeId, Try.prog.underlying ty = some (.array k e) ∧ (∀ w, (zeroValue ty).run Try.prog w = .ok (lv (List.replicate n 0)) w) ∧ ∀ w, (Go.sizeOf e).run Try.prog w = .ok m w

theorem arParts : Ary 55 3 12 36 := by
  refine ⟨26, Try.underlying55, fun w => ?_, Try.sizeOf26⟩
  rw [Try.zeroValue55 w, lv, cells0]
  rfl

section
variable {ρ : Operand → Value} {d : Option Tmp} {ty0 : TypeId} {pos : String} {after : Array Edge} {guard : Option (Nat × Bool)} {w : World}

theorem ex_builda {ty : TypeId} {parts : List (Nat × Operand)} {vs : List (Nat × Value)} {k m n : Nat} (hs : Ary ty k m n) {xs : List Nat}
    (hv : (parts.map fun (p : Nat × Operand) => (p.1, ρ p.2)) = vs)
    (hx : Instr.fill (fun i => some (i * m, m)) (cellsOf (List.replicate n 0)).toArray vs = some (cellsOf xs).toArray) :
    (execOp ρ ⟨d, .build ty parts.toArray, ty0, pos, after, guard⟩).run Try.prog w = .ok (.value (lv xs)) w := by
  obtain ⟨e, hu, hz, hm⟩ := hs
  have hv' : (parts.toArray.map fun (i, x) => (i, ρ x)) = vs.toArray := by rw [List.map_toArray]; exact congrArg List.toArray hv
  have hc : (lv (List.replicate n 0)).cells = (cellsOf (List.replicate n 0)).toArray := rfl
  simp only [execOp, Sem.run_bind, hv', Instr.build, hz w, Result.andThen_ok, run_underlying hu w, hm w, hc, hx, Sem.run_pure]
  rfl

theorem ex_index {t : TypeId} {x ix : Operand} {k m n g o : Nat} (i : Nat) (hs : Ary t k m n) (hx : ρ x = .pointer (some ⟨g, o, none⟩)) (hi : ρ ix = .int .i64 (i : Int)) (hlt : i < k) :
    (execOp ρ ⟨d, .indexAddr t x ix, ty0, pos, after, guard⟩).run Try.prog w = .ok (.value (.pointer (some ⟨g, o + i * m, none⟩))) w := by
  obtain ⟨e, hu, hz, hm⟩ := hs
  have h1 : (0 : Int) ≤ (i : Int) ∧ (i : Int) < (k : Int) := ⟨by omega, by omega⟩
  simp [execOp, Sem.run_bind, hx, hi, Instr.indexAt, asIntOf, Instr.sureAddr, run_underlying hu w, hm w, hlt, Addr.add_mid]

theorem ex_bind {f : FuncId} {xs : List Operand} {vs : List Value} (hv : xs.map ρ = vs) :
    (execOp ρ ⟨d, .makeFunc (.func f) xs.toArray #[], ty0, pos, after, guard⟩).run Try.prog w = .ok (.value (.func (.func f) vs.toArray #[])) w := by
  subst hv
  simp [execOp, Instr.makeFunc]

theorem ex_callb {x : Operand} {xs : List Operand} {tys : Array TypeId} {f : FuncId} {r : Value} {vs : List Value} (hx : ρ x = .func (.func f) #[r] #[]) (hc : ∀ (args : Array Value) (w : World), (callFunc f args).run Try.prog w = .ok (.enter f args) w) (hv : xs.map ρ = vs) :
    (execOp ρ ⟨d, .call ⟨.value x, xs.toArray, tys⟩, ty0, pos, after, guard⟩).run Try.prog w = .ok (.enter f (r :: vs).toArray) w := by
  subst hv
  simp [execOp, resolve, hx, Deferred.ofValue, invoke, hc]
end

/-! ### numbers A + B v + C v v: a norm is 0 of 0 alone -/

/-- 2 is no cube modulo p. -/
theorem two_no_cube (n : Nat) : pMul n (pMul n n) ≠ 2 := fun h => by
  obtain ⟨k, hk, hlt, hne⟩ : ∃ k, pN - 1 = 3 * k ∧ k < 2 ^ 381 ∧ powm pN 2 381 k ≠ 1 := ⟨(pN - 1) / 3, by decide +kernel, by decide +kernel, by decide +kernel⟩
  have hn : n % pN ≠ 0 := fun h0 => by
    unfold pMul at h
    rw [Nat.mul_mod, h0, Nat.zero_mul, Nat.zero_mod] at h
    cases h
  have hf := p_fermat (n % pN) (by omega) (fpM_mod n)
  have h3 : (n % pN) ^ 3 % pN = 2 := by
    rw [← Nat.pow_mod, Nat.pow_succ, Nat.pow_two, ← h]
    unfold pMul
    rw [Nat.mul_mod_mod, Nat.mul_comm]
  rw [hk, Nat.pow_mul, Nat.pow_mod, h3, ← powm_eq 381 k hlt] at hf
  exact hne hf

/-- 0 modulo p. -/
def Zr (z : Int) : Prop := Rep 0 z

theorem Zr.eq {x y : Int} (h : Zr x) (e : x = y) : Zr y := e ▸ h
theorem Zr.zero : Zr 0 := rep_0
theorem Zr.add {x y : Int} (h : Zr x) (h' : Zr y) : Zr (x + y) := by
  obtain ⟨k, hk⟩ := h
  obtain ⟨l, hl⟩ := h'
  refine ⟨k + l, ?_⟩
  generalize (pN : Int) = M at *
  grind
theorem Zr.mul {x : Int} (h : Zr x) (y : Int) : Zr (x * y) := by
  obtain ⟨k, hk⟩ := h
  refine ⟨k * y, ?_⟩
  generalize (pN : Int) = M at *
  grind
theorem Zr.neg {x : Int} (h : Zr x) : Zr (-x) := (h.mul (-1)).eq (by grind)
theorem Zr.sub {x y : Int} (h : Zr x) (h' : Zr y) : Zr (x - y) := (h.add h'.neg).eq (by grind)

/-- A number below p that stands for a whole number. -/
theorem rep_of (z : Int) : ∃ n : Nat, n < pN ∧ Rep n z := by
  have hM : (0 : Int) < (pN : Int) := by decide +kernel
  have h0 := Int.emod_nonneg z (Int.ne_of_gt hM)
  have h1 := Int.emod_lt_of_pos z hM
  refine ⟨(z % (pN : Int)).toNat, by omega, -(z / (pN : Int)), ?_⟩
  have := Int.emod_add_mul_ediv z (pN : Int)
  rw [Int.toNat_of_nonneg h0]
  generalize z % (pN : Int) = r at *
  generalize z / (pN : Int) = q at *
  generalize (pN : Int) = M at *
  grind

theorem zr_of {n : Nat} {z : Int} (hn : n < pN) (h : Rep n z) (hz : Zr z) : n = 0 := rep_uniq hn zero_P h hz rfl
theorem Zr.prime {x y : Int} (h : Zr (x * y)) : Zr x ∨ Zr y := by
  obtain ⟨a, ha, ra⟩ := rep_of x
  obtain ⟨b, hb, rb⟩ := rep_of y
  have e := zr_of (pMul_P a b) (rep_mul ra rb) h
  rcases pMul_zero e with h1 | h1
  · rw [pCl_of ha] at h1
    exact .inl (by rw [h1] at ra; exact ra)
  · rw [pCl_of hb] at h1
    exact .inr (by rw [h1] at rb; exact rb)

/-- A norm of a pair. -/
theorem Zr.norm {x y : Int} (h : Zr (x * x + y * y)) : Zr x ∧ Zr y := by
  obtain ⟨a, ha, ra⟩ := rep_of x
  obtain ⟨b, hb, rb⟩ := rep_of y
  have e := zr_of (pAdd_P _ _) (rep_add (rep_mul ra ra) (rep_mul rb rb)) h
  obtain ⟨h1, h2⟩ := norm_zero e
  rw [pCl_of ha] at h1
  rw [pCl_of hb] at h2
  exact ⟨by rw [h1] at ra; exact ra, by rw [h2] at rb; exact rb⟩

/-- Pairs have no divisors of 0. -/
theorem Zr.pair {x y z w : Int} (h1 : Zr (x * z - y * w)) (h2 : Zr (x * w + y * z)) : (Zr x ∧ Zr y) ∨ (Zr z ∧ Zr w) := by
  have h : Zr ((x * x + y * y) * (z * z + w * w)) := ((h1.mul (x * z - y * w)).add (h2.mul (x * w + y * z))).eq (by grind)
  rcases h.prime with h | h
  · exact .inl h.norm
  · exact .inr h.norm

/-- u + 1 times a cube is no cube: s s s = (u + 1) t t t makes t 0. -/
theorem no_cube {s0 s1 t0 t1 : Int} (h1 : Zr ((s0 * s0 * s0 - 3 * s0 * s1 * s1) - ((t0 * t0 * t0 - 3 * t0 * t1 * t1) - (3 * t0 * t0 * t1 - t1 * t1 * t1))))
    (h2 : Zr ((3 * s0 * s0 * s1 - s1 * s1 * s1) - ((t0 * t0 * t0 - 3 * t0 * t1 * t1) + (3 * t0 * t0 * t1 - t1 * t1 * t1)))) : Zr t0 ∧ Zr t1 := by
  -- the norms: n n n = 2 m m m
  have h : Zr ((s0 * s0 + s1 * s1) * (s0 * s0 + s1 * s1) * (s0 * s0 + s1 * s1) - 2 * ((t0 * t0 + t1 * t1) * (t0 * t0 + t1 * t1) * (t0 * t0 + t1 * t1))) :=
    ((h1.mul ((s0 * s0 * s0 - 3 * s0 * s1 * s1) + ((t0 * t0 * t0 - 3 * t0 * t1 * t1) - (3 * t0 * t0 * t1 - t1 * t1 * t1)))).add
      (h2.mul ((3 * s0 * s0 * s1 - s1 * s1 * s1) + ((t0 * t0 * t0 - 3 * t0 * t1 * t1) + (3 * t0 * t0 * t1 - t1 * t1 * t1))))).eq (by grind)
  obtain ⟨n, hn, rn⟩ := rep_of (s0 * s0 + s1 * s1)
  obtain ⟨m, hm, rm⟩ := rep_of (t0 * t0 + t1 * t1)
  by_cases hz : m = 0
  · rw [hz] at rm
    exact Zr.norm rm
  · exfalso
    have hi := pInv_mul (n := m) (by rw [pCl_of hm]; exact hz)
    obtain ⟨i, hii⟩ : ∃ i, i = pInv m := ⟨_, rfl⟩
    rw [← hii] at hi
    have r1 : Rep 1 ((t0 * t0 + t1 * t1) * i) := rep_eq hi.symm (rep_mul rm (rep_self i))
    refine two_no_cube (pMul n i) ?_
    have rl := rep_mul (rep_mul rn (rep_self i)) (rep_mul (rep_mul rn (rep_self i)) (rep_mul rn (rep_self i)))
    have rr : Rep (pAdd (pMul 2 (pMul 1 (pMul 1 1))) 0) (2 * (((t0 * t0 + t1 * t1) * i) * (((t0 * t0 + t1 * t1) * i) * ((t0 * t0 + t1 * t1) * i))) + ((s0 * s0 + s1 * s1) * (s0 * s0 + s1 * s1) * (s0 * s0 + s1 * s1) - 2 * ((t0 * t0 + t1 * t1) * (t0 * t0 + t1 * t1) * (t0 * t0 + t1 * t1))) * ((i : Int) * i * i)) :=
      rep_add (rep_mul (rep_self 2) (rep_mul r1 (rep_mul r1 r1))) (h.mul ((i : Int) * i * i))
    rw [rep_uniq (pMul_P _ _) (pAdd_P _ _) rl rr (by grind)]
    decide +kernel

theorem cube_zero {a0 a1 : Int} (h1 : Zr (a0 * a0 * a0 - 3 * a0 * a1 * a1)) (h2 : Zr (3 * a0 * a0 * a1 - a1 * a1 * a1)) : Zr a0 ∧ Zr a1 := by
  rcases Zr.pair (x := a0) (y := a1) (z := a0 * a0 - a1 * a1) (w := a0 * a1 + a1 * a0) (h1.eq (by grind)) (h2.eq (by grind)) with h | h
  · exact h
  · rcases Zr.pair h.1 h.2 with h | h <;> exact h

/-- The norm of A + B v + C v v, where v v v is u + 1, is 0 of 0 alone. -/
theorem sext_norm {a0 a1 b0 b1 c0 c1 : Int}
    (h1 : Zr ((a0 * a0 * a0 - 3 * a0 * a1 * a1) + ((b0 * b0 * b0 - 3 * b0 * b1 * b1) - (3 * b0 * b0 * b1 - b1 * b1 * b1)) - 2 * (3 * c0 * c0 * c1 - c1 * c1 * c1) - 3 * (((a0 * b0 - a1 * b1) * c0 - (a0 * b1 + a1 * b0) * c1) - ((a0 * b0 - a1 * b1) * c1 + (a0 * b1 + a1 * b0) * c0))))
    (h2 : Zr ((3 * a0 * a0 * a1 - a1 * a1 * a1) + ((b0 * b0 * b0 - 3 * b0 * b1 * b1) + (3 * b0 * b0 * b1 - b1 * b1 * b1)) + 2 * (c0 * c0 * c0 - 3 * c0 * c1 * c1) - 3 * (((a0 * b0 - a1 * b1) * c0 - (a0 * b1 + a1 * b0) * c1) + ((a0 * b0 - a1 * b1) * c1 + (a0 * b1 + a1 * b0) * c0)))) :
    (Zr a0 ∧ Zr a1) ∧ (Zr b0 ∧ Zr b1) ∧ (Zr c0 ∧ Zr c1) := by
  by_cases hc : Zr c0 ∧ Zr c1
  · have g1 : Zr ((a0 * a0 * a0 - 3 * a0 * a1 * a1) + ((b0 * b0 * b0 - 3 * b0 * b1 * b1) - (3 * b0 * b0 * b1 - b1 * b1 * b1))) :=
      (h1.add ((hc.1.mul (6 * c0 * c1 + 3 * ((a0 * b0 - a1 * b1) - (a0 * b1 + a1 * b0)))).sub (hc.2.mul (2 * c1 * c1 + 3 * ((a0 * b1 + a1 * b0) + (a0 * b0 - a1 * b1)))))).eq (by grind)
    have g2 : Zr ((3 * a0 * a0 * a1 - a1 * a1 * a1) + ((b0 * b0 * b0 - 3 * b0 * b1 * b1) + (3 * b0 * b0 * b1 - b1 * b1 * b1))) :=
      (h2.sub ((hc.1.mul (2 * c0 * c0 - 6 * c1 * c1 - 3 * ((a0 * b0 - a1 * b1) + (a0 * b1 + a1 * b0)))).add (hc.2.mul (3 * (a0 * b1 + a1 * b0) - 3 * (a0 * b0 - a1 * b1))))).eq (by grind)
    have hb := no_cube (s0 := a0) (s1 := a1) (t0 := -b0) (t1 := -b1) (g1.eq (by grind)) (g2.eq (by grind))
    have hb0 : Zr b0 := hb.1.neg.eq (by grind)
    have hb1 : Zr b1 := hb.2.neg.eq (by grind)
    have ha := cube_zero (a0 := a0) (a1 := a1)
      ((g1.sub ((hb0.mul (b0 * b0 - 3 * b1 * b1 - 3 * b0 * b1)).add (hb1.mul (b1 * b1)))).eq (by grind))
      ((g2.sub ((hb0.mul (b0 * b0 - 3 * b1 * b1 + 3 * b0 * b1)).sub (hb1.mul (b1 * b1)))).eq (by grind))
    exact ⟨ha, ⟨hb0, hb1⟩, hc⟩
  · exfalso
    have k1 : Zr (((c0 * c0 - c1 * c1 - 2 * c0 * c1 - (a0 * b0 - a1 * b1)) * (c0 * c0 - c1 * c1 - 2 * c0 * c1 - (a0 * b0 - a1 * b1)) * (c0 * c0 - c1 * c1 - 2 * c0 * c1 - (a0 * b0 - a1 * b1)) - 3 * (c0 * c0 - c1 * c1 - 2 * c0 * c1 - (a0 * b0 - a1 * b1)) * (c0 * c0 - c1 * c1 + 2 * c0 * c1 - (a0 * b1 + a1 * b0)) * (c0 * c0 - c1 * c1 + 2 * c0 * c1 - (a0 * b1 + a1 * b0)))
        - (((b0 * b0 - b1 * b1 - (a0 * c0 - a1 * c1)) * (b0 * b0 - b1 * b1 - (a0 * c0 - a1 * c1)) * (b0 * b0 - b1 * b1 - (a0 * c0 - a1 * c1)) - 3 * (b0 * b0 - b1 * b1 - (a0 * c0 - a1 * c1)) * (2 * b0 * b1 - (a0 * c1 + a1 * c0)) * (2 * b0 * b1 - (a0 * c1 + a1 * c0)))
          - (3 * (b0 * b0 - b1 * b1 - (a0 * c0 - a1 * c1)) * (b0 * b0 - b1 * b1 - (a0 * c0 - a1 * c1)) * (2 * b0 * b1 - (a0 * c1 + a1 * c0)) - (2 * b0 * b1 - (a0 * c1 + a1 * c0)) * (2 * b0 * b1 - (a0 * c1 + a1 * c0)) * (2 * b0 * b1 - (a0 * c1 + a1 * c0))))) :=
      ((h1.mul ((c0 * c0 * c0 - 3 * c0 * c1 * c1) - (3 * c0 * c0 * c1 - c1 * c1 * c1) - (b0 * b0 * b0 - 3 * b0 * b1 * b1))).sub (h2.mul ((c0 * c0 * c0 - 3 * c0 * c1 * c1) + (3 * c0 * c0 * c1 - c1 * c1 * c1) - (3 * b0 * b0 * b1 - b1 * b1 * b1)))).eq (by grind)
    have k2 : Zr ((3 * (c0 * c0 - c1 * c1 - 2 * c0 * c1 - (a0 * b0 - a1 * b1)) * (c0 * c0 - c1 * c1 - 2 * c0 * c1 - (a0 * b0 - a1 * b1)) * (c0 * c0 - c1 * c1 + 2 * c0 * c1 - (a0 * b1 + a1 * b0)) - (c0 * c0 - c1 * c1 + 2 * c0 * c1 - (a0 * b1 + a1 * b0)) * (c0 * c0 - c1 * c1 + 2 * c0 * c1 - (a0 * b1 + a1 * b0)) * (c0 * c0 - c1 * c1 + 2 * c0 * c1 - (a0 * b1 + a1 * b0)))
        - (((b0 * b0 - b1 * b1 - (a0 * c0 - a1 * c1)) * (b0 * b0 - b1 * b1 - (a0 * c0 - a1 * c1)) * (b0 * b0 - b1 * b1 - (a0 * c0 - a1 * c1)) - 3 * (b0 * b0 - b1 * b1 - (a0 * c0 - a1 * c1)) * (2 * b0 * b1 - (a0 * c1 + a1 * c0)) * (2 * b0 * b1 - (a0 * c1 + a1 * c0)))
          + (3 * (b0 * b0 - b1 * b1 - (a0 * c0 - a1 * c1)) * (b0 * b0 - b1 * b1 - (a0 * c0 - a1 * c1)) * (2 * b0 * b1 - (a0 * c1 + a1 * c0)) - (2 * b0 * b1 - (a0 * c1 + a1 * c0)) * (2 * b0 * b1 - (a0 * c1 + a1 * c0)) * (2 * b0 * b1 - (a0 * c1 + a1 * c0))))) :=
      ((h1.mul ((c0 * c0 * c0 - 3 * c0 * c1 * c1) + (3 * c0 * c0 * c1 - c1 * c1 * c1) - (3 * b0 * b0 * b1 - b1 * b1 * b1))).add (h2.mul ((c0 * c0 * c0 - 3 * c0 * c1 * c1) - (3 * c0 * c0 * c1 - c1 * c1 * c1) - (b0 * b0 * b0 - 3 * b0 * b1 * b1)))).eq (by grind)
    obtain ⟨s0, hs0⟩ : ∃ z, z = c0 * c0 - c1 * c1 - 2 * c0 * c1 - (a0 * b0 - a1 * b1) := ⟨_, rfl⟩
    obtain ⟨s1, hs1⟩ : ∃ z, z = c0 * c0 - c1 * c1 + 2 * c0 * c1 - (a0 * b1 + a1 * b0) := ⟨_, rfl⟩
    obtain ⟨t0, ht0⟩ : ∃ z, z = b0 * b0 - b1 * b1 - (a0 * c0 - a1 * c1) := ⟨_, rfl⟩
    obtain ⟨t1, ht1⟩ : ∃ z, z = 2 * b0 * b1 - (a0 * c1 + a1 * c0) := ⟨_, rfl⟩
    rw [← hs0, ← hs1, ← ht0, ← ht1] at k1 k2
    obtain ⟨z0, z1⟩ := no_cube k1 k2
    obtain ⟨y0, y1⟩ := cube_zero (a0 := s0) (a1 := s1)
      ((k1.add ((z0.mul (t0 * t0 - 3 * t1 * t1 - 3 * t0 * t1)).add (z1.mul (t1 * t1)))).eq (by grind))
      ((k2.add ((z0.mul (t0 * t0 - 3 * t1 * t1 + 3 * t0 * t1)).sub (z1.mul (t1 * t1)))).eq (by grind))
    -- b b b = (u + 1) c c c
    refine hc (no_cube (s0 := b0) (s1 := b1) (t0 := c0) (t1 := c1) ?_ ?_)
    · exact (((z0.mul b0).sub (z1.mul b1)).sub ((y0.mul c0).sub (y1.mul c1))).eq (by rw [hs0, hs1, ht0, ht1]; grind)
    · exact (((z0.mul b1).add (z1.mul b0)).sub ((y0.mul c1).add (y1.mul c0))).eq (by rw [hs0, hs1, ht0, ht1]; grind)

theorem rep_to {v : Nat} {z z' : Int} (h : Rep v z) (e : z = z') : Rep v z' := e ▸ h

theorem sx_mk0 (x0 x1 x2 x3 x4 x5 o0 o1 o2 o3 o4 o5 k0 k1 : Int) : x0 * (o0 * k0 - o1 * k1) + x2 * (o4 * k0 - o5 * k1) + x4 * (o2 * k0 - o3 * k1) - x1 * (o0 * k1 + o1 * k0) - x2 * (o4 * k1 + o5 * k0) - x3 * (o4 * k0 - o5 * k1) - x3 * (o4 * k1 + o5 * k0) - x4 * (o2 * k1 + o3 * k0) - x5 * (o2 * k0 - o3 * k1) - x5 * (o2 * k1 + o3 * k0) = (x0 * o0 + x2 * o4 + x4 * o2 - x1 * o1 - x2 * o5 - x3 * o4 - x3 * o5 - x4 * o3 - x5 * o2 - x5 * o3) * k0 - (x0 * o1 + x1 * o0 + x2 * o4 + x2 * o5 + x3 * o4 + x4 * o2 + x4 * o3 + x5 * o2 - x3 * o5 - x5 * o3) * k1 := by grind
theorem sx_mk1 (x0 x1 x2 x3 x4 x5 o0 o1 o2 o3 o4 o5 k0 k1 : Int) : x0 * (o0 * k1 + o1 * k0) + x1 * (o0 * k0 - o1 * k1) + x2 * (o4 * k0 - o5 * k1) + x2 * (o4 * k1 + o5 * k0) + x3 * (o4 * k0 - o5 * k1) + x4 * (o2 * k0 - o3 * k1) + x4 * (o2 * k1 + o3 * k0) + x5 * (o2 * k0 - o3 * k1) - x3 * (o4 * k1 + o5 * k0) - x5 * (o2 * k1 + o3 * k0) = (x0 * o0 + x2 * o4 + x4 * o2 - x1 * o1 - x2 * o5 - x3 * o4 - x3 * o5 - x4 * o3 - x5 * o2 - x5 * o3) * k1 + (x0 * o1 + x1 * o0 + x2 * o4 + x2 * o5 + x3 * o4 + x4 * o2 + x4 * o3 + x5 * o2 - x3 * o5 - x5 * o3) * k0 := by grind
theorem sx_mk2 (x0 x1 x2 x3 x4 x5 o0 o1 o2 o3 o4 o5 k0 k1 : Int) : x0 * (o2 * k0 - o3 * k1) + x2 * (o0 * k0 - o1 * k1) + x4 * (o4 * k0 - o5 * k1) - x1 * (o2 * k1 + o3 * k0) - x3 * (o0 * k1 + o1 * k0) - x4 * (o4 * k1 + o5 * k0) - x5 * (o4 * k0 - o5 * k1) - x5 * (o4 * k1 + o5 * k0) = (x0 * o2 + x2 * o0 + x4 * o4 - x1 * o3 - x3 * o1 - x4 * o5 - x5 * o4 - x5 * o5) * k0 - (x0 * o3 + x1 * o2 + x2 * o1 + x3 * o0 + x4 * o4 + x4 * o5 + x5 * o4 - x5 * o5) * k1 := by grind
theorem sx_mk3 (x0 x1 x2 x3 x4 x5 o0 o1 o2 o3 o4 o5 k0 k1 : Int) : x0 * (o2 * k1 + o3 * k0) + x1 * (o2 * k0 - o3 * k1) + x2 * (o0 * k1 + o1 * k0) + x3 * (o0 * k0 - o1 * k1) + x4 * (o4 * k0 - o5 * k1) + x4 * (o4 * k1 + o5 * k0) + x5 * (o4 * k0 - o5 * k1) - x5 * (o4 * k1 + o5 * k0) = (x0 * o2 + x2 * o0 + x4 * o4 - x1 * o3 - x3 * o1 - x4 * o5 - x5 * o4 - x5 * o5) * k1 + (x0 * o3 + x1 * o2 + x2 * o1 + x3 * o0 + x4 * o4 + x4 * o5 + x5 * o4 - x5 * o5) * k0 := by grind
theorem sx_mk4 (x0 x1 x2 x3 x4 x5 o0 o1 o2 o3 o4 o5 k0 k1 : Int) : x0 * (o4 * k0 - o5 * k1) + x2 * (o2 * k0 - o3 * k1) + x4 * (o0 * k0 - o1 * k1) - x1 * (o4 * k1 + o5 * k0) - x3 * (o2 * k1 + o3 * k0) - x5 * (o0 * k1 + o1 * k0) = (x0 * o4 + x2 * o2 + x4 * o0 - x1 * o5 - x3 * o3 - x5 * o1) * k0 - (x0 * o5 + x1 * o4 + x2 * o3 + x3 * o2 + x4 * o1 + x5 * o0) * k1 := by grind
theorem sx_mk5 (x0 x1 x2 x3 x4 x5 o0 o1 o2 o3 o4 o5 k0 k1 : Int) : x0 * (o4 * k1 + o5 * k0) + x1 * (o4 * k0 - o5 * k1) + x2 * (o2 * k1 + o3 * k0) + x3 * (o2 * k0 - o3 * k1) + x4 * (o0 * k1 + o1 * k0) + x5 * (o0 * k0 - o1 * k1) = (x0 * o4 + x2 * o2 + x4 * o0 - x1 * o5 - x3 * o3 - x5 * o1) * k1 + (x0 * o5 + x1 * o4 + x2 * o3 + x3 * o2 + x4 * o1 + x5 * o0) * k0 := by grind
theorem sx_cof2 (x0 x1 x2 x3 x4 x5 : Int) : x0 * (x1 * x3 + x4 * x4 - x0 * x2 - 2 * x4 * x5 - x5 * x5) + x2 * (x0 * x0 + x2 * x5 + x3 * x4 + x3 * x5 - x1 * x1 - x2 * x4) + x4 * (x1 * x5 + x2 * x2 - x0 * x4 - x3 * x3) - x1 * (x4 * x4 + 2 * x4 * x5 - x0 * x3 - x1 * x2 - x5 * x5) - x3 * (2 * x0 * x1 + x3 * x5 - x2 * x4 - x2 * x5 - x3 * x4) - x4 * (2 * x2 * x3 - x0 * x5 - x1 * x4) - x5 * (x1 * x5 + x2 * x2 - x0 * x4 - x3 * x3) - x5 * (2 * x2 * x3 - x0 * x5 - x1 * x4) = 0 := by grind
theorem sx_cof3 (x0 x1 x2 x3 x4 x5 : Int) : x0 * (x4 * x4 + 2 * x4 * x5 - x0 * x3 - x1 * x2 - x5 * x5) + x1 * (x1 * x3 + x4 * x4 - x0 * x2 - 2 * x4 * x5 - x5 * x5) + x2 * (2 * x0 * x1 + x3 * x5 - x2 * x4 - x2 * x5 - x3 * x4) + x3 * (x0 * x0 + x2 * x5 + x3 * x4 + x3 * x5 - x1 * x1 - x2 * x4) + x4 * (x1 * x5 + x2 * x2 - x0 * x4 - x3 * x3) + x4 * (2 * x2 * x3 - x0 * x5 - x1 * x4) + x5 * (x1 * x5 + x2 * x2 - x0 * x4 - x3 * x3) - x5 * (2 * x2 * x3 - x0 * x5 - x1 * x4) = 0 := by grind
theorem sx_cof4 (x0 x1 x2 x3 x4 x5 : Int) : x0 * (x1 * x5 + x2 * x2 - x0 * x4 - x3 * x3) + x2 * (x1 * x3 + x4 * x4 - x0 * x2 - 2 * x4 * x5 - x5 * x5) + x4 * (x0 * x0 + x2 * x5 + x3 * x4 + x3 * x5 - x1 * x1 - x2 * x4) - x1 * (2 * x2 * x3 - x0 * x5 - x1 * x4) - x3 * (x4 * x4 + 2 * x4 * x5 - x0 * x3 - x1 * x2 - x5 * x5) - x5 * (2 * x0 * x1 + x3 * x5 - x2 * x4 - x2 * x5 - x3 * x4) = 0 := by grind
theorem sx_cof5 (x0 x1 x2 x3 x4 x5 : Int) : x0 * (2 * x2 * x3 - x0 * x5 - x1 * x4) + x1 * (x1 * x5 + x2 * x2 - x0 * x4 - x3 * x3) + x2 * (x4 * x4 + 2 * x4 * x5 - x0 * x3 - x1 * x2 - x5 * x5) + x3 * (x1 * x3 + x4 * x4 - x0 * x2 - 2 * x4 * x5 - x5 * x5) + x4 * (2 * x0 * x1 + x3 * x5 - x2 * x4 - x2 * x5 - x3 * x4) + x5 * (x0 * x0 + x2 * x5 + x3 * x4 + x3 * x5 - x1 * x1 - x2 * x4) = 0 := by grind

/-- a times the cofactor, times the conjugate of the norm, over the norm's norm, is 1. -/
theorem sx_unit {x0 x1 x2 x3 x4 x5 o0 o1 o2 o3 o4 o5 n0 n1 i : Int} (eo0 : o0 = x0 * x0 + x2 * x5 + x3 * x4 + x3 * x5 - x1 * x1 - x2 * x4) (eo1 : o1 = 2 * x0 * x1 + x3 * x5 - x2 * x4 - x2 * x5 - x3 * x4) (eo2 : o2 = x1 * x3 + x4 * x4 - x0 * x2 - 2 * x4 * x5 - x5 * x5) (eo3 : o3 = x4 * x4 + 2 * x4 * x5 - x0 * x3 - x1 * x2 - x5 * x5) (eo4 : o4 = x1 * x5 + x2 * x2 - x0 * x4 - x3 * x3) (eo5 : o5 = 2 * x2 * x3 - x0 * x5 - x1 * x4) (en0 : n0 = x0 * o0 + x2 * o4 + x4 * o2 - x1 * o1 - x2 * o5 - x3 * o4 - x3 * o5 - x4 * o3 - x5 * o2 - x5 * o3) (en1 : n1 = x0 * o1 + x1 * o0 + x2 * o4 + x2 * o5 + x3 * o4 + x4 * o2 + x4 * o3 + x5 * o2 - x3 * o5 - x5 * o3) (h1 : Rep 1 ((n0 * n0 + n1 * n1) * i)) :
    Rep 1 (x0 * (o0 * (n0 * i) - o1 * (-n1 * i)) + x2 * (o4 * (n0 * i) - o5 * (-n1 * i)) + x4 * (o2 * (n0 * i) - o3 * (-n1 * i)) - x1 * (o0 * (-n1 * i) + o1 * (n0 * i)) - x2 * (o4 * (-n1 * i) + o5 * (n0 * i)) - x3 * (o4 * (n0 * i) - o5 * (-n1 * i)) - x3 * (o4 * (-n1 * i) + o5 * (n0 * i)) - x4 * (o2 * (-n1 * i) + o3 * (n0 * i)) - x5 * (o2 * (n0 * i) - o3 * (-n1 * i)) - x5 * (o2 * (-n1 * i) + o3 * (n0 * i))) ∧
    Rep 0 (x0 * (o0 * (-n1 * i) + o1 * (n0 * i)) + x1 * (o0 * (n0 * i) - o1 * (-n1 * i)) + x2 * (o4 * (n0 * i) - o5 * (-n1 * i)) + x2 * (o4 * (-n1 * i) + o5 * (n0 * i)) + x3 * (o4 * (n0 * i) - o5 * (-n1 * i)) + x4 * (o2 * (n0 * i) - o3 * (-n1 * i)) + x4 * (o2 * (-n1 * i) + o3 * (n0 * i)) + x5 * (o2 * (n0 * i) - o3 * (-n1 * i)) - x3 * (o4 * (-n1 * i) + o5 * (n0 * i)) - x5 * (o2 * (-n1 * i) + o3 * (n0 * i))) ∧
    Rep 0 (x0 * (o2 * (n0 * i) - o3 * (-n1 * i)) + x2 * (o0 * (n0 * i) - o1 * (-n1 * i)) + x4 * (o4 * (n0 * i) - o5 * (-n1 * i)) - x1 * (o2 * (-n1 * i) + o3 * (n0 * i)) - x3 * (o0 * (-n1 * i) + o1 * (n0 * i)) - x4 * (o4 * (-n1 * i) + o5 * (n0 * i)) - x5 * (o4 * (n0 * i) - o5 * (-n1 * i)) - x5 * (o4 * (-n1 * i) + o5 * (n0 * i))) ∧
    Rep 0 (x0 * (o2 * (-n1 * i) + o3 * (n0 * i)) + x1 * (o2 * (n0 * i) - o3 * (-n1 * i)) + x2 * (o0 * (-n1 * i) + o1 * (n0 * i)) + x3 * (o0 * (n0 * i) - o1 * (-n1 * i)) + x4 * (o4 * (n0 * i) - o5 * (-n1 * i)) + x4 * (o4 * (-n1 * i) + o5 * (n0 * i)) + x5 * (o4 * (n0 * i) - o5 * (-n1 * i)) - x5 * (o4 * (-n1 * i) + o5 * (n0 * i))) ∧
    Rep 0 (x0 * (o4 * (n0 * i) - o5 * (-n1 * i)) + x2 * (o2 * (n0 * i) - o3 * (-n1 * i)) + x4 * (o0 * (n0 * i) - o1 * (-n1 * i)) - x1 * (o4 * (-n1 * i) + o5 * (n0 * i)) - x3 * (o2 * (-n1 * i) + o3 * (n0 * i)) - x5 * (o0 * (-n1 * i) + o1 * (n0 * i))) ∧
    Rep 0 (x0 * (o4 * (-n1 * i) + o5 * (n0 * i)) + x1 * (o4 * (n0 * i) - o5 * (-n1 * i)) + x2 * (o2 * (-n1 * i) + o3 * (n0 * i)) + x3 * (o2 * (n0 * i) - o3 * (-n1 * i)) + x4 * (o0 * (-n1 * i) + o1 * (n0 * i)) + x5 * (o0 * (n0 * i) - o1 * (-n1 * i))) := by
  have e0 := sx_mk0 x0 x1 x2 x3 x4 x5 o0 o1 o2 o3 o4 o5 (n0 * i) (-n1 * i)
  have e1 := sx_mk1 x0 x1 x2 x3 x4 x5 o0 o1 o2 o3 o4 o5 (n0 * i) (-n1 * i)
  have e2 := sx_mk2 x0 x1 x2 x3 x4 x5 o0 o1 o2 o3 o4 o5 (n0 * i) (-n1 * i)
  have e3 := sx_mk3 x0 x1 x2 x3 x4 x5 o0 o1 o2 o3 o4 o5 (n0 * i) (-n1 * i)
  have e4 := sx_mk4 x0 x1 x2 x3 x4 x5 o0 o1 o2 o3 o4 o5 (n0 * i) (-n1 * i)
  have e5 := sx_mk5 x0 x1 x2 x3 x4 x5 o0 o1 o2 o3 o4 o5 (n0 * i) (-n1 * i)
  rw [← en0, ← en1] at e0 e1
  have s2 : x0 * o2 + x2 * o0 + x4 * o4 - x1 * o3 - x3 * o1 - x4 * o5 - x5 * o4 - x5 * o5 = 0 := by rw [eo0, eo1, eo2, eo3, eo4, eo5]; exact sx_cof2 x0 x1 x2 x3 x4 x5
  have s3 : x0 * o3 + x1 * o2 + x2 * o1 + x3 * o0 + x4 * o4 + x4 * o5 + x5 * o4 - x5 * o5 = 0 := by rw [eo0, eo1, eo2, eo3, eo4, eo5]; exact sx_cof3 x0 x1 x2 x3 x4 x5
  have s4 : x0 * o4 + x2 * o2 + x4 * o0 - x1 * o5 - x3 * o3 - x5 * o1 = 0 := by rw [eo0, eo1, eo2, eo3, eo4, eo5]; exact sx_cof4 x0 x1 x2 x3 x4 x5
  have s5 : x0 * o5 + x1 * o4 + x2 * o3 + x3 * o2 + x4 * o1 + x5 * o0 = 0 := by rw [eo0, eo1, eo2, eo3, eo4, eo5]; exact sx_cof5 x0 x1 x2 x3 x4 x5
  rw [s2, s3] at e2 e3
  rw [s4, s5] at e4 e5
  have f0 : (n0 * n0 + n1 * n1) * i = n0 * (n0 * i) - n1 * (-n1 * i) := by clear e0 e1 e2 e3 e4 e5 s2 s3 s4 s5 h1 en0 en1; grind
  have f1 : (0 : Int) = n0 * (-n1 * i) + n1 * (n0 * i) := by clear e0 e1 e2 e3 e4 e5 s2 s3 s4 s5 h1 en0 en1; grind
  refine ⟨rep_to h1 (f0.trans e0.symm), rep_to rep_0 (f1.trans e1.symm), rep_to rep_0 (Eq.trans (by simp) e2.symm), rep_to rep_0 (Eq.trans (by simp) e3.symm), rep_to rep_0 (Eq.trans (by simp) e4.symm), rep_to rep_0 (Eq.trans (by simp) e5.symm)⟩

theorem sx_n0 (x0 x1 x2 x3 x4 x5 : Int) : x0 * (x0 * x0 + x2 * x5 + x3 * x4 + x3 * x5 - x1 * x1 - x2 * x4) + x2 * (x1 * x5 + x2 * x2 - x0 * x4 - x3 * x3) + x4 * (x1 * x3 + x4 * x4 - x0 * x2 - 2 * x4 * x5 - x5 * x5) - x1 * (2 * x0 * x1 + x3 * x5 - x2 * x4 - x2 * x5 - x3 * x4) - x2 * (2 * x2 * x3 - x0 * x5 - x1 * x4) - x3 * (x1 * x5 + x2 * x2 - x0 * x4 - x3 * x3) - x3 * (2 * x2 * x3 - x0 * x5 - x1 * x4) - x4 * (x4 * x4 + 2 * x4 * x5 - x0 * x3 - x1 * x2 - x5 * x5) - x5 * (x1 * x3 + x4 * x4 - x0 * x2 - 2 * x4 * x5 - x5 * x5) - x5 * (x4 * x4 + 2 * x4 * x5 - x0 * x3 - x1 * x2 - x5 * x5) = (x0 * x0 * x0 - 3 * x0 * x1 * x1) + ((x2 * x2 * x2 - 3 * x2 * x3 * x3) - (3 * x2 * x2 * x3 - x3 * x3 * x3)) - 2 * (3 * x4 * x4 * x5 - x5 * x5 * x5) - 3 * (((x0 * x2 - x1 * x3) * x4 - (x0 * x3 + x1 * x2) * x5) - ((x0 * x2 - x1 * x3) * x5 + (x0 * x3 + x1 * x2) * x4)) := by grind
theorem sx_n1 (x0 x1 x2 x3 x4 x5 : Int) : x0 * (2 * x0 * x1 + x3 * x5 - x2 * x4 - x2 * x5 - x3 * x4) + x1 * (x0 * x0 + x2 * x5 + x3 * x4 + x3 * x5 - x1 * x1 - x2 * x4) + x2 * (x1 * x5 + x2 * x2 - x0 * x4 - x3 * x3) + x2 * (2 * x2 * x3 - x0 * x5 - x1 * x4) + x3 * (x1 * x5 + x2 * x2 - x0 * x4 - x3 * x3) + x4 * (x1 * x3 + x4 * x4 - x0 * x2 - 2 * x4 * x5 - x5 * x5) + x4 * (x4 * x4 + 2 * x4 * x5 - x0 * x3 - x1 * x2 - x5 * x5) + x5 * (x1 * x3 + x4 * x4 - x0 * x2 - 2 * x4 * x5 - x5 * x5) - x3 * (2 * x2 * x3 - x0 * x5 - x1 * x4) - x5 * (x4 * x4 + 2 * x4 * x5 - x0 * x3 - x1 * x2 - x5 * x5) = (3 * x0 * x0 * x1 - x1 * x1 * x1) + ((x2 * x2 * x2 - 3 * x2 * x3 * x3) + (3 * x2 * x2 * x3 - x3 * x3 * x3)) + 2 * (x4 * x4 * x4 - 3 * x4 * x5 * x5) - 3 * (((x0 * x2 - x1 * x3) * x4 - (x0 * x3 + x1 * x2) * x5) + ((x0 * x2 - x1 * x3) * x5 + (x0 * x3 + x1 * x2) * x4)) := by grind
theorem sx_norm {x0 x1 x2 x3 x4 x5 o0 o1 o2 o3 o4 o5 n0 n1 : Int} (eo0 : o0 = x0 * x0 + x2 * x5 + x3 * x4 + x3 * x5 - x1 * x1 - x2 * x4) (eo1 : o1 = 2 * x0 * x1 + x3 * x5 - x2 * x4 - x2 * x5 - x3 * x4) (eo2 : o2 = x1 * x3 + x4 * x4 - x0 * x2 - 2 * x4 * x5 - x5 * x5) (eo3 : o3 = x4 * x4 + 2 * x4 * x5 - x0 * x3 - x1 * x2 - x5 * x5) (eo4 : o4 = x1 * x5 + x2 * x2 - x0 * x4 - x3 * x3) (eo5 : o5 = 2 * x2 * x3 - x0 * x5 - x1 * x4) (en0 : n0 = x0 * o0 + x2 * o4 + x4 * o2 - x1 * o1 - x2 * o5 - x3 * o4 - x3 * o5 - x4 * o3 - x5 * o2 - x5 * o3) (en1 : n1 = x0 * o1 + x1 * o0 + x2 * o4 + x2 * o5 + x3 * o4 + x4 * o2 + x4 * o3 + x5 * o2 - x3 * o5 - x5 * o3) (h0 : Zr n0) (h1 : Zr n1) : (Zr x0 ∧ Zr x1) ∧ (Zr x2 ∧ Zr x3) ∧ (Zr x4 ∧ Zr x5) := by
  rw [eo0, eo1, eo2, eo3, eo4, eo5] at en0 en1
  exact sext_norm (h0.eq (en0.trans (sx_n0 x0 x1 x2 x3 x4 x5))) (h1.eq (en1.trans (sx_n1 x0 x1 x2 x3 x4 x5)))

theorem sz0 (x0 x1 x2 x3 x4 x5 : Int) : (x0 * (x0) + x1 * (-x1) + x2 * (x5 - x4) + x3 * (x4 + x5) : Int) = x0 * x0 + x2 * x5 + x3 * x4 + x3 * x5 - x1 * x1 - x2 * x4 := by grind
theorem sz1 (x0 x1 x2 x3 x4 x5 : Int) : (x0 * (2 * x1) + x2 * (-x4 - x5) + x3 * (x5 - x4) : Int) = 2 * x0 * x1 + x3 * x5 - x2 * x4 - x2 * x5 - x3 * x4 := by grind
theorem sz2 (x0 x1 x2 x3 x4 x5 : Int) : (x0 * (-x2) + x1 * (x3) + x4 * (x4 - 2 * x5) + x5 * (-x5) : Int) = x1 * x3 + x4 * x4 - x0 * x2 - 2 * x4 * x5 - x5 * x5 := by grind
theorem sz3 (x0 x1 x2 x3 x4 x5 : Int) : (x0 * (-x3) + x1 * (-x2) + x4 * (x4 + 2 * x5) + x5 * (-x5) : Int) = x4 * x4 + 2 * x4 * x5 - x0 * x3 - x1 * x2 - x5 * x5 := by grind
theorem sz4 (x0 x1 x2 x3 x4 x5 : Int) : (x0 * (-x4) + x1 * (x5) + x2 * (x2) + x3 * (-x3) : Int) = x1 * x5 + x2 * x2 - x0 * x4 - x3 * x3 := by grind
theorem sz5 (x0 x1 x2 x3 x4 x5 : Int) : (x0 * (-x5) + x1 * (-x4) + x2 * (2 * x3) : Int) = 2 * x2 * x3 - x0 * x5 - x1 * x4 := by grind

theorem sx_zero {x0 x1 x2 x3 x4 x5 o0 o1 o2 o3 o4 o5 n0 n1 i : Int} (eo0 : o0 = x0 * x0 + x2 * x5 + x3 * x4 + x3 * x5 - x1 * x1 - x2 * x4) (eo1 : o1 = 2 * x0 * x1 + x3 * x5 - x2 * x4 - x2 * x5 - x3 * x4) (eo2 : o2 = x1 * x3 + x4 * x4 - x0 * x2 - 2 * x4 * x5 - x5 * x5) (eo3 : o3 = x4 * x4 + 2 * x4 * x5 - x0 * x3 - x1 * x2 - x5 * x5) (eo4 : o4 = x1 * x5 + x2 * x2 - x0 * x4 - x3 * x3) (eo5 : o5 = 2 * x2 * x3 - x0 * x5 - x1 * x4) (hx0 : Zr x0) (hx1 : Zr x1) (hx2 : Zr x2) (hx3 : Zr x3) (hx4 : Zr x4) (hx5 : Zr x5) :
    Zr (o0 * (n0 * i) - o1 * (-n1 * i)) ∧ Zr (o0 * (-n1 * i) + o1 * (n0 * i)) ∧ Zr (o2 * (n0 * i) - o3 * (-n1 * i)) ∧ Zr (o2 * (-n1 * i) + o3 * (n0 * i)) ∧ Zr (o4 * (n0 * i) - o5 * (-n1 * i)) ∧ Zr (o4 * (-n1 * i) + o5 * (n0 * i)) := by
  have g0 : Zr o0 := by rw [eo0]; exact ((((hx0.mul (x0)).add (hx1.mul (-x1))).add (hx2.mul (x5 - x4))).add (hx3.mul (x4 + x5))).eq (sz0 x0 x1 x2 x3 x4 x5)
  have g1 : Zr o1 := by rw [eo1]; exact (((hx0.mul (2 * x1)).add (hx2.mul (-x4 - x5))).add (hx3.mul (x5 - x4))).eq (sz1 x0 x1 x2 x3 x4 x5)
  have g2 : Zr o2 := by rw [eo2]; exact ((((hx0.mul (-x2)).add (hx1.mul (x3))).add (hx4.mul (x4 - 2 * x5))).add (hx5.mul (-x5))).eq (sz2 x0 x1 x2 x3 x4 x5)
  have g3 : Zr o3 := by rw [eo3]; exact ((((hx0.mul (-x3)).add (hx1.mul (-x2))).add (hx4.mul (x4 + 2 * x5))).add (hx5.mul (-x5))).eq (sz3 x0 x1 x2 x3 x4 x5)
  have g4 : Zr o4 := by rw [eo4]; exact ((((hx0.mul (-x4)).add (hx1.mul (x5))).add (hx2.mul (x2))).add (hx3.mul (-x3))).eq (sz4 x0 x1 x2 x3 x4 x5)
  have g5 : Zr o5 := by rw [eo5]; exact (((hx0.mul (-x5)).add (hx1.mul (-x4))).add (hx2.mul (2 * x3))).eq (sz5 x0 x1 x2 x3 x4 x5)
  exact ⟨(g0.mul (n0 * i)).sub (g1.mul (-n1 * i)), (g0.mul (-n1 * i)).add (g1.mul (n0 * i)), (g2.mul (n0 * i)).sub (g3.mul (-n1 * i)), (g2.mul (-n1 * i)).add (g3.mul (n0 * i)), (g4.mul (n0 * i)).sub (g5.mul (-n1 * i)), (g4.mul (-n1 * i)).add (g5.mul (n0 * i))⟩

theorem norm_inv_r {m0 m1 j : Nat} {n0 n1 i : Int} (rm0 : Rep m0 n0) (rm1 : Rep m1 n1) (hj : j = pInv (pAdd (pMul m0 m0) (pMul m1 m1))) (rj : Rep j i) (h : ¬ (pCl m0 = 0 ∧ pCl m1 = 0)) : Rep 1 ((n0 * n0 + n1 * n1) * i) := by
  have hn : pCl (pAdd (pMul m0 m0) (pMul m1 m1)) ≠ 0 := by
    rw [pCl_of (pAdd_P _ _)]
    exact fun h0 => h (norm_zero h0)
  have h1 := pInv_mul hn
  rw [← hj] at h1
  exact rep_eq h1.symm (rep_mul (rep_add (rep_mul rm0 rm0) (rep_mul rm1 rm1)) rj)

end Go.Proofs.Ytodabjelnllkgaa
