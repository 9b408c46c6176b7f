/- What is proved here: the types api.Fp6, sext.parts and sext.couple as rows of limbs; method values; a norm of sext is 0 of 0 alone. -/
import Derived.Test.YtodabjelnllkgaaDuo1
namespace Go.Proofs.Ytodabjelnllkgaa
open Go.RowKit

theorem rows_app (K : Nat) (l m : List Nat) : rows K (l ++ m) = rows K l ++ rows K m := by simp [rows]

/-- Three parts of n cells each, one behind the other. -/
theorem fill3 {n : Nat} {pl : Nat → Option (Nat × Nat)} (p0 : pl 0 = some (0, n)) (p1 : pl 1 = some (n, n)) (p2 : pl 2 = some (2 * n, n)) {xs ys zs : List Nat} (hx : xs.length = n) (hy : ys.length = n) (hz : zs.length = n) :
    Instr.fill pl (cellsOf (List.replicate (3 * n) 0)).toArray [(0, lv xs), (1, lv ys), (2, lv zs)] = some (cellsOf (xs ++ (ys ++ zs))).toArray := by
  rw [fill_cons p0 hx (by simp; omega), fill_cons p1 hy (by simp [hx]; omega), fill_cons p2 hz (by simp [hx, hy]; omega), Instr.fill]
  congr 3
  subst hx
  have e1 : List.take xs.length (List.take 0 (List.replicate (3 * xs.length) 0) ++ (xs ++ List.drop (0 + xs.length) (List.replicate (3 * xs.length) 0))) = xs := by simp
  have e2 : List.drop (xs.length + xs.length) (List.take 0 (List.replicate (3 * xs.length) 0) ++ (xs ++ List.drop (0 + xs.length) (List.replicate (3 * xs.length) 0))) = List.replicate xs.length 0 := by
    rw [List.take_zero, List.nil_append, Nat.zero_add, List.drop_replicate, List.drop_append, List.drop_eq_nil_of_le (by omega), List.nil_append, List.drop_replicate]
    congr 1
    omega
  rw [e1, e2]
  have e3 : List.take (2 * xs.length) (xs ++ (ys ++ List.replicate xs.length 0)) = xs ++ ys := by
    rw [← List.append_assoc, List.take_left' (by simp [hy]; omega)]
  have e4 : List.drop (2 * xs.length + xs.length) (xs ++ (ys ++ List.replicate xs.length 0)) = [] := by
    simp [hy]
    omega
  rw [e3, e4, List.append_nil, List.append_assoc]

/-- Two parts of n cells each. -/
theorem fill2 {n : Nat} {pl : Nat → Option (Nat × Nat)} (p0 : pl 0 = some (0, n)) (p1 : pl 1 = some (n, n)) {xs ys : List Nat} (hx : xs.length = n) (hy : ys.length = n) :
    Instr.fill pl (cellsOf (List.replicate (2 * n) 0)).toArray [(0, lv xs), (1, lv ys)] = some (cellsOf (xs ++ ys)).toArray := by
  rw [fill_cons p0 hx (by simp; omega), fill_cons p1 hy (by simp [hx]; omega), Instr.fill]
  congr 3
  subst hx
  have e1 : List.take xs.length (List.take 0 (List.replicate (2 * xs.length) 0) ++ (xs ++ List.drop (0 + xs.length) (List.replicate (2 * xs.length) 0))) = xs := by simp
  have e2 : List.drop (xs.length + xs.length) (List.take 0 (List.replicate (2 * xs.length) 0) ++ (xs ++ List.drop (0 + xs.length) (List.replicate (2 * xs.length) 0))) = [] := by
    simp [List.drop_append]
    omega
  rw [e1, e2, List.append_nil]

theorem bdABC_pl {pl : Nat → Option (Nat × Nat)} (p0 : pl 0 = some (0, 12)) (p1 : pl 1 = some (12, 12)) (p2 : pl 2 = some (24, 12)) (a b c d e f : Nat) : Instr.fill pl (cellsOf (List.replicate 36 0)).toArray [(0, nv 6 [a, b]), (1, nv 6 [c, d]), (2, nv 6 [e, f])] = some (cellsOf (rows 6 [a, b, c, d, e, f])).toArray := by
  have h := fill3 (n := 12) p0 p1 p2 (xs := rows 6 [a, b]) (ys := rows 6 [c, d]) (zs := rows 6 [e, f]) (rows_len _ _) (rows_len _ _) (rows_len _ _)
  rw [← rows_app, ← rows_app] at h
  exact h
theorem bdABC (a b c d e f : Nat) : Instr.fill ((List.toArray [(0, 12), (12, 12), (24, 12)])[·]?) (cellsOf (List.replicate 36 0)).toArray [(0, nv 6 [a, b]), (1, nv 6 [c, d]), (2, nv 6 [e, f])] = some (cellsOf (rows 6 [a, b, c, d, e, f])).toArray := bdABC_pl rfl rfl rfl a b c d e f
theorem bdRow (a b c d e f : Nat) : Instr.fill (fun i => some (i * 12, 12)) (cellsOf (List.replicate 36 0)).toArray [(0, nv 6 [a, b]), (1, nv 6 [c, d]), (2, nv 6 [e, f])] = some (cellsOf (rows 6 [a, b, c, d, e, f])).toArray := bdABC_pl rfl rfl rfl a b c d e f

/-- One part alone, the rest 0. -/
theorem bd6A (a b : Nat) : Instr.fill ((List.toArray [(0, 12), (12, 12), (24, 12)])[·]?) (cellsOf (List.replicate 36 0)).toArray [(0, nv 6 [a, b])] = some (cellsOf (rows 6 [a, b, 0, 0, 0, 0])).toArray := by
  rw [nv, fill_cons (off := 0) (n := 12) rfl (rows_len 6 [a, b]) (by simp), Instr.fill, show [a, b, 0, 0, 0, 0] = [a, b] ++ List.replicate 4 0 from rfl, rows_app, rows_zero]
  congr 3
theorem bdXY (a b c d e f g h i j k l : Nat) : Instr.fill ((List.toArray [(0, 36), (36, 36)])[·]?) (cellsOf (List.replicate 72 0)).toArray [(0, nv 6 [a, b, c, d, e, f]), (1, nv 6 [g, h, i, j, k, l])] = some (cellsOf (rows 6 [a, b, c, d, e, f, g, h, i, j, k, l])).toArray := by
  have hh := fill2 (n := 36) (pl := ((List.toArray [(0, 36), (36, 36)])[·]?)) rfl rfl (xs := rows 6 [a, b, c, d, e, f]) (ys := rows 6 [g, h, i, j, k, l]) (rows_len _ _) (rows_len _ _)
  rw [← rows_app] at hh
  exact hh

theorem flFp6 : Flat 28 (6 * 6) := ⟨Try.isAgg28, Try.sizeOf28⟩

theorem fp6_fields : Try.prog.underlying 28 = some (.struct (List.toArray [⟨"A", 26, 0, false, "", "", 0⟩, ⟨"B", 26, 12, false, "", "", 96⟩, ⟨"C", 26, 24, false, "", "", 192⟩])) := Try.underlying28

theorem faFp6_0 : FieldAt 28 0 0 := ⟨_, _, 11, fp6_fields, rfl, rfl, Try.sizeOf26⟩
theorem faFp6_1 : FieldAt 28 1 12 := ⟨_, _, 11, fp6_fields, rfl, rfl, Try.sizeOf26⟩
theorem faFp6_2 : FieldAt 28 2 24 := ⟨_, _, 11, fp6_fields, rfl, rfl, Try.sizeOf26⟩

theorem eqFp6 : EqF 28 36 4 := EqF.struct Try.eqGuardType28 fp6_fields Try.stoodInHeld28
  (.cons (n := 12) (m := 24) (by decide) rfl flFp2 eqFp2 (.cons (n := 12) (m := 12) (by decide) rfl flFp2 eqFp2 (.cons (n := 12) (m := 0) (by decide) rfl flFp2 eqFp2 (.nil _))))

theorem zFp6 (w : World) : (zeroValue 28).run Try.prog w = .ok (lv (rows 6 [0, 0, 0, 0, 0, 0])) w := by
  rw [Try.zeroValue28 w, show [0, 0, 0, 0, 0, 0] = List.replicate 6 0 from rfl, rows_zero, lv, cells0]
  rfl

theorem stFp6 : Struct 28 36 [(0, 12), (12, 12), (24, 12)] := by
  refine ⟨_, fp6_fields, fun w => ?_, fun w => ?_⟩
  · rw [Try.zeroValue28 w, lv, cells0]; rfl
  · simp [Sem.run_bind, Try.sizeOf26]

theorem opens_fp6 : OpensN 28 36 := opens_struct fp6_fields (by kernel_rfl) fun i hi => by
  rcases Nat.lt_or_ge i 12 with h | h
  · exact ⟨0, _, 12, rfl, opens_fp2, by kernel_rfl, Nat.zero_le _, by simpa using h⟩
  · rcases Nat.lt_or_ge i 24 with h2 | h2
    · exact ⟨1, _, 12, rfl, opens_fp2, by kernel_rfl, h, by simpa using h2⟩
    · exact ⟨2, _, 12, rfl, opens_fp2, by kernel_rfl, h2, by simpa using hi⟩

/-! ### sext.parts and sext.couple -/

theorem flParts : Flat 55 (6 * 6) := ⟨Try.isAgg55, Try.sizeOf55⟩
theorem flCouple : Flat 58 (6 * 12) := ⟨Try.isAgg58, Try.sizeOf58⟩

theorem zParts (w : World) : (zeroValue 55).run Try.prog w = .ok (lv (rows 6 [0, 0, 0, 0, 0, 0])) w := by
  rw [Try.zeroValue55 w, show [0, 0, 0, 0, 0, 0] = List.replicate 6 0 from rfl, rows_zero, lv, cells0]
  rfl
theorem zCouple (w : World) : (zeroValue 58).run Try.prog w = .ok (lv (rows 6 [0, 0, 0, 0, 0, 0, 0, 0, 0, 0, 0, 0])) w := by
  rw [Try.zeroValue58 w, show [0, 0, 0, 0, 0, 0, 0, 0, 0, 0, 0, 0] = List.replicate 12 0 from rfl, rows_zero, lv, cells0]
  rfl

theorem couple_fields : Try.prog.underlying 58 = some (.struct (List.toArray [⟨"x", 55, 0, false, "", "chirograph/sext", 0⟩, ⟨"y", 55, 36, false, "", "chirograph/sext", 288⟩])) := Try.underlying58
theorem faCouple_0 : FieldAt 58 0 0 := ⟨_, _, 35, couple_fields, rfl, rfl, Try.sizeOf55⟩
theorem faCouple_1 : FieldAt 58 1 36 := ⟨_, _, 35, couple_fields, rfl, rfl, Try.sizeOf55⟩
theorem stCouple : Struct 58 72 [(0, 36), (36, 36)] := by
  refine ⟨_, couple_fields, fun w => ?_, fun w => ?_⟩
  · rw [Try.zeroValue58 w, lv, cells0]; rfl
  · simp [Sem.run_bind, Try.sizeOf55]

/-- An array type of k places of m cells, n cells in all. -/
def Ary (ty : TypeId) (k m n : Nat) : Prop :=
  ∃ e : TypeId, Try.prog.underlying ty = some (.array k e) ∧ (∀ w, (zeroValue ty).run Try.prog w = .ok (lv (List.replicate n 0)) w) ∧ ∀ w, (Go.sizeOf e).run Try.prog w = .ok m w

theorem arParts : Ary 55 3 12 36 := by
  refine ⟨26, Try.underlying55, fun w => ?_, Try.sizeOf26⟩
  rw [Try.zeroValue55 w, lv, cells0]
  rfl

section
variable {ρ : Operand → Value} {d : Option Tmp} {ty0 : TypeId} {pos : String} {after : Array Edge} {guard : Option (Nat × Bool)} {w : World}

theorem ex_builda {ty : TypeId} {parts : List (Nat × Operand)} {vs : List (Nat × Value)} {k m n : Nat} (hs : Ary ty k m n) {xs : List Nat}
    (hv : (parts.map fun (p : Nat × Operand) => (p.1, ρ p.2)) = vs)
    (hx : Instr.fill (fun i => some (i * m, m)) (cellsOf (List.replicate n 0)).toArray vs = some (cellsOf xs).toArray) :
    (execOp ρ ⟨d, .build ty parts.toArray, ty0, pos, after, guard⟩).run Try.prog w = .ok (.value (lv xs)) w := by
  obtain ⟨e, hu, hz, hm⟩ := hs
  have hv' : (parts.toArray.map fun (i, x) => (i, ρ x)) = vs.toArray := by rw [List.map_toArray]; exact congrArg List.toArray hv
  have hc : (lv (List.replicate n 0)).cells = (cellsOf (List.replicate n 0)).toArray := rfl
  simp only [execOp, Sem.run_bind, hv', Instr.build, hz w, Result.andThen_ok, run_underlying hu w, hm w, hc, hx, Sem.run_pure]
  rfl

theorem ex_index {t : TypeId} {x ix : Operand} {k m n g o : Nat} (i : Nat) (hs : Ary t k m n) (hx : ρ x = .pointer (some ⟨g, o, none⟩)) (hi : ρ ix = .int .i64 (i : Int)) (hlt : i < k) :
    (execOp ρ ⟨d, .indexAddr t x ix, ty0, pos, after, guard⟩).run Try.prog w = .ok (.value (.pointer (some ⟨g, o + i * m, none⟩))) w := by
  obtain ⟨e, hu, hz, hm⟩ := hs
  have h1 : (0 : Int) ≤ (i : Int) ∧ (i : Int) < (k : Int) := ⟨by omega, by omega⟩
  simp [execOp, Sem.run_bind, hx, hi, Instr.indexAt, asIntOf, Instr.sureAddr, run_underlying hu w, hm w, hlt, Addr.add_mid]

theorem ex_bind {f : FuncId} {xs : List Operand} {vs : List Value} (hv : xs.map ρ = vs) :
    (execOp ρ ⟨d, .makeFunc (.func f) xs.toArray #[], ty0, pos, after, guard⟩).run Try.prog w = .ok (.value (.func (.func f) vs.toArray #[])) w := by
  subst hv
  simp [execOp, Instr.makeFunc]

theorem ex_callb {x : Operand} {xs : List Operand} {tys : Array TypeId} {f : FuncId} {r : Value} {vs : List Value} (hx : ρ x = .func (.func f) #[r] #[]) (hc : ∀ (args : Array Value) (w : World), (callFunc f args).run Try.prog w = .ok (.enter f args) w) (hv : xs.map ρ = vs) :
    (execOp ρ ⟨d, .call ⟨.value x, xs.toArray, tys⟩, ty0, pos, after, guard⟩).run Try.prog w = .ok (.enter f (r :: vs).toArray) w := by
  subst hv
  simp [execOp, resolve, hx, Deferred.ofValue, invoke, hc]
end

/-! ### numbers A + B v + C v v: a norm is 0 of 0 alone -/

/-- 0 modulo p. -/
def Zr (z : Int) : Prop := Rep 0 z

theorem Zr.eq {x y : Int} (h : Zr x) (e : x = y) : Zr y := e ▸ h
theorem Zr.zero : Zr 0 := rep_0
theorem Zr.add {x y : Int} (h : Zr x) (h' : Zr y) : Zr (x + y) := by
  obtain ⟨k, hk⟩ := h
  obtain ⟨l, hl⟩ := h'
  refine ⟨k + l, ?_⟩
  generalize (pN : Int) = M at *
  grind
theorem Zr.mul {x : Int} (h : Zr x) (y : Int) : Zr (x * y) := by
  obtain ⟨k, hk⟩ := h
  refine ⟨k * y, ?_⟩
  generalize (pN : Int) = M at *
  grind
theorem Zr.neg {x : Int} (h : Zr x) : Zr (-x) := (h.mul (-1)).eq (by grind)
theorem Zr.sub {x y : Int} (h : Zr x) (h' : Zr y) : Zr (x - y) := (h.add h'.neg).eq (by grind)

/-- A number below p that stands for a whole number. -/
theorem rep_of (z : Int) : ∃ n : Nat, n < pN ∧ Rep n z := by
  have hM : (0 : Int) < (pN : Int) := by decide +kernel
  have h0 := Int.emod_nonneg z (Int.ne_of_gt hM)
  have h1 := Int.emod_lt_of_pos z hM
  refine ⟨(z % (pN : Int)).toNat, by omega, -(z / (pN : Int)), ?_⟩
  have := Int.emod_add_mul_ediv z (pN : Int)
  rw [Int.toNat_of_nonneg h0]
  generalize z % (pN : Int) = r at *
  generalize z / (pN : Int) = q at *
  generalize (pN : Int) = M at *
  grind

theorem zr_of {n : Nat} {z : Int} (hn : n < pN) (h : Rep n z) (hz : Zr z) : n = 0 := rep_uniq hn zero_P h hz rfl
theorem Zr.prime {x y : Int} (h : Zr (x * y)) : Zr x ∨ Zr y := by
  obtain ⟨a, ha, ra⟩ := rep_of x
  obtain ⟨b, hb, rb⟩ := rep_of y
  have e := zr_of (pMul_P a b) (rep_mul ra rb) h
  rcases pMul_zero e with h1 | h1
  · rw [pCl_of ha] at h1
    exact .inl (by rw [h1] at ra; exact ra)
  · rw [pCl_of hb] at h1
    exact .inr (by rw [h1] at rb; exact rb)

/-- A norm of a pair. -/
theorem Zr.norm {x y : Int} (h : Zr (x * x + y * y)) : Zr x ∧ Zr y := by
  obtain ⟨a, ha, ra⟩ := rep_of x
  obtain ⟨b, hb, rb⟩ := rep_of y
  have e := zr_of (pAdd_P _ _) (rep_add (rep_mul ra ra) (rep_mul rb rb)) h
  obtain ⟨h1, h2⟩ := norm_zero e
  rw [pCl_of ha] at h1
  rw [pCl_of hb] at h2
  exact ⟨by rw [h1] at ra; exact ra, by rw [h2] at rb; exact rb⟩

/-- Pairs have no divisors of 0. -/
theorem Zr.pair {x y z w : Int} (h1 : Zr (x * z - y * w)) (h2 : Zr (x * w + y * z)) : (Zr x ∧ Zr y) ∨ (Zr z ∧ Zr w) := by
  have h : Zr ((x * x + y * y) * (z * z + w * w)) := ((h1.mul (x * z - y * w)).add (h2.mul (x * w + y * z))).eq (by grind)
  rcases h.prime with h | h
  · exact .inl h.norm
  · exact .inr h.norm
end Go.Proofs.Ytodabjelnllkgaa
