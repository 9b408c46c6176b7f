/- What is proved here: what operations on limbs and counts yield; a limb of a number in a block; written numbers of four limbs; how many bits a number has. -/
import Derived.Test.YtkkmekdhejhapaaCells
import Derived.Test.YtkkmekdhejhapaaLit
import Derived.Test.YtkkmekdhejhapaaBitsDown
import Derived.Test.YtkkmekdhejhapaaTyFr
namespace Go.Proofs.Ytkkmekdhejhapaa
open Go.RowKit
section
variable {ρ : Operand → Value} {d : Option Tmp} {ty0 : TypeId} {pos : String} {after : Array Edge} {guard : Option (Nat × Bool)} {w : World}
theorem ex_igeq {t t2 : TypeId} {x y : Operand} {k : IntKind} {a b : Int} (hx : ρ x = .int k a) (hy : ρ y = .int k b) (r : Bool) (hr : r = decide (b ≤ a)) :
    (execOp ρ ⟨d, .binOp .geq t x y t2, ty0, pos, after, guard⟩).run Try.prog w = .ok (.value (.bool r)) w := by
  subst hr
  simp [execOp, hx, hy, eqGuard, binOp, Op.intCmp]
theorem ex_iquo {t t2 : TypeId} {x y : Operand} {a b : Nat} (hx : ρ x = .int .i64 (a : Int)) (hy : ρ y = .int .i64 (b : Int)) (h0 : 0 < b) (ha : a < 1000000) :
    (execOp ρ ⟨d, .binOp .quo t x y t2, ty0, pos, after, guard⟩).run Try.prog w = .ok (.value (.int .i64 ((a / b : Nat) : Int))) w := by
  have h1 : ¬ ((b : Int) = 0) := by omega
  have h2 : (a : Int).tdiv (b : Int) = ((a / b : Nat) : Int) := by rw [Int.tdiv_eq_ediv_of_nonneg (by omega)]; simp
  have h3 : a / b ≤ a := Nat.div_le_self a b
  have h4 : IntKind.i64.wrap ((a / b : Nat) : Int) = ((a / b : Nat) : Int) := by
    generalize a / b = q at h3 ⊢
    exact wrapI64 (by omega) (by omega)
  simp only [execOp, hx, hy, eqGuard, binOp, Op.intDiv, Sem.run_bind]
  rw [if_neg h1, h2, h4]
  rfl
theorem ex_irem {t t2 : TypeId} {x y : Operand} {a b : Nat} (hx : ρ x = .int .i64 (a : Int)) (hy : ρ y = .int .i64 (b : Int)) (h0 : 0 < b) :
    (execOp ρ ⟨d, .binOp .rem t x y t2, ty0, pos, after, guard⟩).run Try.prog w = .ok (.value (.int .i64 ((a % b : Nat) : Int))) w := by
  have h1 : ¬ ((b : Int) = 0) := by omega
  have h2 : (a : Int).tmod (b : Int) = ((a % b : Nat) : Int) := by rw [Int.tmod_eq_emod_of_nonneg (by omega)]; simp
  simp only [execOp, hx, hy, eqGuard, binOp, Op.intDiv, Sem.run_bind]
  rw [if_neg h1, h2]
  rfl
theorem ex_ushr {t t2 : TypeId} {x y : Operand} {a s : Nat} (hx : ρ x = .int .u64 (a : Int)) (hy : ρ y = .int .i64 (s : Int)) (hs : s ≤ 64) :
    (execOp ρ ⟨d, .binOp .shr t x y t2, ty0, pos, after, guard⟩).run Try.prog w = .ok (.value (.int .u64 ((a / 2 ^ s : Nat) : Int))) w := by
  have h1 : ¬ ((s : Int) < 0) := by omega
  have h2 : min (s : Int).toNat IntKind.u64.bits = s := by
    rw [Int.toNat_natCast]
    exact Nat.min_eq_left hs
  have h3 : (a : Int).fdiv (2 ^ s) = ((a / 2 ^ s : Nat) : Int) := by
    rw [Int.fdiv_eq_ediv_of_nonneg _ (by exact_mod_cast Nat.zero_le (2 ^ s))]
    simp
  simp only [execOp, hx, hy, eqGuard, binOp, Op.shift, Sem.run_bind]
  rw [if_neg h1, h2, h3]
  rfl
theorem ex_uand1 {t t2 : TypeId} {x y : Operand} {a : Nat} (hx : ρ x = .int .u64 (a : Int)) (hy : ρ y = .int .u64 1) (r : Nat) (hr : a % 2 = r) (ha : a < 2 ^ 64) :
    (execOp ρ ⟨d, .binOp .and t x y t2, ty0, pos, after, guard⟩).run Try.prog w = .ok (.value (.int .u64 (r : Int))) w := by
  have h := and_one_limb a 0 ha
  simp only [Nat.pow_zero, Nat.div_one, Int.pow_zero, Int.ediv_one, hr] at h
  simp only [execOp, hx, hy, eqGuard, binOp, Sem.run_bind]
  rw [← h]
  rfl
theorem ex_loadlimb {x : Operand} {t : TypeId} {g o K v : Nat} (h : SB t w g [.n K v]) (ho : o < K) (hx : ρ x = .pointer (some ⟨g, o, none⟩)) (hs : Single 24) :
    (execOp ρ ⟨d, .load 24 x, ty0, pos, after, guard⟩).run Try.prog w = .ok (.value (.int .u64 ((lb v o : Nat) : Int))) w := by
  have hv : (segs [.n K v])[o]? = some (.int .u64 ((lb v o : Nat) : Int)) := by
    have e : segs [.n K v] = cellsOf (row K v) := by
      show cellsOf (row K v) ++ [] = _
      rw [List.append_nil]
    have h1 := (show Arr t w g (row K v) from by unfold SB at h; rw [e] at h; exact h).rc o ho
    have h2 := Blk.cell h (i := o) (by rw [segs_len]; exact ho)
    rw [List.getElem?_eq_getElem (by rw [segs_len]; exact ho), ← h2, h1]
  simp [execOp, hx, run_load_one h hs hv]
theorem arFr : Ary 38 4 1 4 := by
  refine ⟨24, Try.underlying38, fun w => ?_, Try.sizeOf24⟩
  rw [zFr w, show [0] = List.replicate 1 0 from rfl, rows_zero]
theorem limb_lit4 {e : Nat} (he : e < 2 ^ 64) : nv 4 [e] = .agg #[.int .u64 e, .int .u64 0, .int .u64 0, .int .u64 0] := by
  have h : ∀ i, lb e (i + 1) = 0 := fun i => by
    rw [lb, Nat.div_eq_of_lt (Nat.lt_of_lt_of_le he (Nat.pow_le_pow_right (by omega) (by omega))), Nat.zero_mod]
  have h0 : lb e 0 = e := by rw [lb, Nat.mul_zero, Nat.pow_zero, Nat.div_one, Nat.mod_eq_of_lt he]
  rw [nv4R]
  show Value.agg #[.int .u64 ((lb e 0 : Nat) : Int), .int .u64 ((lb e 1 : Nat) : Int), .int .u64 ((lb e 2 : Nat) : Int), .int .u64 ((lb e 3 : Nat) : Int)] = _
  rw [h 0, h 1, h 2, h0]
  rfl
theorem ex_limb4 {x : Operand} {e : Nat} (he : e < 2 ^ 64) (hx : ρ x = .int .u64 (e : Int)) :
    (execOp ρ ⟨d, .build 38 #[(0, x)], ty0, pos, after, guard⟩).run Try.prog w = .ok (.value (nv 4 [e])) w := by
  rw [limb_lit4 he]
  simp [execOp, Instr.build, Instr.fill, Sem.run_bind, Value.cells, go_sem, hx]
end
theorem lb_is_bit (v q : Nat) : lb v (q / 64) / 2 ^ (q % 64) % 2 = v / 2 ^ q % 2 := by
  have h : Nat.testBit (lb v (q / 64)) (q % 64) = Nat.testBit v q := by
    rw [lb, Nat.testBit_mod_two_pow, Nat.testBit_div_two_pow, show q % 64 + 64 * (q / 64) = q by omega]
    simp [Nat.mod_lt]
  rw [Nat.testBit_eq_decide_div_mod_eq, Nat.testBit_eq_decide_div_mod_eq] at h
  have h' := of_decide_eq_true (p := (lb v (q / 64) / 2 ^ (q % 64) % 2 = 1 ↔ v / 2 ^ q % 2 = 1)) (by simpa using h)
  omega
theorem lb_top {k i : Nat} (h : k < 2 ^ (64 * (i + 1))) : lb k i = k / 2 ^ (64 * i) := by
  rw [lb]
  refine Nat.mod_eq_of_lt ?_
  rw [Nat.div_lt_iff_lt_mul (Nat.two_pow_pos _), ← Nat.pow_add]
  rwa [show 64 + 64 * i = 64 * (i + 1) by omega]
theorem lb_top_zero {k i : Nat} (h : k < 2 ^ (64 * (i + 1))) (h0 : lb k i = 0) : k < 2 ^ (64 * i) := by
  rw [lb_top h] at h0
  rcases Nat.div_eq_zero_iff.1 h0 with h | h
  · exact absurd h (Nat.ne_of_gt (Nat.two_pow_pos _))
  · exact h
theorem lt_nbits (v : Nat) : v < 2 ^ nbits v := by
  unfold nbits
  split
  · next h => rw [h]; decide
  · exact Nat.lt_log2_self
theorem lb_top_lt {k i : Nat} (h : k < 2 ^ (64 * (i + 1))) : k < 2 ^ (64 * i + nbits (lb k i)) := by
  have h1 := lt_nbits (lb k i)
  rw [lb_top h] at h1 ⊢
  rw [Nat.div_lt_iff_lt_mul (Nat.two_pow_pos _), ← Nat.pow_add] at h1
  rwa [Nat.add_comm]
theorem lb_nbits (k i : Nat) : nbits (lb k i) ≤ 64 := nbits_le (lb_lt k i)
theorem len64_is (x : Nat) (w : World) (h : x < 2 ^ 64) : Calls Try.prog 69 #[.int .u64 (x : Int)] w (Is (.int .i64 ((nbits x : Nat) : Int)) w) :=
  (len64_any x w h).mono (by
    rintro e w' ⟨rfl, rfl⟩
    exact ⟨rfl, Below.refl _ _⟩)
end Go.Proofs.Ytkkmekdhejhapaa
