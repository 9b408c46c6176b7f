/- What is proved here: the types api.Fp and api.Fp2 as rows of limbs; the calls of package fp and of its reference on them; arguments of these types are numbers; what package duo's Clean, Add, Sub, Neg, Mul, Inv and Conj and the reference's answer, by numbers; reckoning modulo p; alive. -/
import Derived.Test.YticglgegfebnjaaAgg
import Derived.Test.YticglgegfebnjaaFn5Fp
import Derived.Test.YticglgegfebnjaaFn3Fp
import Derived.Test.YticglgegfebnjaaRef3Fp
import Derived.Test.YticglgegfebnjaaPut
import Derived.OpenShut
import Derived.ChangeOld
import Derived.ProofKit
import Derived.Test.YticglgegfebnjaaPrime
namespace Go.Proofs.Yticglgegfebnjaa
open Go.RowKit

theorem flFp : Flat 24 (6 * 1) := ⟨Try.isAgg24, Try.sizeOf24⟩
theorem eqFp : EqF 24 6 2 := EqF.array Try.eqGuardType24 Try.underlying24
theorem cells0 (n : Nat) : cellsOf (List.replicate n 0) = List.replicate n (Value.int .u64 0) := by simp [cellsOf]

theorem zFp (w : World) : (zeroValue 24).run Try.prog w = .ok (lv (rows 6 [0])) w := by
  rw [Try.zeroValue24 w, show [0] = List.replicate 1 0 from rfl, rows_zero, lv, cells0]
  rfl
/-- The zeros, as they are written. -/
theorem litFp : Value.agg #[.int .u64 0, .int .u64 0, .int .u64 0, .int .u64 0, .int .u64 0, .int .u64 0] = nv 6 [0] := by
  rw [nv, show [0] = List.replicate 1 0 from rfl, rows_zero, lv, cells0]
  rfl
theorem nv6 (v : Nat) : nv 6 [v] = fpV v := by rw [nv_row, fp_cells]

theorem litOne : Value.agg #[.int .u64 1, .int .u64 0, .int .u64 0, .int .u64 0, .int .u64 0, .int .u64 0] = nv 6 [1] := by rw [nv6, fp_lit1]
theorem fpB_all1 {a : Nat} (h : a < fpB) : ∀ x ∈ [a], x < 2 ^ (64 * 6) := fun x hx => by
  rw [List.mem_singleton] at hx
  rw [hx]
  exact Nat.lt_of_lt_of_eq h fpB_eq
/-! ### the calls of package fp -/

theorem fpAdd_n (a b : Nat) (w : World) (ha : a < fpB) (hb : b < fpB) (v : Nat) (hv : v = (a + b) % pN) : Calls Try.prog 60 #[nv 6 [a], nv 6 [b]] w (Is (nv 6 [v]) w) := by rw [nv6, nv6, nv6]; exact fpAdd_v a b w ha hb v hv
theorem fpSub_n (a b : Nat) (w : World) (ha : a < fpB) (hb : b < fpB) (v : Nat) (hv : v = (a + (pN - b % pN)) % pN) : Calls Try.prog 63 #[nv 6 [a], nv 6 [b]] w (Is (nv 6 [v]) w) := by rw [nv6, nv6, nv6]; exact fpSub_v a b w ha hb v hv
theorem fpNeg_n (a : Nat) (w : World) (ha : a < fpB) (v : Nat) (hv : v = (pN - a % pN) % pN) : Calls Try.prog 36 #[nv 6 [a]] w (Is (nv 6 [v]) w) := by rw [nv6, nv6]; exact fpNeg_v a w ha v hv
theorem fpMul_n (a b : Nat) (w : World) (ha : a < fpB) (hb : b < fpB) (v : Nat) (hv : v = a * b % pN) : Calls Try.prog 59 #[nv 6 [a], nv 6 [b]] w (Is (nv 6 [v]) w) := by rw [nv6, nv6, nv6]; exact fpMul_v a b w ha hb v hv
theorem fpInv_n (a : Nat) (w : World) (ha : a < fpB) (v : Nat) (hv : v = a ^ (pN - 2) % pN) : Calls Try.prog 67 #[nv 6 [a]] w (Is (nv 6 [v]) w) := by rw [nv6, nv6]; exact fpInv_v a w ha v hv
theorem fpRight_n (a : Nat) (w : World) (ha : a < fpB) (r : Bool) (hr : r = decide (a < pN)) : Calls Try.prog 31 #[nv 6 [a]] w (Is (.bool r) w) := by rw [nv6]; exact fpRight_v a w ha r hr

theorem r4Clean_n (a : Nat) (w : World) (ha : a < fpB) (v : Nat) (hv : v = a % pN) : Calls Try.prog 27 #[nv 6 [a]] w (Is (nv 6 [v]) w) := by rw [nv6, nv6]; exact r4Clean_v a w ha v hv
theorem r4Add_n (a b : Nat) (w : World) (ha : a < pN) (hb : b < pN) (v : Nat) (hv : v = (a + b) % pN) : Calls Try.prog 29 #[nv 6 [a], nv 6 [b]] w (Is (nv 6 [v]) w) := by
  rw [nv6, nv6, nv6]
  exact r4Add_v a b w (Nat.lt_trans (Nat.add_lt_add ha hb) (by decide +kernel)) v hv
theorem r4Mul_n (a b : Nat) (w : World) (ha : a < pN) (hb : b < pN) (v : Nat) (hv : v = a * b % pN) : Calls Try.prog 28 #[nv 6 [a], nv 6 [b]] w (Is (nv 6 [v]) w) := by rw [nv6, nv6, nv6]; exact r4Mul_v a b w ha hb v hv
/-! ### closing a walk -/

/-- What is read of this type is n limbs. -/
def OpensN (ty : TypeId) (n : Nat) : Prop := ∀ {H : Type} {enc : TypeId × Value → H} {w : World} {base : Nat} {sp : Nat → Bool} {held : Bool} {fuel : Nat} {cs : List Value} {x : DataW H × List MemPlace},
  DataW.trod enc Try.prog w base sp held fuel ty cs = some x → cs.length = n ∧ ∀ i, i < n → ∃ y : Nat, y < 2 ^ 64 ∧ cs[i]? = some (.int .u64 (y : Int))

theorem opens_limb : OpensN 22 1 := fun h => by
  obtain ⟨k, rfl, _, hw⟩ := DataW.trod_int Try.underlying22 h
  have hb := Go.bounds_u64 hw
  refine ⟨rfl, fun i hi => ⟨k.toNat, by omega, ?_⟩⟩
  obtain rfl : i = 0 := by omega
  rw [Int.toNat_of_nonneg hb.1]
  rfl

theorem opens_array {ty : TypeId} {n : Nat} (hu : Try.prog.underlying ty = some (.array n 22)) (hc2 : Try.prog.cellsOf ty = n) : OpensN ty n := fun {H enc w base sp held fuel cs x} h => by
  have hc : Try.prog.cellsOf 22 = 1 := by kernel_rfl
  obtain ⟨xs, m, _, _, hl, hx, hi⟩ := DataW.trod_array hu h
  refine ⟨by omega, fun i hin => ?_⟩
  have h1 := hi i hin
  rw [hc, Nat.mul_one, List.getElem?_eq_getElem (by omega : i < xs.length)] at h1
  obtain ⟨_, h2⟩ := opens_limb h1
  obtain ⟨y, hy, he⟩ := h2 0 (by omega)
  refine ⟨y, hy, ?_⟩
  rw [List.getElem?_take_of_lt (by decide), List.getElem?_drop, Nat.add_zero] at he
  exact he

theorem limbs_of {cs : List Value} {n : Nat} (hl : cs.length = n) (h : ∀ i, i < n → ∃ y : Nat, y < 2 ^ 64 ∧ cs[i]? = some (.int .u64 (y : Int))) : ∃ xs : List Nat, xs.length = n ∧ Small xs ∧ cs = cellsOf xs := by
  induction cs generalizing n with
  | nil => exact ⟨[], by simpa using hl, (fun x hx => absurd hx List.not_mem_nil), rfl⟩
  | cons c cs ih =>
    cases n with
    | zero => simp at hl
    | succ n =>
      obtain ⟨xs, h1, h2, h3⟩ := ih (n := n) (by simpa using hl) (fun i hi => by
        obtain ⟨y, hy, he⟩ := h (i + 1) (by omega)
        exact ⟨y, hy, by simpa using he⟩)
      obtain ⟨y, hy, he⟩ := h 0 (by omega)
      have hc : c = .int .u64 (y : Int) := by simpa using he
      refine ⟨y :: xs, by simp [h1], ?_, by rw [hc, h3]; rfl⟩
      intro z hz
      rcases List.mem_cons.1 hz with rfl | hz
      · exact hy
      · exact h2 z hz

theorem rows_of {K : Nat} : ∀ (k : Nat) (xs : List Nat), xs.length = K * k → Small xs → ∃ l : List Nat, l.length = k ∧ (∀ x ∈ l, x < 2 ^ (64 * K)) ∧ rows K l = xs
  | 0, xs, hl, _ => by
    rw [Nat.mul_zero] at hl
    rw [List.length_eq_zero_iff.1 hl]
    exact ⟨[], rfl, (fun x hx => absurd hx List.not_mem_nil), rfl⟩
  | k + 1, xs, hl, hs => by
    have hlen : (xs.take K).length = K := by rw [List.length_take, hl, Nat.mul_add]; omega
    have hs1 : Small (xs.take K) := fun x hx => hs x (List.mem_of_mem_take hx)
    obtain ⟨l, h1, h2, h3⟩ := rows_of (K := K) k (xs.drop K) (by rw [List.length_drop, hl, Nat.mul_add]; omega) (fun x hx => hs x (List.mem_of_mem_drop hx))
    refine ⟨val (xs.take K) :: l, by simp [h1], ?_, ?_⟩
    · intro x hx
      rcases List.mem_cons.1 hx with rfl | hx
      · exact val_lt_of (K := K) hs1 (Nat.le_of_eq hlen)
      · exact h2 x hx
    · have := row_val hs1
      rw [hlen] at this
      rw [rows_cons, this, h3, List.take_append_drop]

theorem opens_fp : OpensN 24 6 := opens_array Try.underlying24 (by kernel_rfl)
/-- The numbers modulo p. -/
def pCl (a : Nat) : Nat := a % pN
def pAdd (a b : Nat) : Nat := (a + b) % pN
def pSub (a b : Nat) : Nat := (a + (pN - b % pN)) % pN
def pNeg (a : Nat) : Nat := (pN - a % pN) % pN
def pMul (a b : Nat) : Nat := a * b % pN
def pInv (a : Nat) : Nat := a ^ (pN - 2) % pN

theorem pCl_P (a : Nat) : pCl a < pN := fpM_mod _
theorem pSub_P (a b : Nat) : pSub a b < pN := fpM_mod _
theorem pNeg_P (a : Nat) : pNeg a < pN := fpM_mod _
theorem pInv_P (a : Nat) : pInv a < pN := fpM_mod _
theorem zero_B : 0 < fpB := fp_ltB (by decide)
/-- The inverse. -/
theorem pInv_mul {n : Nat} (h : pCl n ≠ 0) : pMul n (pInv n) = 1 := by
  have h1 := p_inv (pCl n) (by omega) (pCl_P n)
  unfold pCl at h1
  rw [← Nat.pow_mod, Nat.mod_mul_mod] at h1
  delta pMul pInv
  exact h1

theorem pCl_of {a : Nat} (h : a < pN) : pCl a = a := Nat.mod_eq_of_lt h

/-! ### norms and inverses -/

theorem ex_one {ρ : Operand → Value} {d : Option Tmp} {ty0 : TypeId} {pos : String} {after : Array Edge} {guard : Option (Nat × Bool)} {w : World} (HC : ρ (.const (.int .u64 1)) = .int .u64 1) :
    (execOp ρ ⟨d, .build 24 #[(0, .const (.int .u64 1))], ty0, pos, after, guard⟩).run Try.prog w = .ok (.value (nv 6 [1])) w := by
  rw [← litOne]
  simp [execOp, Instr.build, Instr.fill, Sem.run_bind, Value.cells, go_sem, HC]

theorem ex_zero {ρ : Operand → Value} {d : Option Tmp} {ty0 : TypeId} {pos : String} {after : Array Edge} {guard : Option (Nat × Bool)} {w : World} :
    (execOp ρ ⟨d, .build 24 #[], ty0, pos, after, guard⟩).run Try.prog w = .ok (.value (nv 6 [0])) w := by
  rw [← litFp]
  simp [execOp, Instr.build, Instr.fill, Value.cells, go_sem]
end Go.Proofs.Yticglgegfebnjaa
