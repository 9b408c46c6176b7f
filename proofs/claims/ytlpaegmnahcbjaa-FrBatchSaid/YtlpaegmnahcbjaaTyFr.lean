/- What is proved here: numbers modulo r as rows of four limbs; the calls of package fr on them; reckoning modulo r; arguments of this type are numbers. -/
import Derived.Test.YtlpaegmnahcbjaaAgg
import Derived.Test.YtlpaegmnahcbjaaFn5Fr
import Derived.Test.YtlpaegmnahcbjaaFn6Fr
import Derived.Test.YtlpaegmnahcbjaaLw1Fr
import Derived.Test.YtlpaegmnahcbjaaPrimeR
import Derived.OpenShut
import Derived.ChangeOld
import Derived.ProofKit
namespace Go.Proofs.Ytlpaegmnahcbjaa
open Go.RowKit

theorem flFr : Flat 24 (4 * 1) := ⟨Try.isAgg24, Try.sizeOf24⟩
theorem eqFr : EqF 24 4 2 := EqF.array Try.eqGuardType24 Try.underlying24
theorem cells0R (n : Nat) : cellsOf (List.replicate n 0) = List.replicate n (Value.int .u64 0) := by simp [cellsOf]

theorem zFr (w : World) : (zeroValue 24).run Try.prog w = .ok (lv (rows 4 [0])) w := by
  rw [Try.zeroValue24 w, show [0] = List.replicate 1 0 from rfl, rows_zero, lv, cells0R]
  rfl
/-- The zeros, as they are written. -/
theorem litFr : Value.agg #[.int .u64 0, .int .u64 0, .int .u64 0, .int .u64 0] = nv 4 [0] := by
  rw [nv, show [0] = List.replicate 1 0 from rfl, rows_zero, lv, cells0R]
  rfl
theorem nv4R (v : Nat) : nv 4 [v] = frV v := by rw [nv_row, fr_cells]

theorem litOneR : Value.agg #[.int .u64 1, .int .u64 0, .int .u64 0, .int .u64 0] = nv 4 [1] := by rw [nv4R, fr_lit1]
theorem frB_all1 {a : Nat} (h : a < frB) : ∀ x ∈ [a], x < 2 ^ (64 * 4) := fun x hx => by
  rw [List.mem_singleton] at hx
  rw [hx]
  exact Nat.lt_of_lt_of_eq h frB_eq
theorem frClean_n (a : Nat) (w : World) (ha : a < frB) (v : Nat) (hv : v = a % rN) : Calls Try.prog 20 #[nv 4 [a]] w (Is (nv 4 [v]) w) := by rw [nv4R, nv4R]; exact frClean_v a w ha v hv
theorem frAdd_n (a b : Nat) (w : World) (ha : a < frB) (hb : b < frB) (v : Nat) (hv : v = (a + b) % rN) : Calls Try.prog 19 #[nv 4 [a], nv 4 [b]] w (Is (nv 4 [v]) w) := by rw [nv4R, nv4R, nv4R]; exact frAdd_v a b w ha hb v hv
theorem frMul_n (a b : Nat) (w : World) (ha : a < frB) (hb : b < frB) (v : Nat) (hv : v = a * b % rN) : Calls Try.prog 50 #[nv 4 [a], nv 4 [b]] w (Is (nv 4 [v]) w) := by rw [nv4R, nv4R, nv4R]; exact frMul_v a b w ha hb v hv
theorem frInv_n (a : Nat) (w : World) (ha : a < frB) (v : Nat) (hv : v = a ^ (rN - 2) % rN) : Calls Try.prog 14 #[nv 4 [a]] w (Is (nv 4 [v]) w) := by rw [nv4R, nv4R]; exact frInv_v a w ha v hv
theorem frRight_n (a : Nat) (w : World) (ha : a < frB) (r : Bool) (hr : r = decide (a < rN)) : Calls Try.prog 16 #[nv 4 [a]] w (Is (.bool r) w) := by rw [nv4R]; exact frRight_v a w ha r hr

theorem then_nR {P : Program} {y : Code} {Q : Exit → Act → World → Prop} {a : Act} {w : World} (h : y.wp P Q a w) : Exit.then (y.wp P Q) Q .normal a w := h

theorem seq_endR {P : Program} {ops : Array Oper} {y : Code} {Q : Exit → Act → World → Prop} {a a' : Act} {w : World} (ha : a = a') (h : y.wp P Q a' w) : wpList P ops (Exit.then (y.wp P Q) Q) [] a w := by subst ha; exact h

theorem ret_cellnR {fn : Func} {tmps : Array Value} {w : World} {t ty : TypeId} {k g K : Nat} {l : List Nat} (hr : fn.results = #[.cell k ty]) (hk : tmps.getD k undef = .pointer (some ⟨g, 0, none⟩)) (h : Arr t w g (rows K l)) (hf : Flat ty (K * l.length)) :
    (results fn tmps).run Try.prog w = .ok (nv K l) w := ret_cell hr hk h (by rw [rows_len]; exact hf)

theorem ret_bothnR {fn : Func} {tmps : Array Value} {w : World} {t ty : TypeId} {k j g K : Nat} {l : List Nat} {v : Value} (hr : fn.results = #[.cell k ty, .tmp j]) (hk : tmps.getD k undef = .pointer (some ⟨g, 0, none⟩)) (hj : tmps.getD j undef = v) (h : Arr t w g (rows K l)) (hf : Flat ty (K * l.length)) :
    (results fn tmps).run Try.prog w = .ok (.tuple #[nv K l, v]) w := ret_both hr hk hj h (by rw [rows_len]; exact hf)


/-- What is read of this type is n limbs. -/
def OpensNR (ty : TypeId) (n : Nat) : Prop := ∀ {H : Type} {enc : TypeId × Value → H} {w : World} {base : Nat} {sp : Nat → Bool} {held : Bool} {fuel : Nat} {cs : List Value} {x : DataW H × List MemPlace},
  DataW.trod enc Try.prog w base sp held fuel ty cs = some x → cs.length = n ∧ ∀ i, i < n → ∃ y : Nat, y < 2 ^ 64 ∧ cs[i]? = some (.int .u64 (y : Int))

theorem opens_limbR : OpensNR 22 1 := fun h => by
  obtain ⟨k, rfl, _, hw⟩ := DataW.trod_int Try.underlying22 h
  have hb := Go.bounds_u64 hw
  refine ⟨rfl, fun i hi => ⟨k.toNat, by omega, ?_⟩⟩
  obtain rfl : i = 0 := by omega
  rw [Int.toNat_of_nonneg hb.1]
  rfl

set_option maxRecDepth 20000 in
theorem opens_arrayR {ty : TypeId} {n : Nat} (hu : Try.prog.underlying ty = some (.array n 22)) (hc2 : Try.prog.cellsOf ty = n) : OpensNR ty n := fun {H enc w base sp held fuel cs x} h => by
  have hc : Try.prog.cellsOf 22 = 1 := by kernel_rfl
  obtain ⟨xs, m, _, _, hl, hx, hi⟩ := DataW.trod_array hu h
  refine ⟨by omega, fun i hin => ?_⟩
  have h1 := hi i hin
  rw [hc, Nat.mul_one, List.getElem?_eq_getElem (by omega : i < xs.length)] at h1
  obtain ⟨_, h2⟩ := opens_limbR h1
  obtain ⟨y, hy, he⟩ := h2 0 (by omega)
  refine ⟨y, hy, ?_⟩
  rw [List.getElem?_take_of_lt (by decide), List.getElem?_drop, Nat.add_zero] at he
  exact he

theorem opens_structR {ty : TypeId} {n : Nat} {fs : List Field} (hu : Try.prog.underlying ty = some (.struct fs.toArray)) (hc : Try.prog.cellsOf ty = n)
    (hcover : ∀ i, i < n → ∃ (j : Nat) (f : Field) (m : Nat), fs[j]? = some f ∧ OpensNR f.type m ∧ Try.prog.cellsOf f.type = m ∧ f.offset ≤ i ∧ i < f.offset + m) : OpensNR ty n := fun {H enc w base sp held fuel cs x} h => by
  obtain ⟨xs, k, _, _, hl, hx, hi⟩ := DataW.trod_struct hu h
  refine ⟨by omega, fun i hin => ?_⟩
  obtain ⟨j, f, m, hj, ho, hcm, h1, h2⟩ := hcover i hin
  have h3 := hi j f (by simpa using hj)
  have hjl : j < xs.length := by
    rw [hx]
    have := (List.getElem?_eq_some_iff.1 hj).1
    simpa using this
  rw [hcm, List.getElem?_eq_getElem hjl] at h3
  obtain ⟨_, h4⟩ := ho h3
  obtain ⟨y, hy, he⟩ := h4 (i - f.offset) (by omega)
  refine ⟨y, hy, ?_⟩
  rw [List.getElem?_take_of_lt (by omega), List.getElem?_drop, show f.offset + (i - f.offset) = i by omega] at he
  exact he

theorem limbs_ofR {cs : List Value} {n : Nat} (hl : cs.length = n) (h : ∀ i, i < n → ∃ y : Nat, y < 2 ^ 64 ∧ cs[i]? = some (.int .u64 (y : Int))) : ∃ xs : List Nat, xs.length = n ∧ Small xs ∧ cs = cellsOf xs := by
  induction cs generalizing n with
  | nil => exact ⟨[], by simpa using hl, (fun x hx => absurd hx List.not_mem_nil), rfl⟩
  | cons c cs ih =>
    cases n with
    | zero => simp at hl
    | succ n =>
      obtain ⟨xs, h1, h2, h3⟩ := ih (n := n) (by simpa using hl) (fun i hi => by
        obtain ⟨y, hy, he⟩ := h (i + 1) (by omega)
        exact ⟨y, hy, by simpa using he⟩)
      obtain ⟨y, hy, he⟩ := h 0 (by omega)
      have hc : c = .int .u64 (y : Int) := by simpa using he
      refine ⟨y :: xs, by simp [h1], ?_, by rw [hc, h3]; rfl⟩
      intro z hz
      rcases List.mem_cons.1 hz with rfl | hz
      · exact hy
      · exact h2 z hz

theorem rows_ofR {K : Nat} : ∀ (k : Nat) (xs : List Nat), xs.length = K * k → Small xs → ∃ l : List Nat, l.length = k ∧ (∀ x ∈ l, x < 2 ^ (64 * K)) ∧ rows K l = xs
  | 0, xs, hl, _ => by
    rw [Nat.mul_zero] at hl
    rw [List.length_eq_zero_iff.1 hl]
    exact ⟨[], rfl, (fun x hx => absurd hx List.not_mem_nil), rfl⟩
  | k + 1, xs, hl, hs => by
    have hlen : (xs.take K).length = K := by rw [List.length_take, hl, Nat.mul_add]; omega
    have hs1 : Small (xs.take K) := fun x hx => hs x (List.mem_of_mem_take hx)
    obtain ⟨l, h1, h2, h3⟩ := rows_ofR (K := K) k (xs.drop K) (by rw [List.length_drop, hl, Nat.mul_add]; omega) (fun x hx => hs x (List.mem_of_mem_drop hx))
    refine ⟨val (xs.take K) :: l, by simp [h1], ?_, ?_⟩
    · intro x hx
      rcases List.mem_cons.1 hx with rfl | hx
      · exact val_lt_of (K := K) hs1 (Nat.le_of_eq hlen)
      · exact h2 x hx
    · have := row_val hs1
      rw [hlen] at this
      rw [rows_cons, this, h3, List.take_append_drop]

theorem open_nvR {ty : TypeId} {K k n : Nat} (ho : OpensNR ty n) (hn : n = K * k) {H : Type} {enc : TypeId × Value → H} {w : World} {base : Nat} {sp : Nat → Bool} {held : Bool} {cs : Array Value} {d : DataW H} {ps : List MemPlace}
    (hd : DataW.Trod enc Try.prog w base sp held ty (.agg cs) d ps) : ∃ l : List Nat, l.length = k ∧ (∀ x ∈ l, x < 2 ^ (64 * K)) ∧ Value.agg cs = nv K l := by
  obtain ⟨fuel, hf⟩ := hd
  obtain ⟨h1, h2⟩ := ho hf
  obtain ⟨xs, h3, h4, h5⟩ := limbs_ofR h1 h2
  obtain ⟨l, h6, h7, h8⟩ := rows_ofR k xs (by rw [h3, hn]) h4
  refine ⟨l, h6, h7, ?_⟩
  have : cs = (cellsOf xs).toArray := by
    apply Array.toList_inj.1
    exact h5
  rw [nv, lv, h8, this]

theorem opens_fr : OpensNR 24 4 := opens_arrayR Try.underlying24 (by kernel_rfl)
set_option maxRecDepth 20000 in
theorem open_fr1 {H : Type} {enc : TypeId × Value → H} {w : World} {r : Reach} {b0 base : Nat} {sp : Nat → Bool} {held : Bool} {v : Value} {d : DataW H} {ps : List MemPlace}
    (hval : Value.okWide Try.prog w r b0 24 v) (hd : DataW.Trod enc Try.prog w base sp held 24 v d ps) : ∃ a, a < frB ∧ v = nv 4 [a] := by
  simp only [Value.okWide, Try.underlying24] at hval
  obtain ⟨cs, rfl, hs, _⟩ := hval
  obtain ⟨l, h1, h2, h3⟩ := open_nvR (K := 4) (k := 1) opens_fr rfl hd
  match l, h1, h2, h3 with
  | [a], _, h2, h3 => exact ⟨a, Nat.lt_of_lt_of_eq (h2 a List.mem_cons_self) frB_eq.symm, h3⟩

/-- The numbers modulo p. -/
def pClR (a : Nat) : Nat := a % rN
def pAddR (a b : Nat) : Nat := (a + b) % rN
def pSubR (a b : Nat) : Nat := (a + (rN - b % rN)) % rN
def pNegR (a : Nat) : Nat := (rN - a % rN) % rN
def pMulR (a b : Nat) : Nat := a * b % rN
def pInvR (a : Nat) : Nat := a ^ (rN - 2) % rN

theorem pCl_PR (a : Nat) : pClR a < rN := frM_mod _
theorem pAdd_PR (a b : Nat) : pAddR a b < rN := frM_mod _
theorem pSub_PR (a b : Nat) : pSubR a b < rN := frM_mod _
theorem pNeg_PR (a : Nat) : pNegR a < rN := frM_mod _
theorem pMul_PR (a b : Nat) : pMulR a b < rN := frM_mod _
theorem pInv_PR (a : Nat) : pInvR a < rN := frM_mod _
theorem zero_PR : 0 < rN := by decide +kernel
theorem one_PR : 1 < rN := by decide +kernel
theorem pCl_BR (a : Nat) : pClR a < frB := Nat.lt_trans (pCl_PR _) frM_lt
theorem pAdd_BR (a b : Nat) : pAddR a b < frB := Nat.lt_trans (pAdd_PR _ _) frM_lt
theorem pSub_BR (a b : Nat) : pSubR a b < frB := Nat.lt_trans (pSub_PR _ _) frM_lt
theorem pNeg_BR (a : Nat) : pNegR a < frB := Nat.lt_trans (pNeg_PR _) frM_lt
theorem pMul_BR (a b : Nat) : pMulR a b < frB := Nat.lt_trans (pMul_PR _ _) frM_lt
theorem pInv_BR (a : Nat) : pInvR a < frB := Nat.lt_trans (pInv_PR _) frM_lt
theorem zero_BR : 0 < frB := fr_ltB (by decide)
theorem one_BR : 1 < frB := fr_ltB (by decide)

theorem frClean_p (a : Nat) (w : World) (ha : a < frB) : Calls Try.prog 20 #[nv 4 [a]] w (Is (nv 4 [pClR a]) w) := frClean_n a w ha _ (by delta pClR; exact Eq.refl _)
theorem frInv_p (a : Nat) (w : World) (ha : a < frB) (v : Nat) (hv : v = pInvR a) : Calls Try.prog 14 #[nv 4 [a]] w (Is (nv 4 [v]) w) := frInv_n a w ha v (by rw [hv]; delta pInvR; exact Eq.refl _)
theorem frAdd_p (a b : Nat) (w : World) (ha : a < frB) (hb : b < frB) : Calls Try.prog 19 #[nv 4 [a], nv 4 [b]] w (Is (nv 4 [pAddR a b]) w) := frAdd_n a b w ha hb _ (by delta pAddR; exact Eq.refl _)
theorem frMul_p (a b : Nat) (w : World) (ha : a < frB) (hb : b < frB) : Calls Try.prog 50 #[nv 4 [a], nv 4 [b]] w (Is (nv 4 [pMulR a b]) w) := frMul_n a b w ha hb _ (by delta pMulR; exact Eq.refl _)


/-- The number v stands for z modulo p. -/
def RepR (v : Nat) (z : Int) : Prop := ∃ k : Int, (v : Int) = z + (rN : Int) * k

theorem rep_selfR (a : Nat) : RepR a (a : Int) := ⟨0, by omega⟩

theorem rep_0R : RepR 0 0 := ⟨0, by simp⟩
theorem rep_1R : RepR 1 1 := ⟨0, by simp⟩

theorem rep_modR {a : Nat} {z : Int} (h : RepR a z) : RepR (a % rN) z := by
  obtain ⟨k, hk⟩ := h
  refine ⟨k - ((a / rN : Nat) : Int), ?_⟩
  have e : ((a % rN : Nat) : Int) = (a : Int) - (rN : Int) * ((a / rN : Nat) : Int) := by
    have := Nat.div_add_mod a rN
    generalize a / rN = q at *
    generalize a % rN = r at *
    generalize rN = M at *
    subst this
    push_cast
    grind
  rw [e, hk]
  generalize (rN : Int) = M
  grind

theorem rep_clR {a : Nat} {z : Int} (h : RepR a z) : RepR (pClR a) z := rep_modR h

theorem rep_addR {a b : Nat} {x y : Int} (h : RepR a x) (h' : RepR b y) : RepR (pAddR a b) (x + y) := by
  refine rep_modR ?_
  obtain ⟨k, hk⟩ := h
  obtain ⟨l, hl⟩ := h'
  refine ⟨k + l, ?_⟩
  push_cast
  rw [hk, hl]
  generalize (rN : Int) = M
  grind

theorem rep_mulR {a b : Nat} {x y : Int} (h : RepR a x) (h' : RepR b y) : RepR (pMulR a b) (x * y) := by
  refine rep_modR ?_
  obtain ⟨k, hk⟩ := h
  obtain ⟨l, hl⟩ := h'
  refine ⟨x * l + k * y + (rN : Int) * k * l, ?_⟩
  push_cast
  rw [hk, hl]
  generalize (rN : Int) = M
  grind

theorem rep_lessR {b : Nat} {y : Int} (h : RepR b y) : RepR (rN - b % rN) (-y) := by
  obtain ⟨k, hk⟩ := rep_modR h
  have hlt : b % rN < rN := frM_mod b
  refine ⟨1 - k, ?_⟩
  rw [Int.ofNat_sub (Nat.le_of_lt hlt), hk]
  generalize (rN : Int) = M
  grind

theorem rep_negR {a : Nat} {x : Int} (h : RepR a x) : RepR (pNegR a) (-x) := rep_modR (rep_lessR h)

theorem rep_plusR {a b : Nat} {x y : Int} (h : RepR a x) (h' : RepR b y) : RepR (a + b) (x + y) := by
  obtain ⟨k, hk⟩ := h
  obtain ⟨l, hl⟩ := h'
  refine ⟨k + l, ?_⟩
  push_cast
  rw [hk, hl]
  generalize (rN : Int) = M
  grind

theorem rep_subR {a b : Nat} {x y : Int} (h : RepR a x) (h' : RepR b y) : RepR (pSubR a b) (x - y) := by
  have := rep_modR (rep_plusR h (rep_lessR h'))
  rwa [← Int.sub_eq_add_neg] at this

theorem rep_eqR {v u : Nat} (h : v = u) {z : Int} (hr : RepR u z) : RepR v z := by rw [h]; exact hr

theorem rep_uniqR {u v : Nat} {x y : Int} (hu : u < rN) (hv : v < rN) (h : RepR u x) (h' : RepR v y) (e : x = y) : u = v := by
  obtain ⟨k, hk⟩ := h
  obtain ⟨l, hl⟩ := h'
  subst e
  have hM : (0 : Int) < (rN : Int) := by decide +kernel
  have h1 : (u : Int) < (rN : Int) := by exact_mod_cast hu
  have h2 : (v : Int) < (rN : Int) := by exact_mod_cast hv
  have h3 : (u : Int) - v = (rN : Int) * (k - l) := by
    rw [hk, hl]
    generalize (rN : Int) = M
    grind
  have hkl : k - l = 0 := by
    rcases Int.lt_trichotomy (k - l) 0 with h | h | h
    · have : (rN : Int) * (k - l) ≤ (rN : Int) * (-1) := Int.mul_le_mul_of_nonneg_left (by omega) (Int.le_of_lt hM)
      rw [← h3] at this
      omega
    · exact h
    · have : (rN : Int) * 1 ≤ (rN : Int) * (k - l) := Int.mul_le_mul_of_nonneg_left (by omega) (Int.le_of_lt hM)
      rw [← h3] at this
      omega
  rw [hkl, Int.mul_zero] at h3
  omega

/-- The inverse. -/
theorem pInv_mulR {n : Nat} (h : pClR n ≠ 0) : pMulR n (pInvR n) = 1 := by
  have h1 := r_inv (pClR n) (by omega) (pCl_PR n)
  unfold pClR at h1
  rw [← Nat.pow_mod, Nat.mod_mul_mod] at h1
  delta pMulR pInvR
  exact h1

theorem pInv_zeroR {n : Nat} (h : pClR n = 0) : pInvR n = 0 := by
  unfold pClR at h
  delta pInvR
  rw [Nat.pow_mod, h, Nat.zero_pow (by decide +kernel), Nat.zero_mod]

theorem pCl_ofR {a : Nat} (h : a < rN) : pClR a = a := Nat.mod_eq_of_lt h


theorem ex_zeroR {ρ : Operand → Value} {d : Option Tmp} {ty0 : TypeId} {pos : String} {after : Array Edge} {guard : Option (Nat × Bool)} {w : World} :
    (execOp ρ ⟨d, .build 24 #[], ty0, pos, after, guard⟩).run Try.prog w = .ok (.value (nv 4 [0])) w := by
  rw [← litFr]
  simp [execOp, Instr.build, Instr.fill, Value.cells, go_sem]

end Go.Proofs.Ytlpaegmnahcbjaa
