/- What is proved here: contracts of nat.putLimb, nat.Put and of the reference's Put: a number's bytes, the highest first; the types api.Fp and api.Fp2 as rows of limbs; the calls of package fp and of its reference on them; arguments of these types are numbers; what package duo's Clean, Add, Sub, Neg, Mul, Inv and Conj and the reference's answer, by numbers; reckoning modulo p; alive. -/
import Derived.Test.YtmhieifjmgcbkaaBytes
import Derived.Test.YtmhieifjmgcbkaaAgg
import Derived.Test.YtmhieifjmgcbkaaFn5Fp
import Derived.Test.YtmhieifjmgcbkaaFn3Fp
import Derived.Test.YtmhieifjmgcbkaaRef4Fp
import Derived.OpenShut
import Derived.ChangeOld
import Derived.ProofKit
import Derived.Test.YtmhieifjmgcbkaaPrime
namespace Go.Proofs.Ytmhieifjmgcbkaa
section
open Go.RowKit

theorem OwnBS.alloc {w : World} {base : Nat} {v : Value} {l : List UInt8} (h : OwnBS w base v l) (o : Obj) : OwnBS (w.alloc o) base v l := World.ownsRow.alloc h o
end

section
open Go.RowKit

theorem flFp : Flat 24 (6 * 1) := ⟨Try.isAgg24, Try.sizeOf24⟩
theorem flPart : Flat 57 (6 * 1) := ⟨Try.isAgg57, Try.sizeOf57⟩
theorem flFp2 : Flat 26 (6 * 2) := ⟨Try.isAgg26, Try.sizeOf26⟩

theorem fp2_fields : Try.prog.underlying 26 = some (.struct (List.toArray [⟨"A", 24, 0, false, "", "", 0⟩, ⟨"B", 24, 6, false, "", "", 48⟩])) := Try.underlying26

theorem faFp2_0 : FieldAt 26 0 0 := ⟨_, _, 5, fp2_fields, rfl, rfl, Try.sizeOf24⟩
theorem faFp2_1 : FieldAt 26 1 6 := ⟨_, _, 5, fp2_fields, rfl, rfl, Try.sizeOf24⟩

theorem eqFp : EqF 24 6 2 := EqF.array Try.eqGuardType24 Try.underlying24
theorem eqFp2 : EqF 26 12 3 := EqF.struct Try.eqGuardType26 fp2_fields Try.stoodInHeld26
  (.cons (n := 6) (m := 6) (by decide) rfl flFp eqFp (.cons (n := 6) (m := 0) (by decide) rfl flFp eqFp (.nil _)))

theorem cells0 (n : Nat) : cellsOf (List.replicate n 0) = List.replicate n (Value.int .u64 0) := by simp [cellsOf]

theorem zFp (w : World) : (zeroValue 24).run Try.prog w = .ok (lv (rows 6 [0])) w := by
  rw [Try.zeroValue24 w, show [0] = List.replicate 1 0 from rfl, rows_zero, lv, cells0]
  rfl
theorem zPart (w : World) : (zeroValue 57).run Try.prog w = .ok (lv (rows 6 [0])) w := by
  rw [Try.zeroValue57 w, show [0] = List.replicate 1 0 from rfl, rows_zero, lv, cells0]
  rfl
theorem zFp2 (w : World) : (zeroValue 26).run Try.prog w = .ok (lv (rows 6 [0, 0])) w := by
  rw [Try.zeroValue26 w, show [0, 0] = List.replicate 2 0 from rfl, rows_zero, lv, cells0]
  rfl

theorem nv6 (v : Nat) : nv 6 [v] = fpV v := by rw [nv_row, fp_cells]

theorem litOne : Value.agg #[.int .u64 1, .int .u64 0, .int .u64 0, .int .u64 0, .int .u64 0, .int .u64 0] = nv 6 [1] := by rw [nv6, fp_lit1]
theorem stFp2 : Struct 26 12 [(0, 6), (6, 6)] := by
  refine ⟨_, fp2_fields, fun w => ?_, fun w => ?_⟩
  · rw [Try.zeroValue26 w, lv, cells0]; rfl
  · simp [Sem.run_bind, Try.sizeOf24]

theorem rows_split (a b : Nat) : rows 6 [a, b] = row 6 a ++ row 6 b := by rw [rows_cons, rows_one]

theorem bdAB (a b : Nat) : Instr.fill ((List.toArray [(0, 6), (6, 6)])[·]?) (cellsOf (List.replicate 12 0)).toArray [(0, nv 6 [a]), (1, nv 6 [b])] = some (cellsOf (rows 6 [a, b])).toArray := by
  rw [nv, nv, rows_one, rows_one, fill_cons (off := 0) (n := 6) rfl (length_row 6 a) (by simp), fill_cons (off := 6) (n := 6) rfl (length_row 6 b) (by simp [length_row]), Instr.fill, rows_split]
  congr 3 <;> simp [length_row, List.take_append, List.drop_append]

theorem bdA (a : Nat) : Instr.fill ((List.toArray [(0, 6), (6, 6)])[·]?) (cellsOf (List.replicate 12 0)).toArray [(0, nv 6 [a])] = some (cellsOf (rows 6 [a, 0])).toArray := by
  rw [nv, rows_one, fill_cons (off := 0) (n := 6) rfl (length_row 6 a) (by simp), Instr.fill, rows_split, row_zero]
  congr 3

theorem bd0 : Instr.fill ((List.toArray [(0, 6), (6, 6)])[·]?) (cellsOf (List.replicate 12 0)).toArray [] = some (cellsOf (rows 6 [0, 0])).toArray := by
  rw [Instr.fill, show [0, 0] = List.replicate 2 0 from rfl, rows_zero]

theorem fpB_all1 {a : Nat} (h : a < fpB) : ∀ x ∈ [a], x < 2 ^ (64 * 6) := fun x hx => by
  rw [List.mem_singleton] at hx
  rw [hx]
  exact Nat.lt_of_lt_of_eq h fpB_eq
theorem fpB_all2 {a b : Nat} (ha : a < fpB) (hb : b < fpB) : ∀ x ∈ [a, b], x < 2 ^ (64 * 6) := fun x hx => by
  rcases List.mem_cons.1 hx with rfl | hx
  · exact Nat.lt_of_lt_of_eq ha fpB_eq
  · exact fpB_all1 hb x hx

/-! ### the calls of package fp -/

theorem fpClean_n (a : Nat) (w : World) (ha : a < fpB) (v : Nat) (hv : v = a % pN) : Calls Try.prog 59 #[nv 6 [a]] w (Is (nv 6 [v]) w) := by rw [nv6, nv6]; exact fpClean_v a w ha v hv
theorem fpAdd_n (a b : Nat) (w : World) (ha : a < fpB) (hb : b < fpB) (v : Nat) (hv : v = (a + b) % pN) : Calls Try.prog 48 #[nv 6 [a], nv 6 [b]] w (Is (nv 6 [v]) w) := by rw [nv6, nv6, nv6]; exact fpAdd_v a b w ha hb v hv
theorem fpSub_n (a b : Nat) (w : World) (ha : a < fpB) (hb : b < fpB) (v : Nat) (hv : v = (a + (pN - b % pN)) % pN) : Calls Try.prog 47 #[nv 6 [a], nv 6 [b]] w (Is (nv 6 [v]) w) := by rw [nv6, nv6, nv6]; exact fpSub_v a b w ha hb v hv
theorem fpNeg_n (a : Nat) (w : World) (ha : a < fpB) (v : Nat) (hv : v = (pN - a % pN) % pN) : Calls Try.prog 55 #[nv 6 [a]] w (Is (nv 6 [v]) w) := by rw [nv6, nv6]; exact fpNeg_v a w ha v hv
theorem fpMul_n (a b : Nat) (w : World) (ha : a < fpB) (hb : b < fpB) (v : Nat) (hv : v = a * b % pN) : Calls Try.prog 60 #[nv 6 [a], nv 6 [b]] w (Is (nv 6 [v]) w) := by rw [nv6, nv6, nv6]; exact fpMul_v a b w ha hb v hv
theorem fpInv_n (a : Nat) (w : World) (ha : a < fpB) (v : Nat) (hv : v = a ^ (pN - 2) % pN) : Calls Try.prog 70 #[nv 6 [a]] w (Is (nv 6 [v]) w) := by rw [nv6, nv6]; exact fpInv_v a w ha v hv
theorem r4Clean_n (a : Nat) (w : World) (ha : a < fpB) (v : Nat) (hv : v = a % pN) : Calls Try.prog 23 #[nv 6 [a]] w (Is (nv 6 [v]) w) := by rw [nv6, nv6]; exact r4Clean_v a w ha v hv
theorem r4Add_n (a b : Nat) (w : World) (ha : a < pN) (hb : b < pN) (v : Nat) (hv : v = (a + b) % pN) : Calls Try.prog 26 #[nv 6 [a], nv 6 [b]] w (Is (nv 6 [v]) w) := by
  rw [nv6, nv6, nv6]
  exact r4Add_v a b w (Nat.lt_trans (Nat.add_lt_add ha hb) (by decide +kernel)) v hv
theorem r4Sub_n (a b : Nat) (w : World) (ha : a < pN) (hb : b < pN) (v : Nat) (hv : v = (a + (pN - b)) % pN) : Calls Try.prog 25 #[nv 6 [a], nv 6 [b]] w (Is (nv 6 [v]) w) := by rw [nv6, nv6, nv6]; exact r4Sub_v a b w ha hb v hv
theorem r4Mul_n (a b : Nat) (w : World) (ha : a < pN) (hb : b < pN) (v : Nat) (hv : v = a * b % pN) : Calls Try.prog 24 #[nv 6 [a], nv 6 [b]] w (Is (nv 6 [v]) w) := by rw [nv6, nv6, nv6]; exact r4Mul_v a b w ha hb v hv
/-! ### closing a walk -/

theorem then_n {P : Program} {y : Code} {Q : Exit → Act → World → Prop} {a : Act} {w : World} (h : y.wp P Q a w) : Exit.then (y.wp P Q) Q .normal a w := h

theorem ret_celln {fn : Func} {tmps : Array Value} {w : World} {t ty : TypeId} {k g K : Nat} {l : List Nat} (hr : fn.results = #[.cell k ty]) (hk : tmps.getD k undef = .pointer (some ⟨g, 0, none⟩)) (h : Arr t w g (rows K l)) (hf : Flat ty (K * l.length)) :
    (results fn tmps).run Try.prog w = .ok (nv K l) w := ret_cell hr hk h (by rw [rows_len]; exact hf)

/-- What is read of this type is n limbs. -/
def OpensN (ty : TypeId) (n : Nat) : Prop := ∀ {H : Type} {enc : TypeId × Value → H} {w : World} {base : Nat} {sp : Nat → Bool} {held : Bool} {fuel : Nat} {cs : List Value} {x : DataW H × List MemPlace},
  DataW.trod enc Try.prog w base sp held fuel ty cs = some x → cs.length = n ∧ ∀ i, i < n → ∃ y : Nat, y < 2 ^ 64 ∧ cs[i]? = some (.int .u64 (y : Int))

theorem opens_limb : OpensN 22 1 := fun h => by
  obtain ⟨k, rfl, _, hw⟩ := DataW.trod_int Try.underlying22 h
  have hb := Go.bounds_u64 hw
  refine ⟨rfl, fun i hi => ⟨k.toNat, by omega, ?_⟩⟩
  obtain rfl : i = 0 := by omega
  rw [Int.toNat_of_nonneg hb.1]
  rfl

theorem opens_array {ty : TypeId} {n : Nat} (hu : Try.prog.underlying ty = some (.array n 22)) (hc2 : Try.prog.cellsOf ty = n) : OpensN ty n := fun {H enc w base sp held fuel cs x} h => by
  have hc : Try.prog.cellsOf 22 = 1 := by kernel_rfl
  obtain ⟨xs, m, _, _, hl, hx, hi⟩ := DataW.trod_array hu h
  refine ⟨by omega, fun i hin => ?_⟩
  have h1 := hi i hin
  rw [hc, Nat.mul_one, List.getElem?_eq_getElem (by omega : i < xs.length)] at h1
  obtain ⟨_, h2⟩ := opens_limb h1
  obtain ⟨y, hy, he⟩ := h2 0 (by omega)
  refine ⟨y, hy, ?_⟩
  rw [List.getElem?_take_of_lt (by decide), List.getElem?_drop, Nat.add_zero] at he
  exact he

theorem opens_struct {ty : TypeId} {n : Nat} {fs : List Field} (hu : Try.prog.underlying ty = some (.struct fs.toArray)) (hc : Try.prog.cellsOf ty = n)
    (hcover : ∀ i, i < n → ∃ (j : Nat) (f : Field) (m : Nat), fs[j]? = some f ∧ OpensN f.type m ∧ Try.prog.cellsOf f.type = m ∧ f.offset ≤ i ∧ i < f.offset + m) : OpensN ty n := fun {H enc w base sp held fuel cs x} h => by
  obtain ⟨xs, k, _, _, hl, hx, hi⟩ := DataW.trod_struct hu h
  refine ⟨by omega, fun i hin => ?_⟩
  obtain ⟨j, f, m, hj, ho, hcm, h1, h2⟩ := hcover i hin
  have h3 := hi j f (by simpa using hj)
  have hjl : j < xs.length := by
    rw [hx]
    have := (List.getElem?_eq_some_iff.1 hj).1
    simpa using this
  rw [hcm, List.getElem?_eq_getElem hjl] at h3
  obtain ⟨_, h4⟩ := ho h3
  obtain ⟨y, hy, he⟩ := h4 (i - f.offset) (by omega)
  refine ⟨y, hy, ?_⟩
  rw [List.getElem?_take_of_lt (by omega), List.getElem?_drop, show f.offset + (i - f.offset) = i by omega] at he
  exact he

theorem limbs_of {cs : List Value} {n : Nat} (hl : cs.length = n) (h : ∀ i, i < n → ∃ y : Nat, y < 2 ^ 64 ∧ cs[i]? = some (.int .u64 (y : Int))) : ∃ xs : List Nat, xs.length = n ∧ Small xs ∧ cs = cellsOf xs := by
  induction cs generalizing n with
  | nil => exact ⟨[], by simpa using hl, (fun x hx => absurd hx List.not_mem_nil), rfl⟩
  | cons c cs ih =>
    cases n with
    | zero => simp at hl
    | succ n =>
      obtain ⟨xs, h1, h2, h3⟩ := ih (n := n) (by simpa using hl) (fun i hi => by
        obtain ⟨y, hy, he⟩ := h (i + 1) (by omega)
        exact ⟨y, hy, by simpa using he⟩)
      obtain ⟨y, hy, he⟩ := h 0 (by omega)
      have hc : c = .int .u64 (y : Int) := by simpa using he
      refine ⟨y :: xs, by simp [h1], ?_, by rw [hc, h3]; rfl⟩
      intro z hz
      rcases List.mem_cons.1 hz with rfl | hz
      · exact hy
      · exact h2 z hz

theorem rows_of {K : Nat} : ∀ (k : Nat) (xs : List Nat), xs.length = K * k → Small xs → ∃ l : List Nat, l.length = k ∧ (∀ x ∈ l, x < 2 ^ (64 * K)) ∧ rows K l = xs
  | 0, xs, hl, _ => by
    rw [Nat.mul_zero] at hl
    rw [List.length_eq_zero_iff.1 hl]
    exact ⟨[], rfl, (fun x hx => absurd hx List.not_mem_nil), rfl⟩
  | k + 1, xs, hl, hs => by
    have hlen : (xs.take K).length = K := by rw [List.length_take, hl, Nat.mul_add]; omega
    have hs1 : Small (xs.take K) := fun x hx => hs x (List.mem_of_mem_take hx)
    obtain ⟨l, h1, h2, h3⟩ := rows_of (K := K) k (xs.drop K) (by rw [List.length_drop, hl, Nat.mul_add]; omega) (fun x hx => hs x (List.mem_of_mem_drop hx))
    refine ⟨val (xs.take K) :: l, by simp [h1], ?_, ?_⟩
    · intro x hx
      rcases List.mem_cons.1 hx with rfl | hx
      · exact val_lt_of (K := K) hs1 (Nat.le_of_eq hlen)
      · exact h2 x hx
    · have := row_val hs1
      rw [hlen] at this
      rw [rows_cons, this, h3, List.take_append_drop]

theorem opens_fp : OpensN 24 6 := opens_array Try.underlying24 (by kernel_rfl)
theorem opens_fp2 : OpensN 26 12 := opens_struct fp2_fields (by kernel_rfl) fun i hi => by
  rcases Nat.lt_or_ge i 6 with h | h
  · exact ⟨0, _, 6, rfl, opens_fp, by kernel_rfl, Nat.zero_le _, by simpa using h⟩
  · exact ⟨1, _, 6, rfl, opens_fp, by kernel_rfl, h, by simpa using hi⟩

/-- The numbers modulo p. -/
def pCl (a : Nat) : Nat := a % pN
def pAdd (a b : Nat) : Nat := (a + b) % pN
def pSub (a b : Nat) : Nat := (a + (pN - b % pN)) % pN
def pNeg (a : Nat) : Nat := (pN - a % pN) % pN
def pMul (a b : Nat) : Nat := a * b % pN
def pInv (a : Nat) : Nat := a ^ (pN - 2) % pN

theorem pCl_P (a : Nat) : pCl a < pN := fpM_mod _
theorem pAdd_P (a b : Nat) : pAdd a b < pN := fpM_mod _
theorem pSub_P (a b : Nat) : pSub a b < pN := fpM_mod _
theorem pNeg_P (a : Nat) : pNeg a < pN := fpM_mod _
theorem pMul_P (a b : Nat) : pMul a b < pN := fpM_mod _
theorem pInv_P (a : Nat) : pInv a < pN := fpM_mod _
theorem one_P : 1 < pN := by decide +kernel
theorem pCl_B (a : Nat) : pCl a < fpB := Nat.lt_trans (pCl_P _) fpM_lt
theorem pAdd_B (a b : Nat) : pAdd a b < fpB := Nat.lt_trans (pAdd_P _ _) fpM_lt
theorem pNeg_B (a : Nat) : pNeg a < fpB := Nat.lt_trans (pNeg_P _) fpM_lt
theorem pMul_B (a b : Nat) : pMul a b < fpB := Nat.lt_trans (pMul_P _ _) fpM_lt
theorem pInv_B (a : Nat) : pInv a < fpB := Nat.lt_trans (pInv_P _) fpM_lt
theorem zero_B : 0 < fpB := fp_ltB (by decide)
theorem fpClean_p (a : Nat) (w : World) (ha : a < fpB) : Calls Try.prog 59 #[nv 6 [a]] w (Is (nv 6 [pCl a]) w) := fpClean_n a w ha _ (by delta pCl; exact Eq.refl _)
theorem fpNeg_p (a : Nat) (w : World) (ha : a < fpB) : Calls Try.prog 55 #[nv 6 [a]] w (Is (nv 6 [pNeg a]) w) := fpNeg_n a w ha _ (by delta pNeg; exact Eq.refl _)
theorem fpInv_p (a : Nat) (w : World) (ha : a < fpB) (v : Nat) (hv : v = pInv a) : Calls Try.prog 70 #[nv 6 [a]] w (Is (nv 6 [v]) w) := fpInv_n a w ha v (by rw [hv]; delta pInv; exact Eq.refl _)
theorem fpAdd_p (a b : Nat) (w : World) (ha : a < fpB) (hb : b < fpB) : Calls Try.prog 48 #[nv 6 [a], nv 6 [b]] w (Is (nv 6 [pAdd a b]) w) := fpAdd_n a b w ha hb _ (by delta pAdd; exact Eq.refl _)
theorem fpSub_p (a b : Nat) (w : World) (ha : a < fpB) (hb : b < fpB) : Calls Try.prog 47 #[nv 6 [a], nv 6 [b]] w (Is (nv 6 [pSub a b]) w) := fpSub_n a b w ha hb _ (by delta pSub; exact Eq.refl _)
theorem fpMul_p (a b : Nat) (w : World) (ha : a < fpB) (hb : b < fpB) : Calls Try.prog 60 #[nv 6 [a], nv 6 [b]] w (Is (nv 6 [pMul a b]) w) := fpMul_n a b w ha hb _ (by delta pMul; exact Eq.refl _)

set_option maxRecDepth 20000 in
set_option maxHeartbeats 4000000 in
theorem partclean_v (a : Nat) (w : World) (ha : a < fpB) :
    Calls Try.prog 44 #[nv 6 [a]] w (Is (nv 6 [(pCl a)]) w) := by
  go_enter Try.func44, Try.ntmps44
  refine seq_lit ?_
  refine sq_new (a' := ⟨#[nv 6 [a], .pointer (some ⟨w.heap.size, 0, none⟩), undef, undef, undef], []⟩) (xs := rows 6 [a]) rfl rfl (ex_boxn (K := 6) (l := [a]) rfl) ?_
  intro w1 N1 hb1
  have HB2 := below_then (Below.refl w.heap.size w) hb1
  refine sq_new (a' := ⟨#[nv 6 [a], .pointer (some ⟨w.heap.size, 0, none⟩), .pointer (some ⟨w1.heap.size, 0, none⟩), undef, undef], []⟩) (xs := rows 6 [0]) rfl rfl (ex_alloc zPart) ?_
  intro w3 N3 hb3
  have A4 := N1.keep hb3
  have HB5 := below_then HB2 hb3
  refine seq_nil ?_
  refine seq_lit ?_
  refine sq_val (a' := ⟨#[nv 6 [a], .pointer (some ⟨w.heap.size, 0, none⟩), .pointer (some ⟨w1.heap.size, 0, none⟩), nv 6 [a], undef], []⟩) (v := nv 6 [a]) rfl rfl (ex_loadn (K := 6) (k := 0) (j := 1) (l := [a]) flPart rfl A4 rfl _ rfl) ?_
  refine sq_call (a' := ⟨#[nv 6 [a], .pointer (some ⟨w.heap.size, 0, none⟩), .pointer (some ⟨w1.heap.size, 0, none⟩), nv 6 [a], nv 6 [(pCl a)]], []⟩) (v := nv 6 [(pCl a)]) rfl rfl (ex_call (vs := [nv 6 [a]]) rfl Try.call59 rfl) (fpClean_p a _ ha) ?_
  intro w7 hb7
  have A8 := A4.keep hb7
  have A9 := N3.keep hb7
  have HB10 := below_then HB5 hb7
  refine sq_store (a' := ⟨#[nv 6 [a], .pointer (some ⟨w.heap.size, 0, none⟩), .pointer (some ⟨w1.heap.size, 0, none⟩), nv 6 [a], nv 6 [(pCl a)]], []⟩) (t := 57) (xs := rows 6 [0]) (ys := rows 6 [(pCl a)]) rfl rfl A9 (len_rows rfl) (ex_storen (K := 6) (l := [0]) (m := [(pCl a)]) flPart rfl rfl A9 rfl) ?_
  intro w11 N11 hst11 hoth11
  have A12 := hoth11 _ _ _ (Nat.ne_of_lt N1.lt) A8
  have HB13 := hst11 _ _ HB10 HB2.size
  refine seq_nil ?_
  exact wp_ret (bodyPost_ret (ret_celln (K := 6) Try.results44 rfl N11 flPart) rfl ⟨rfl, HB13⟩)

set_option maxRecDepth 20000 in
set_option maxHeartbeats 4000000 in
theorem partneg_v (a : Nat) (w : World) (ha : a < fpB) :
    Calls Try.prog 35 #[nv 6 [a]] w (Is (nv 6 [(pNeg a)]) w) := by
  go_enter Try.func35, Try.ntmps35
  refine seq_lit ?_
  refine sq_new (a' := ⟨#[nv 6 [a], .pointer (some ⟨w.heap.size, 0, none⟩), undef, undef, undef], []⟩) (xs := rows 6 [a]) rfl rfl (ex_boxn (K := 6) (l := [a]) rfl) ?_
  intro w1 N1 hb1
  have HB2 := below_then (Below.refl w.heap.size w) hb1
  refine sq_new (a' := ⟨#[nv 6 [a], .pointer (some ⟨w.heap.size, 0, none⟩), .pointer (some ⟨w1.heap.size, 0, none⟩), undef, undef], []⟩) (xs := rows 6 [0]) rfl rfl (ex_alloc zPart) ?_
  intro w3 N3 hb3
  have A4 := N1.keep hb3
  have HB5 := below_then HB2 hb3
  refine seq_nil ?_
  refine seq_lit ?_
  refine sq_val (a' := ⟨#[nv 6 [a], .pointer (some ⟨w.heap.size, 0, none⟩), .pointer (some ⟨w1.heap.size, 0, none⟩), nv 6 [a], undef], []⟩) (v := nv 6 [a]) rfl rfl (ex_loadn (K := 6) (k := 0) (j := 1) (l := [a]) flPart rfl A4 rfl _ rfl) ?_
  refine sq_call (a' := ⟨#[nv 6 [a], .pointer (some ⟨w.heap.size, 0, none⟩), .pointer (some ⟨w1.heap.size, 0, none⟩), nv 6 [a], nv 6 [(pNeg a)]], []⟩) (v := nv 6 [(pNeg a)]) rfl rfl (ex_call (vs := [nv 6 [a]]) rfl Try.call55 rfl) (fpNeg_p a _ ha) ?_
  intro w7 hb7
  have A8 := A4.keep hb7
  have A9 := N3.keep hb7
  have HB10 := below_then HB5 hb7
  refine sq_store (a' := ⟨#[nv 6 [a], .pointer (some ⟨w.heap.size, 0, none⟩), .pointer (some ⟨w1.heap.size, 0, none⟩), nv 6 [a], nv 6 [(pNeg a)]], []⟩) (t := 57) (xs := rows 6 [0]) (ys := rows 6 [(pNeg a)]) rfl rfl A9 (len_rows rfl) (ex_storen (K := 6) (l := [0]) (m := [(pNeg a)]) flPart rfl rfl A9 rfl) ?_
  intro w11 N11 hst11 hoth11
  have A12 := hoth11 _ _ _ (Nat.ne_of_lt N1.lt) A8
  have HB13 := hst11 _ _ HB10 HB2.size
  refine seq_nil ?_
  exact wp_ret (bodyPost_ret (ret_celln (K := 6) Try.results35 rfl N11 flPart) rfl ⟨rfl, HB13⟩)

set_option maxRecDepth 20000 in
set_option maxHeartbeats 4000000 in
theorem partplus_v (a b : Nat) (w : World) (ha : a < fpB) (hb : b < fpB) :
    Calls Try.prog 49 #[nv 6 [a], nv 6 [b]] w (Is (nv 6 [(pAdd a b)]) w) := by
  go_enter Try.func49, Try.ntmps49
  refine seq_lit ?_
  refine sq_new (a' := ⟨#[nv 6 [a], nv 6 [b], .pointer (some ⟨w.heap.size, 0, none⟩), undef, undef, undef, undef, undef], []⟩) (xs := rows 6 [a]) rfl rfl (ex_boxn (K := 6) (l := [a]) rfl) ?_
  intro w1 N1 hb1
  have HB2 := below_then (Below.refl w.heap.size w) hb1
  refine sq_new (a' := ⟨#[nv 6 [a], nv 6 [b], .pointer (some ⟨w.heap.size, 0, none⟩), .pointer (some ⟨w1.heap.size, 0, none⟩), undef, undef, undef, undef], []⟩) (xs := rows 6 [b]) rfl rfl (ex_boxn (K := 6) (l := [b]) rfl) ?_
  intro w3 N3 hb3
  have A4 := N1.keep hb3
  have HB5 := below_then HB2 hb3
  refine sq_new (a' := ⟨#[nv 6 [a], nv 6 [b], .pointer (some ⟨w.heap.size, 0, none⟩), .pointer (some ⟨w1.heap.size, 0, none⟩), .pointer (some ⟨w3.heap.size, 0, none⟩), undef, undef, undef], []⟩) (xs := rows 6 [0]) rfl rfl (ex_alloc zPart) ?_
  intro w7 N7 hb7
  have A8 := A4.keep hb7
  have A9 := N3.keep hb7
  have HB10 := below_then HB5 hb7
  refine seq_nil ?_
  refine seq_lit ?_
  refine sq_val (a' := ⟨#[nv 6 [a], nv 6 [b], .pointer (some ⟨w.heap.size, 0, none⟩), .pointer (some ⟨w1.heap.size, 0, none⟩), .pointer (some ⟨w3.heap.size, 0, none⟩), nv 6 [a], undef, undef], []⟩) (v := nv 6 [a]) rfl rfl (ex_loadn (K := 6) (k := 0) (j := 1) (l := [a]) flPart rfl A8 rfl _ rfl) ?_
  refine sq_val (a' := ⟨#[nv 6 [a], nv 6 [b], .pointer (some ⟨w.heap.size, 0, none⟩), .pointer (some ⟨w1.heap.size, 0, none⟩), .pointer (some ⟨w3.heap.size, 0, none⟩), nv 6 [a], nv 6 [b], undef], []⟩) (v := nv 6 [b]) rfl rfl (ex_loadn (K := 6) (k := 0) (j := 1) (l := [b]) flPart rfl A9 rfl _ rfl) ?_
  refine sq_call (a' := ⟨#[nv 6 [a], nv 6 [b], .pointer (some ⟨w.heap.size, 0, none⟩), .pointer (some ⟨w1.heap.size, 0, none⟩), .pointer (some ⟨w3.heap.size, 0, none⟩), nv 6 [a], nv 6 [b], nv 6 [(pAdd a b)]], []⟩) (v := nv 6 [(pAdd a b)]) rfl rfl (ex_call (vs := [nv 6 [a], nv 6 [b]]) rfl Try.call48 rfl) (fpAdd_p a b _ ha hb) ?_
  intro w13 hb13
  have A14 := A8.keep hb13
  have A15 := A9.keep hb13
  have A16 := N7.keep hb13
  have HB17 := below_then HB10 hb13
  refine sq_store (a' := ⟨#[nv 6 [a], nv 6 [b], .pointer (some ⟨w.heap.size, 0, none⟩), .pointer (some ⟨w1.heap.size, 0, none⟩), .pointer (some ⟨w3.heap.size, 0, none⟩), nv 6 [a], nv 6 [b], nv 6 [(pAdd a b)]], []⟩) (t := 57) (xs := rows 6 [0]) (ys := rows 6 [(pAdd a b)]) rfl rfl A16 (len_rows rfl) (ex_storen (K := 6) (l := [0]) (m := [(pAdd a b)]) flPart rfl rfl A16 rfl) ?_
  intro w18 N18 hst18 hoth18
  have A19 := hoth18 _ _ _ (Nat.ne_of_lt A4.lt) A14
  have A20 := hoth18 _ _ _ (Nat.ne_of_lt N3.lt) A15
  have HB21 := hst18 _ _ HB17 HB5.size
  refine seq_nil ?_
  exact wp_ret (bodyPost_ret (ret_celln (K := 6) Try.results49 rfl N18 flPart) rfl ⟨rfl, HB21⟩)

set_option maxRecDepth 20000 in
set_option maxHeartbeats 4000000 in
theorem partminus_v (a b : Nat) (w : World) (ha : a < fpB) (hb : b < fpB) :
    Calls Try.prog 72 #[nv 6 [a], nv 6 [b]] w (Is (nv 6 [(pSub a b)]) w) := by
  go_enter Try.func72, Try.ntmps72
  refine seq_lit ?_
  refine sq_new (a' := ⟨#[nv 6 [a], nv 6 [b], .pointer (some ⟨w.heap.size, 0, none⟩), undef, undef, undef, undef, undef], []⟩) (xs := rows 6 [a]) rfl rfl (ex_boxn (K := 6) (l := [a]) rfl) ?_
  intro w1 N1 hb1
  have HB2 := below_then (Below.refl w.heap.size w) hb1
  refine sq_new (a' := ⟨#[nv 6 [a], nv 6 [b], .pointer (some ⟨w.heap.size, 0, none⟩), .pointer (some ⟨w1.heap.size, 0, none⟩), undef, undef, undef, undef], []⟩) (xs := rows 6 [b]) rfl rfl (ex_boxn (K := 6) (l := [b]) rfl) ?_
  intro w3 N3 hb3
  have A4 := N1.keep hb3
  have HB5 := below_then HB2 hb3
  refine sq_new (a' := ⟨#[nv 6 [a], nv 6 [b], .pointer (some ⟨w.heap.size, 0, none⟩), .pointer (some ⟨w1.heap.size, 0, none⟩), .pointer (some ⟨w3.heap.size, 0, none⟩), undef, undef, undef], []⟩) (xs := rows 6 [0]) rfl rfl (ex_alloc zPart) ?_
  intro w7 N7 hb7
  have A8 := A4.keep hb7
  have A9 := N3.keep hb7
  have HB10 := below_then HB5 hb7
  refine seq_nil ?_
  refine seq_lit ?_
  refine sq_val (a' := ⟨#[nv 6 [a], nv 6 [b], .pointer (some ⟨w.heap.size, 0, none⟩), .pointer (some ⟨w1.heap.size, 0, none⟩), .pointer (some ⟨w3.heap.size, 0, none⟩), nv 6 [a], undef, undef], []⟩) (v := nv 6 [a]) rfl rfl (ex_loadn (K := 6) (k := 0) (j := 1) (l := [a]) flPart rfl A8 rfl _ rfl) ?_
  refine sq_val (a' := ⟨#[nv 6 [a], nv 6 [b], .pointer (some ⟨w.heap.size, 0, none⟩), .pointer (some ⟨w1.heap.size, 0, none⟩), .pointer (some ⟨w3.heap.size, 0, none⟩), nv 6 [a], nv 6 [b], undef], []⟩) (v := nv 6 [b]) rfl rfl (ex_loadn (K := 6) (k := 0) (j := 1) (l := [b]) flPart rfl A9 rfl _ rfl) ?_
  refine sq_call (a' := ⟨#[nv 6 [a], nv 6 [b], .pointer (some ⟨w.heap.size, 0, none⟩), .pointer (some ⟨w1.heap.size, 0, none⟩), .pointer (some ⟨w3.heap.size, 0, none⟩), nv 6 [a], nv 6 [b], nv 6 [(pSub a b)]], []⟩) (v := nv 6 [(pSub a b)]) rfl rfl (ex_call (vs := [nv 6 [a], nv 6 [b]]) rfl Try.call47 rfl) (fpSub_p a b _ ha hb) ?_
  intro w13 hb13
  have A14 := A8.keep hb13
  have A15 := A9.keep hb13
  have A16 := N7.keep hb13
  have HB17 := below_then HB10 hb13
  refine sq_store (a' := ⟨#[nv 6 [a], nv 6 [b], .pointer (some ⟨w.heap.size, 0, none⟩), .pointer (some ⟨w1.heap.size, 0, none⟩), .pointer (some ⟨w3.heap.size, 0, none⟩), nv 6 [a], nv 6 [b], nv 6 [(pSub a b)]], []⟩) (t := 57) (xs := rows 6 [0]) (ys := rows 6 [(pSub a b)]) rfl rfl A16 (len_rows rfl) (ex_storen (K := 6) (l := [0]) (m := [(pSub a b)]) flPart rfl rfl A16 rfl) ?_
  intro w18 N18 hst18 hoth18
  have A19 := hoth18 _ _ _ (Nat.ne_of_lt A4.lt) A14
  have A20 := hoth18 _ _ _ (Nat.ne_of_lt N3.lt) A15
  have HB21 := hst18 _ _ HB17 HB5.size
  refine seq_nil ?_
  exact wp_ret (bodyPost_ret (ret_celln (K := 6) Try.results72 rfl N18 flPart) rfl ⟨rfl, HB21⟩)

set_option maxRecDepth 20000 in
set_option maxHeartbeats 4000000 in
theorem parttimes_v (a b : Nat) (w : World) (ha : a < fpB) (hb : b < fpB) :
    Calls Try.prog 46 #[nv 6 [a], nv 6 [b]] w (Is (nv 6 [(pMul a b)]) w) := by
  go_enter Try.func46, Try.ntmps46
  refine seq_lit ?_
  refine sq_new (a' := ⟨#[nv 6 [a], nv 6 [b], .pointer (some ⟨w.heap.size, 0, none⟩), undef, undef, undef, undef, undef], []⟩) (xs := rows 6 [a]) rfl rfl (ex_boxn (K := 6) (l := [a]) rfl) ?_
  intro w1 N1 hb1
  have HB2 := below_then (Below.refl w.heap.size w) hb1
  refine sq_new (a' := ⟨#[nv 6 [a], nv 6 [b], .pointer (some ⟨w.heap.size, 0, none⟩), .pointer (some ⟨w1.heap.size, 0, none⟩), undef, undef, undef, undef], []⟩) (xs := rows 6 [b]) rfl rfl (ex_boxn (K := 6) (l := [b]) rfl) ?_
  intro w3 N3 hb3
  have A4 := N1.keep hb3
  have HB5 := below_then HB2 hb3
  refine sq_new (a' := ⟨#[nv 6 [a], nv 6 [b], .pointer (some ⟨w.heap.size, 0, none⟩), .pointer (some ⟨w1.heap.size, 0, none⟩), .pointer (some ⟨w3.heap.size, 0, none⟩), undef, undef, undef], []⟩) (xs := rows 6 [0]) rfl rfl (ex_alloc zPart) ?_
  intro w7 N7 hb7
  have A8 := A4.keep hb7
  have A9 := N3.keep hb7
  have HB10 := below_then HB5 hb7
  refine seq_nil ?_
  refine seq_lit ?_
  refine sq_val (a' := ⟨#[nv 6 [a], nv 6 [b], .pointer (some ⟨w.heap.size, 0, none⟩), .pointer (some ⟨w1.heap.size, 0, none⟩), .pointer (some ⟨w3.heap.size, 0, none⟩), nv 6 [a], undef, undef], []⟩) (v := nv 6 [a]) rfl rfl (ex_loadn (K := 6) (k := 0) (j := 1) (l := [a]) flPart rfl A8 rfl _ rfl) ?_
  refine sq_val (a' := ⟨#[nv 6 [a], nv 6 [b], .pointer (some ⟨w.heap.size, 0, none⟩), .pointer (some ⟨w1.heap.size, 0, none⟩), .pointer (some ⟨w3.heap.size, 0, none⟩), nv 6 [a], nv 6 [b], undef], []⟩) (v := nv 6 [b]) rfl rfl (ex_loadn (K := 6) (k := 0) (j := 1) (l := [b]) flPart rfl A9 rfl _ rfl) ?_
  refine sq_call (a' := ⟨#[nv 6 [a], nv 6 [b], .pointer (some ⟨w.heap.size, 0, none⟩), .pointer (some ⟨w1.heap.size, 0, none⟩), .pointer (some ⟨w3.heap.size, 0, none⟩), nv 6 [a], nv 6 [b], nv 6 [(pMul a b)]], []⟩) (v := nv 6 [(pMul a b)]) rfl rfl (ex_call (vs := [nv 6 [a], nv 6 [b]]) rfl Try.call60 rfl) (fpMul_p a b _ ha hb) ?_
  intro w13 hb13
  have A14 := A8.keep hb13
  have A15 := A9.keep hb13
  have A16 := N7.keep hb13
  have HB17 := below_then HB10 hb13
  refine sq_store (a' := ⟨#[nv 6 [a], nv 6 [b], .pointer (some ⟨w.heap.size, 0, none⟩), .pointer (some ⟨w1.heap.size, 0, none⟩), .pointer (some ⟨w3.heap.size, 0, none⟩), nv 6 [a], nv 6 [b], nv 6 [(pMul a b)]], []⟩) (t := 57) (xs := rows 6 [0]) (ys := rows 6 [(pMul a b)]) rfl rfl A16 (len_rows rfl) (ex_storen (K := 6) (l := [0]) (m := [(pMul a b)]) flPart rfl rfl A16 rfl) ?_
  intro w18 N18 hst18 hoth18
  have A19 := hoth18 _ _ _ (Nat.ne_of_lt A4.lt) A14
  have A20 := hoth18 _ _ _ (Nat.ne_of_lt N3.lt) A15
  have HB21 := hst18 _ _ HB17 HB5.size
  refine seq_nil ?_
  exact wp_ret (bodyPost_ret (ret_celln (K := 6) Try.results46 rfl N18 flPart) rfl ⟨rfl, HB21⟩)

set_option maxRecDepth 20000 in
set_option maxHeartbeats 4000000 in
theorem both_v (f : FuncId) (hf : ∀ (args : Array Value) (w : World), (callFunc f args).run Try.prog w = .ok (.enter f args) w) (g : Nat → Nat) (hg : ∀ (x : Nat) (w : World), x < fpB → Calls Try.prog f #[nv 6 [x]] w (Is (nv 6 [g x]) w)) (a b : Nat) (w : World) (ha : a < fpB) (hb : b < fpB) :
    Calls Try.prog 34 #[nv 6 [a, b], .func (.func f) #[] #[]] w (Is (nv 6 [(g a), (g b)]) w) := by
  go_enter Try.func34, Try.ntmps34
  refine seq_lit ?_
  refine sq_new (a' := ⟨#[nv 6 [a, b], .func (.func f) #[] #[], .pointer (some ⟨w.heap.size, 0, none⟩), undef, undef, undef, undef, undef, undef, undef, undef, undef, undef, undef], []⟩) (xs := rows 6 [a, b]) rfl rfl (ex_boxn (K := 6) (l := [a, b]) rfl) ?_
  intro w1 N1 hb1
  have HB2 := below_then (Below.refl w.heap.size w) hb1
  refine sq_new (a' := ⟨#[nv 6 [a, b], .func (.func f) #[] #[], .pointer (some ⟨w.heap.size, 0, none⟩), undef, .pointer (some ⟨w1.heap.size, 0, none⟩), undef, undef, undef, undef, undef, undef, undef, undef, undef], []⟩) (xs := rows 6 [0, 0]) rfl rfl (ex_alloc zFp2) ?_
  intro w3 N3 hb3
  have A4 := N1.keep hb3
  have HB5 := below_then HB2 hb3
  refine seq_nil ?_
  refine wp_seq (wp_region_last (F := ⟨#[nv 6 [a, b], .func (.func f) #[] #[], .pointer (some ⟨w.heap.size, 0, none⟩), undef, .pointer (some ⟨w1.heap.size, 0, none⟩), .func (.func f) #[] #[], .pointer (some ⟨w.heap.size, 0, none⟩), nv 6 [a], nv 6 [(g a)], .func (.func f) #[] #[], .pointer (some ⟨w.heap.size, 6, none⟩), nv 6 [b], nv 6 [(g b)], nv 6 [(g a), (g b)]], []⟩) (S := Bel w3) [(5, .func (.func f) #[] #[]), (6, .pointer (some ⟨w.heap.size, 0, none⟩)), (7, nv 6 [a]), (8, nv 6 [(g a)]), (9, .func (.func f) #[] #[]), (10, .pointer (some ⟨w.heap.size, 6, none⟩)), (11, nv 6 [b]), (12, nv 6 [(g b)]), (13, nv 6 [(g a), (g b)])] 9 _ (by kernel_rfl) (by kernel_rfl) (by kernel_rfl) (by kernel_rfl) rfl rfl (by kernel_rfl) rfl (by simp only [putAll, List.setIfInBounds_toArray, List.set_cons_zero, List.set_cons_succ]) (Bel.start _) ?_ ?_)
  · refine PlanInit.cons (ps_val (v := .func (.func f) #[] #[]) rfl rfl rfl (fun W' h => ex_move _)) ?_
    refine PlanInit.cons (ps_val (v := .pointer (some ⟨w.heap.size, 0, none⟩)) rfl rfl rfl (fun W' h => ex_field faFp2_0 rfl)) ?_
    refine PlanInit.cons (ps_val (v := nv 6 [a]) rfl rfl rfl (fun W' h => ex_loadn (K := 6) (k := 0) (j := 1) (l := [a, b]) flFp rfl (A4.keep h.out) rfl _ rfl)) ?_
    refine PlanInit.cons (ps_call (v := nv 6 [(g a)]) rfl rfl rfl (fun W' => ex_call (vs := [nv 6 [a]]) rfl hf rfl) (fun W' h => hg a _ ha)) ?_
    refine PlanInit.cons (ps_val (v := .func (.func f) #[] #[]) rfl rfl rfl (fun W' h => ex_move _)) ?_
    refine PlanInit.cons (ps_val (v := .pointer (some ⟨w.heap.size, 6, none⟩)) rfl rfl rfl (fun W' h => ex_field faFp2_1 rfl)) ?_
    refine PlanInit.cons (ps_val (v := nv 6 [b]) rfl rfl rfl (fun W' h => ex_loadn (K := 6) (k := 1) (j := 1) (l := [a, b]) flFp rfl (A4.keep h.out) rfl _ rfl)) ?_
    refine PlanInit.cons (ps_call (v := nv 6 [(g b)]) rfl rfl rfl (fun W' => ex_call (vs := [nv 6 [b]]) rfl hf rfl) (fun W' h => hg b _ hb)) ?_
    refine PlanInit.cons (ps_val (v := nv 6 [(g a), (g b)]) rfl rfl rfl (fun W' h => ex_build stFp2 (vs := [(0, nv 6 [(g a)]), (1, nv 6 [(g b)])]) rfl (bdAB (g a) (g b)))) ?_
    exact PlanInit.one
  refine last_store (t := 26) (xs := rows 6 [0, 0]) (ys := rows 6 [(g a), (g b)]) rfl rfl (fun W' h => N3.keep h.out) (len_rows rfl) (fun W' h => ex_storen (K := 6) (l := [0, 0]) (m := [(g a), (g b)]) flFp2 rfl rfl (N3.keep h.out) rfl) ?_
  intro w7 w8 hb7 N8 hst8 hoth8
  refine then_n ?_
  have A9 := A4.keep hb7.out
  have A10 := N3.keep hb7.out
  have HB11 := below_then HB5 hb7.out
  have A12 := hoth8 _ _ _ (Nat.ne_of_lt N1.lt) A9
  have HB13 := hst8 _ _ HB11 HB2.size
  exact wp_ret (bodyPost_ret (ret_celln (K := 6) Try.results34 rfl N8 flFp2) rfl ⟨rfl, HB13⟩)

set_option maxRecDepth 20000 in
set_option maxHeartbeats 4000000 in
theorem pairwise_v (f : FuncId) (hf : ∀ (args : Array Value) (w : World), (callFunc f args).run Try.prog w = .ok (.enter f args) w) (g : Nat → Nat → Nat) (hg : ∀ (x y : Nat) (w : World), x < fpB → y < fpB → Calls Try.prog f #[nv 6 [x], nv 6 [y]] w (Is (nv 6 [g x y]) w)) (a b c d : Nat) (w : World) (ha : a < fpB) (hb : b < fpB) (hc : c < fpB) (hd : d < fpB) :
    Calls Try.prog 45 #[nv 6 [a, b], nv 6 [c, d], .func (.func f) #[] #[]] w (Is (nv 6 [(g a c), (g b d)]) w) := by
  go_enter Try.func45, Try.ntmps45
  refine seq_lit ?_
  refine sq_new (a' := ⟨#[nv 6 [a, b], nv 6 [c, d], .func (.func f) #[] #[], .pointer (some ⟨w.heap.size, 0, none⟩), undef, undef, undef, undef, undef, undef, undef, undef, undef, undef, undef, undef, undef, undef, undef, undef], []⟩) (xs := rows 6 [a, b]) rfl rfl (ex_boxn (K := 6) (l := [a, b]) rfl) ?_
  intro w1 N1 hb1
  have HB2 := below_then (Below.refl w.heap.size w) hb1
  refine sq_new (a' := ⟨#[nv 6 [a, b], nv 6 [c, d], .func (.func f) #[] #[], .pointer (some ⟨w.heap.size, 0, none⟩), .pointer (some ⟨w1.heap.size, 0, none⟩), undef, undef, undef, undef, undef, undef, undef, undef, undef, undef, undef, undef, undef, undef, undef], []⟩) (xs := rows 6 [c, d]) rfl rfl (ex_boxn (K := 6) (l := [c, d]) rfl) ?_
  intro w3 N3 hb3
  have A4 := N1.keep hb3
  have HB5 := below_then HB2 hb3
  refine sq_new (a' := ⟨#[nv 6 [a, b], nv 6 [c, d], .func (.func f) #[] #[], .pointer (some ⟨w.heap.size, 0, none⟩), .pointer (some ⟨w1.heap.size, 0, none⟩), undef, .pointer (some ⟨w3.heap.size, 0, none⟩), undef, undef, undef, undef, undef, undef, undef, undef, undef, undef, undef, undef, undef], []⟩) (xs := rows 6 [0, 0]) rfl rfl (ex_alloc zFp2) ?_
  intro w7 N7 hb7
  have A8 := A4.keep hb7
  have A9 := N3.keep hb7
  have HB10 := below_then HB5 hb7
  refine seq_nil ?_
  refine wp_seq (wp_region_last (F := ⟨#[nv 6 [a, b], nv 6 [c, d], .func (.func f) #[] #[], .pointer (some ⟨w.heap.size, 0, none⟩), .pointer (some ⟨w1.heap.size, 0, none⟩), undef, .pointer (some ⟨w3.heap.size, 0, none⟩), .func (.func f) #[] #[], .pointer (some ⟨w.heap.size, 0, none⟩), nv 6 [a], .pointer (some ⟨w1.heap.size, 0, none⟩), nv 6 [c], nv 6 [(g a c)], .func (.func f) #[] #[], .pointer (some ⟨w.heap.size, 6, none⟩), nv 6 [b], .pointer (some ⟨w1.heap.size, 6, none⟩), nv 6 [d], nv 6 [(g b d)], nv 6 [(g a c), (g b d)]], []⟩) (S := Bel w7) [(7, .func (.func f) #[] #[]), (8, .pointer (some ⟨w.heap.size, 0, none⟩)), (9, nv 6 [a]), (10, .pointer (some ⟨w1.heap.size, 0, none⟩)), (11, nv 6 [c]), (12, nv 6 [(g a c)]), (13, .func (.func f) #[] #[]), (14, .pointer (some ⟨w.heap.size, 6, none⟩)), (15, nv 6 [b]), (16, .pointer (some ⟨w1.heap.size, 6, none⟩)), (17, nv 6 [d]), (18, nv 6 [(g b d)]), (19, nv 6 [(g a c), (g b d)])] 13 _ (by kernel_rfl) (by kernel_rfl) (by kernel_rfl) (by kernel_rfl) rfl rfl (by kernel_rfl) rfl (by simp only [putAll, List.setIfInBounds_toArray, List.set_cons_zero, List.set_cons_succ]) (Bel.start _) ?_ ?_)
  · refine PlanInit.cons (ps_val (v := .func (.func f) #[] #[]) rfl rfl rfl (fun W' h => ex_move _)) ?_
    refine PlanInit.cons (ps_val (v := .pointer (some ⟨w.heap.size, 0, none⟩)) rfl rfl rfl (fun W' h => ex_field faFp2_0 rfl)) ?_
    refine PlanInit.cons (ps_val (v := nv 6 [a]) rfl rfl rfl (fun W' h => ex_loadn (K := 6) (k := 0) (j := 1) (l := [a, b]) flFp rfl (A8.keep h.out) rfl _ rfl)) ?_
    refine PlanInit.cons (ps_val (v := .pointer (some ⟨w1.heap.size, 0, none⟩)) rfl rfl rfl (fun W' h => ex_field faFp2_0 rfl)) ?_
    refine PlanInit.cons (ps_val (v := nv 6 [c]) rfl rfl rfl (fun W' h => ex_loadn (K := 6) (k := 0) (j := 1) (l := [c, d]) flFp rfl (A9.keep h.out) rfl _ rfl)) ?_
    refine PlanInit.cons (ps_call (v := nv 6 [(g a c)]) rfl rfl rfl (fun W' => ex_call (vs := [nv 6 [a], nv 6 [c]]) rfl hf rfl) (fun W' h => hg a c _ ha hc)) ?_
    refine PlanInit.cons (ps_val (v := .func (.func f) #[] #[]) rfl rfl rfl (fun W' h => ex_move _)) ?_
    refine PlanInit.cons (ps_val (v := .pointer (some ⟨w.heap.size, 6, none⟩)) rfl rfl rfl (fun W' h => ex_field faFp2_1 rfl)) ?_
    refine PlanInit.cons (ps_val (v := nv 6 [b]) rfl rfl rfl (fun W' h => ex_loadn (K := 6) (k := 1) (j := 1) (l := [a, b]) flFp rfl (A8.keep h.out) rfl _ rfl)) ?_
    refine PlanInit.cons (ps_val (v := .pointer (some ⟨w1.heap.size, 6, none⟩)) rfl rfl rfl (fun W' h => ex_field faFp2_1 rfl)) ?_
    refine PlanInit.cons (ps_val (v := nv 6 [d]) rfl rfl rfl (fun W' h => ex_loadn (K := 6) (k := 1) (j := 1) (l := [c, d]) flFp rfl (A9.keep h.out) rfl _ rfl)) ?_
    refine PlanInit.cons (ps_call (v := nv 6 [(g b d)]) rfl rfl rfl (fun W' => ex_call (vs := [nv 6 [b], nv 6 [d]]) rfl hf rfl) (fun W' h => hg b d _ hb hd)) ?_
    refine PlanInit.cons (ps_val (v := nv 6 [(g a c), (g b d)]) rfl rfl rfl (fun W' h => ex_build stFp2 (vs := [(0, nv 6 [(g a c)]), (1, nv 6 [(g b d)])]) rfl (bdAB (g a c) (g b d)))) ?_
    exact PlanInit.one
  refine last_store (t := 26) (xs := rows 6 [0, 0]) (ys := rows 6 [(g a c), (g b d)]) rfl rfl (fun W' h => N7.keep h.out) (len_rows rfl) (fun W' h => ex_storen (K := 6) (l := [0, 0]) (m := [(g a c), (g b d)]) flFp2 rfl rfl (N7.keep h.out) rfl) ?_
  intro w13 w14 hb13 N14 hst14 hoth14
  refine then_n ?_
  have A15 := A8.keep hb13.out
  have A16 := A9.keep hb13.out
  have A17 := N7.keep hb13.out
  have HB18 := below_then HB10 hb13.out
  have A19 := hoth14 _ _ _ (Nat.ne_of_lt A4.lt) A15
  have A20 := hoth14 _ _ _ (Nat.ne_of_lt N3.lt) A16
  have HB21 := hst14 _ _ HB18 HB5.size
  exact wp_ret (bodyPost_ret (ret_celln (K := 6) Try.results45 rfl N14 flFp2) rfl ⟨rfl, HB21⟩)

set_option maxRecDepth 20000 in
set_option maxHeartbeats 4000000 in
theorem duoClean_v (a b : Nat) (w : World) (ha : a < fpB) (hb : b < fpB) :
    Calls Try.prog 27 #[nv 6 [a, b]] w (Is (nv 6 [(pCl a), (pCl b)]) w) := by
  go_enter Try.func27, Try.ntmps27
  refine seq_lit ?_
  refine sq_new (a' := ⟨#[nv 6 [a, b], .pointer (some ⟨w.heap.size, 0, none⟩), undef, undef, undef], []⟩) (xs := rows 6 [a, b]) rfl rfl (ex_boxn (K := 6) (l := [a, b]) rfl) ?_
  intro w1 N1 hb1
  have HB2 := below_then (Below.refl w.heap.size w) hb1
  refine sq_new (a' := ⟨#[nv 6 [a, b], .pointer (some ⟨w.heap.size, 0, none⟩), .pointer (some ⟨w1.heap.size, 0, none⟩), undef, undef], []⟩) (xs := rows 6 [0, 0]) rfl rfl (ex_alloc zFp2) ?_
  intro w3 N3 hb3
  have A4 := N1.keep hb3
  have HB5 := below_then HB2 hb3
  refine seq_nil ?_
  refine seq_lit ?_
  refine sq_val (a' := ⟨#[nv 6 [a, b], .pointer (some ⟨w.heap.size, 0, none⟩), .pointer (some ⟨w1.heap.size, 0, none⟩), nv 6 [a, b], undef], []⟩) (v := nv 6 [a, b]) rfl rfl (ex_loadn (K := 6) (k := 0) (j := 2) (l := [a, b]) flFp2 rfl A4 rfl _ rfl) ?_
  refine sq_call (a' := ⟨#[nv 6 [a, b], .pointer (some ⟨w.heap.size, 0, none⟩), .pointer (some ⟨w1.heap.size, 0, none⟩), nv 6 [a, b], nv 6 [(pCl a), (pCl b)]], []⟩) (v := nv 6 [(pCl a), (pCl b)]) rfl rfl (ex_call (vs := [nv 6 [a, b], .func (.func 44) #[] #[]]) rfl Try.call34 rfl) (both_v _ Try.call44 pCl (fun x w hx => partclean_v x w hx) a b _ ha hb) ?_
  intro w7 hb7
  have A8 := A4.keep hb7
  have A9 := N3.keep hb7
  have HB10 := below_then HB5 hb7
  refine sq_store (a' := ⟨#[nv 6 [a, b], .pointer (some ⟨w.heap.size, 0, none⟩), .pointer (some ⟨w1.heap.size, 0, none⟩), nv 6 [a, b], nv 6 [(pCl a), (pCl b)]], []⟩) (t := 26) (xs := rows 6 [0, 0]) (ys := rows 6 [(pCl a), (pCl b)]) rfl rfl A9 (len_rows rfl) (ex_storen (K := 6) (l := [0, 0]) (m := [(pCl a), (pCl b)]) flFp2 rfl rfl A9 rfl) ?_
  intro w11 N11 hst11 hoth11
  have A12 := hoth11 _ _ _ (Nat.ne_of_lt N1.lt) A8
  have HB13 := hst11 _ _ HB10 HB2.size
  refine seq_nil ?_
  exact wp_ret (bodyPost_ret (ret_celln (K := 6) Try.results27 rfl N11 flFp2) rfl ⟨rfl, HB13⟩)

theorem duoClean_e (a b : Nat) (w : World) (ha : a < fpB) (hb : b < fpB) (v0 v1 : Nat) (hv0 : v0 = (pCl a)) (hv1 : v1 = (pCl b)) :
    Calls Try.prog 27 #[nv 6 [a, b]] w (Is (nv 6 [v0, v1]) w) := by
  rw [hv0, hv1]
  exact duoClean_v a b w ha hb

set_option maxRecDepth 20000 in
set_option maxHeartbeats 4000000 in
theorem duoNeg_v (a b : Nat) (w : World) (ha : a < fpB) (hb : b < fpB) :
    Calls Try.prog 21 #[nv 6 [a, b]] w (Is (nv 6 [(pNeg a), (pNeg b)]) w) := by
  go_enter Try.func21, Try.ntmps21
  refine seq_lit ?_
  refine sq_new (a' := ⟨#[nv 6 [a, b], .pointer (some ⟨w.heap.size, 0, none⟩), undef, undef, undef], []⟩) (xs := rows 6 [a, b]) rfl rfl (ex_boxn (K := 6) (l := [a, b]) rfl) ?_
  intro w1 N1 hb1
  have HB2 := below_then (Below.refl w.heap.size w) hb1
  refine sq_new (a' := ⟨#[nv 6 [a, b], .pointer (some ⟨w.heap.size, 0, none⟩), .pointer (some ⟨w1.heap.size, 0, none⟩), undef, undef], []⟩) (xs := rows 6 [0, 0]) rfl rfl (ex_alloc zFp2) ?_
  intro w3 N3 hb3
  have A4 := N1.keep hb3
  have HB5 := below_then HB2 hb3
  refine seq_nil ?_
  refine seq_lit ?_
  refine sq_val (a' := ⟨#[nv 6 [a, b], .pointer (some ⟨w.heap.size, 0, none⟩), .pointer (some ⟨w1.heap.size, 0, none⟩), nv 6 [a, b], undef], []⟩) (v := nv 6 [a, b]) rfl rfl (ex_loadn (K := 6) (k := 0) (j := 2) (l := [a, b]) flFp2 rfl A4 rfl _ rfl) ?_
  refine sq_call (a' := ⟨#[nv 6 [a, b], .pointer (some ⟨w.heap.size, 0, none⟩), .pointer (some ⟨w1.heap.size, 0, none⟩), nv 6 [a, b], nv 6 [(pNeg a), (pNeg b)]], []⟩) (v := nv 6 [(pNeg a), (pNeg b)]) rfl rfl (ex_call (vs := [nv 6 [a, b], .func (.func 35) #[] #[]]) rfl Try.call34 rfl) (both_v _ Try.call35 pNeg (fun x w hx => partneg_v x w hx) a b _ ha hb) ?_
  intro w7 hb7
  have A8 := A4.keep hb7
  have A9 := N3.keep hb7
  have HB10 := below_then HB5 hb7
  refine sq_store (a' := ⟨#[nv 6 [a, b], .pointer (some ⟨w.heap.size, 0, none⟩), .pointer (some ⟨w1.heap.size, 0, none⟩), nv 6 [a, b], nv 6 [(pNeg a), (pNeg b)]], []⟩) (t := 26) (xs := rows 6 [0, 0]) (ys := rows 6 [(pNeg a), (pNeg b)]) rfl rfl A9 (len_rows rfl) (ex_storen (K := 6) (l := [0, 0]) (m := [(pNeg a), (pNeg b)]) flFp2 rfl rfl A9 rfl) ?_
  intro w11 N11 hst11 hoth11
  have A12 := hoth11 _ _ _ (Nat.ne_of_lt N1.lt) A8
  have HB13 := hst11 _ _ HB10 HB2.size
  refine seq_nil ?_
  exact wp_ret (bodyPost_ret (ret_celln (K := 6) Try.results21 rfl N11 flFp2) rfl ⟨rfl, HB13⟩)

theorem duoNeg_e (a b : Nat) (w : World) (ha : a < fpB) (hb : b < fpB) (v0 v1 : Nat) (hv0 : v0 = (pNeg a)) (hv1 : v1 = (pNeg b)) :
    Calls Try.prog 21 #[nv 6 [a, b]] w (Is (nv 6 [v0, v1]) w) := by
  rw [hv0, hv1]
  exact duoNeg_v a b w ha hb

set_option maxRecDepth 20000 in
set_option maxHeartbeats 4000000 in
theorem duoConj_v (a b : Nat) (w : World) (ha : a < fpB) (hb : b < fpB) :
    Calls Try.prog 69 #[nv 6 [a, b]] w (Is (nv 6 [(pCl a), (pNeg b)]) w) := by
  go_enter Try.func69, Try.ntmps69
  refine seq_lit ?_
  refine sq_new (a' := ⟨#[nv 6 [a, b], .pointer (some ⟨w.heap.size, 0, none⟩), undef, undef, undef, undef, undef, undef, undef, undef], []⟩) (xs := rows 6 [a, b]) rfl rfl (ex_boxn (K := 6) (l := [a, b]) rfl) ?_
  intro w1 N1 hb1
  have HB2 := below_then (Below.refl w.heap.size w) hb1
  refine sq_new (a' := ⟨#[nv 6 [a, b], .pointer (some ⟨w.heap.size, 0, none⟩), .pointer (some ⟨w1.heap.size, 0, none⟩), undef, undef, undef, undef, undef, undef, undef], []⟩) (xs := rows 6 [0, 0]) rfl rfl (ex_alloc zFp2) ?_
  intro w3 N3 hb3
  have A4 := N1.keep hb3
  have HB5 := below_then HB2 hb3
  refine seq_nil ?_
  refine wp_seq (wp_region_last (F := ⟨#[nv 6 [a, b], .pointer (some ⟨w.heap.size, 0, none⟩), .pointer (some ⟨w1.heap.size, 0, none⟩), .pointer (some ⟨w.heap.size, 0, none⟩), nv 6 [a], nv 6 [(pCl a)], .pointer (some ⟨w.heap.size, 6, none⟩), nv 6 [b], nv 6 [(pNeg b)], nv 6 [(pCl a), (pNeg b)]], []⟩) (S := Bel w3) [(3, .pointer (some ⟨w.heap.size, 0, none⟩)), (4, nv 6 [a]), (5, nv 6 [(pCl a)]), (6, .pointer (some ⟨w.heap.size, 6, none⟩)), (7, nv 6 [b]), (8, nv 6 [(pNeg b)]), (9, nv 6 [(pCl a), (pNeg b)])] 7 _ (by kernel_rfl) (by kernel_rfl) (by kernel_rfl) (by kernel_rfl) rfl rfl (by kernel_rfl) rfl (by simp only [putAll, List.setIfInBounds_toArray, List.set_cons_zero, List.set_cons_succ]) (Bel.start _) ?_ ?_)
  · refine PlanInit.cons (ps_val (v := .pointer (some ⟨w.heap.size, 0, none⟩)) rfl rfl rfl (fun W' h => ex_field faFp2_0 rfl)) ?_
    refine PlanInit.cons (ps_val (v := nv 6 [a]) rfl rfl rfl (fun W' h => ex_loadn (K := 6) (k := 0) (j := 1) (l := [a, b]) flFp rfl (A4.keep h.out) rfl _ rfl)) ?_
    refine PlanInit.cons (ps_call (v := nv 6 [(pCl a)]) rfl rfl rfl (fun W' => ex_call (vs := [nv 6 [a]]) rfl Try.call59 rfl) (fun W' h => fpClean_p a _ ha)) ?_
    refine PlanInit.cons (ps_val (v := .pointer (some ⟨w.heap.size, 6, none⟩)) rfl rfl rfl (fun W' h => ex_field faFp2_1 rfl)) ?_
    refine PlanInit.cons (ps_val (v := nv 6 [b]) rfl rfl rfl (fun W' h => ex_loadn (K := 6) (k := 1) (j := 1) (l := [a, b]) flFp rfl (A4.keep h.out) rfl _ rfl)) ?_
    refine PlanInit.cons (ps_call (v := nv 6 [(pNeg b)]) rfl rfl rfl (fun W' => ex_call (vs := [nv 6 [b]]) rfl Try.call55 rfl) (fun W' h => fpNeg_p b _ hb)) ?_
    refine PlanInit.cons (ps_val (v := nv 6 [(pCl a), (pNeg b)]) rfl rfl rfl (fun W' h => ex_build stFp2 (vs := [(0, nv 6 [(pCl a)]), (1, nv 6 [(pNeg b)])]) rfl (bdAB (pCl a) (pNeg b)))) ?_
    exact PlanInit.one
  refine last_store (t := 26) (xs := rows 6 [0, 0]) (ys := rows 6 [(pCl a), (pNeg b)]) rfl rfl (fun W' h => N3.keep h.out) (len_rows rfl) (fun W' h => ex_storen (K := 6) (l := [0, 0]) (m := [(pCl a), (pNeg b)]) flFp2 rfl rfl (N3.keep h.out) rfl) ?_
  intro w7 w8 hb7 N8 hst8 hoth8
  refine then_n ?_
  have A9 := A4.keep hb7.out
  have A10 := N3.keep hb7.out
  have HB11 := below_then HB5 hb7.out
  have A12 := hoth8 _ _ _ (Nat.ne_of_lt N1.lt) A9
  have HB13 := hst8 _ _ HB11 HB2.size
  exact wp_ret (bodyPost_ret (ret_celln (K := 6) Try.results69 rfl N8 flFp2) rfl ⟨rfl, HB13⟩)

set_option maxRecDepth 20000 in
set_option maxHeartbeats 4000000 in
theorem duoAdd_v (a b c d : Nat) (w : World) (ha : a < fpB) (hb : b < fpB) (hc : c < fpB) (hd : d < fpB) :
    Calls Try.prog 29 #[nv 6 [a, b], nv 6 [c, d]] w (Is (nv 6 [(pAdd a c), (pAdd b d)]) w) := by
  go_enter Try.func29, Try.ntmps29
  refine seq_lit ?_
  refine sq_new (a' := ⟨#[nv 6 [a, b], nv 6 [c, d], .pointer (some ⟨w.heap.size, 0, none⟩), undef, undef, undef, undef, undef], []⟩) (xs := rows 6 [a, b]) rfl rfl (ex_boxn (K := 6) (l := [a, b]) rfl) ?_
  intro w1 N1 hb1
  have HB2 := below_then (Below.refl w.heap.size w) hb1
  refine sq_new (a' := ⟨#[nv 6 [a, b], nv 6 [c, d], .pointer (some ⟨w.heap.size, 0, none⟩), .pointer (some ⟨w1.heap.size, 0, none⟩), undef, undef, undef, undef], []⟩) (xs := rows 6 [c, d]) rfl rfl (ex_boxn (K := 6) (l := [c, d]) rfl) ?_
  intro w3 N3 hb3
  have A4 := N1.keep hb3
  have HB5 := below_then HB2 hb3
  refine sq_new (a' := ⟨#[nv 6 [a, b], nv 6 [c, d], .pointer (some ⟨w.heap.size, 0, none⟩), .pointer (some ⟨w1.heap.size, 0, none⟩), .pointer (some ⟨w3.heap.size, 0, none⟩), undef, undef, undef], []⟩) (xs := rows 6 [0, 0]) rfl rfl (ex_alloc zFp2) ?_
  intro w7 N7 hb7
  have A8 := A4.keep hb7
  have A9 := N3.keep hb7
  have HB10 := below_then HB5 hb7
  refine seq_nil ?_
  refine seq_lit ?_
  refine sq_val (a' := ⟨#[nv 6 [a, b], nv 6 [c, d], .pointer (some ⟨w.heap.size, 0, none⟩), .pointer (some ⟨w1.heap.size, 0, none⟩), .pointer (some ⟨w3.heap.size, 0, none⟩), nv 6 [a, b], undef, undef], []⟩) (v := nv 6 [a, b]) rfl rfl (ex_loadn (K := 6) (k := 0) (j := 2) (l := [a, b]) flFp2 rfl A8 rfl _ rfl) ?_
  refine sq_val (a' := ⟨#[nv 6 [a, b], nv 6 [c, d], .pointer (some ⟨w.heap.size, 0, none⟩), .pointer (some ⟨w1.heap.size, 0, none⟩), .pointer (some ⟨w3.heap.size, 0, none⟩), nv 6 [a, b], nv 6 [c, d], undef], []⟩) (v := nv 6 [c, d]) rfl rfl (ex_loadn (K := 6) (k := 0) (j := 2) (l := [c, d]) flFp2 rfl A9 rfl _ rfl) ?_
  refine sq_call (a' := ⟨#[nv 6 [a, b], nv 6 [c, d], .pointer (some ⟨w.heap.size, 0, none⟩), .pointer (some ⟨w1.heap.size, 0, none⟩), .pointer (some ⟨w3.heap.size, 0, none⟩), nv 6 [a, b], nv 6 [c, d], nv 6 [(pAdd a c), (pAdd b d)]], []⟩) (v := nv 6 [(pAdd a c), (pAdd b d)]) rfl rfl (ex_call (vs := [nv 6 [a, b], nv 6 [c, d], .func (.func 49) #[] #[]]) rfl Try.call45 rfl) (pairwise_v _ Try.call49 pAdd (fun x y w hx hy => partplus_v x y w hx hy) a b c d _ ha hb hc hd) ?_
  intro w13 hb13
  have A14 := A8.keep hb13
  have A15 := A9.keep hb13
  have A16 := N7.keep hb13
  have HB17 := below_then HB10 hb13
  refine sq_store (a' := ⟨#[nv 6 [a, b], nv 6 [c, d], .pointer (some ⟨w.heap.size, 0, none⟩), .pointer (some ⟨w1.heap.size, 0, none⟩), .pointer (some ⟨w3.heap.size, 0, none⟩), nv 6 [a, b], nv 6 [c, d], nv 6 [(pAdd a c), (pAdd b d)]], []⟩) (t := 26) (xs := rows 6 [0, 0]) (ys := rows 6 [(pAdd a c), (pAdd b d)]) rfl rfl A16 (len_rows rfl) (ex_storen (K := 6) (l := [0, 0]) (m := [(pAdd a c), (pAdd b d)]) flFp2 rfl rfl A16 rfl) ?_
  intro w18 N18 hst18 hoth18
  have A19 := hoth18 _ _ _ (Nat.ne_of_lt A4.lt) A14
  have A20 := hoth18 _ _ _ (Nat.ne_of_lt N3.lt) A15
  have HB21 := hst18 _ _ HB17 HB5.size
  refine seq_nil ?_
  exact wp_ret (bodyPost_ret (ret_celln (K := 6) Try.results29 rfl N18 flFp2) rfl ⟨rfl, HB21⟩)

theorem duoAdd_e (a b c d : Nat) (w : World) (ha : a < fpB) (hb : b < fpB) (hc : c < fpB) (hd : d < fpB) (v0 v1 : Nat) (hv0 : v0 = (pAdd a c)) (hv1 : v1 = (pAdd b d)) :
    Calls Try.prog 29 #[nv 6 [a, b], nv 6 [c, d]] w (Is (nv 6 [v0, v1]) w) := by
  rw [hv0, hv1]
  exact duoAdd_v a b c d w ha hb hc hd

set_option maxRecDepth 20000 in
set_option maxHeartbeats 4000000 in
theorem duoSub_v (a b c d : Nat) (w : World) (ha : a < fpB) (hb : b < fpB) (hc : c < fpB) (hd : d < fpB) :
    Calls Try.prog 58 #[nv 6 [a, b], nv 6 [c, d]] w (Is (nv 6 [(pSub a c), (pSub b d)]) w) := by
  go_enter Try.func58, Try.ntmps58
  refine seq_lit ?_
  refine sq_new (a' := ⟨#[nv 6 [a, b], nv 6 [c, d], .pointer (some ⟨w.heap.size, 0, none⟩), undef, undef, undef, undef, undef], []⟩) (xs := rows 6 [a, b]) rfl rfl (ex_boxn (K := 6) (l := [a, b]) rfl) ?_
  intro w1 N1 hb1
  have HB2 := below_then (Below.refl w.heap.size w) hb1
  refine sq_new (a' := ⟨#[nv 6 [a, b], nv 6 [c, d], .pointer (some ⟨w.heap.size, 0, none⟩), .pointer (some ⟨w1.heap.size, 0, none⟩), undef, undef, undef, undef], []⟩) (xs := rows 6 [c, d]) rfl rfl (ex_boxn (K := 6) (l := [c, d]) rfl) ?_
  intro w3 N3 hb3
  have A4 := N1.keep hb3
  have HB5 := below_then HB2 hb3
  refine sq_new (a' := ⟨#[nv 6 [a, b], nv 6 [c, d], .pointer (some ⟨w.heap.size, 0, none⟩), .pointer (some ⟨w1.heap.size, 0, none⟩), .pointer (some ⟨w3.heap.size, 0, none⟩), undef, undef, undef], []⟩) (xs := rows 6 [0, 0]) rfl rfl (ex_alloc zFp2) ?_
  intro w7 N7 hb7
  have A8 := A4.keep hb7
  have A9 := N3.keep hb7
  have HB10 := below_then HB5 hb7
  refine seq_nil ?_
  refine seq_lit ?_
  refine sq_val (a' := ⟨#[nv 6 [a, b], nv 6 [c, d], .pointer (some ⟨w.heap.size, 0, none⟩), .pointer (some ⟨w1.heap.size, 0, none⟩), .pointer (some ⟨w3.heap.size, 0, none⟩), nv 6 [a, b], undef, undef], []⟩) (v := nv 6 [a, b]) rfl rfl (ex_loadn (K := 6) (k := 0) (j := 2) (l := [a, b]) flFp2 rfl A8 rfl _ rfl) ?_
  refine sq_val (a' := ⟨#[nv 6 [a, b], nv 6 [c, d], .pointer (some ⟨w.heap.size, 0, none⟩), .pointer (some ⟨w1.heap.size, 0, none⟩), .pointer (some ⟨w3.heap.size, 0, none⟩), nv 6 [a, b], nv 6 [c, d], undef], []⟩) (v := nv 6 [c, d]) rfl rfl (ex_loadn (K := 6) (k := 0) (j := 2) (l := [c, d]) flFp2 rfl A9 rfl _ rfl) ?_
  refine sq_call (a' := ⟨#[nv 6 [a, b], nv 6 [c, d], .pointer (some ⟨w.heap.size, 0, none⟩), .pointer (some ⟨w1.heap.size, 0, none⟩), .pointer (some ⟨w3.heap.size, 0, none⟩), nv 6 [a, b], nv 6 [c, d], nv 6 [(pSub a c), (pSub b d)]], []⟩) (v := nv 6 [(pSub a c), (pSub b d)]) rfl rfl (ex_call (vs := [nv 6 [a, b], nv 6 [c, d], .func (.func 72) #[] #[]]) rfl Try.call45 rfl) (pairwise_v _ Try.call72 pSub (fun x y w hx hy => partminus_v x y w hx hy) a b c d _ ha hb hc hd) ?_
  intro w13 hb13
  have A14 := A8.keep hb13
  have A15 := A9.keep hb13
  have A16 := N7.keep hb13
  have HB17 := below_then HB10 hb13
  refine sq_store (a' := ⟨#[nv 6 [a, b], nv 6 [c, d], .pointer (some ⟨w.heap.size, 0, none⟩), .pointer (some ⟨w1.heap.size, 0, none⟩), .pointer (some ⟨w3.heap.size, 0, none⟩), nv 6 [a, b], nv 6 [c, d], nv 6 [(pSub a c), (pSub b d)]], []⟩) (t := 26) (xs := rows 6 [0, 0]) (ys := rows 6 [(pSub a c), (pSub b d)]) rfl rfl A16 (len_rows rfl) (ex_storen (K := 6) (l := [0, 0]) (m := [(pSub a c), (pSub b d)]) flFp2 rfl rfl A16 rfl) ?_
  intro w18 N18 hst18 hoth18
  have A19 := hoth18 _ _ _ (Nat.ne_of_lt A4.lt) A14
  have A20 := hoth18 _ _ _ (Nat.ne_of_lt N3.lt) A15
  have HB21 := hst18 _ _ HB17 HB5.size
  refine seq_nil ?_
  exact wp_ret (bodyPost_ret (ret_celln (K := 6) Try.results58 rfl N18 flFp2) rfl ⟨rfl, HB21⟩)

theorem duoSub_e (a b c d : Nat) (w : World) (ha : a < fpB) (hb : b < fpB) (hc : c < fpB) (hd : d < fpB) (v0 v1 : Nat) (hv0 : v0 = (pSub a c)) (hv1 : v1 = (pSub b d)) :
    Calls Try.prog 58 #[nv 6 [a, b], nv 6 [c, d]] w (Is (nv 6 [v0, v1]) w) := by
  rw [hv0, hv1]
  exact duoSub_v a b c d w ha hb hc hd

set_option maxRecDepth 20000 in
set_option maxHeartbeats 4000000 in
theorem duoMul_v (a b c d : Nat) (w : World) (ha : a < fpB) (hb : b < fpB) (hc : c < fpB) (hd : d < fpB) :
    Calls Try.prog 28 #[nv 6 [a, b], nv 6 [c, d]] w (Is (nv 6 [(pSub (pMul a c) (pMul b d)), (pAdd (pMul a d) (pMul b c))]) w) := by
  go_enter Try.func28, Try.ntmps28
  refine seq_lit ?_
  refine sq_new (a' := ⟨#[nv 6 [a, b], nv 6 [c, d], .pointer (some ⟨w.heap.size, 0, none⟩), undef, undef, undef, undef, undef, undef, undef, undef, undef, undef, undef, undef, undef, undef, undef, undef, undef, undef, undef, undef, undef, undef, undef, undef, undef], []⟩) (xs := rows 6 [a, b]) rfl rfl (ex_boxn (K := 6) (l := [a, b]) rfl) ?_
  intro w1 N1 hb1
  have HB2 := below_then (Below.refl w.heap.size w) hb1
  refine sq_new (a' := ⟨#[nv 6 [a, b], nv 6 [c, d], .pointer (some ⟨w.heap.size, 0, none⟩), .pointer (some ⟨w1.heap.size, 0, none⟩), undef, undef, undef, undef, undef, undef, undef, undef, undef, undef, undef, undef, undef, undef, undef, undef, undef, undef, undef, undef, undef, undef, undef, undef], []⟩) (xs := rows 6 [c, d]) rfl rfl (ex_boxn (K := 6) (l := [c, d]) rfl) ?_
  intro w3 N3 hb3
  have A4 := N1.keep hb3
  have HB5 := below_then HB2 hb3
  refine sq_new (a' := ⟨#[nv 6 [a, b], nv 6 [c, d], .pointer (some ⟨w.heap.size, 0, none⟩), .pointer (some ⟨w1.heap.size, 0, none⟩), .pointer (some ⟨w3.heap.size, 0, none⟩), undef, undef, undef, undef, undef, undef, undef, undef, undef, undef, undef, undef, undef, undef, undef, undef, undef, undef, undef, undef, undef, undef, undef], []⟩) (xs := rows 6 [0, 0]) rfl rfl (ex_alloc zFp2) ?_
  intro w7 N7 hb7
  have A8 := A4.keep hb7
  have A9 := N3.keep hb7
  have HB10 := below_then HB5 hb7
  refine seq_nil ?_
  refine seq_lit ?_
  refine sq_val (a' := ⟨#[nv 6 [a, b], nv 6 [c, d], .pointer (some ⟨w.heap.size, 0, none⟩), .pointer (some ⟨w1.heap.size, 0, none⟩), .pointer (some ⟨w3.heap.size, 0, none⟩), undef, undef, nv 6 [a, b], undef, undef, undef, undef, undef, undef, undef, undef, undef, undef, undef, undef, undef, undef, undef, undef, undef, undef, undef, undef], []⟩) (v := nv 6 [a, b]) rfl rfl (ex_loadn (K := 6) (k := 0) (j := 2) (l := [a, b]) flFp2 rfl A8 rfl _ rfl) ?_
  refine sq_val (a' := ⟨#[nv 6 [a, b], nv 6 [c, d], .pointer (some ⟨w.heap.size, 0, none⟩), .pointer (some ⟨w1.heap.size, 0, none⟩), .pointer (some ⟨w3.heap.size, 0, none⟩), undef, undef, nv 6 [a, b], nv 6 [c, d], undef, undef, undef, undef, undef, undef, undef, undef, undef, undef, undef, undef, undef, undef, undef, undef, undef, undef, undef], []⟩) (v := nv 6 [c, d]) rfl rfl (ex_loadn (K := 6) (k := 0) (j := 2) (l := [c, d]) flFp2 rfl A9 rfl _ rfl) ?_
  refine sq_call (a' := ⟨#[nv 6 [a, b], nv 6 [c, d], .pointer (some ⟨w.heap.size, 0, none⟩), .pointer (some ⟨w1.heap.size, 0, none⟩), .pointer (some ⟨w3.heap.size, 0, none⟩), undef, undef, nv 6 [a, b], nv 6 [c, d], nv 6 [(pMul a c), (pMul b d)], undef, undef, undef, undef, undef, undef, undef, undef, undef, undef, undef, undef, undef, undef, undef, undef, undef, undef], []⟩) (v := nv 6 [(pMul a c), (pMul b d)]) rfl rfl (ex_call (vs := [nv 6 [a, b], nv 6 [c, d], .func (.func 46) #[] #[]]) rfl Try.call45 rfl) (pairwise_v _ Try.call46 pMul (fun x y w hx hy => parttimes_v x y w hx hy) a b c d _ ha hb hc hd) ?_
  intro w13 hb13
  have A14 := A8.keep hb13
  have A15 := A9.keep hb13
  have A16 := N7.keep hb13
  have HB17 := below_then HB10 hb13
  refine sq_new (a' := ⟨#[nv 6 [a, b], nv 6 [c, d], .pointer (some ⟨w.heap.size, 0, none⟩), .pointer (some ⟨w1.heap.size, 0, none⟩), .pointer (some ⟨w3.heap.size, 0, none⟩), .pointer (some ⟨w13.heap.size, 0, none⟩), undef, nv 6 [a, b], nv 6 [c, d], nv 6 [(pMul a c), (pMul b d)], undef, undef, undef, undef, undef, undef, undef, undef, undef, undef, undef, undef, undef, undef, undef, undef, undef, undef], []⟩) (xs := rows 6 [0, 0]) rfl rfl (ex_alloc zFp2) ?_
  intro w18 N18 hb18
  have A19 := A14.keep hb18
  have A20 := A15.keep hb18
  have A21 := A16.keep hb18
  have HB22 := below_then HB17 hb18
  refine sq_store (a' := ⟨#[nv 6 [a, b], nv 6 [c, d], .pointer (some ⟨w.heap.size, 0, none⟩), .pointer (some ⟨w1.heap.size, 0, none⟩), .pointer (some ⟨w3.heap.size, 0, none⟩), .pointer (some ⟨w13.heap.size, 0, none⟩), undef, nv 6 [a, b], nv 6 [c, d], nv 6 [(pMul a c), (pMul b d)], undef, undef, undef, undef, undef, undef, undef, undef, undef, undef, undef, undef, undef, undef, undef, undef, undef, undef], []⟩) (t := 26) (xs := rows 6 [0, 0]) (ys := rows 6 [(pMul a c), (pMul b d)]) rfl rfl N18 (len_rows rfl) (ex_storen (K := 6) (l := [0, 0]) (m := [(pMul a c), (pMul b d)]) flFp2 rfl rfl N18 rfl) ?_
  intro w26 N26 hst26 hoth26
  have A27 := hoth26 _ _ _ (Nat.ne_of_lt A14.lt) A19
  have A28 := hoth26 _ _ _ (Nat.ne_of_lt A15.lt) A20
  have A29 := hoth26 _ _ _ (Nat.ne_of_lt A16.lt) A21
  have HB30 := hst26 _ _ HB22 HB17.size
  refine seq_nil ?_
  refine seq_lit ?_
  refine sq_val (a' := ⟨#[nv 6 [a, b], nv 6 [c, d], .pointer (some ⟨w.heap.size, 0, none⟩), .pointer (some ⟨w1.heap.size, 0, none⟩), .pointer (some ⟨w3.heap.size, 0, none⟩), .pointer (some ⟨w13.heap.size, 0, none⟩), undef, nv 6 [a, b], nv 6 [c, d], nv 6 [(pMul a c), (pMul b d)], nv 6 [a, b], undef, undef, undef, undef, undef, undef, undef, undef, undef, undef, undef, undef, undef, undef, undef, undef, undef], []⟩) (v := nv 6 [a, b]) rfl rfl (ex_loadn (K := 6) (k := 0) (j := 2) (l := [a, b]) flFp2 rfl A27 rfl _ rfl) ?_
  refine sq_val (a' := ⟨#[nv 6 [a, b], nv 6 [c, d], .pointer (some ⟨w.heap.size, 0, none⟩), .pointer (some ⟨w1.heap.size, 0, none⟩), .pointer (some ⟨w3.heap.size, 0, none⟩), .pointer (some ⟨w13.heap.size, 0, none⟩), undef, nv 6 [a, b], nv 6 [c, d], nv 6 [(pMul a c), (pMul b d)], nv 6 [a, b], .pointer (some ⟨w1.heap.size, 6, none⟩), undef, undef, undef, undef, undef, undef, undef, undef, undef, undef, undef, undef, undef, undef, undef, undef], []⟩) (v := .pointer (some ⟨w1.heap.size, 6, none⟩)) rfl rfl (ex_field faFp2_1 rfl) ?_
  refine sq_val (a' := ⟨#[nv 6 [a, b], nv 6 [c, d], .pointer (some ⟨w.heap.size, 0, none⟩), .pointer (some ⟨w1.heap.size, 0, none⟩), .pointer (some ⟨w3.heap.size, 0, none⟩), .pointer (some ⟨w13.heap.size, 0, none⟩), undef, nv 6 [a, b], nv 6 [c, d], nv 6 [(pMul a c), (pMul b d)], nv 6 [a, b], .pointer (some ⟨w1.heap.size, 6, none⟩), nv 6 [d], undef, undef, undef, undef, undef, undef, undef, undef, undef, undef, undef, undef, undef, undef, undef], []⟩) (v := nv 6 [d]) rfl rfl (ex_loadn (K := 6) (k := 1) (j := 1) (l := [c, d]) flFp rfl A28 rfl _ rfl) ?_
  refine sq_val (a' := ⟨#[nv 6 [a, b], nv 6 [c, d], .pointer (some ⟨w.heap.size, 0, none⟩), .pointer (some ⟨w1.heap.size, 0, none⟩), .pointer (some ⟨w3.heap.size, 0, none⟩), .pointer (some ⟨w13.heap.size, 0, none⟩), undef, nv 6 [a, b], nv 6 [c, d], nv 6 [(pMul a c), (pMul b d)], nv 6 [a, b], .pointer (some ⟨w1.heap.size, 6, none⟩), nv 6 [d], .pointer (some ⟨w1.heap.size, 0, none⟩), undef, undef, undef, undef, undef, undef, undef, undef, undef, undef, undef, undef, undef, undef], []⟩) (v := .pointer (some ⟨w1.heap.size, 0, none⟩)) rfl rfl (ex_field faFp2_0 rfl) ?_
  refine sq_val (a' := ⟨#[nv 6 [a, b], nv 6 [c, d], .pointer (some ⟨w.heap.size, 0, none⟩), .pointer (some ⟨w1.heap.size, 0, none⟩), .pointer (some ⟨w3.heap.size, 0, none⟩), .pointer (some ⟨w13.heap.size, 0, none⟩), undef, nv 6 [a, b], nv 6 [c, d], nv 6 [(pMul a c), (pMul b d)], nv 6 [a, b], .pointer (some ⟨w1.heap.size, 6, none⟩), nv 6 [d], .pointer (some ⟨w1.heap.size, 0, none⟩), nv 6 [c], undef, undef, undef, undef, undef, undef, undef, undef, undef, undef, undef, undef, undef], []⟩) (v := nv 6 [c]) rfl rfl (ex_loadn (K := 6) (k := 0) (j := 1) (l := [c, d]) flFp rfl A28 rfl _ rfl) ?_
  refine sq_val (a' := ⟨#[nv 6 [a, b], nv 6 [c, d], .pointer (some ⟨w.heap.size, 0, none⟩), .pointer (some ⟨w1.heap.size, 0, none⟩), .pointer (some ⟨w3.heap.size, 0, none⟩), .pointer (some ⟨w13.heap.size, 0, none⟩), undef, nv 6 [a, b], nv 6 [c, d], nv 6 [(pMul a c), (pMul b d)], nv 6 [a, b], .pointer (some ⟨w1.heap.size, 6, none⟩), nv 6 [d], .pointer (some ⟨w1.heap.size, 0, none⟩), nv 6 [c], nv 6 [d, c], undef, undef, undef, undef, undef, undef, undef, undef, undef, undef, undef, undef], []⟩) (v := nv 6 [d, c]) rfl rfl (ex_build stFp2 (vs := [(0, nv 6 [d]), (1, nv 6 [c])]) rfl (bdAB d c)) ?_
  refine sq_call (a' := ⟨#[nv 6 [a, b], nv 6 [c, d], .pointer (some ⟨w.heap.size, 0, none⟩), .pointer (some ⟨w1.heap.size, 0, none⟩), .pointer (some ⟨w3.heap.size, 0, none⟩), .pointer (some ⟨w13.heap.size, 0, none⟩), undef, nv 6 [a, b], nv 6 [c, d], nv 6 [(pMul a c), (pMul b d)], nv 6 [a, b], .pointer (some ⟨w1.heap.size, 6, none⟩), nv 6 [d], .pointer (some ⟨w1.heap.size, 0, none⟩), nv 6 [c], nv 6 [d, c], nv 6 [(pMul a d), (pMul b c)], undef, undef, undef, undef, undef, undef, undef, undef, undef, undef, undef], []⟩) (v := nv 6 [(pMul a d), (pMul b c)]) rfl rfl (ex_call (vs := [nv 6 [a, b], nv 6 [d, c], .func (.func 46) #[] #[]]) rfl Try.call45 rfl) (pairwise_v _ Try.call46 pMul (fun x y w hx hy => parttimes_v x y w hx hy) a b d c _ ha hb hd hc) ?_
  intro w31 hb31
  have A32 := A27.keep hb31
  have A33 := A28.keep hb31
  have A34 := A29.keep hb31
  have A35 := N26.keep hb31
  have HB36 := below_then HB30 hb31
  refine sq_new (a' := ⟨#[nv 6 [a, b], nv 6 [c, d], .pointer (some ⟨w.heap.size, 0, none⟩), .pointer (some ⟨w1.heap.size, 0, none⟩), .pointer (some ⟨w3.heap.size, 0, none⟩), .pointer (some ⟨w13.heap.size, 0, none⟩), .pointer (some ⟨w31.heap.size, 0, none⟩), nv 6 [a, b], nv 6 [c, d], nv 6 [(pMul a c), (pMul b d)], nv 6 [a, b], .pointer (some ⟨w1.heap.size, 6, none⟩), nv 6 [d], .pointer (some ⟨w1.heap.size, 0, none⟩), nv 6 [c], nv 6 [d, c], nv 6 [(pMul a d), (pMul b c)], undef, undef, undef, undef, undef, undef, undef, undef, undef, undef, undef], []⟩) (xs := rows 6 [0, 0]) rfl rfl (ex_alloc zFp2) ?_
  intro w37 N37 hb37
  have A38 := A32.keep hb37
  have A39 := A33.keep hb37
  have A40 := A34.keep hb37
  have A41 := A35.keep hb37
  have HB42 := below_then HB36 hb37
  refine sq_store (a' := ⟨#[nv 6 [a, b], nv 6 [c, d], .pointer (some ⟨w.heap.size, 0, none⟩), .pointer (some ⟨w1.heap.size, 0, none⟩), .pointer (some ⟨w3.heap.size, 0, none⟩), .pointer (some ⟨w13.heap.size, 0, none⟩), .pointer (some ⟨w31.heap.size, 0, none⟩), nv 6 [a, b], nv 6 [c, d], nv 6 [(pMul a c), (pMul b d)], nv 6 [a, b], .pointer (some ⟨w1.heap.size, 6, none⟩), nv 6 [d], .pointer (some ⟨w1.heap.size, 0, none⟩), nv 6 [c], nv 6 [d, c], nv 6 [(pMul a d), (pMul b c)], undef, undef, undef, undef, undef, undef, undef, undef, undef, undef, undef], []⟩) (t := 26) (xs := rows 6 [0, 0]) (ys := rows 6 [(pMul a d), (pMul b c)]) rfl rfl N37 (len_rows rfl) (ex_storen (K := 6) (l := [0, 0]) (m := [(pMul a d), (pMul b c)]) flFp2 rfl rfl N37 rfl) ?_
  intro w47 N47 hst47 hoth47
  have A48 := hoth47 _ _ _ (Nat.ne_of_lt A32.lt) A38
  have A49 := hoth47 _ _ _ (Nat.ne_of_lt A33.lt) A39
  have A50 := hoth47 _ _ _ (Nat.ne_of_lt A34.lt) A40
  have A51 := hoth47 _ _ _ (Nat.ne_of_lt A35.lt) A41
  have HB52 := hst47 _ _ HB42 HB36.size
  refine seq_nil ?_
  refine wp_seq (wp_region_last (F := ⟨#[nv 6 [a, b], nv 6 [c, d], .pointer (some ⟨w.heap.size, 0, none⟩), .pointer (some ⟨w1.heap.size, 0, none⟩), .pointer (some ⟨w3.heap.size, 0, none⟩), .pointer (some ⟨w13.heap.size, 0, none⟩), .pointer (some ⟨w31.heap.size, 0, none⟩), nv 6 [a, b], nv 6 [c, d], nv 6 [(pMul a c), (pMul b d)], nv 6 [a, b], .pointer (some ⟨w1.heap.size, 6, none⟩), nv 6 [d], .pointer (some ⟨w1.heap.size, 0, none⟩), nv 6 [c], nv 6 [d, c], nv 6 [(pMul a d), (pMul b c)], .pointer (some ⟨w13.heap.size, 0, none⟩), nv 6 [(pMul a c)], .pointer (some ⟨w13.heap.size, 6, none⟩), nv 6 [(pMul b d)], nv 6 [(pSub (pMul a c) (pMul b d))], .pointer (some ⟨w31.heap.size, 0, none⟩), nv 6 [(pMul a d)], .pointer (some ⟨w31.heap.size, 6, none⟩), nv 6 [(pMul b c)], nv 6 [(pAdd (pMul a d) (pMul b c))], nv 6 [(pSub (pMul a c) (pMul b d)), (pAdd (pMul a d) (pMul b c))]], []⟩) (S := Bel w47) [(17, .pointer (some ⟨w13.heap.size, 0, none⟩)), (18, nv 6 [(pMul a c)]), (19, .pointer (some ⟨w13.heap.size, 6, none⟩)), (20, nv 6 [(pMul b d)]), (21, nv 6 [(pSub (pMul a c) (pMul b d))]), (22, .pointer (some ⟨w31.heap.size, 0, none⟩)), (23, nv 6 [(pMul a d)]), (24, .pointer (some ⟨w31.heap.size, 6, none⟩)), (25, nv 6 [(pMul b c)]), (26, nv 6 [(pAdd (pMul a d) (pMul b c))]), (27, nv 6 [(pSub (pMul a c) (pMul b d)), (pAdd (pMul a d) (pMul b c))])] 11 _ (by kernel_rfl) (by kernel_rfl) (by kernel_rfl) (by kernel_rfl) rfl rfl (by kernel_rfl) rfl (by simp only [putAll, List.setIfInBounds_toArray, List.set_cons_zero, List.set_cons_succ]) (Bel.start _) ?_ ?_)
  · refine PlanInit.cons (ps_val (v := .pointer (some ⟨w13.heap.size, 0, none⟩)) rfl rfl rfl (fun W' h => ex_field faFp2_0 rfl)) ?_
    refine PlanInit.cons (ps_val (v := nv 6 [(pMul a c)]) rfl rfl rfl (fun W' h => ex_loadn (K := 6) (k := 0) (j := 1) (l := [(pMul a c), (pMul b d)]) flFp rfl (A51.keep h.out) rfl _ rfl)) ?_
    refine PlanInit.cons (ps_val (v := .pointer (some ⟨w13.heap.size, 6, none⟩)) rfl rfl rfl (fun W' h => ex_field faFp2_1 rfl)) ?_
    refine PlanInit.cons (ps_val (v := nv 6 [(pMul b d)]) rfl rfl rfl (fun W' h => ex_loadn (K := 6) (k := 1) (j := 1) (l := [(pMul a c), (pMul b d)]) flFp rfl (A51.keep h.out) rfl _ rfl)) ?_
    refine PlanInit.cons (ps_call (v := nv 6 [(pSub (pMul a c) (pMul b d))]) rfl rfl rfl (fun W' => ex_call (vs := [nv 6 [(pMul a c)], nv 6 [(pMul b d)]]) rfl Try.call47 rfl) (fun W' h => fpSub_p (pMul a c) (pMul b d) _ (pMul_B _ _) (pMul_B _ _))) ?_
    refine PlanInit.cons (ps_val (v := .pointer (some ⟨w31.heap.size, 0, none⟩)) rfl rfl rfl (fun W' h => ex_field faFp2_0 rfl)) ?_
    refine PlanInit.cons (ps_val (v := nv 6 [(pMul a d)]) rfl rfl rfl (fun W' h => ex_loadn (K := 6) (k := 0) (j := 1) (l := [(pMul a d), (pMul b c)]) flFp rfl (N47.keep h.out) rfl _ rfl)) ?_
    refine PlanInit.cons (ps_val (v := .pointer (some ⟨w31.heap.size, 6, none⟩)) rfl rfl rfl (fun W' h => ex_field faFp2_1 rfl)) ?_
    refine PlanInit.cons (ps_val (v := nv 6 [(pMul b c)]) rfl rfl rfl (fun W' h => ex_loadn (K := 6) (k := 1) (j := 1) (l := [(pMul a d), (pMul b c)]) flFp rfl (N47.keep h.out) rfl _ rfl)) ?_
    refine PlanInit.cons (ps_call (v := nv 6 [(pAdd (pMul a d) (pMul b c))]) rfl rfl rfl (fun W' => ex_call (vs := [nv 6 [(pMul a d)], nv 6 [(pMul b c)]]) rfl Try.call48 rfl) (fun W' h => fpAdd_p (pMul a d) (pMul b c) _ (pMul_B _ _) (pMul_B _ _))) ?_
    refine PlanInit.cons (ps_val (v := nv 6 [(pSub (pMul a c) (pMul b d)), (pAdd (pMul a d) (pMul b c))]) rfl rfl rfl (fun W' h => ex_build stFp2 (vs := [(0, nv 6 [(pSub (pMul a c) (pMul b d))]), (1, nv 6 [(pAdd (pMul a d) (pMul b c))])]) rfl (bdAB (pSub (pMul a c) (pMul b d)) (pAdd (pMul a d) (pMul b c))))) ?_
    exact PlanInit.one
  refine last_store (t := 26) (xs := rows 6 [0, 0]) (ys := rows 6 [(pSub (pMul a c) (pMul b d)), (pAdd (pMul a d) (pMul b c))]) rfl rfl (fun W' h => A50.keep h.out) (len_rows rfl) (fun W' h => ex_storen (K := 6) (l := [0, 0]) (m := [(pSub (pMul a c) (pMul b d)), (pAdd (pMul a d) (pMul b c))]) flFp2 rfl rfl (A50.keep h.out) rfl) ?_
  intro w53 w54 hb53 N54 hst54 hoth54
  refine then_n ?_
  have A55 := A48.keep hb53.out
  have A56 := A49.keep hb53.out
  have A57 := A50.keep hb53.out
  have A58 := A51.keep hb53.out
  have A59 := N47.keep hb53.out
  have HB60 := below_then HB52 hb53.out
  have A61 := hoth54 _ _ _ (Nat.ne_of_lt A4.lt) A55
  have A62 := hoth54 _ _ _ (Nat.ne_of_lt N3.lt) A56
  have A63 := hoth54 _ _ _ (Ne.symm (Nat.ne_of_lt A16.lt)) A58
  have A64 := hoth54 _ _ _ (Ne.symm (Nat.ne_of_lt A34.lt)) A59
  have HB65 := hst54 _ _ HB60 HB5.size
  exact wp_ret (bodyPost_ret (ret_celln (K := 6) Try.results28 rfl N54 flFp2) rfl ⟨rfl, HB65⟩)

theorem duoMul_e (a b c d : Nat) (w : World) (ha : a < fpB) (hb : b < fpB) (hc : c < fpB) (hd : d < fpB) (v0 v1 : Nat) (hv0 : v0 = (pSub (pMul a c) (pMul b d))) (hv1 : v1 = (pAdd (pMul a d) (pMul b c))) :
    Calls Try.prog 28 #[nv 6 [a, b], nv 6 [c, d]] w (Is (nv 6 [v0, v1]) w) := by
  rw [hv0, hv1]
  exact duoMul_v a b c d w ha hb hc hd

set_option maxRecDepth 20000 in
set_option maxHeartbeats 4000000 in
theorem duonorm_v (a b : Nat) (w : World) (ha : a < fpB) (hb : b < fpB) :
    Calls Try.prog 71 #[nv 6 [a, b]] w (Is (nv 6 [(pAdd (pMul a a) (pMul b b))]) w) := by
  go_enter Try.func71, Try.ntmps71
  refine seq_lit ?_
  refine sq_new (a' := ⟨#[nv 6 [a, b], .pointer (some ⟨w.heap.size, 0, none⟩), undef, undef, undef, undef, undef, undef, undef, undef, undef, undef, undef, undef], []⟩) (xs := rows 6 [a, b]) rfl rfl (ex_boxn (K := 6) (l := [a, b]) rfl) ?_
  intro w1 N1 hb1
  have HB2 := below_then (Below.refl w.heap.size w) hb1
  refine sq_new (a' := ⟨#[nv 6 [a, b], .pointer (some ⟨w.heap.size, 0, none⟩), .pointer (some ⟨w1.heap.size, 0, none⟩), undef, undef, undef, undef, undef, undef, undef, undef, undef, undef, undef], []⟩) (xs := rows 6 [0]) rfl rfl (ex_alloc zFp) ?_
  intro w3 N3 hb3
  have A4 := N1.keep hb3
  have HB5 := below_then HB2 hb3
  refine seq_nil ?_
  refine wp_seq (wp_region_last (F := ⟨#[nv 6 [a, b], .pointer (some ⟨w.heap.size, 0, none⟩), .pointer (some ⟨w1.heap.size, 0, none⟩), .pointer (some ⟨w.heap.size, 0, none⟩), nv 6 [a], .pointer (some ⟨w.heap.size, 0, none⟩), nv 6 [a], nv 6 [(pMul a a)], .pointer (some ⟨w.heap.size, 6, none⟩), nv 6 [b], .pointer (some ⟨w.heap.size, 6, none⟩), nv 6 [b], nv 6 [(pMul b b)], nv 6 [(pAdd (pMul a a) (pMul b b))]], []⟩) (S := Bel w3) [(3, .pointer (some ⟨w.heap.size, 0, none⟩)), (4, nv 6 [a]), (5, .pointer (some ⟨w.heap.size, 0, none⟩)), (6, nv 6 [a]), (7, nv 6 [(pMul a a)]), (8, .pointer (some ⟨w.heap.size, 6, none⟩)), (9, nv 6 [b]), (10, .pointer (some ⟨w.heap.size, 6, none⟩)), (11, nv 6 [b]), (12, nv 6 [(pMul b b)]), (13, nv 6 [(pAdd (pMul a a) (pMul b b))])] 11 _ (by kernel_rfl) (by kernel_rfl) (by kernel_rfl) (by kernel_rfl) rfl rfl (by kernel_rfl) rfl (by simp only [putAll, List.setIfInBounds_toArray, List.set_cons_zero, List.set_cons_succ]) (Bel.start _) ?_ ?_)
  · refine PlanInit.cons (ps_val (v := .pointer (some ⟨w.heap.size, 0, none⟩)) rfl rfl rfl (fun W' h => ex_field faFp2_0 rfl)) ?_
    refine PlanInit.cons (ps_val (v := nv 6 [a]) rfl rfl rfl (fun W' h => ex_loadn (K := 6) (k := 0) (j := 1) (l := [a, b]) flFp rfl (A4.keep h.out) rfl _ rfl)) ?_
    refine PlanInit.cons (ps_val (v := .pointer (some ⟨w.heap.size, 0, none⟩)) rfl rfl rfl (fun W' h => ex_field faFp2_0 rfl)) ?_
    refine PlanInit.cons (ps_val (v := nv 6 [a]) rfl rfl rfl (fun W' h => ex_loadn (K := 6) (k := 0) (j := 1) (l := [a, b]) flFp rfl (A4.keep h.out) rfl _ rfl)) ?_
    refine PlanInit.cons (ps_call (v := nv 6 [(pMul a a)]) rfl rfl rfl (fun W' => ex_call (vs := [nv 6 [a], nv 6 [a]]) rfl Try.call60 rfl) (fun W' h => fpMul_p a a _ ha ha)) ?_
    refine PlanInit.cons (ps_val (v := .pointer (some ⟨w.heap.size, 6, none⟩)) rfl rfl rfl (fun W' h => ex_field faFp2_1 rfl)) ?_
    refine PlanInit.cons (ps_val (v := nv 6 [b]) rfl rfl rfl (fun W' h => ex_loadn (K := 6) (k := 1) (j := 1) (l := [a, b]) flFp rfl (A4.keep h.out) rfl _ rfl)) ?_
    refine PlanInit.cons (ps_val (v := .pointer (some ⟨w.heap.size, 6, none⟩)) rfl rfl rfl (fun W' h => ex_field faFp2_1 rfl)) ?_
    refine PlanInit.cons (ps_val (v := nv 6 [b]) rfl rfl rfl (fun W' h => ex_loadn (K := 6) (k := 1) (j := 1) (l := [a, b]) flFp rfl (A4.keep h.out) rfl _ rfl)) ?_
    refine PlanInit.cons (ps_call (v := nv 6 [(pMul b b)]) rfl rfl rfl (fun W' => ex_call (vs := [nv 6 [b], nv 6 [b]]) rfl Try.call60 rfl) (fun W' h => fpMul_p b b _ hb hb)) ?_
    refine PlanInit.cons (ps_call (v := nv 6 [(pAdd (pMul a a) (pMul b b))]) rfl rfl rfl (fun W' => ex_call (vs := [nv 6 [(pMul a a)], nv 6 [(pMul b b)]]) rfl Try.call48 rfl) (fun W' h => fpAdd_p (pMul a a) (pMul b b) _ (pMul_B _ _) (pMul_B _ _))) ?_
    exact PlanInit.one
  refine last_store (t := 24) (xs := rows 6 [0]) (ys := rows 6 [(pAdd (pMul a a) (pMul b b))]) rfl rfl (fun W' h => N3.keep h.out) (len_rows rfl) (fun W' h => ex_storen (K := 6) (l := [0]) (m := [(pAdd (pMul a a) (pMul b b))]) flFp rfl rfl (N3.keep h.out) rfl) ?_
  intro w7 w8 hb7 N8 hst8 hoth8
  refine then_n ?_
  have A9 := A4.keep hb7.out
  have A10 := N3.keep hb7.out
  have HB11 := below_then HB5 hb7.out
  have A12 := hoth8 _ _ _ (Nat.ne_of_lt N1.lt) A9
  have HB13 := hst8 _ _ HB11 HB2.size
  exact wp_ret (bodyPost_ret (ret_celln (K := 6) Try.results71 rfl N8 flFp) rfl ⟨rfl, HB13⟩)

set_option maxRecDepth 20000 in
set_option maxHeartbeats 4000000 in
theorem duoscale_v (a b k : Nat) (w : World) (ha : a < fpB) (hb : b < fpB) (hk : k < fpB) :
    Calls Try.prog 68 #[nv 6 [a, b], nv 6 [k]] w (Is (nv 6 [(pMul a k), (pMul b k)]) w) := by
  go_enter Try.func68, Try.ntmps68
  refine seq_lit ?_
  refine sq_new (a' := ⟨#[nv 6 [a, b], nv 6 [k], .pointer (some ⟨w.heap.size, 0, none⟩), undef, undef, undef, undef, undef, undef, undef], []⟩) (xs := rows 6 [a, b]) rfl rfl (ex_boxn (K := 6) (l := [a, b]) rfl) ?_
  intro w1 N1 hb1
  have HB2 := below_then (Below.refl w.heap.size w) hb1
  refine sq_new (a' := ⟨#[nv 6 [a, b], nv 6 [k], .pointer (some ⟨w.heap.size, 0, none⟩), .pointer (some ⟨w1.heap.size, 0, none⟩), undef, undef, undef, undef, undef, undef], []⟩) (xs := rows 6 [k]) rfl rfl (ex_boxn (K := 6) (l := [k]) rfl) ?_
  intro w3 N3 hb3
  have A4 := N1.keep hb3
  have HB5 := below_then HB2 hb3
  refine sq_new (a' := ⟨#[nv 6 [a, b], nv 6 [k], .pointer (some ⟨w.heap.size, 0, none⟩), .pointer (some ⟨w1.heap.size, 0, none⟩), .pointer (some ⟨w3.heap.size, 0, none⟩), undef, undef, undef, undef, undef], []⟩) (xs := rows 6 [0, 0]) rfl rfl (ex_alloc zFp2) ?_
  intro w7 N7 hb7
  have A8 := A4.keep hb7
  have A9 := N3.keep hb7
  have HB10 := below_then HB5 hb7
  refine seq_nil ?_
  refine seq_lit ?_
  refine sq_val (a' := ⟨#[nv 6 [a, b], nv 6 [k], .pointer (some ⟨w.heap.size, 0, none⟩), .pointer (some ⟨w1.heap.size, 0, none⟩), .pointer (some ⟨w3.heap.size, 0, none⟩), nv 6 [a, b], undef, undef, undef, undef], []⟩) (v := nv 6 [a, b]) rfl rfl (ex_loadn (K := 6) (k := 0) (j := 2) (l := [a, b]) flFp2 rfl A8 rfl _ rfl) ?_
  refine sq_val (a' := ⟨#[nv 6 [a, b], nv 6 [k], .pointer (some ⟨w.heap.size, 0, none⟩), .pointer (some ⟨w1.heap.size, 0, none⟩), .pointer (some ⟨w3.heap.size, 0, none⟩), nv 6 [a, b], nv 6 [k], undef, undef, undef], []⟩) (v := nv 6 [k]) rfl rfl (ex_loadn (K := 6) (k := 0) (j := 1) (l := [k]) flFp rfl A9 rfl _ rfl) ?_
  refine sq_val (a' := ⟨#[nv 6 [a, b], nv 6 [k], .pointer (some ⟨w.heap.size, 0, none⟩), .pointer (some ⟨w1.heap.size, 0, none⟩), .pointer (some ⟨w3.heap.size, 0, none⟩), nv 6 [a, b], nv 6 [k], nv 6 [k], undef, undef], []⟩) (v := nv 6 [k]) rfl rfl (ex_loadn (K := 6) (k := 0) (j := 1) (l := [k]) flFp rfl A9 rfl _ rfl) ?_
  refine sq_val (a' := ⟨#[nv 6 [a, b], nv 6 [k], .pointer (some ⟨w.heap.size, 0, none⟩), .pointer (some ⟨w1.heap.size, 0, none⟩), .pointer (some ⟨w3.heap.size, 0, none⟩), nv 6 [a, b], nv 6 [k], nv 6 [k], nv 6 [k, k], undef], []⟩) (v := nv 6 [k, k]) rfl rfl (ex_build stFp2 (vs := [(0, nv 6 [k]), (1, nv 6 [k])]) rfl (bdAB k k)) ?_
  refine sq_call (a' := ⟨#[nv 6 [a, b], nv 6 [k], .pointer (some ⟨w.heap.size, 0, none⟩), .pointer (some ⟨w1.heap.size, 0, none⟩), .pointer (some ⟨w3.heap.size, 0, none⟩), nv 6 [a, b], nv 6 [k], nv 6 [k], nv 6 [k, k], nv 6 [(pMul a k), (pMul b k)]], []⟩) (v := nv 6 [(pMul a k), (pMul b k)]) rfl rfl (ex_call (vs := [nv 6 [a, b], nv 6 [k, k], .func (.func 46) #[] #[]]) rfl Try.call45 rfl) (pairwise_v _ Try.call46 pMul (fun x y w hx hy => parttimes_v x y w hx hy) a b k k _ ha hb hk hk) ?_
  intro w13 hb13
  have A14 := A8.keep hb13
  have A15 := A9.keep hb13
  have A16 := N7.keep hb13
  have HB17 := below_then HB10 hb13
  refine sq_store (a' := ⟨#[nv 6 [a, b], nv 6 [k], .pointer (some ⟨w.heap.size, 0, none⟩), .pointer (some ⟨w1.heap.size, 0, none⟩), .pointer (some ⟨w3.heap.size, 0, none⟩), nv 6 [a, b], nv 6 [k], nv 6 [k], nv 6 [k, k], nv 6 [(pMul a k), (pMul b k)]], []⟩) (t := 26) (xs := rows 6 [0, 0]) (ys := rows 6 [(pMul a k), (pMul b k)]) rfl rfl A16 (len_rows rfl) (ex_storen (K := 6) (l := [0, 0]) (m := [(pMul a k), (pMul b k)]) flFp2 rfl rfl A16 rfl) ?_
  intro w18 N18 hst18 hoth18
  have A19 := hoth18 _ _ _ (Nat.ne_of_lt A4.lt) A14
  have A20 := hoth18 _ _ _ (Nat.ne_of_lt N3.lt) A15
  have HB21 := hst18 _ _ HB17 HB5.size
  refine seq_nil ?_
  exact wp_ret (bodyPost_ret (ret_celln (K := 6) Try.results68 rfl N18 flFp2) rfl ⟨rfl, HB21⟩)

set_option maxRecDepth 20000 in
set_option maxHeartbeats 4000000 in
theorem duoInv_v (a b : Nat) (w : World) (ha : a < fpB) (hb : b < fpB) (i : Nat) (hi : i = pInv (pAdd (pMul a a) (pMul b b))) :
    Calls Try.prog 54 #[nv 6 [a, b]] w (Is (nv 6 [(pMul (pCl a) i), (pMul (pNeg b) i)]) w) := by
  go_enter Try.func54, Try.ntmps54
  refine seq_lit ?_
  refine sq_new (a' := ⟨#[nv 6 [a, b], .pointer (some ⟨w.heap.size, 0, none⟩), undef, undef, undef, undef, undef, undef, undef], []⟩) (xs := rows 6 [a, b]) rfl rfl (ex_boxn (K := 6) (l := [a, b]) rfl) ?_
  intro w1 N1 hb1
  have HB2 := below_then (Below.refl w.heap.size w) hb1
  refine sq_new (a' := ⟨#[nv 6 [a, b], .pointer (some ⟨w.heap.size, 0, none⟩), .pointer (some ⟨w1.heap.size, 0, none⟩), undef, undef, undef, undef, undef, undef], []⟩) (xs := rows 6 [0, 0]) rfl rfl (ex_alloc zFp2) ?_
  intro w3 N3 hb3
  have A4 := N1.keep hb3
  have HB5 := below_then HB2 hb3
  refine seq_nil ?_
  refine wp_seq (wp_region_last (F := ⟨#[nv 6 [a, b], .pointer (some ⟨w.heap.size, 0, none⟩), .pointer (some ⟨w1.heap.size, 0, none⟩), nv 6 [a, b], nv 6 [(pCl a), (pNeg b)], nv 6 [a, b], nv 6 [(pAdd (pMul a a) (pMul b b))], nv 6 [i], nv 6 [(pMul (pCl a) i), (pMul (pNeg b) i)]], []⟩) (S := Bel w3) [(3, nv 6 [a, b]), (4, nv 6 [(pCl a), (pNeg b)]), (5, nv 6 [a, b]), (6, nv 6 [(pAdd (pMul a a) (pMul b b))]), (7, nv 6 [i]), (8, nv 6 [(pMul (pCl a) i), (pMul (pNeg b) i)])] 6 _ (by kernel_rfl) (by kernel_rfl) (by kernel_rfl) (by kernel_rfl) rfl rfl (by kernel_rfl) rfl (by simp only [putAll, List.setIfInBounds_toArray, List.set_cons_zero, List.set_cons_succ]) (Bel.start _) ?_ ?_)
  · refine PlanInit.cons (ps_val (v := nv 6 [a, b]) rfl rfl rfl (fun W' h => ex_loadn (K := 6) (k := 0) (j := 2) (l := [a, b]) flFp2 rfl (A4.keep h.out) rfl _ rfl)) ?_
    refine PlanInit.cons (ps_call (v := nv 6 [(pCl a), (pNeg b)]) rfl rfl rfl (fun W' => ex_call (vs := [nv 6 [a, b]]) rfl Try.call69 rfl) (fun W' h => duoConj_v a b _ ha hb)) ?_
    refine PlanInit.cons (ps_val (v := nv 6 [a, b]) rfl rfl rfl (fun W' h => ex_loadn (K := 6) (k := 0) (j := 2) (l := [a, b]) flFp2 rfl (A4.keep h.out) rfl _ rfl)) ?_
    refine PlanInit.cons (ps_call (v := nv 6 [(pAdd (pMul a a) (pMul b b))]) rfl rfl rfl (fun W' => ex_call (vs := [nv 6 [a, b]]) rfl Try.call71 rfl) (fun W' h => duonorm_v a b _ ha hb)) ?_
    refine PlanInit.cons (ps_call (v := nv 6 [i]) rfl rfl rfl (fun W' => ex_call (vs := [nv 6 [(pAdd (pMul a a) (pMul b b))]]) rfl Try.call70 rfl) (fun W' h => fpInv_p (pAdd (pMul a a) (pMul b b)) _ (pAdd_B _ _) i hi)) ?_
    refine PlanInit.cons (ps_call (v := nv 6 [(pMul (pCl a) i), (pMul (pNeg b) i)]) rfl rfl rfl (fun W' => ex_call (vs := [nv 6 [(pCl a), (pNeg b)], nv 6 [i]]) rfl Try.call68 rfl) (fun W' h => duoscale_v (pCl a) (pNeg b) i _ (pCl_B _) (pNeg_B _) (by rw [hi]; exact pInv_B _))) ?_
    exact PlanInit.one
  refine last_store (t := 26) (xs := rows 6 [0, 0]) (ys := rows 6 [(pMul (pCl a) i), (pMul (pNeg b) i)]) rfl rfl (fun W' h => N3.keep h.out) (len_rows rfl) (fun W' h => ex_storen (K := 6) (l := [0, 0]) (m := [(pMul (pCl a) i), (pMul (pNeg b) i)]) flFp2 rfl rfl (N3.keep h.out) rfl) ?_
  intro w7 w8 hb7 N8 hst8 hoth8
  refine then_n ?_
  have A9 := A4.keep hb7.out
  have A10 := N3.keep hb7.out
  have HB11 := below_then HB5 hb7.out
  have A12 := hoth8 _ _ _ (Nat.ne_of_lt N1.lt) A9
  have HB13 := hst8 _ _ HB11 HB2.size
  exact wp_ret (bodyPost_ret (ret_celln (K := 6) Try.results54 rfl N8 flFp2) rfl ⟨rfl, HB13⟩)

theorem duoInv_e (a b : Nat) (w : World) (ha : a < fpB) (hb : b < fpB) (i : Nat) (hi : i = pInv (pAdd (pMul a a) (pMul b b))) (v0 v1 : Nat) (hv0 : v0 = (pMul (pCl a) i)) (hv1 : v1 = (pMul (pNeg b) i)) :
    Calls Try.prog 54 #[nv 6 [a, b]] w (Is (nv 6 [v0, v1]) w) := by
  rw [hv0, hv1]
  exact duoInv_v a b w ha hb i hi

/-- The number v stands for z modulo p. -/
def Rep (v : Nat) (z : Int) : Prop := ∃ k : Int, (v : Int) = z + (pN : Int) * k

theorem rep_self (a : Nat) : Rep a (a : Int) := ⟨0, by omega⟩

theorem rep_mod {a : Nat} {z : Int} (h : Rep a z) : Rep (a % pN) z := by
  obtain ⟨k, hk⟩ := h
  refine ⟨k - ((a / pN : Nat) : Int), ?_⟩
  have e : ((a % pN : Nat) : Int) = (a : Int) - (pN : Int) * ((a / pN : Nat) : Int) := by
    have := Nat.div_add_mod a pN
    generalize a / pN = q at *
    generalize a % pN = r at *
    generalize pN = M at *
    subst this
    push_cast
    grind
  rw [e, hk]
  generalize (pN : Int) = M
  grind

theorem rep_cl {a : Nat} {z : Int} (h : Rep a z) : Rep (pCl a) z := rep_mod h

theorem rep_add {a b : Nat} {x y : Int} (h : Rep a x) (h' : Rep b y) : Rep (pAdd a b) (x + y) := by
  refine rep_mod ?_
  obtain ⟨k, hk⟩ := h
  obtain ⟨l, hl⟩ := h'
  refine ⟨k + l, ?_⟩
  push_cast
  rw [hk, hl]
  generalize (pN : Int) = M
  grind

theorem rep_mul {a b : Nat} {x y : Int} (h : Rep a x) (h' : Rep b y) : Rep (pMul a b) (x * y) := by
  refine rep_mod ?_
  obtain ⟨k, hk⟩ := h
  obtain ⟨l, hl⟩ := h'
  refine ⟨x * l + k * y + (pN : Int) * k * l, ?_⟩
  push_cast
  rw [hk, hl]
  generalize (pN : Int) = M
  grind

theorem rep_less {b : Nat} {y : Int} (h : Rep b y) : Rep (pN - b % pN) (-y) := by
  obtain ⟨k, hk⟩ := rep_mod h
  have hlt : b % pN < pN := fpM_mod b
  refine ⟨1 - k, ?_⟩
  rw [Int.ofNat_sub (Nat.le_of_lt hlt), hk]
  generalize (pN : Int) = M
  grind

theorem rep_plus {a b : Nat} {x y : Int} (h : Rep a x) (h' : Rep b y) : Rep (a + b) (x + y) := by
  obtain ⟨k, hk⟩ := h
  obtain ⟨l, hl⟩ := h'
  refine ⟨k + l, ?_⟩
  push_cast
  rw [hk, hl]
  generalize (pN : Int) = M
  grind

theorem rep_sub {a b : Nat} {x y : Int} (h : Rep a x) (h' : Rep b y) : Rep (pSub a b) (x - y) := by
  have := rep_mod (rep_plus h (rep_less h'))
  rwa [← Int.sub_eq_add_neg] at this

theorem rep_eq {v u : Nat} (h : v = u) {z : Int} (hr : Rep u z) : Rep v z := by rw [h]; exact hr

theorem rep_uniq {u v : Nat} {x y : Int} (hu : u < pN) (hv : v < pN) (h : Rep u x) (h' : Rep v y) (e : x = y) : u = v := by
  obtain ⟨k, hk⟩ := h
  obtain ⟨l, hl⟩ := h'
  subst e
  have hM : (0 : Int) < (pN : Int) := by decide +kernel
  have h1 : (u : Int) < (pN : Int) := by exact_mod_cast hu
  have h2 : (v : Int) < (pN : Int) := by exact_mod_cast hv
  have h3 : (u : Int) - v = (pN : Int) * (k - l) := by
    rw [hk, hl]
    generalize (pN : Int) = M
    grind
  have hkl : k - l = 0 := by
    rcases Int.lt_trichotomy (k - l) 0 with h | h | h
    · have : (pN : Int) * (k - l) ≤ (pN : Int) * (-1) := Int.mul_le_mul_of_nonneg_left (by omega) (Int.le_of_lt hM)
      rw [← h3] at this
      omega
    · exact h
    · have : (pN : Int) * 1 ≤ (pN : Int) * (k - l) := Int.mul_le_mul_of_nonneg_left (by omega) (Int.le_of_lt hM)
      rw [← h3] at this
      omega
  rw [hkl, Int.mul_zero] at h3
  omega

/-- The inverse. -/
theorem pInv_mul {n : Nat} (h : pCl n ≠ 0) : pMul n (pInv n) = 1 := by
  have h1 := p_inv (pCl n) (by omega) (pCl_P n)
  unfold pCl at h1
  rw [← Nat.pow_mod, Nat.mod_mul_mod] at h1
  delta pMul pInv
  exact h1

theorem pCl_of {a : Nat} (h : a < pN) : pCl a = a := Nat.mod_eq_of_lt h

/-! ### norms and inverses -/

theorem neg_pow (k : Nat) : (pN - 1) ^ (2 * k + 1) % pN = pN - 1 := by
  have h1 : (pN - 1) ^ 2 % pN = 1 := by decide +kernel
  have h2 : (pN - 1) % pN = pN - 1 := by decide +kernel
  rw [Nat.pow_succ, Nat.pow_mul, Nat.mul_mod, Nat.pow_mod ((pN - 1) ^ 2), h1, Nat.one_pow, Nat.mod_eq_of_lt one_P, Nat.one_mul, Nat.mod_mod, h2]

theorem half_odd : pN - 1 = 2 * (2 * ((pN - 3) / 4) + 1) := by decide +kernel

/-- A square is not -1. -/
theorem no_neg_square (x : Nat) (h : pMul x x = pN - 1) : False := by
  have hx : x % pN ≠ 0 := fun h0 => by
    unfold pMul at h
    rw [Nat.mul_mod, h0, Nat.zero_mul, Nat.zero_mod] at h
    revert h
    decide +kernel
  have hf := p_fermat (x % pN) (by omega) (fpM_mod x)
  rw [half_odd, Nat.pow_mul, Nat.pow_mod, Nat.pow_two, ← Nat.mul_mod, show x * x % pN = pN - 1 from h, neg_pow] at hf
  revert hf
  decide +kernel

theorem pMul_zero {a b : Nat} (h : pMul a b = 0) : pCl a = 0 ∨ pCl b = 0 := by
  by_cases hb : pCl b = 0
  · exact .inr hb
  · left
    have h1 := pInv_mul hb
    have r1 : Rep 1 ((b : Int) * (pInv b : Nat)) := rep_eq h1.symm (rep_mul (rep_self b) (rep_self (pInv b)))
    have r0 : Rep 0 ((a : Int) * b) := rep_eq h.symm (rep_mul (rep_self a) (rep_self b))
    have r2 : Rep (pMul a 1) ((a : Int) * ((b : Int) * (pInv b : Nat))) := rep_mul (rep_self a) r1
    have r3 : Rep (pMul 0 (pInv b)) ((a : Int) * b * (pInv b : Nat)) := rep_mul r0 (rep_self (pInv b))
    have e := rep_uniq (pMul_P _ _) (pMul_P _ _) r2 r3 (by grind)
    unfold pMul at e
    rw [Nat.mul_one, Nat.zero_mul, Nat.zero_mod] at e
    exact e

/-- A norm is 0 of 0 alone. -/
theorem norm_zero {a b : Nat} (h : pAdd (pMul a a) (pMul b b) = 0) : pCl a = 0 ∧ pCl b = 0 := by
  have r0 : Rep 0 ((a : Int) * a + (b : Int) * b) := rep_eq h.symm (rep_add (rep_mul (rep_self a) (rep_self a)) (rep_mul (rep_self b) (rep_self b)))
  by_cases hb : pCl b = 0
  · refine ⟨?_, hb⟩
    have rb : Rep 0 (b : Int) := rep_eq hb.symm (rep_cl (rep_self b))
    have e : pMul a a = 0 := by
      have r1 : Rep (pSub 0 (pMul 0 0)) (((a : Int) * a + (b : Int) * b) - (b : Int) * b) := rep_sub r0 (rep_mul rb rb)
      have := rep_uniq (pMul_P a a) (pSub_P _ _) (rep_mul (rep_self a) (rep_self a)) r1 (by grind)
      rw [this]
      decide +kernel
    rcases pMul_zero e with h | h <;> exact h
  · exfalso
    have h1 := pInv_mul hb
    have r1 : Rep 1 ((b : Int) * (pInv b : Nat)) := rep_eq h1.symm (rep_mul (rep_self b) (rep_self (pInv b)))
    refine no_neg_square (pMul a (pInv b)) ?_
    have rx := rep_mul (rep_self a) (rep_self (pInv b))
    have rl := rep_mul rx rx
    have rr : Rep (pSub (pMul 0 (pMul (pInv b) (pInv b))) (pMul 1 1)) (((a : Int) * a + (b : Int) * b) * ((pInv b : Nat) * (pInv b : Nat)) - ((b : Int) * (pInv b : Nat)) * ((b : Int) * (pInv b : Nat))) :=
      rep_sub (rep_mul r0 (rep_mul (rep_self (pInv b)) (rep_self (pInv b)))) (rep_mul r1 r1)
    have e := rep_uniq (pMul_P _ _) (pSub_P _ _) rl rr (by grind)
    rw [e]
    unfold pMul
    rw [Nat.zero_mul]
    decide +kernel

theorem r4Clean_p (a : Nat) (w : World) (ha : a < fpB) : Calls Try.prog 23 #[nv 6 [a]] w (Is (nv 6 [pCl a]) w) := r4Clean_n a w ha _ (by delta pCl; exact Eq.refl _)
theorem r4Add_p (a b : Nat) (w : World) (ha : a < pN) (hb : b < pN) : Calls Try.prog 26 #[nv 6 [a], nv 6 [b]] w (Is (nv 6 [pAdd a b]) w) := r4Add_n a b w ha hb _ (by delta pAdd; exact Eq.refl _)
theorem r4Sub_p (a b : Nat) (w : World) (ha : a < pN) (hb : b < pN) : Calls Try.prog 25 #[nv 6 [a], nv 6 [b]] w (Is (nv 6 [pSub a b]) w) := r4Sub_n a b w ha hb _ (by delta pSub; rw [Nat.mod_eq_of_lt hb])
theorem r4Mul_p (a b : Nat) (w : World) (ha : a < pN) (hb : b < pN) : Calls Try.prog 24 #[nv 6 [a], nv 6 [b]] w (Is (nv 6 [pMul a b]) w) := r4Mul_n a b w ha hb _ (by delta pMul; exact Eq.refl _)

theorem ex_one {ρ : Operand → Value} {d : Option Tmp} {ty0 : TypeId} {pos : String} {after : Array Edge} {guard : Option (Nat × Bool)} {w : World} (HC : ρ (.const (.int .u64 1)) = .int .u64 1) :
    (execOp ρ ⟨d, .build 24 #[(0, .const (.int .u64 1))], ty0, pos, after, guard⟩).run Try.prog w = .ok (.value (nv 6 [1])) w := by
  rw [← litOne]
  simp [execOp, Instr.build, Instr.fill, Sem.run_bind, Value.cells, go_sem, HC]

set_option maxRecDepth 20000 in
set_option maxHeartbeats 4000000 in
theorem r5Clean_v (a b : Nat) (w : World) (ha : a < fpB) (hb : b < fpB) :
    Calls Try.prog 13 #[nv 6 [a, b]] w (Is (nv 6 [(pCl a), (pCl b)]) w) := by
  go_enter Try.func13, Try.ntmps13
  refine seq_lit ?_
  refine sq_new (a' := ⟨#[nv 6 [a, b], .pointer (some ⟨w.heap.size, 0, none⟩), undef, undef, undef, undef, undef, undef, undef, undef], []⟩) (xs := rows 6 [a, b]) rfl rfl (ex_boxn (K := 6) (l := [a, b]) rfl) ?_
  intro w1 N1 hb1
  have HB2 := below_then (Below.refl w.heap.size w) hb1
  refine sq_new (a' := ⟨#[nv 6 [a, b], .pointer (some ⟨w.heap.size, 0, none⟩), .pointer (some ⟨w1.heap.size, 0, none⟩), undef, undef, undef, undef, undef, undef, undef], []⟩) (xs := rows 6 [0, 0]) rfl rfl (ex_alloc zFp2) ?_
  intro w3 N3 hb3
  have A4 := N1.keep hb3
  have HB5 := below_then HB2 hb3
  refine seq_nil ?_
  refine wp_seq (wp_region_last (F := ⟨#[nv 6 [a, b], .pointer (some ⟨w.heap.size, 0, none⟩), .pointer (some ⟨w1.heap.size, 0, none⟩), .pointer (some ⟨w.heap.size, 0, none⟩), nv 6 [a], nv 6 [(pCl a)], .pointer (some ⟨w.heap.size, 6, none⟩), nv 6 [b], nv 6 [(pCl b)], nv 6 [(pCl a), (pCl b)]], []⟩) (S := Bel w3) [(3, .pointer (some ⟨w.heap.size, 0, none⟩)), (4, nv 6 [a]), (5, nv 6 [(pCl a)]), (6, .pointer (some ⟨w.heap.size, 6, none⟩)), (7, nv 6 [b]), (8, nv 6 [(pCl b)]), (9, nv 6 [(pCl a), (pCl b)])] 7 _ (by kernel_rfl) (by kernel_rfl) (by kernel_rfl) (by kernel_rfl) rfl rfl (by kernel_rfl) rfl (by simp only [putAll, List.setIfInBounds_toArray, List.set_cons_zero, List.set_cons_succ]) (Bel.start _) ?_ ?_)
  · refine PlanInit.cons (ps_val (v := .pointer (some ⟨w.heap.size, 0, none⟩)) rfl rfl rfl (fun W' h => ex_field faFp2_0 rfl)) ?_
    refine PlanInit.cons (ps_val (v := nv 6 [a]) rfl rfl rfl (fun W' h => ex_loadn (K := 6) (k := 0) (j := 1) (l := [a, b]) flFp rfl (A4.keep h.out) rfl _ rfl)) ?_
    refine PlanInit.cons (ps_call (v := nv 6 [(pCl a)]) rfl rfl rfl (fun W' => ex_call (vs := [nv 6 [a]]) rfl Try.call23 rfl) (fun W' h => r4Clean_p a _ ha)) ?_
    refine PlanInit.cons (ps_val (v := .pointer (some ⟨w.heap.size, 6, none⟩)) rfl rfl rfl (fun W' h => ex_field faFp2_1 rfl)) ?_
    refine PlanInit.cons (ps_val (v := nv 6 [b]) rfl rfl rfl (fun W' h => ex_loadn (K := 6) (k := 1) (j := 1) (l := [a, b]) flFp rfl (A4.keep h.out) rfl _ rfl)) ?_
    refine PlanInit.cons (ps_call (v := nv 6 [(pCl b)]) rfl rfl rfl (fun W' => ex_call (vs := [nv 6 [b]]) rfl Try.call23 rfl) (fun W' h => r4Clean_p b _ hb)) ?_
    refine PlanInit.cons (ps_val (v := nv 6 [(pCl a), (pCl b)]) rfl rfl rfl (fun W' h => ex_build stFp2 (vs := [(0, nv 6 [(pCl a)]), (1, nv 6 [(pCl b)])]) rfl (bdAB (pCl a) (pCl b)))) ?_
    exact PlanInit.one
  refine last_store (t := 26) (xs := rows 6 [0, 0]) (ys := rows 6 [(pCl a), (pCl b)]) rfl rfl (fun W' h => N3.keep h.out) (len_rows rfl) (fun W' h => ex_storen (K := 6) (l := [0, 0]) (m := [(pCl a), (pCl b)]) flFp2 rfl rfl (N3.keep h.out) rfl) ?_
  intro w7 w8 hb7 N8 hst8 hoth8
  refine then_n ?_
  have A9 := A4.keep hb7.out
  have A10 := N3.keep hb7.out
  have HB11 := below_then HB5 hb7.out
  have A12 := hoth8 _ _ _ (Nat.ne_of_lt N1.lt) A9
  have HB13 := hst8 _ _ HB11 HB2.size
  exact wp_ret (bodyPost_ret (ret_celln (K := 6) Try.results13 rfl N8 flFp2) rfl ⟨rfl, HB13⟩)

theorem r5Clean_e (a b : Nat) (w : World) (ha : a < fpB) (hb : b < fpB) (v0 v1 : Nat) (hv0 : v0 = (pCl a)) (hv1 : v1 = (pCl b)) :
    Calls Try.prog 13 #[nv 6 [a, b]] w (Is (nv 6 [v0, v1]) w) := by
  rw [hv0, hv1]
  exact r5Clean_v a b w ha hb

set_option maxRecDepth 20000 in
set_option maxHeartbeats 4000000 in
theorem r5Add_v (a b c d : Nat) (w : World) (ha : a < pN) (hb : b < pN) (hc : c < pN) (hd : d < pN) :
    Calls Try.prog 15 #[nv 6 [a, b], nv 6 [c, d]] w (Is (nv 6 [(pAdd a c), (pAdd b d)]) w) := by
  go_enter Try.func15, Try.ntmps15
  refine seq_lit ?_
  refine sq_new (a' := ⟨#[nv 6 [a, b], nv 6 [c, d], .pointer (some ⟨w.heap.size, 0, none⟩), undef, undef, undef, undef, undef, undef, undef, undef, undef, undef, undef, undef, undef], []⟩) (xs := rows 6 [a, b]) rfl rfl (ex_boxn (K := 6) (l := [a, b]) rfl) ?_
  intro w1 N1 hb1
  have HB2 := below_then (Below.refl w.heap.size w) hb1
  refine sq_new (a' := ⟨#[nv 6 [a, b], nv 6 [c, d], .pointer (some ⟨w.heap.size, 0, none⟩), .pointer (some ⟨w1.heap.size, 0, none⟩), undef, undef, undef, undef, undef, undef, undef, undef, undef, undef, undef, undef], []⟩) (xs := rows 6 [c, d]) rfl rfl (ex_boxn (K := 6) (l := [c, d]) rfl) ?_
  intro w3 N3 hb3
  have A4 := N1.keep hb3
  have HB5 := below_then HB2 hb3
  refine sq_new (a' := ⟨#[nv 6 [a, b], nv 6 [c, d], .pointer (some ⟨w.heap.size, 0, none⟩), .pointer (some ⟨w1.heap.size, 0, none⟩), .pointer (some ⟨w3.heap.size, 0, none⟩), undef, undef, undef, undef, undef, undef, undef, undef, undef, undef, undef], []⟩) (xs := rows 6 [0, 0]) rfl rfl (ex_alloc zFp2) ?_
  intro w7 N7 hb7
  have A8 := A4.keep hb7
  have A9 := N3.keep hb7
  have HB10 := below_then HB5 hb7
  refine seq_nil ?_
  refine wp_seq (wp_region_last (F := ⟨#[nv 6 [a, b], nv 6 [c, d], .pointer (some ⟨w.heap.size, 0, none⟩), .pointer (some ⟨w1.heap.size, 0, none⟩), .pointer (some ⟨w3.heap.size, 0, none⟩), .pointer (some ⟨w.heap.size, 0, none⟩), nv 6 [a], .pointer (some ⟨w1.heap.size, 0, none⟩), nv 6 [c], nv 6 [(pAdd a c)], .pointer (some ⟨w.heap.size, 6, none⟩), nv 6 [b], .pointer (some ⟨w1.heap.size, 6, none⟩), nv 6 [d], nv 6 [(pAdd b d)], nv 6 [(pAdd a c), (pAdd b d)]], []⟩) (S := Bel w7) [(5, .pointer (some ⟨w.heap.size, 0, none⟩)), (6, nv 6 [a]), (7, .pointer (some ⟨w1.heap.size, 0, none⟩)), (8, nv 6 [c]), (9, nv 6 [(pAdd a c)]), (10, .pointer (some ⟨w.heap.size, 6, none⟩)), (11, nv 6 [b]), (12, .pointer (some ⟨w1.heap.size, 6, none⟩)), (13, nv 6 [d]), (14, nv 6 [(pAdd b d)]), (15, nv 6 [(pAdd a c), (pAdd b d)])] 11 _ (by kernel_rfl) (by kernel_rfl) (by kernel_rfl) (by kernel_rfl) rfl rfl (by kernel_rfl) rfl (by simp only [putAll, List.setIfInBounds_toArray, List.set_cons_zero, List.set_cons_succ]) (Bel.start _) ?_ ?_)
  · refine PlanInit.cons (ps_val (v := .pointer (some ⟨w.heap.size, 0, none⟩)) rfl rfl rfl (fun W' h => ex_field faFp2_0 rfl)) ?_
    refine PlanInit.cons (ps_val (v := nv 6 [a]) rfl rfl rfl (fun W' h => ex_loadn (K := 6) (k := 0) (j := 1) (l := [a, b]) flFp rfl (A8.keep h.out) rfl _ rfl)) ?_
    refine PlanInit.cons (ps_val (v := .pointer (some ⟨w1.heap.size, 0, none⟩)) rfl rfl rfl (fun W' h => ex_field faFp2_0 rfl)) ?_
    refine PlanInit.cons (ps_val (v := nv 6 [c]) rfl rfl rfl (fun W' h => ex_loadn (K := 6) (k := 0) (j := 1) (l := [c, d]) flFp rfl (A9.keep h.out) rfl _ rfl)) ?_
    refine PlanInit.cons (ps_call (v := nv 6 [(pAdd a c)]) rfl rfl rfl (fun W' => ex_call (vs := [nv 6 [a], nv 6 [c]]) rfl Try.call26 rfl) (fun W' h => r4Add_p a c _ ha hc)) ?_
    refine PlanInit.cons (ps_val (v := .pointer (some ⟨w.heap.size, 6, none⟩)) rfl rfl rfl (fun W' h => ex_field faFp2_1 rfl)) ?_
    refine PlanInit.cons (ps_val (v := nv 6 [b]) rfl rfl rfl (fun W' h => ex_loadn (K := 6) (k := 1) (j := 1) (l := [a, b]) flFp rfl (A8.keep h.out) rfl _ rfl)) ?_
    refine PlanInit.cons (ps_val (v := .pointer (some ⟨w1.heap.size, 6, none⟩)) rfl rfl rfl (fun W' h => ex_field faFp2_1 rfl)) ?_
    refine PlanInit.cons (ps_val (v := nv 6 [d]) rfl rfl rfl (fun W' h => ex_loadn (K := 6) (k := 1) (j := 1) (l := [c, d]) flFp rfl (A9.keep h.out) rfl _ rfl)) ?_
    refine PlanInit.cons (ps_call (v := nv 6 [(pAdd b d)]) rfl rfl rfl (fun W' => ex_call (vs := [nv 6 [b], nv 6 [d]]) rfl Try.call26 rfl) (fun W' h => r4Add_p b d _ hb hd)) ?_
    refine PlanInit.cons (ps_val (v := nv 6 [(pAdd a c), (pAdd b d)]) rfl rfl rfl (fun W' h => ex_build stFp2 (vs := [(0, nv 6 [(pAdd a c)]), (1, nv 6 [(pAdd b d)])]) rfl (bdAB (pAdd a c) (pAdd b d)))) ?_
    exact PlanInit.one
  refine last_store (t := 26) (xs := rows 6 [0, 0]) (ys := rows 6 [(pAdd a c), (pAdd b d)]) rfl rfl (fun W' h => N7.keep h.out) (len_rows rfl) (fun W' h => ex_storen (K := 6) (l := [0, 0]) (m := [(pAdd a c), (pAdd b d)]) flFp2 rfl rfl (N7.keep h.out) rfl) ?_
  intro w13 w14 hb13 N14 hst14 hoth14
  refine then_n ?_
  have A15 := A8.keep hb13.out
  have A16 := A9.keep hb13.out
  have A17 := N7.keep hb13.out
  have HB18 := below_then HB10 hb13.out
  have A19 := hoth14 _ _ _ (Nat.ne_of_lt A4.lt) A15
  have A20 := hoth14 _ _ _ (Nat.ne_of_lt N3.lt) A16
  have HB21 := hst14 _ _ HB18 HB5.size
  exact wp_ret (bodyPost_ret (ret_celln (K := 6) Try.results15 rfl N14 flFp2) rfl ⟨rfl, HB21⟩)

theorem r5Add_e (a b c d : Nat) (w : World) (ha : a < pN) (hb : b < pN) (hc : c < pN) (hd : d < pN) (v0 v1 : Nat) (hv0 : v0 = (pAdd a c)) (hv1 : v1 = (pAdd b d)) :
    Calls Try.prog 15 #[nv 6 [a, b], nv 6 [c, d]] w (Is (nv 6 [v0, v1]) w) := by
  rw [hv0, hv1]
  exact r5Add_v a b c d w ha hb hc hd

set_option maxRecDepth 20000 in
set_option maxHeartbeats 4000000 in
theorem r5Mul_v (a b c d : Nat) (w : World) (ha : a < pN) (hb : b < pN) (hc : c < pN) (hd : d < pN) :
    Calls Try.prog 14 #[nv 6 [a, b], nv 6 [c, d]] w (Is (nv 6 [(pSub (pMul a c) (pMul b d)), (pAdd (pMul a d) (pMul b c))]) w) := by
  go_enter Try.func14, Try.ntmps14
  refine seq_lit ?_
  refine sq_new (a' := ⟨#[nv 6 [a, b], nv 6 [c, d], .pointer (some ⟨w.heap.size, 0, none⟩), undef, undef, undef, undef, undef, undef, undef, undef, undef, undef, undef, undef, undef, undef, undef, undef, undef, undef, undef, undef, undef, undef, undef, undef, undef, undef, undef, undef, undef, undef, undef, undef, undef], []⟩) (xs := rows 6 [a, b]) rfl rfl (ex_boxn (K := 6) (l := [a, b]) rfl) ?_
  intro w1 N1 hb1
  have HB2 := below_then (Below.refl w.heap.size w) hb1
  refine sq_new (a' := ⟨#[nv 6 [a, b], nv 6 [c, d], .pointer (some ⟨w.heap.size, 0, none⟩), .pointer (some ⟨w1.heap.size, 0, none⟩), undef, undef, undef, undef, undef, undef, undef, undef, undef, undef, undef, undef, undef, undef, undef, undef, undef, undef, undef, undef, undef, undef, undef, undef, undef, undef, undef, undef, undef, undef, undef, undef], []⟩) (xs := rows 6 [c, d]) rfl rfl (ex_boxn (K := 6) (l := [c, d]) rfl) ?_
  intro w3 N3 hb3
  have A4 := N1.keep hb3
  have HB5 := below_then HB2 hb3
  refine sq_new (a' := ⟨#[nv 6 [a, b], nv 6 [c, d], .pointer (some ⟨w.heap.size, 0, none⟩), .pointer (some ⟨w1.heap.size, 0, none⟩), .pointer (some ⟨w3.heap.size, 0, none⟩), undef, undef, undef, undef, undef, undef, undef, undef, undef, undef, undef, undef, undef, undef, undef, undef, undef, undef, undef, undef, undef, undef, undef, undef, undef, undef, undef, undef, undef, undef, undef], []⟩) (xs := rows 6 [0, 0]) rfl rfl (ex_alloc zFp2) ?_
  intro w7 N7 hb7
  have A8 := A4.keep hb7
  have A9 := N3.keep hb7
  have HB10 := below_then HB5 hb7
  refine seq_nil ?_
  refine seq_lit ?_
  refine sq_val (a' := ⟨#[nv 6 [a, b], nv 6 [c, d], .pointer (some ⟨w.heap.size, 0, none⟩), .pointer (some ⟨w1.heap.size, 0, none⟩), .pointer (some ⟨w3.heap.size, 0, none⟩), undef, undef, undef, undef, .pointer (some ⟨w.heap.size, 0, none⟩), undef, undef, undef, undef, undef, undef, undef, undef, undef, undef, undef, undef, undef, undef, undef, undef, undef, undef, undef, undef, undef, undef, undef, undef, undef, undef], []⟩) (v := .pointer (some ⟨w.heap.size, 0, none⟩)) rfl rfl (ex_field faFp2_0 rfl) ?_
  refine sq_val (a' := ⟨#[nv 6 [a, b], nv 6 [c, d], .pointer (some ⟨w.heap.size, 0, none⟩), .pointer (some ⟨w1.heap.size, 0, none⟩), .pointer (some ⟨w3.heap.size, 0, none⟩), undef, undef, undef, undef, .pointer (some ⟨w.heap.size, 0, none⟩), nv 6 [a], undef, undef, undef, undef, undef, undef, undef, undef, undef, undef, undef, undef, undef, undef, undef, undef, undef, undef, undef, undef, undef, undef, undef, undef, undef], []⟩) (v := nv 6 [a]) rfl rfl (ex_loadn (K := 6) (k := 0) (j := 1) (l := [a, b]) flFp rfl A8 rfl _ rfl) ?_
  refine sq_val (a' := ⟨#[nv 6 [a, b], nv 6 [c, d], .pointer (some ⟨w.heap.size, 0, none⟩), .pointer (some ⟨w1.heap.size, 0, none⟩), .pointer (some ⟨w3.heap.size, 0, none⟩), undef, undef, undef, undef, .pointer (some ⟨w.heap.size, 0, none⟩), nv 6 [a], .pointer (some ⟨w1.heap.size, 0, none⟩), undef, undef, undef, undef, undef, undef, undef, undef, undef, undef, undef, undef, undef, undef, undef, undef, undef, undef, undef, undef, undef, undef, undef, undef], []⟩) (v := .pointer (some ⟨w1.heap.size, 0, none⟩)) rfl rfl (ex_field faFp2_0 rfl) ?_
  refine sq_val (a' := ⟨#[nv 6 [a, b], nv 6 [c, d], .pointer (some ⟨w.heap.size, 0, none⟩), .pointer (some ⟨w1.heap.size, 0, none⟩), .pointer (some ⟨w3.heap.size, 0, none⟩), undef, undef, undef, undef, .pointer (some ⟨w.heap.size, 0, none⟩), nv 6 [a], .pointer (some ⟨w1.heap.size, 0, none⟩), nv 6 [c], undef, undef, undef, undef, undef, undef, undef, undef, undef, undef, undef, undef, undef, undef, undef, undef, undef, undef, undef, undef, undef, undef, undef], []⟩) (v := nv 6 [c]) rfl rfl (ex_loadn (K := 6) (k := 0) (j := 1) (l := [c, d]) flFp rfl A9 rfl _ rfl) ?_
  refine sq_call (a' := ⟨#[nv 6 [a, b], nv 6 [c, d], .pointer (some ⟨w.heap.size, 0, none⟩), .pointer (some ⟨w1.heap.size, 0, none⟩), .pointer (some ⟨w3.heap.size, 0, none⟩), undef, undef, undef, undef, .pointer (some ⟨w.heap.size, 0, none⟩), nv 6 [a], .pointer (some ⟨w1.heap.size, 0, none⟩), nv 6 [c], nv 6 [(pMul a c)], undef, undef, undef, undef, undef, undef, undef, undef, undef, undef, undef, undef, undef, undef, undef, undef, undef, undef, undef, undef, undef, undef], []⟩) (v := nv 6 [(pMul a c)]) rfl rfl (ex_call (vs := [nv 6 [a], nv 6 [c]]) rfl Try.call24 rfl) (r4Mul_p a c _ ha hc) ?_
  intro w13 hb13
  have A14 := A8.keep hb13
  have A15 := A9.keep hb13
  have A16 := N7.keep hb13
  have HB17 := below_then HB10 hb13
  refine sq_new (a' := ⟨#[nv 6 [a, b], nv 6 [c, d], .pointer (some ⟨w.heap.size, 0, none⟩), .pointer (some ⟨w1.heap.size, 0, none⟩), .pointer (some ⟨w3.heap.size, 0, none⟩), .pointer (some ⟨w13.heap.size, 0, none⟩), undef, undef, undef, .pointer (some ⟨w.heap.size, 0, none⟩), nv 6 [a], .pointer (some ⟨w1.heap.size, 0, none⟩), nv 6 [c], nv 6 [(pMul a c)], undef, undef, undef, undef, undef, undef, undef, undef, undef, undef, undef, undef, undef, undef, undef, undef, undef, undef, undef, undef, undef, undef], []⟩) (xs := rows 6 [0]) rfl rfl (ex_alloc zFp) ?_
  intro w18 N18 hb18
  have A19 := A14.keep hb18
  have A20 := A15.keep hb18
  have A21 := A16.keep hb18
  have HB22 := below_then HB17 hb18
  refine sq_store (a' := ⟨#[nv 6 [a, b], nv 6 [c, d], .pointer (some ⟨w.heap.size, 0, none⟩), .pointer (some ⟨w1.heap.size, 0, none⟩), .pointer (some ⟨w3.heap.size, 0, none⟩), .pointer (some ⟨w13.heap.size, 0, none⟩), undef, undef, undef, .pointer (some ⟨w.heap.size, 0, none⟩), nv 6 [a], .pointer (some ⟨w1.heap.size, 0, none⟩), nv 6 [c], nv 6 [(pMul a c)], undef, undef, undef, undef, undef, undef, undef, undef, undef, undef, undef, undef, undef, undef, undef, undef, undef, undef, undef, undef, undef, undef], []⟩) (t := 24) (xs := rows 6 [0]) (ys := rows 6 [(pMul a c)]) rfl rfl N18 (len_rows rfl) (ex_storen (K := 6) (l := [0]) (m := [(pMul a c)]) flFp rfl rfl N18 rfl) ?_
  intro w26 N26 hst26 hoth26
  have A27 := hoth26 _ _ _ (Nat.ne_of_lt A14.lt) A19
  have A28 := hoth26 _ _ _ (Nat.ne_of_lt A15.lt) A20
  have A29 := hoth26 _ _ _ (Nat.ne_of_lt A16.lt) A21
  have HB30 := hst26 _ _ HB22 HB17.size
  refine seq_nil ?_
  refine seq_lit ?_
  refine sq_val (a' := ⟨#[nv 6 [a, b], nv 6 [c, d], .pointer (some ⟨w.heap.size, 0, none⟩), .pointer (some ⟨w1.heap.size, 0, none⟩), .pointer (some ⟨w3.heap.size, 0, none⟩), .pointer (some ⟨w13.heap.size, 0, none⟩), undef, undef, undef, .pointer (some ⟨w.heap.size, 0, none⟩), nv 6 [a], .pointer (some ⟨w1.heap.size, 0, none⟩), nv 6 [c], nv 6 [(pMul a c)], .pointer (some ⟨w.heap.size, 6, none⟩), undef, undef, undef, undef, undef, undef, undef, undef, undef, undef, undef, undef, undef, undef, undef, undef, undef, undef, undef, undef, undef], []⟩) (v := .pointer (some ⟨w.heap.size, 6, none⟩)) rfl rfl (ex_field faFp2_1 rfl) ?_
  refine sq_val (a' := ⟨#[nv 6 [a, b], nv 6 [c, d], .pointer (some ⟨w.heap.size, 0, none⟩), .pointer (some ⟨w1.heap.size, 0, none⟩), .pointer (some ⟨w3.heap.size, 0, none⟩), .pointer (some ⟨w13.heap.size, 0, none⟩), undef, undef, undef, .pointer (some ⟨w.heap.size, 0, none⟩), nv 6 [a], .pointer (some ⟨w1.heap.size, 0, none⟩), nv 6 [c], nv 6 [(pMul a c)], .pointer (some ⟨w.heap.size, 6, none⟩), nv 6 [b], undef, undef, undef, undef, undef, undef, undef, undef, undef, undef, undef, undef, undef, undef, undef, undef, undef, undef, undef, undef], []⟩) (v := nv 6 [b]) rfl rfl (ex_loadn (K := 6) (k := 1) (j := 1) (l := [a, b]) flFp rfl A27 rfl _ rfl) ?_
  refine sq_val (a' := ⟨#[nv 6 [a, b], nv 6 [c, d], .pointer (some ⟨w.heap.size, 0, none⟩), .pointer (some ⟨w1.heap.size, 0, none⟩), .pointer (some ⟨w3.heap.size, 0, none⟩), .pointer (some ⟨w13.heap.size, 0, none⟩), undef, undef, undef, .pointer (some ⟨w.heap.size, 0, none⟩), nv 6 [a], .pointer (some ⟨w1.heap.size, 0, none⟩), nv 6 [c], nv 6 [(pMul a c)], .pointer (some ⟨w.heap.size, 6, none⟩), nv 6 [b], .pointer (some ⟨w1.heap.size, 6, none⟩), undef, undef, undef, undef, undef, undef, undef, undef, undef, undef, undef, undef, undef, undef, undef, undef, undef, undef, undef], []⟩) (v := .pointer (some ⟨w1.heap.size, 6, none⟩)) rfl rfl (ex_field faFp2_1 rfl) ?_
  refine sq_val (a' := ⟨#[nv 6 [a, b], nv 6 [c, d], .pointer (some ⟨w.heap.size, 0, none⟩), .pointer (some ⟨w1.heap.size, 0, none⟩), .pointer (some ⟨w3.heap.size, 0, none⟩), .pointer (some ⟨w13.heap.size, 0, none⟩), undef, undef, undef, .pointer (some ⟨w.heap.size, 0, none⟩), nv 6 [a], .pointer (some ⟨w1.heap.size, 0, none⟩), nv 6 [c], nv 6 [(pMul a c)], .pointer (some ⟨w.heap.size, 6, none⟩), nv 6 [b], .pointer (some ⟨w1.heap.size, 6, none⟩), nv 6 [d], undef, undef, undef, undef, undef, undef, undef, undef, undef, undef, undef, undef, undef, undef, undef, undef, undef, undef], []⟩) (v := nv 6 [d]) rfl rfl (ex_loadn (K := 6) (k := 1) (j := 1) (l := [c, d]) flFp rfl A28 rfl _ rfl) ?_
  refine sq_call (a' := ⟨#[nv 6 [a, b], nv 6 [c, d], .pointer (some ⟨w.heap.size, 0, none⟩), .pointer (some ⟨w1.heap.size, 0, none⟩), .pointer (some ⟨w3.heap.size, 0, none⟩), .pointer (some ⟨w13.heap.size, 0, none⟩), undef, undef, undef, .pointer (some ⟨w.heap.size, 0, none⟩), nv 6 [a], .pointer (some ⟨w1.heap.size, 0, none⟩), nv 6 [c], nv 6 [(pMul a c)], .pointer (some ⟨w.heap.size, 6, none⟩), nv 6 [b], .pointer (some ⟨w1.heap.size, 6, none⟩), nv 6 [d], nv 6 [(pMul b d)], undef, undef, undef, undef, undef, undef, undef, undef, undef, undef, undef, undef, undef, undef, undef, undef, undef], []⟩) (v := nv 6 [(pMul b d)]) rfl rfl (ex_call (vs := [nv 6 [b], nv 6 [d]]) rfl Try.call24 rfl) (r4Mul_p b d _ hb hd) ?_
  intro w31 hb31
  have A32 := A27.keep hb31
  have A33 := A28.keep hb31
  have A34 := A29.keep hb31
  have A35 := N26.keep hb31
  have HB36 := below_then HB30 hb31
  refine sq_new (a' := ⟨#[nv 6 [a, b], nv 6 [c, d], .pointer (some ⟨w.heap.size, 0, none⟩), .pointer (some ⟨w1.heap.size, 0, none⟩), .pointer (some ⟨w3.heap.size, 0, none⟩), .pointer (some ⟨w13.heap.size, 0, none⟩), .pointer (some ⟨w31.heap.size, 0, none⟩), undef, undef, .pointer (some ⟨w.heap.size, 0, none⟩), nv 6 [a], .pointer (some ⟨w1.heap.size, 0, none⟩), nv 6 [c], nv 6 [(pMul a c)], .pointer (some ⟨w.heap.size, 6, none⟩), nv 6 [b], .pointer (some ⟨w1.heap.size, 6, none⟩), nv 6 [d], nv 6 [(pMul b d)], undef, undef, undef, undef, undef, undef, undef, undef, undef, undef, undef, undef, undef, undef, undef, undef, undef], []⟩) (xs := rows 6 [0]) rfl rfl (ex_alloc zFp) ?_
  intro w37 N37 hb37
  have A38 := A32.keep hb37
  have A39 := A33.keep hb37
  have A40 := A34.keep hb37
  have A41 := A35.keep hb37
  have HB42 := below_then HB36 hb37
  refine sq_store (a' := ⟨#[nv 6 [a, b], nv 6 [c, d], .pointer (some ⟨w.heap.size, 0, none⟩), .pointer (some ⟨w1.heap.size, 0, none⟩), .pointer (some ⟨w3.heap.size, 0, none⟩), .pointer (some ⟨w13.heap.size, 0, none⟩), .pointer (some ⟨w31.heap.size, 0, none⟩), undef, undef, .pointer (some ⟨w.heap.size, 0, none⟩), nv 6 [a], .pointer (some ⟨w1.heap.size, 0, none⟩), nv 6 [c], nv 6 [(pMul a c)], .pointer (some ⟨w.heap.size, 6, none⟩), nv 6 [b], .pointer (some ⟨w1.heap.size, 6, none⟩), nv 6 [d], nv 6 [(pMul b d)], undef, undef, undef, undef, undef, undef, undef, undef, undef, undef, undef, undef, undef, undef, undef, undef, undef], []⟩) (t := 24) (xs := rows 6 [0]) (ys := rows 6 [(pMul b d)]) rfl rfl N37 (len_rows rfl) (ex_storen (K := 6) (l := [0]) (m := [(pMul b d)]) flFp rfl rfl N37 rfl) ?_
  intro w47 N47 hst47 hoth47
  have A48 := hoth47 _ _ _ (Nat.ne_of_lt A32.lt) A38
  have A49 := hoth47 _ _ _ (Nat.ne_of_lt A33.lt) A39
  have A50 := hoth47 _ _ _ (Nat.ne_of_lt A34.lt) A40
  have A51 := hoth47 _ _ _ (Nat.ne_of_lt A35.lt) A41
  have HB52 := hst47 _ _ HB42 HB36.size
  refine seq_nil ?_
  refine seq_lit ?_
  refine sq_val (a' := ⟨#[nv 6 [a, b], nv 6 [c, d], .pointer (some ⟨w.heap.size, 0, none⟩), .pointer (some ⟨w1.heap.size, 0, none⟩), .pointer (some ⟨w3.heap.size, 0, none⟩), .pointer (some ⟨w13.heap.size, 0, none⟩), .pointer (some ⟨w31.heap.size, 0, none⟩), undef, undef, .pointer (some ⟨w.heap.size, 0, none⟩), nv 6 [a], .pointer (some ⟨w1.heap.size, 0, none⟩), nv 6 [c], nv 6 [(pMul a c)], .pointer (some ⟨w.heap.size, 6, none⟩), nv 6 [b], .pointer (some ⟨w1.heap.size, 6, none⟩), nv 6 [d], nv 6 [(pMul b d)], .pointer (some ⟨w.heap.size, 0, none⟩), undef, undef, undef, undef, undef, undef, undef, undef, undef, undef, undef, undef, undef, undef, undef, undef], []⟩) (v := .pointer (some ⟨w.heap.size, 0, none⟩)) rfl rfl (ex_field faFp2_0 rfl) ?_
  refine sq_val (a' := ⟨#[nv 6 [a, b], nv 6 [c, d], .pointer (some ⟨w.heap.size, 0, none⟩), .pointer (some ⟨w1.heap.size, 0, none⟩), .pointer (some ⟨w3.heap.size, 0, none⟩), .pointer (some ⟨w13.heap.size, 0, none⟩), .pointer (some ⟨w31.heap.size, 0, none⟩), undef, undef, .pointer (some ⟨w.heap.size, 0, none⟩), nv 6 [a], .pointer (some ⟨w1.heap.size, 0, none⟩), nv 6 [c], nv 6 [(pMul a c)], .pointer (some ⟨w.heap.size, 6, none⟩), nv 6 [b], .pointer (some ⟨w1.heap.size, 6, none⟩), nv 6 [d], nv 6 [(pMul b d)], .pointer (some ⟨w.heap.size, 0, none⟩), nv 6 [a], undef, undef, undef, undef, undef, undef, undef, undef, undef, undef, undef, undef, undef, undef, undef], []⟩) (v := nv 6 [a]) rfl rfl (ex_loadn (K := 6) (k := 0) (j := 1) (l := [a, b]) flFp rfl A48 rfl _ rfl) ?_
  refine sq_val (a' := ⟨#[nv 6 [a, b], nv 6 [c, d], .pointer (some ⟨w.heap.size, 0, none⟩), .pointer (some ⟨w1.heap.size, 0, none⟩), .pointer (some ⟨w3.heap.size, 0, none⟩), .pointer (some ⟨w13.heap.size, 0, none⟩), .pointer (some ⟨w31.heap.size, 0, none⟩), undef, undef, .pointer (some ⟨w.heap.size, 0, none⟩), nv 6 [a], .pointer (some ⟨w1.heap.size, 0, none⟩), nv 6 [c], nv 6 [(pMul a c)], .pointer (some ⟨w.heap.size, 6, none⟩), nv 6 [b], .pointer (some ⟨w1.heap.size, 6, none⟩), nv 6 [d], nv 6 [(pMul b d)], .pointer (some ⟨w.heap.size, 0, none⟩), nv 6 [a], .pointer (some ⟨w1.heap.size, 6, none⟩), undef, undef, undef, undef, undef, undef, undef, undef, undef, undef, undef, undef, undef, undef], []⟩) (v := .pointer (some ⟨w1.heap.size, 6, none⟩)) rfl rfl (ex_field faFp2_1 rfl) ?_
  refine sq_val (a' := ⟨#[nv 6 [a, b], nv 6 [c, d], .pointer (some ⟨w.heap.size, 0, none⟩), .pointer (some ⟨w1.heap.size, 0, none⟩), .pointer (some ⟨w3.heap.size, 0, none⟩), .pointer (some ⟨w13.heap.size, 0, none⟩), .pointer (some ⟨w31.heap.size, 0, none⟩), undef, undef, .pointer (some ⟨w.heap.size, 0, none⟩), nv 6 [a], .pointer (some ⟨w1.heap.size, 0, none⟩), nv 6 [c], nv 6 [(pMul a c)], .pointer (some ⟨w.heap.size, 6, none⟩), nv 6 [b], .pointer (some ⟨w1.heap.size, 6, none⟩), nv 6 [d], nv 6 [(pMul b d)], .pointer (some ⟨w.heap.size, 0, none⟩), nv 6 [a], .pointer (some ⟨w1.heap.size, 6, none⟩), nv 6 [d], undef, undef, undef, undef, undef, undef, undef, undef, undef, undef, undef, undef, undef], []⟩) (v := nv 6 [d]) rfl rfl (ex_loadn (K := 6) (k := 1) (j := 1) (l := [c, d]) flFp rfl A49 rfl _ rfl) ?_
  refine sq_call (a' := ⟨#[nv 6 [a, b], nv 6 [c, d], .pointer (some ⟨w.heap.size, 0, none⟩), .pointer (some ⟨w1.heap.size, 0, none⟩), .pointer (some ⟨w3.heap.size, 0, none⟩), .pointer (some ⟨w13.heap.size, 0, none⟩), .pointer (some ⟨w31.heap.size, 0, none⟩), undef, undef, .pointer (some ⟨w.heap.size, 0, none⟩), nv 6 [a], .pointer (some ⟨w1.heap.size, 0, none⟩), nv 6 [c], nv 6 [(pMul a c)], .pointer (some ⟨w.heap.size, 6, none⟩), nv 6 [b], .pointer (some ⟨w1.heap.size, 6, none⟩), nv 6 [d], nv 6 [(pMul b d)], .pointer (some ⟨w.heap.size, 0, none⟩), nv 6 [a], .pointer (some ⟨w1.heap.size, 6, none⟩), nv 6 [d], nv 6 [(pMul a d)], undef, undef, undef, undef, undef, undef, undef, undef, undef, undef, undef, undef], []⟩) (v := nv 6 [(pMul a d)]) rfl rfl (ex_call (vs := [nv 6 [a], nv 6 [d]]) rfl Try.call24 rfl) (r4Mul_p a d _ ha hd) ?_
  intro w53 hb53
  have A54 := A48.keep hb53
  have A55 := A49.keep hb53
  have A56 := A50.keep hb53
  have A57 := A51.keep hb53
  have A58 := N47.keep hb53
  have HB59 := below_then HB52 hb53
  refine sq_new (a' := ⟨#[nv 6 [a, b], nv 6 [c, d], .pointer (some ⟨w.heap.size, 0, none⟩), .pointer (some ⟨w1.heap.size, 0, none⟩), .pointer (some ⟨w3.heap.size, 0, none⟩), .pointer (some ⟨w13.heap.size, 0, none⟩), .pointer (some ⟨w31.heap.size, 0, none⟩), .pointer (some ⟨w53.heap.size, 0, none⟩), undef, .pointer (some ⟨w.heap.size, 0, none⟩), nv 6 [a], .pointer (some ⟨w1.heap.size, 0, none⟩), nv 6 [c], nv 6 [(pMul a c)], .pointer (some ⟨w.heap.size, 6, none⟩), nv 6 [b], .pointer (some ⟨w1.heap.size, 6, none⟩), nv 6 [d], nv 6 [(pMul b d)], .pointer (some ⟨w.heap.size, 0, none⟩), nv 6 [a], .pointer (some ⟨w1.heap.size, 6, none⟩), nv 6 [d], nv 6 [(pMul a d)], undef, undef, undef, undef, undef, undef, undef, undef, undef, undef, undef, undef], []⟩) (xs := rows 6 [0]) rfl rfl (ex_alloc zFp) ?_
  intro w60 N60 hb60
  have A61 := A54.keep hb60
  have A62 := A55.keep hb60
  have A63 := A56.keep hb60
  have A64 := A57.keep hb60
  have A65 := A58.keep hb60
  have HB66 := below_then HB59 hb60
  refine sq_store (a' := ⟨#[nv 6 [a, b], nv 6 [c, d], .pointer (some ⟨w.heap.size, 0, none⟩), .pointer (some ⟨w1.heap.size, 0, none⟩), .pointer (some ⟨w3.heap.size, 0, none⟩), .pointer (some ⟨w13.heap.size, 0, none⟩), .pointer (some ⟨w31.heap.size, 0, none⟩), .pointer (some ⟨w53.heap.size, 0, none⟩), undef, .pointer (some ⟨w.heap.size, 0, none⟩), nv 6 [a], .pointer (some ⟨w1.heap.size, 0, none⟩), nv 6 [c], nv 6 [(pMul a c)], .pointer (some ⟨w.heap.size, 6, none⟩), nv 6 [b], .pointer (some ⟨w1.heap.size, 6, none⟩), nv 6 [d], nv 6 [(pMul b d)], .pointer (some ⟨w.heap.size, 0, none⟩), nv 6 [a], .pointer (some ⟨w1.heap.size, 6, none⟩), nv 6 [d], nv 6 [(pMul a d)], undef, undef, undef, undef, undef, undef, undef, undef, undef, undef, undef, undef], []⟩) (t := 24) (xs := rows 6 [0]) (ys := rows 6 [(pMul a d)]) rfl rfl N60 (len_rows rfl) (ex_storen (K := 6) (l := [0]) (m := [(pMul a d)]) flFp rfl rfl N60 rfl) ?_
  intro w72 N72 hst72 hoth72
  have A73 := hoth72 _ _ _ (Nat.ne_of_lt A54.lt) A61
  have A74 := hoth72 _ _ _ (Nat.ne_of_lt A55.lt) A62
  have A75 := hoth72 _ _ _ (Nat.ne_of_lt A56.lt) A63
  have A76 := hoth72 _ _ _ (Nat.ne_of_lt A57.lt) A64
  have A77 := hoth72 _ _ _ (Nat.ne_of_lt A58.lt) A65
  have HB78 := hst72 _ _ HB66 HB59.size
  refine seq_nil ?_
  refine seq_lit ?_
  refine sq_val (a' := ⟨#[nv 6 [a, b], nv 6 [c, d], .pointer (some ⟨w.heap.size, 0, none⟩), .pointer (some ⟨w1.heap.size, 0, none⟩), .pointer (some ⟨w3.heap.size, 0, none⟩), .pointer (some ⟨w13.heap.size, 0, none⟩), .pointer (some ⟨w31.heap.size, 0, none⟩), .pointer (some ⟨w53.heap.size, 0, none⟩), undef, .pointer (some ⟨w.heap.size, 0, none⟩), nv 6 [a], .pointer (some ⟨w1.heap.size, 0, none⟩), nv 6 [c], nv 6 [(pMul a c)], .pointer (some ⟨w.heap.size, 6, none⟩), nv 6 [b], .pointer (some ⟨w1.heap.size, 6, none⟩), nv 6 [d], nv 6 [(pMul b d)], .pointer (some ⟨w.heap.size, 0, none⟩), nv 6 [a], .pointer (some ⟨w1.heap.size, 6, none⟩), nv 6 [d], nv 6 [(pMul a d)], .pointer (some ⟨w.heap.size, 6, none⟩), undef, undef, undef, undef, undef, undef, undef, undef, undef, undef, undef], []⟩) (v := .pointer (some ⟨w.heap.size, 6, none⟩)) rfl rfl (ex_field faFp2_1 rfl) ?_
  refine sq_val (a' := ⟨#[nv 6 [a, b], nv 6 [c, d], .pointer (some ⟨w.heap.size, 0, none⟩), .pointer (some ⟨w1.heap.size, 0, none⟩), .pointer (some ⟨w3.heap.size, 0, none⟩), .pointer (some ⟨w13.heap.size, 0, none⟩), .pointer (some ⟨w31.heap.size, 0, none⟩), .pointer (some ⟨w53.heap.size, 0, none⟩), undef, .pointer (some ⟨w.heap.size, 0, none⟩), nv 6 [a], .pointer (some ⟨w1.heap.size, 0, none⟩), nv 6 [c], nv 6 [(pMul a c)], .pointer (some ⟨w.heap.size, 6, none⟩), nv 6 [b], .pointer (some ⟨w1.heap.size, 6, none⟩), nv 6 [d], nv 6 [(pMul b d)], .pointer (some ⟨w.heap.size, 0, none⟩), nv 6 [a], .pointer (some ⟨w1.heap.size, 6, none⟩), nv 6 [d], nv 6 [(pMul a d)], .pointer (some ⟨w.heap.size, 6, none⟩), nv 6 [b], undef, undef, undef, undef, undef, undef, undef, undef, undef, undef], []⟩) (v := nv 6 [b]) rfl rfl (ex_loadn (K := 6) (k := 1) (j := 1) (l := [a, b]) flFp rfl A73 rfl _ rfl) ?_
  refine sq_val (a' := ⟨#[nv 6 [a, b], nv 6 [c, d], .pointer (some ⟨w.heap.size, 0, none⟩), .pointer (some ⟨w1.heap.size, 0, none⟩), .pointer (some ⟨w3.heap.size, 0, none⟩), .pointer (some ⟨w13.heap.size, 0, none⟩), .pointer (some ⟨w31.heap.size, 0, none⟩), .pointer (some ⟨w53.heap.size, 0, none⟩), undef, .pointer (some ⟨w.heap.size, 0, none⟩), nv 6 [a], .pointer (some ⟨w1.heap.size, 0, none⟩), nv 6 [c], nv 6 [(pMul a c)], .pointer (some ⟨w.heap.size, 6, none⟩), nv 6 [b], .pointer (some ⟨w1.heap.size, 6, none⟩), nv 6 [d], nv 6 [(pMul b d)], .pointer (some ⟨w.heap.size, 0, none⟩), nv 6 [a], .pointer (some ⟨w1.heap.size, 6, none⟩), nv 6 [d], nv 6 [(pMul a d)], .pointer (some ⟨w.heap.size, 6, none⟩), nv 6 [b], .pointer (some ⟨w1.heap.size, 0, none⟩), undef, undef, undef, undef, undef, undef, undef, undef, undef], []⟩) (v := .pointer (some ⟨w1.heap.size, 0, none⟩)) rfl rfl (ex_field faFp2_0 rfl) ?_
  refine sq_val (a' := ⟨#[nv 6 [a, b], nv 6 [c, d], .pointer (some ⟨w.heap.size, 0, none⟩), .pointer (some ⟨w1.heap.size, 0, none⟩), .pointer (some ⟨w3.heap.size, 0, none⟩), .pointer (some ⟨w13.heap.size, 0, none⟩), .pointer (some ⟨w31.heap.size, 0, none⟩), .pointer (some ⟨w53.heap.size, 0, none⟩), undef, .pointer (some ⟨w.heap.size, 0, none⟩), nv 6 [a], .pointer (some ⟨w1.heap.size, 0, none⟩), nv 6 [c], nv 6 [(pMul a c)], .pointer (some ⟨w.heap.size, 6, none⟩), nv 6 [b], .pointer (some ⟨w1.heap.size, 6, none⟩), nv 6 [d], nv 6 [(pMul b d)], .pointer (some ⟨w.heap.size, 0, none⟩), nv 6 [a], .pointer (some ⟨w1.heap.size, 6, none⟩), nv 6 [d], nv 6 [(pMul a d)], .pointer (some ⟨w.heap.size, 6, none⟩), nv 6 [b], .pointer (some ⟨w1.heap.size, 0, none⟩), nv 6 [c], undef, undef, undef, undef, undef, undef, undef, undef], []⟩) (v := nv 6 [c]) rfl rfl (ex_loadn (K := 6) (k := 0) (j := 1) (l := [c, d]) flFp rfl A74 rfl _ rfl) ?_
  refine sq_call (a' := ⟨#[nv 6 [a, b], nv 6 [c, d], .pointer (some ⟨w.heap.size, 0, none⟩), .pointer (some ⟨w1.heap.size, 0, none⟩), .pointer (some ⟨w3.heap.size, 0, none⟩), .pointer (some ⟨w13.heap.size, 0, none⟩), .pointer (some ⟨w31.heap.size, 0, none⟩), .pointer (some ⟨w53.heap.size, 0, none⟩), undef, .pointer (some ⟨w.heap.size, 0, none⟩), nv 6 [a], .pointer (some ⟨w1.heap.size, 0, none⟩), nv 6 [c], nv 6 [(pMul a c)], .pointer (some ⟨w.heap.size, 6, none⟩), nv 6 [b], .pointer (some ⟨w1.heap.size, 6, none⟩), nv 6 [d], nv 6 [(pMul b d)], .pointer (some ⟨w.heap.size, 0, none⟩), nv 6 [a], .pointer (some ⟨w1.heap.size, 6, none⟩), nv 6 [d], nv 6 [(pMul a d)], .pointer (some ⟨w.heap.size, 6, none⟩), nv 6 [b], .pointer (some ⟨w1.heap.size, 0, none⟩), nv 6 [c], nv 6 [(pMul b c)], undef, undef, undef, undef, undef, undef, undef], []⟩) (v := nv 6 [(pMul b c)]) rfl rfl (ex_call (vs := [nv 6 [b], nv 6 [c]]) rfl Try.call24 rfl) (r4Mul_p b c _ hb hc) ?_
  intro w79 hb79
  have A80 := A73.keep hb79
  have A81 := A74.keep hb79
  have A82 := A75.keep hb79
  have A83 := A76.keep hb79
  have A84 := A77.keep hb79
  have A85 := N72.keep hb79
  have HB86 := below_then HB78 hb79
  refine sq_new (a' := ⟨#[nv 6 [a, b], nv 6 [c, d], .pointer (some ⟨w.heap.size, 0, none⟩), .pointer (some ⟨w1.heap.size, 0, none⟩), .pointer (some ⟨w3.heap.size, 0, none⟩), .pointer (some ⟨w13.heap.size, 0, none⟩), .pointer (some ⟨w31.heap.size, 0, none⟩), .pointer (some ⟨w53.heap.size, 0, none⟩), .pointer (some ⟨w79.heap.size, 0, none⟩), .pointer (some ⟨w.heap.size, 0, none⟩), nv 6 [a], .pointer (some ⟨w1.heap.size, 0, none⟩), nv 6 [c], nv 6 [(pMul a c)], .pointer (some ⟨w.heap.size, 6, none⟩), nv 6 [b], .pointer (some ⟨w1.heap.size, 6, none⟩), nv 6 [d], nv 6 [(pMul b d)], .pointer (some ⟨w.heap.size, 0, none⟩), nv 6 [a], .pointer (some ⟨w1.heap.size, 6, none⟩), nv 6 [d], nv 6 [(pMul a d)], .pointer (some ⟨w.heap.size, 6, none⟩), nv 6 [b], .pointer (some ⟨w1.heap.size, 0, none⟩), nv 6 [c], nv 6 [(pMul b c)], undef, undef, undef, undef, undef, undef, undef], []⟩) (xs := rows 6 [0]) rfl rfl (ex_alloc zFp) ?_
  intro w87 N87 hb87
  have A88 := A80.keep hb87
  have A89 := A81.keep hb87
  have A90 := A82.keep hb87
  have A91 := A83.keep hb87
  have A92 := A84.keep hb87
  have A93 := A85.keep hb87
  have HB94 := below_then HB86 hb87
  refine sq_store (a' := ⟨#[nv 6 [a, b], nv 6 [c, d], .pointer (some ⟨w.heap.size, 0, none⟩), .pointer (some ⟨w1.heap.size, 0, none⟩), .pointer (some ⟨w3.heap.size, 0, none⟩), .pointer (some ⟨w13.heap.size, 0, none⟩), .pointer (some ⟨w31.heap.size, 0, none⟩), .pointer (some ⟨w53.heap.size, 0, none⟩), .pointer (some ⟨w79.heap.size, 0, none⟩), .pointer (some ⟨w.heap.size, 0, none⟩), nv 6 [a], .pointer (some ⟨w1.heap.size, 0, none⟩), nv 6 [c], nv 6 [(pMul a c)], .pointer (some ⟨w.heap.size, 6, none⟩), nv 6 [b], .pointer (some ⟨w1.heap.size, 6, none⟩), nv 6 [d], nv 6 [(pMul b d)], .pointer (some ⟨w.heap.size, 0, none⟩), nv 6 [a], .pointer (some ⟨w1.heap.size, 6, none⟩), nv 6 [d], nv 6 [(pMul a d)], .pointer (some ⟨w.heap.size, 6, none⟩), nv 6 [b], .pointer (some ⟨w1.heap.size, 0, none⟩), nv 6 [c], nv 6 [(pMul b c)], undef, undef, undef, undef, undef, undef, undef], []⟩) (t := 24) (xs := rows 6 [0]) (ys := rows 6 [(pMul b c)]) rfl rfl N87 (len_rows rfl) (ex_storen (K := 6) (l := [0]) (m := [(pMul b c)]) flFp rfl rfl N87 rfl) ?_
  intro w101 N101 hst101 hoth101
  have A102 := hoth101 _ _ _ (Nat.ne_of_lt A80.lt) A88
  have A103 := hoth101 _ _ _ (Nat.ne_of_lt A81.lt) A89
  have A104 := hoth101 _ _ _ (Nat.ne_of_lt A82.lt) A90
  have A105 := hoth101 _ _ _ (Nat.ne_of_lt A83.lt) A91
  have A106 := hoth101 _ _ _ (Nat.ne_of_lt A84.lt) A92
  have A107 := hoth101 _ _ _ (Nat.ne_of_lt A85.lt) A93
  have HB108 := hst101 _ _ HB94 HB86.size
  refine seq_nil ?_
  refine wp_seq (wp_region_last (F := ⟨#[nv 6 [a, b], nv 6 [c, d], .pointer (some ⟨w.heap.size, 0, none⟩), .pointer (some ⟨w1.heap.size, 0, none⟩), .pointer (some ⟨w3.heap.size, 0, none⟩), .pointer (some ⟨w13.heap.size, 0, none⟩), .pointer (some ⟨w31.heap.size, 0, none⟩), .pointer (some ⟨w53.heap.size, 0, none⟩), .pointer (some ⟨w79.heap.size, 0, none⟩), .pointer (some ⟨w.heap.size, 0, none⟩), nv 6 [a], .pointer (some ⟨w1.heap.size, 0, none⟩), nv 6 [c], nv 6 [(pMul a c)], .pointer (some ⟨w.heap.size, 6, none⟩), nv 6 [b], .pointer (some ⟨w1.heap.size, 6, none⟩), nv 6 [d], nv 6 [(pMul b d)], .pointer (some ⟨w.heap.size, 0, none⟩), nv 6 [a], .pointer (some ⟨w1.heap.size, 6, none⟩), nv 6 [d], nv 6 [(pMul a d)], .pointer (some ⟨w.heap.size, 6, none⟩), nv 6 [b], .pointer (some ⟨w1.heap.size, 0, none⟩), nv 6 [c], nv 6 [(pMul b c)], nv 6 [(pMul a c)], nv 6 [(pMul b d)], nv 6 [(pSub (pMul a c) (pMul b d))], nv 6 [(pMul a d)], nv 6 [(pMul b c)], nv 6 [(pAdd (pMul a d) (pMul b c))], nv 6 [(pSub (pMul a c) (pMul b d)), (pAdd (pMul a d) (pMul b c))]], []⟩) (S := Bel w101) [(29, nv 6 [(pMul a c)]), (30, nv 6 [(pMul b d)]), (31, nv 6 [(pSub (pMul a c) (pMul b d))]), (32, nv 6 [(pMul a d)]), (33, nv 6 [(pMul b c)]), (34, nv 6 [(pAdd (pMul a d) (pMul b c))]), (35, nv 6 [(pSub (pMul a c) (pMul b d)), (pAdd (pMul a d) (pMul b c))])] 7 _ (by kernel_rfl) (by kernel_rfl) (by kernel_rfl) (by kernel_rfl) rfl rfl (by kernel_rfl) rfl (by simp only [putAll, List.setIfInBounds_toArray, List.set_cons_zero, List.set_cons_succ]) (Bel.start _) ?_ ?_)
  · refine PlanInit.cons (ps_val (v := nv 6 [(pMul a c)]) rfl rfl rfl (fun W' h => ex_loadn (K := 6) (k := 0) (j := 1) (l := [(pMul a c)]) flFp rfl (A105.keep h.out) rfl _ rfl)) ?_
    refine PlanInit.cons (ps_val (v := nv 6 [(pMul b d)]) rfl rfl rfl (fun W' h => ex_loadn (K := 6) (k := 0) (j := 1) (l := [(pMul b d)]) flFp rfl (A106.keep h.out) rfl _ rfl)) ?_
    refine PlanInit.cons (ps_call (v := nv 6 [(pSub (pMul a c) (pMul b d))]) rfl rfl rfl (fun W' => ex_call (vs := [nv 6 [(pMul a c)], nv 6 [(pMul b d)]]) rfl Try.call25 rfl) (fun W' h => r4Sub_p (pMul a c) (pMul b d) _ (pMul_P _ _) (pMul_P _ _))) ?_
    refine PlanInit.cons (ps_val (v := nv 6 [(pMul a d)]) rfl rfl rfl (fun W' h => ex_loadn (K := 6) (k := 0) (j := 1) (l := [(pMul a d)]) flFp rfl (A107.keep h.out) rfl _ rfl)) ?_
    refine PlanInit.cons (ps_val (v := nv 6 [(pMul b c)]) rfl rfl rfl (fun W' h => ex_loadn (K := 6) (k := 0) (j := 1) (l := [(pMul b c)]) flFp rfl (N101.keep h.out) rfl _ rfl)) ?_
    refine PlanInit.cons (ps_call (v := nv 6 [(pAdd (pMul a d) (pMul b c))]) rfl rfl rfl (fun W' => ex_call (vs := [nv 6 [(pMul a d)], nv 6 [(pMul b c)]]) rfl Try.call26 rfl) (fun W' h => r4Add_p (pMul a d) (pMul b c) _ (pMul_P _ _) (pMul_P _ _))) ?_
    refine PlanInit.cons (ps_val (v := nv 6 [(pSub (pMul a c) (pMul b d)), (pAdd (pMul a d) (pMul b c))]) rfl rfl rfl (fun W' h => ex_build stFp2 (vs := [(0, nv 6 [(pSub (pMul a c) (pMul b d))]), (1, nv 6 [(pAdd (pMul a d) (pMul b c))])]) rfl (bdAB (pSub (pMul a c) (pMul b d)) (pAdd (pMul a d) (pMul b c))))) ?_
    exact PlanInit.one
  refine last_store (t := 26) (xs := rows 6 [0, 0]) (ys := rows 6 [(pSub (pMul a c) (pMul b d)), (pAdd (pMul a d) (pMul b c))]) rfl rfl (fun W' h => A104.keep h.out) (len_rows rfl) (fun W' h => ex_storen (K := 6) (l := [0, 0]) (m := [(pSub (pMul a c) (pMul b d)), (pAdd (pMul a d) (pMul b c))]) flFp2 rfl rfl (A104.keep h.out) rfl) ?_
  intro w109 w110 hb109 N110 hst110 hoth110
  refine then_n ?_
  have A111 := A102.keep hb109.out
  have A112 := A103.keep hb109.out
  have A113 := A104.keep hb109.out
  have A114 := A105.keep hb109.out
  have A115 := A106.keep hb109.out
  have A116 := A107.keep hb109.out
  have A117 := N101.keep hb109.out
  have HB118 := below_then HB108 hb109.out
  have A119 := hoth110 _ _ _ (Nat.ne_of_lt A4.lt) A111
  have A120 := hoth110 _ _ _ (Nat.ne_of_lt N3.lt) A112
  have A121 := hoth110 _ _ _ (Ne.symm (Nat.ne_of_lt A16.lt)) A114
  have A122 := hoth110 _ _ _ (Ne.symm (Nat.ne_of_lt A34.lt)) A115
  have A123 := hoth110 _ _ _ (Ne.symm (Nat.ne_of_lt A56.lt)) A116
  have A124 := hoth110 _ _ _ (Ne.symm (Nat.ne_of_lt A82.lt)) A117
  have HB125 := hst110 _ _ HB118 HB5.size
  exact wp_ret (bodyPost_ret (ret_celln (K := 6) Try.results14 rfl N110 flFp2) rfl ⟨rfl, HB125⟩)

theorem r5Mul_e (a b c d : Nat) (w : World) (ha : a < pN) (hb : b < pN) (hc : c < pN) (hd : d < pN) (v0 v1 : Nat) (hv0 : v0 = (pSub (pMul a c) (pMul b d))) (hv1 : v1 = (pAdd (pMul a d) (pMul b c))) :
    Calls Try.prog 14 #[nv 6 [a, b], nv 6 [c, d]] w (Is (nv 6 [v0, v1]) w) := by
  rw [hv0, hv1]
  exact r5Mul_v a b c d w ha hb hc hd
end
end Go.Proofs.Ytmhieifjmgcbkaa
