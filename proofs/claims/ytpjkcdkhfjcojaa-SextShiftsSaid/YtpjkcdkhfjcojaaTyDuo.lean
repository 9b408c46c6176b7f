/- What is proved here: the types api.Fp and api.Fp2 as rows of limbs; the calls of package fp and of its reference on them; arguments of these types are numbers. -/
import Derived.Test.YtpjkcdkhfjcojaaAgg
import Derived.Test.YtpjkcdkhfjcojaaFn5Fp
import Derived.Test.YtpjkcdkhfjcojaaFn6Fp
import Derived.Test.YtpjkcdkhfjcojaaRef4Fp
import Derived.OpenShut
import Derived.ChangeOld
import Derived.ProofKit
namespace Go.Proofs.Ytpjkcdkhfjcojaa
open Go.RowKit

theorem flFp : Flat 24 (6 * 1) := ⟨Try.isAgg24, Try.sizeOf24⟩
theorem flPart : Flat 56 (6 * 1) := ⟨Try.isAgg56, Try.sizeOf56⟩
theorem flFp2 : Flat 26 (6 * 2) := ⟨Try.isAgg26, Try.sizeOf26⟩

theorem fp2_fields : Try.prog.underlying 26 = some (.struct (List.toArray [⟨"A", 24, 0, false, "", "", 0⟩, ⟨"B", 24, 6, false, "", "", 48⟩])) := Try.underlying26

theorem faFp2_0 : FieldAt 26 0 0 := ⟨_, _, 5, fp2_fields, rfl, rfl, Try.sizeOf24⟩
theorem faFp2_1 : FieldAt 26 1 6 := ⟨_, _, 5, fp2_fields, rfl, rfl, Try.sizeOf24⟩

theorem eqFp : EqF 24 6 2 := EqF.array Try.eqGuardType24 Try.underlying24
theorem eqFp2 : EqF 26 12 3 := EqF.struct Try.eqGuardType26 fp2_fields Try.stoodInHeld26
  (.cons (n := 6) (m := 6) (by decide) rfl flFp eqFp (.cons (n := 6) (m := 0) (by decide) rfl flFp eqFp (.nil _)))

theorem cells0 (n : Nat) : cellsOf (List.replicate n 0) = List.replicate n (Value.int .u64 0) := by simp [cellsOf]

theorem zFp (w : World) : (zeroValue 24).run Try.prog w = .ok (lv (rows 6 [0])) w := by
  rw [Try.zeroValue24 w, show [0] = List.replicate 1 0 from rfl, rows_zero, lv, cells0]
  rfl
theorem zPart (w : World) : (zeroValue 56).run Try.prog w = .ok (lv (rows 6 [0])) w := by
  rw [Try.zeroValue56 w, show [0] = List.replicate 1 0 from rfl, rows_zero, lv, cells0]
  rfl
theorem zFp2 (w : World) : (zeroValue 26).run Try.prog w = .ok (lv (rows 6 [0, 0])) w := by
  rw [Try.zeroValue26 w, show [0, 0] = List.replicate 2 0 from rfl, rows_zero, lv, cells0]
  rfl

/-- The zeros, as they are written. -/
theorem litFp : Value.agg #[.int .u64 0, .int .u64 0, .int .u64 0, .int .u64 0, .int .u64 0, .int .u64 0] = nv 6 [0] := by
  rw [nv, show [0] = List.replicate 1 0 from rfl, rows_zero, lv, cells0]
  rfl
theorem litFp2 : Value.agg #[.int .u64 0, .int .u64 0, .int .u64 0, .int .u64 0, .int .u64 0, .int .u64 0, .int .u64 0, .int .u64 0, .int .u64 0, .int .u64 0, .int .u64 0, .int .u64 0] = nv 6 [0, 0] := by
  rw [nv, show [0, 0] = List.replicate 2 0 from rfl, rows_zero, lv, cells0]
  rfl

theorem nv6 (v : Nat) : nv 6 [v] = fpV v := by rw [nv_row, fp_cells]

theorem litOne : Value.agg #[.int .u64 1, .int .u64 0, .int .u64 0, .int .u64 0, .int .u64 0, .int .u64 0] = nv 6 [1] := by rw [nv6, fp_lit1]
theorem litOne2 : Value.agg #[.int .u64 1, .int .u64 0, .int .u64 0, .int .u64 0, .int .u64 0, .int .u64 0, .int .u64 0, .int .u64 0, .int .u64 0, .int .u64 0, .int .u64 0, .int .u64 0] = nv 6 [1, 0] := by
  have h1 : cellsOf (row 6 1) = [.int .u64 1, .int .u64 0, .int .u64 0, .int .u64 0, .int .u64 0, .int .u64 0] := by
    have := litOne
    rw [nv_row] at this
    injection this with this
    injection this with this
  have h0 : cellsOf (row 6 0) = [.int .u64 0, .int .u64 0, .int .u64 0, .int .u64 0, .int .u64 0, .int .u64 0] := by rw [row_zero, cells0]; rfl
  rw [nv, lv, rows_cons, rows_one, cellsOf_append, h1, h0]
  rfl

theorem stFp2 : Struct 26 12 [(0, 6), (6, 6)] := by
  refine ⟨_, fp2_fields, fun w => ?_, fun w => ?_⟩
  · rw [Try.zeroValue26 w, lv, cells0]; rfl
  · simp [Sem.run_bind, Try.sizeOf24]

theorem rows_split (a b : Nat) : rows 6 [a, b] = row 6 a ++ row 6 b := by rw [rows_cons, rows_one]

theorem bdAB (a b : Nat) : Instr.fill ((List.toArray [(0, 6), (6, 6)])[·]?) (cellsOf (List.replicate 12 0)).toArray [(0, nv 6 [a]), (1, nv 6 [b])] = some (cellsOf (rows 6 [a, b])).toArray := by
  rw [nv, nv, rows_one, rows_one, fill_cons (off := 0) (n := 6) rfl (length_row 6 a) (by simp), fill_cons (off := 6) (n := 6) rfl (length_row 6 b) (by simp [length_row]), Instr.fill, rows_split]
  congr 3 <;> simp [length_row, List.take_append, List.drop_append]

theorem bdA (a : Nat) : Instr.fill ((List.toArray [(0, 6), (6, 6)])[·]?) (cellsOf (List.replicate 12 0)).toArray [(0, nv 6 [a])] = some (cellsOf (rows 6 [a, 0])).toArray := by
  rw [nv, rows_one, fill_cons (off := 0) (n := 6) rfl (length_row 6 a) (by simp), Instr.fill, rows_split, row_zero]
  congr 3

theorem bdB (b : Nat) : Instr.fill ((List.toArray [(0, 6), (6, 6)])[·]?) (cellsOf (List.replicate 12 0)).toArray [(1, nv 6 [b])] = some (cellsOf (rows 6 [0, b])).toArray := by
  rw [nv, rows_one, fill_cons (off := 6) (n := 6) rfl (length_row 6 b) (by simp), Instr.fill, rows_split, row_zero]
  congr 3 <;> simp

theorem bd0 : Instr.fill ((List.toArray [(0, 6), (6, 6)])[·]?) (cellsOf (List.replicate 12 0)).toArray [] = some (cellsOf (rows 6 [0, 0])).toArray := by
  rw [Instr.fill, show [0, 0] = List.replicate 2 0 from rfl, rows_zero]

theorem fpB_all1 {a : Nat} (h : a < fpB) : ∀ x ∈ [a], x < 2 ^ (64 * 6) := fun x hx => by
  rw [List.mem_singleton] at hx
  rw [hx]
  exact Nat.lt_of_lt_of_eq h fpB_eq
theorem fpB_all2 {a b : Nat} (ha : a < fpB) (hb : b < fpB) : ∀ x ∈ [a, b], x < 2 ^ (64 * 6) := fun x hx => by
  rcases List.mem_cons.1 hx with rfl | hx
  · exact Nat.lt_of_lt_of_eq ha fpB_eq
  · exact fpB_all1 hb x hx

/-! ### the calls of package fp -/

theorem fpClean_n (a : Nat) (w : World) (ha : a < fpB) (v : Nat) (hv : v = a % pN) : Calls Try.prog 65 #[nv 6 [a]] w (Is (nv 6 [v]) w) := by rw [nv6, nv6]; exact fpClean_v a w ha v hv
theorem fpAdd_n (a b : Nat) (w : World) (ha : a < fpB) (hb : b < fpB) (v : Nat) (hv : v = (a + b) % pN) : Calls Try.prog 70 #[nv 6 [a], nv 6 [b]] w (Is (nv 6 [v]) w) := by rw [nv6, nv6, nv6]; exact fpAdd_v a b w ha hb v hv
theorem fpSub_n (a b : Nat) (w : World) (ha : a < fpB) (hb : b < fpB) (v : Nat) (hv : v = (a + (pN - b % pN)) % pN) : Calls Try.prog 69 #[nv 6 [a], nv 6 [b]] w (Is (nv 6 [v]) w) := by rw [nv6, nv6, nv6]; exact fpSub_v a b w ha hb v hv
theorem fpNeg_n (a : Nat) (w : World) (ha : a < fpB) (v : Nat) (hv : v = (pN - a % pN) % pN) : Calls Try.prog 66 #[nv 6 [a]] w (Is (nv 6 [v]) w) := by rw [nv6, nv6]; exact fpNeg_v a w ha v hv
theorem fpMul_n (a b : Nat) (w : World) (ha : a < fpB) (hb : b < fpB) (v : Nat) (hv : v = a * b % pN) : Calls Try.prog 73 #[nv 6 [a], nv 6 [b]] w (Is (nv 6 [v]) w) := by rw [nv6, nv6, nv6]; exact fpMul_v a b w ha hb v hv
theorem fpInv_n (a : Nat) (w : World) (ha : a < fpB) (v : Nat) (hv : v = a ^ (pN - 2) % pN) : Calls Try.prog 53 #[nv 6 [a]] w (Is (nv 6 [v]) w) := by rw [nv6, nv6]; exact fpInv_v a w ha v hv
theorem fpPow_n (a b : Nat) (w : World) (ha : a < fpB) (hb : b < fpB) (v : Nat) (hv : v = a ^ b % pN) : Calls Try.prog 72 #[nv 6 [a], nv 6 [b]] w (Is (nv 6 [v]) w) := by rw [nv6, nv6, nv6]; exact fpPow_v a b w ha hb v hv
theorem fpRight_n (a : Nat) (w : World) (ha : a < fpB) (r : Bool) (hr : r = decide (a < pN)) : Calls Try.prog 74 #[nv 6 [a]] w (Is (.bool r) w) := by rw [nv6]; exact fpRight_v a w ha r hr

theorem r4Clean_n (a : Nat) (w : World) (ha : a < fpB) (v : Nat) (hv : v = a % pN) : Calls Try.prog 40 #[nv 6 [a]] w (Is (nv 6 [v]) w) := by rw [nv6, nv6]; exact r4Clean_v a w ha v hv
theorem r4Add_n (a b : Nat) (w : World) (ha : a < pN) (hb : b < pN) (v : Nat) (hv : v = (a + b) % pN) : Calls Try.prog 43 #[nv 6 [a], nv 6 [b]] w (Is (nv 6 [v]) w) := by
  rw [nv6, nv6, nv6]
  exact r4Add_v a b w (Nat.lt_trans (Nat.add_lt_add ha hb) (by decide +kernel)) v hv
theorem r4Sub_n (a b : Nat) (w : World) (ha : a < pN) (hb : b < pN) (v : Nat) (hv : v = (a + (pN - b)) % pN) : Calls Try.prog 49 #[nv 6 [a], nv 6 [b]] w (Is (nv 6 [v]) w) := by rw [nv6, nv6, nv6]; exact r4Sub_v a b w ha hb v hv
theorem r4Neg_n (a : Nat) (w : World) (ha : a < pN) (v : Nat) (hv : v = (pN - a) % pN) : Calls Try.prog 45 #[nv 6 [a]] w (Is (nv 6 [v]) w) := by rw [nv6, nv6]; exact r4Neg_v a w ha v hv
theorem r4Mul_n (a b : Nat) (w : World) (ha : a < pN) (hb : b < pN) (v : Nat) (hv : v = a * b % pN) : Calls Try.prog 48 #[nv 6 [a], nv 6 [b]] w (Is (nv 6 [v]) w) := by rw [nv6, nv6, nv6]; exact r4Mul_v a b w ha hb v hv
theorem r4Less_n (a b : Nat) (w : World) (ha : a < fpB) (hb : b < fpB) (r : Bool) (hr : r = decide (a < b)) : Calls Try.prog 55 #[nv 6 [a], nv 6 [b]] w (Is (.bool r) w) := by rw [nv6, nv6]; exact r4Less_v a b w ha hb r hr
theorem r4P_n (w : World) : Calls Try.prog 56 #[] w (Is (nv 6 [pN]) w) := by rw [nv6]; exact r4P_v w

/-! ### closing a walk -/

theorem then_n {P : Program} {y : Code} {Q : Exit → Act → World → Prop} {a : Act} {w : World} (h : y.wp P Q a w) : Exit.then (y.wp P Q) Q .normal a w := h

theorem seq_end {P : Program} {ops : Array Oper} {y : Code} {Q : Exit → Act → World → Prop} {a a' : Act} {w : World} (ha : a = a') (h : y.wp P Q a' w) : wpList P ops (Exit.then (y.wp P Q) Q) [] a w := by subst ha; exact h

theorem ret_celln {fn : Func} {tmps : Array Value} {w : World} {t ty : TypeId} {k g K : Nat} {l : List Nat} (hr : fn.results = #[.cell k ty]) (hk : tmps.getD k undef = .pointer (some ⟨g, 0, none⟩)) (h : Arr t w g (rows K l)) (hf : Flat ty (K * l.length)) :
    (results fn tmps).run Try.prog w = .ok (nv K l) w := ret_cell hr hk h (by rw [rows_len]; exact hf)

theorem ret_bothn {fn : Func} {tmps : Array Value} {w : World} {t ty : TypeId} {k j g K : Nat} {l : List Nat} {v : Value} (hr : fn.results = #[.cell k ty, .tmp j]) (hk : tmps.getD k undef = .pointer (some ⟨g, 0, none⟩)) (hj : tmps.getD j undef = v) (h : Arr t w g (rows K l)) (hf : Flat ty (K * l.length)) :
    (results fn tmps).run Try.prog w = .ok (.tuple #[nv K l, v]) w := ret_both hr hk hj h (by rw [rows_len]; exact hf)


/-- What is read of this type is n limbs. -/
def OpensN (ty : TypeId) (n : Nat) : Prop := ∀ {H : Type} {enc : TypeId × Value → H} {w : World} {base : Nat} {sp : Nat → Bool} {held : Bool} {fuel : Nat} {cs : List Value} {x : DataW H × List MemPlace},
  DataW.trod enc Try.prog w base sp held fuel ty cs = some x → cs.length = n ∧ ∀ i, i < n → ∃ y : Nat, y < 2 ^ 64 ∧ cs[i]? = some (.int .u64 (y : Int))

theorem opens_limb : OpensN 22 1 := fun h => by
  obtain ⟨k, rfl, _, hw⟩ := DataW.trod_int Try.underlying22 h
  have hb := Go.bounds_u64 hw
  refine ⟨rfl, fun i hi => ⟨k.toNat, by omega, ?_⟩⟩
  obtain rfl : i = 0 := by omega
  rw [Int.toNat_of_nonneg hb.1]
  rfl

theorem opens_array {ty : TypeId} {n : Nat} (hu : Try.prog.underlying ty = some (.array n 22)) (hc2 : Try.prog.cellsOf ty = n) : OpensN ty n := fun {H enc w base sp held fuel cs x} h => by
  have hc : Try.prog.cellsOf 22 = 1 := by kernel_rfl
  obtain ⟨xs, m, _, _, hl, hx, hi⟩ := DataW.trod_array hu h
  refine ⟨by omega, fun i hin => ?_⟩
  have h1 := hi i hin
  rw [hc, Nat.mul_one, List.getElem?_eq_getElem (by omega : i < xs.length)] at h1
  obtain ⟨_, h2⟩ := opens_limb h1
  obtain ⟨y, hy, he⟩ := h2 0 (by omega)
  refine ⟨y, hy, ?_⟩
  rw [List.getElem?_take_of_lt (by decide), List.getElem?_drop, Nat.add_zero] at he
  exact he

theorem opens_struct {ty : TypeId} {n : Nat} {fs : List Field} (hu : Try.prog.underlying ty = some (.struct fs.toArray)) (hc : Try.prog.cellsOf ty = n)
    (hcover : ∀ i, i < n → ∃ (j : Nat) (f : Field) (m : Nat), fs[j]? = some f ∧ OpensN f.type m ∧ Try.prog.cellsOf f.type = m ∧ f.offset ≤ i ∧ i < f.offset + m) : OpensN ty n := fun {H enc w base sp held fuel cs x} h => by
  obtain ⟨xs, k, _, _, hl, hx, hi⟩ := DataW.trod_struct hu h
  refine ⟨by omega, fun i hin => ?_⟩
  obtain ⟨j, f, m, hj, ho, hcm, h1, h2⟩ := hcover i hin
  have h3 := hi j f (by simpa using hj)
  have hjl : j < xs.length := by
    rw [hx]
    have := (List.getElem?_eq_some_iff.1 hj).1
    simpa using this
  rw [hcm, List.getElem?_eq_getElem hjl] at h3
  obtain ⟨_, h4⟩ := ho h3
  obtain ⟨y, hy, he⟩ := h4 (i - f.offset) (by omega)
  refine ⟨y, hy, ?_⟩
  rw [List.getElem?_take_of_lt (by omega), List.getElem?_drop, show f.offset + (i - f.offset) = i by omega] at he
  exact he

theorem limbs_of {cs : List Value} {n : Nat} (hl : cs.length = n) (h : ∀ i, i < n → ∃ y : Nat, y < 2 ^ 64 ∧ cs[i]? = some (.int .u64 (y : Int))) : ∃ xs : List Nat, xs.length = n ∧ Small xs ∧ cs = cellsOf xs := by
  induction cs generalizing n with
  | nil => exact ⟨[], by simpa using hl, (fun x hx => absurd hx List.not_mem_nil), rfl⟩
  | cons c cs ih =>
    cases n with
    | zero => simp at hl
    | succ n =>
      obtain ⟨xs, h1, h2, h3⟩ := ih (n := n) (by simpa using hl) (fun i hi => by
        obtain ⟨y, hy, he⟩ := h (i + 1) (by omega)
        exact ⟨y, hy, by simpa using he⟩)
      obtain ⟨y, hy, he⟩ := h 0 (by omega)
      have hc : c = .int .u64 (y : Int) := by simpa using he
      refine ⟨y :: xs, by simp [h1], ?_, by rw [hc, h3]; rfl⟩
      intro z hz
      rcases List.mem_cons.1 hz with rfl | hz
      · exact hy
      · exact h2 z hz

theorem rows_of {K : Nat} : ∀ (k : Nat) (xs : List Nat), xs.length = K * k → Small xs → ∃ l : List Nat, l.length = k ∧ (∀ x ∈ l, x < 2 ^ (64 * K)) ∧ rows K l = xs
  | 0, xs, hl, _ => by
    rw [Nat.mul_zero] at hl
    rw [List.length_eq_zero_iff.1 hl]
    exact ⟨[], rfl, (fun x hx => absurd hx List.not_mem_nil), rfl⟩
  | k + 1, xs, hl, hs => by
    have hlen : (xs.take K).length = K := by rw [List.length_take, hl, Nat.mul_add]; omega
    have hs1 : Small (xs.take K) := fun x hx => hs x (List.mem_of_mem_take hx)
    obtain ⟨l, h1, h2, h3⟩ := rows_of (K := K) k (xs.drop K) (by rw [List.length_drop, hl, Nat.mul_add]; omega) (fun x hx => hs x (List.mem_of_mem_drop hx))
    refine ⟨val (xs.take K) :: l, by simp [h1], ?_, ?_⟩
    · intro x hx
      rcases List.mem_cons.1 hx with rfl | hx
      · exact val_lt_of (K := K) hs1 (Nat.le_of_eq hlen)
      · exact h2 x hx
    · have := row_val hs1
      rw [hlen] at this
      rw [rows_cons, this, h3, List.take_append_drop]

theorem open_nv {ty : TypeId} {K k n : Nat} (ho : OpensN ty n) (hn : n = K * k) {H : Type} {enc : TypeId × Value → H} {w : World} {base : Nat} {sp : Nat → Bool} {held : Bool} {cs : Array Value} {d : DataW H} {ps : List MemPlace}
    (hd : DataW.Trod enc Try.prog w base sp held ty (.agg cs) d ps) : ∃ l : List Nat, l.length = k ∧ (∀ x ∈ l, x < 2 ^ (64 * K)) ∧ Value.agg cs = nv K l := by
  obtain ⟨fuel, hf⟩ := hd
  obtain ⟨h1, h2⟩ := ho hf
  obtain ⟨xs, h3, h4, h5⟩ := limbs_of h1 h2
  obtain ⟨l, h6, h7, h8⟩ := rows_of k xs (by rw [h3, hn]) h4
  refine ⟨l, h6, h7, ?_⟩
  have : cs = (cellsOf xs).toArray := by
    apply Array.toList_inj.1
    exact h5
  rw [nv, lv, h8, this]

theorem opens_fp : OpensN 24 6 := opens_array Try.underlying24 (by kernel_rfl)
theorem opens_fp2 : OpensN 26 12 := opens_struct fp2_fields (by kernel_rfl) fun i hi => by
  rcases Nat.lt_or_ge i 6 with h | h
  · exact ⟨0, _, 6, rfl, opens_fp, by kernel_rfl, Nat.zero_le _, by simpa using h⟩
  · exact ⟨1, _, 6, rfl, opens_fp, by kernel_rfl, h, by simpa using hi⟩

theorem open_fp1 {H : Type} {enc : TypeId × Value → H} {w : World} {r : Reach} {b0 base : Nat} {sp : Nat → Bool} {held : Bool} {v : Value} {d : DataW H} {ps : List MemPlace}
    (hval : Value.okWide Try.prog w r b0 24 v) (hd : DataW.Trod enc Try.prog w base sp held 24 v d ps) : ∃ a, a < fpB ∧ v = nv 6 [a] := by
  simp only [Value.okWide, Try.underlying24] at hval
  obtain ⟨cs, rfl, hs, _⟩ := hval
  obtain ⟨l, h1, h2, h3⟩ := open_nv (K := 6) (k := 1) opens_fp rfl hd
  match l, h1, h2, h3 with
  | [a], _, h2, h3 => exact ⟨a, Nat.lt_of_lt_of_eq (h2 a List.mem_cons_self) fpB_eq.symm, h3⟩

theorem open_fp2 {H : Type} {enc : TypeId × Value → H} {w : World} {r : Reach} {b0 base : Nat} {sp : Nat → Bool} {held : Bool} {v : Value} {d : DataW H} {ps : List MemPlace}
    (hval : Value.okWide Try.prog w r b0 26 v) (hd : DataW.Trod enc Try.prog w base sp held 26 v d ps) : ∃ a b, a < fpB ∧ b < fpB ∧ v = nv 6 [a, b] := by
  simp only [Value.okWide, Try.underlying26] at hval
  obtain ⟨cs, rfl, hs, _⟩ := hval
  obtain ⟨l, h1, h2, h3⟩ := open_nv (K := 6) (k := 2) opens_fp2 rfl hd
  match l, h1, h2, h3 with
  | [a, b], _, h2, h3 => exact ⟨a, b, Nat.lt_of_lt_of_eq (h2 a List.mem_cons_self) fpB_eq.symm, Nat.lt_of_lt_of_eq (h2 b (List.mem_cons_of_mem _ List.mem_cons_self)) fpB_eq.symm, h3⟩

end Go.Proofs.Ytpjkcdkhfjcojaa
