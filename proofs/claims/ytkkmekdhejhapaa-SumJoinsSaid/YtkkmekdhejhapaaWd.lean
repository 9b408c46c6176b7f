/- What is proved here: arrays of seven limbs with a sign, pairs of factors, as segments of blocks; a limb in a block; what operations on words and counts yield. -/
import Derived.Test.YtkkmekdhejhapaaComp
import Derived.Test.YtkkmekdhejhapaaWide
import Derived.Test.YtkkmekdhejhapaaMulAdd
import Derived.Test.YtkkmekdhejhapaaFn1Fp
namespace Go.Proofs.Ytkkmekdhejhapaa
open Go.RowKit
theorem flWd : Flat 114 (7 * 1) := ⟨Try.isAgg114, Try.sizeOf114⟩
theorem eqWd : EqF 114 7 2 := EqF.array Try.eqGuardType114 Try.underlying114
theorem flFpI : Flat 26 (6 * 1) := ⟨Try.isAgg26, Try.sizeOf26⟩
theorem cells0I (n : Nat) : cellsOf (List.replicate n 0) = List.replicate n (Value.int .u64 0) := by simp [cellsOf]
theorem zFpI (w : World) : (zeroValue 26).run Try.prog w = .ok (lv (rows 6 [0])) w := by
  rw [Try.zeroValue26 w, show [0] = List.replicate 1 0 from rfl, rows_zero, lv, cells0I]
  rfl
theorem zWd (w : World) : (zeroValue 114).run Try.prog w = .ok (lv (rows 7 [0])) w := by
  rw [Try.zeroValue114 w, show [0] = List.replicate 1 0 from rfl, rows_zero, lv, cells0I]
  rfl
theorem nv6I (v : Nat) : fpV v = nv 6 [v] := by rw [nv_row, fp_cells]
theorem nv7 (e : Nat) : nv 7 [e] = .agg #[.int .u64 ((lb e 0 : Nat) : Int), .int .u64 ((lb e 1 : Nat) : Int), .int .u64 ((lb e 2 : Nat) : Int), .int .u64 ((lb e 3 : Nat) : Int), .int .u64 ((lb e 4 : Nat) : Int), .int .u64 ((lb e 5 : Nat) : Int), .int .u64 ((lb e 6 : Nat) : Int)] := by
  have hr : row 7 e = [lb e 0, lb e 1, lb e 2, lb e 3, lb e 4, lb e 5, lb e 6] := by
    apply List.ext_getElem (by rw [length_row]; rfl)
    intro i h1 h2
    rw [length_row] at h1
    have e1 := lb_row (K := 7) (v := e) (i := i) h1
    rw [lm, List.getD_eq_getElem?_getD, List.getElem?_eq_getElem (by rw [length_row]; exact h1), Option.getD_some] at e1
    rw [e1]
    have : i = 0 ∨ i = 1 ∨ i = 2 ∨ i = 3 ∨ i = 4 ∨ i = 5 ∨ i = 6 := by omega
    rcases this with rfl | rfl | rfl | rfl | rfl | rfl | rfl <;> rfl
  rw [nv_row, hr]
  rfl
theorem nv7_small {e : Nat} (he : e < 2 ^ 64) : nv 7 [e] = .agg #[.int .u64 e, .int .u64 0, .int .u64 0, .int .u64 0, .int .u64 0, .int .u64 0, .int .u64 0] := by
  have h : ∀ i, lb e (i + 1) = 0 := fun i => lb_hi he i
  have h0 : lb e 0 = e := by rw [lb, Nat.mul_zero, Nat.pow_zero, Nat.div_one, Nat.mod_eq_of_lt he]
  rw [nv7, h 0, h 1, h 2, h 3, h 4, h 5, h0]
  rfl
theorem fa_fields : Try.prog.underlying 118 = some (.struct (List.toArray [⟨"first", 116, 0, false, "", "chirograph/fp", 0⟩, ⟨"second", 116, 2, false, "", "chirograph/fp", 16⟩])) := Try.underlying118
theorem flFa : Flat 118 4 := ⟨Try.isAgg118, Try.sizeOf118⟩
theorem flPr : Flat 116 2 := ⟨Try.isAgg116, Try.sizeOf116⟩
theorem faFa_0 : FieldAt 118 0 0 := ⟨_, _, 1, fa_fields, rfl, rfl, Try.sizeOf116⟩
theorem faFa_1 : FieldAt 118 1 2 := ⟨_, _, 1, fa_fields, rfl, rfl, Try.sizeOf116⟩
theorem zFa (w : World) : (zeroValue 118).run Try.prog w = .ok (sv [.i .i64 0, .i .i64 0, .i .i64 0, .i .i64 0]) w := Try.zeroValue118 w
theorem stFa : StructS 118 [.i .i64 0, .i .i64 0, .i .i64 0, .i .i64 0] [(0, 2), (2, 2)] := by
  refine ⟨_, fa_fields, zFa, fun w => ?_⟩
  simp [Sem.run_bind, Try.sizeOf116]
theorem sgI64 : Single 2 := ⟨Try.isAgg2, Try.sizeOf2⟩
theorem sgW64 : Single 24 := ⟨Try.isAgg24, Try.sizeOf24⟩
section
variable {ρ : Operand → Value} {d : Option Tmp} {ty0 : TypeId} {pos : String} {after : Array Edge} {guard : Option (Nat × Bool)} {w : World}
theorem ex_zeroW : (execOp ρ ⟨d, .build 114 #[], ty0, pos, after, guard⟩).run Try.prog w = .ok (.value (nv 7 [0])) w := by
  rw [nv7_small (by decide)]
  simp [execOp, Instr.build, Instr.fill, Sem.run_bind, Value.cells, go_sem]
theorem ex_limbW {x : Operand} {e : Nat} (he : e < 2 ^ 64) (hx : ρ x = .int .u64 (e : Int)) :
    (execOp ρ ⟨d, .build 114 #[(0, x)], ty0, pos, after, guard⟩).run Try.prog w = .ok (.value (nv 7 [e])) w := by
  rw [nv7_small he]
  simp [execOp, Instr.build, Instr.fill, Sem.run_bind, Value.cells, go_sem, hx]
theorem ex_zeroQ : (execOp ρ ⟨d, .build 114 #[], ty0, pos, after, guard⟩).run Try.prog w = .ok (.value (nv 7 [wr 0])) w := by
  rw [wr_zero]
  exact ex_zeroW
theorem ex_oneQ {x : Operand} (hx : ρ x = .int .u64 1) :
    (execOp ρ ⟨d, .build 114 #[(0, x)], ty0, pos, after, guard⟩).run Try.prog w = .ok (.value (nv 7 [wr 1])) w := by
  rw [show wr 1 = 1 from wr_nat (n := 1) (by have := wB_q; have := qB_pos; omega)]
  exact ex_limbW (e := 1) (by decide) hx
theorem ex_pairI {x y : Operand} {a b : Int} (hx : ρ x = .int .i64 a) (hy : ρ y = .int .i64 b) :
    (execOp ρ ⟨d, .build 116 #[(0, x), (1, y)], ty0, pos, after, guard⟩).run Try.prog w = .ok (.value (sv [.i .i64 a, .i .i64 b])) w := by
  have e : sv [.i .i64 a, .i .i64 b] = .agg #[.int .i64 a, .int .i64 b] := rfl
  rw [e]
  simp [execOp, Instr.build, Instr.fill, Sem.run_bind, Value.cells, go_sem, hx, hy]
theorem ex_at {t e : TypeId} {x ix : Operand} {n g i : Nat} (hu : Try.prog.underlying t = some (.array n e)) (hz : ∀ w, (Go.sizeOf e).run Try.prog w = .ok 1 w) (hx : ρ x = .pointer (some ⟨g, 0, none⟩)) (hi : ρ ix = .int .i64 (i : Int)) (hlt : i < n) :
    (execOp ρ ⟨d, .indexAddr t x ix, ty0, pos, after, guard⟩).run Try.prog w = .ok (.value (.pointer (some ⟨g, i, none⟩))) w := by
  have h1 : (0 : Int) ≤ (i : Int) ∧ (i : Int) < (n : Int) := ⟨by omega, by omega⟩
  simp [execOp, Sem.run_bind, hx, hi, Instr.indexAt, asIntOf, Instr.sureAddr, run_underlying hu w, hz w, hlt, Addr.add_mid]
theorem ex_ldl {x : Operand} {t : TypeId} {g o K v : Nat} (h : SB t w g [.n K v]) (ho : o < K) (hx : ρ x = .pointer (some ⟨g, o, none⟩)) :
    (execOp ρ ⟨d, .load 24 x, ty0, pos, after, guard⟩).run Try.prog w = .ok (.value (.int .u64 ((lb v o : Nat) : Int))) w := by
  have hv : (segs [.n K v])[o]? = some (.int .u64 ((lb v o : Nat) : Int)) := by
    have e : segs [.n K v] = cellsOf (row K v) := by
      show cellsOf (row K v) ++ [] = _
      rw [List.append_nil]
    have h1 := (show Arr t w g (row K v) from by unfold SB at h; rw [e] at h; exact h).rc o ho
    have h2 := Blk.cell h (i := o) (by rw [segs_len]; exact ho)
    rw [List.getElem?_eq_getElem (by rw [segs_len]; exact ho), ← h2, h1]
  simp [execOp, hx, run_load_one h sgW64 hv]
theorem ex_ldm {x : Operand} {t : TypeId} {g o K v u : Nat} (h : SB t w g [.n K v]) (ho : o < K) (hx : ρ x = .pointer (some ⟨g, o, none⟩)) (hu : lb v o = lb u o) :
    (execOp ρ ⟨d, .load 24 x, ty0, pos, after, guard⟩).run Try.prog w = .ok (.value (.int .u64 ((lb u o : Nat) : Int))) w := by
  rw [← hu]
  exact ex_ldl h ho hx
theorem ex_cutW {x : Operand} {g : Nat} (hx : ρ x = .pointer (some ⟨g, 0, none⟩)) (hc : ∀ v, ρ (.const v) = v) :
    (execOp ρ ⟨d, .slice 114 x none (some (.const (.int .i64 6))) none, ty0, pos, after, guard⟩).run Try.prog w = .ok (.value (.slice (some ⟨g, 0, none⟩) 6 7)) w := by
  simp [execOp, hx, hc, go_sem, Try.underlying114]
theorem ex_stl {x y : Operand} {t : TypeId} {g o K v : Nat} {z : Int} (h : SB t w g [.n K v]) (ho : o < K) (hx : ρ x = .pointer (some ⟨g, o, none⟩)) (hy : ρ y = .int .u64 z) :
    (execOp ρ ⟨d, .store 24 x y, ty0, pos, after, guard⟩).run Try.prog w = .ok .skip (w.setCells g o (segs [.i .u64 z])) := by
  have := run_store_cv (ys := [.int .u64 z]) h (ty := 24) (o := o) (v := .int .u64 z) rfl sgW64.2 (by rw [segs_len]; show o + 1 ≤ K + 0; omega) (segs_ones [.i .u64 z])
  have e : segs [.i .u64 z] = [.int .u64 z] := rfl
  rw [e]
  simp [execOp, hx, hy, this]
theorem ex_ext {x : Operand} {xs : List Operand} {tys : Array TypeId} {f : FuncId} {vs : List Value} {r : Value} (hx : ρ x = .func (.func f) #[] #[]) (hc : ∀ w, (callFunc f vs.toArray).run Try.prog w = .ok (.value r) w) (hv : xs.map ρ = vs) :
    (execOp ρ ⟨d, .call ⟨.value x, xs.toArray, tys⟩, ty0, pos, after, guard⟩).run Try.prog w = .ok (.value r) w := by
  subst hv
  simp [execOp, resolve, hx, Deferred.ofValue, invoke, hc]
theorem ex_ineg {t : TypeId} {x : Operand} {k : IntKind} {a : Int} (hx : ρ x = .int k a) (r : Int) (hr : k.wrap (-a) = r) :
    (execOp ρ ⟨d, .unOp .neg t x, ty0, pos, after, guard⟩).run Try.prog w = .ok (.value (.int k r)) w := by
  subst hr
  simp [execOp, hx, go_sem]
theorem ex_iremu {t t2 : TypeId} {x y : Operand} {k : IntKind} {a b : Int} (hx : ρ x = .int k a) (hy : ρ y = .int k b) (h0 : 0 < b) (ha : 0 ≤ a) :
    (execOp ρ ⟨d, .binOp .rem t x y t2, ty0, pos, after, guard⟩).run Try.prog w = .ok (.value (.int k (a % b))) w := by
  have h1 : ¬ (b = 0) := by omega
  simp only [execOp, hx, hy, eqGuard, binOp, Op.intDiv, Sem.run_bind]
  rw [if_neg h1, Int.tmod_eq_emod_of_nonneg ha]
  simp
theorem ex_iquou {t t2 : TypeId} {x y : Operand} {k : IntKind} {a b : Int} (hx : ρ x = .int k a) (hy : ρ y = .int k b) (h0 : 0 < b) (ha : 0 ≤ a) (r : Int) (hr : k.wrap (a / b) = r) :
    (execOp ρ ⟨d, .binOp .quo t x y t2, ty0, pos, after, guard⟩).run Try.prog w = .ok (.value (.int k r)) w := by
  have h1 : ¬ (b = 0) := by omega
  simp only [execOp, hx, hy, eqGuard, binOp, Op.intDiv, Sem.run_bind]
  rw [if_neg h1, Int.tdiv_eq_ediv_of_nonneg ha, hr]
  simp
theorem ex_shrU {t t2 : TypeId} {x y : Operand} {k k2 : IntKind} {a : Int} {s : Nat} (hx : ρ x = .int k a) (hy : ρ y = .int k2 (s : Int)) (hs : s ≤ k.bits) :
    (execOp ρ ⟨d, .binOp .shr t x y t2, ty0, pos, after, guard⟩).run Try.prog w = .ok (.value (.int k (a / 2 ^ s))) w := by
  have h1 : ¬ ((s : Int) < 0) := by omega
  have h2 : min (s : Int).toNat k.bits = s := by
    rw [Int.toNat_natCast]
    exact Nat.min_eq_left hs
  have h3 : a.fdiv (2 ^ s) = a / 2 ^ s := Int.fdiv_eq_ediv_of_nonneg _ (Int.pow_nonneg (by decide))
  simp only [execOp, hx, hy, eqGuard, binOp, Op.shift, Sem.run_bind]
  rw [if_neg h1, h2, h3]
  rfl
theorem ex_shlU {t t2 : TypeId} {x y : Operand} {k k2 : IntKind} {a : Int} {s : Nat} (hx : ρ x = .int k a) (hy : ρ y = .int k2 (s : Int)) (hs : s ≤ k.bits) (r : Int) (hr : k.wrap (a * 2 ^ s) = r) :
    (execOp ρ ⟨d, .binOp .shl t x y t2, ty0, pos, after, guard⟩).run Try.prog w = .ok (.value (.int k r)) w := by
  have h1 : ¬ ((s : Int) < 0) := by omega
  have h2 : min (s : Int).toNat k.bits = s := by
    rw [Int.toNat_natCast]
    exact Nat.min_eq_left hs
  simp only [execOp, hx, hy, eqGuard, binOp, Op.shift, Sem.run_bind]
  rw [if_neg h1, h2, hr]
  rfl
theorem ex_cvUI {x : Operand} {a : Int} (hx : ρ x = .int .u64 a) (r : Int) (hr : IntKind.i64.wrap a = r) :
    (execOp ρ ⟨d, .convert 24 2 x, ty0, pos, after, guard⟩).run Try.prog w = .ok (.value (.int .i64 r)) w := by
  subst hr
  simp [execOp, hx, go_sem]
theorem ex_cvIU {x : Operand} {a : Int} (hx : ρ x = .int .i64 a) (r : Int) (hr : IntKind.u64.wrap a = r) :
    (execOp ρ ⟨d, .convert 2 24 x, ty0, pos, after, guard⟩).run Try.prog w = .ok (.value (.int .u64 r)) w := by
  subst hr
  simp [execOp, hx, go_sem]
end
def chainW (ops : Array Oper) (s : Nat) : List Nat → Nat → Bool
  | [], k => waitsFor ops s k
  | m :: ms, k => waitsFor ops s m && chainW ops m ms k
theorem chainW_on {ops : Array Oper} {L : Nat → Bool} (hcl : Shutin ops L) {k : Nat} : ∀ (ms : List Nat) (s : Nat), chainW ops s ms k = true → L s = true → L k = true
  | [], _, h, hs => waitsFor_on hcl h hs
  | m :: ms, s, h, hs => by
    simp only [chainW, Bool.and_eq_true] at h
    exact chainW_on hcl ms m h.2 (waitsFor_on hcl h.1 hs)
theorem late_chain {P : Program} {ops : Array Oper} {Γ : Type} {F : Γ → Act} {J : Γ → (Nat → Bool) → World → Prop} {s g p : Nat} {ys : List Value} {k : Nat} {o : Oper} (ms : List Nat) (h : GStep P ops F J k o) (hw : chainW ops s ms k = true) (hne : (s == k) = false) : GStep P ops F (LateJ J s g p ys) k o := fun γ L w Kk hJ hcl hL hdep hK => by
  have ls : L s = false := by
    cases hq : L s with
    | false => rfl
    | true => rw [chainW_on hcl ms s hw hq] at hL; cases hL
  refine h γ L w Kk (hJ.1 ls) hcl hL hdep (fun γ' v w' hF hJ' => hK.out γ' v w' hF ⟨fun _ => hJ', fun h1 => ?_⟩)
  simp [ls, hne] at h1
theorem St.limb {w w' : World} {g o K v v' z : Nat} {t : TypeId} (h : St w w' g o (segs [.i .u64 (z : Int)])) (hA : SB t w g [.n K v]) (hr : (row K v).set o z = row K v') : SB t w' g [.n K v'] := by
  have e : ∀ u, segs [.n K u] = cellsOf (row K u) := fun u => by
    show cellsOf (row K u) ++ [] = _
    rw [List.append_nil]
  rw [show w' = _ from h]
  unfold SB at hA ⊢
  rw [e] at hA ⊢
  have h1 := Blk.set hA o (.int .u64 (z : Int))
  rw [← hr]
  rw [show cellsOf ((row K v).set o z) = (cellsOf (row K v)).set o (.int .u64 (z : Int)) from by simp [cellsOf, List.map_set]]
  exact h1
end Go.Proofs.Ytkkmekdhejhapaa
