/- What is proved here: fr's element methods, each and running. -/
import Derived.Test.YtlpaegmnahcbjaaSlOps
namespace Go.Proofs.Ytlpaegmnahcbjaa
open Go.RowKit

theorem flEl : Flat 47 (4 * 1) := ⟨Try.isAgg47, Try.sizeOf47⟩
theorem eqEl : EqF 47 4 2 := EqF.array Try.eqGuardType47 Try.underlying47
theorem zEl (w : World) : (zeroValue 47).run Try.prog w = .ok (lv (rows 4 [0])) w := by
  rw [Try.zeroValue47 w, show [0] = List.replicate 1 0 from rfl, rows_zero, lv, cells0R]
  rfl
theorem info_of {e : TypeId} (h : (Try.prog.info? e).map (·.bytes) = some 32) : ∃ i, Try.prog.info? e = some i ∧ i.bytes = 32 := by
  cases hq : Try.prog.info? e with
  | none => rw [hq] at h; cases h
  | some i => rw [hq] at h; exact ⟨i, rfl, by injection h⟩
theorem slFr : SlT 33 24 := ⟨Try.underlying33, Try.sizeOf24, Try.isAgg24, Try.zeroValue24, info_of (by kernel_rfl)⟩
theorem slEl : SlT 45 47 := ⟨Try.underlying45, Try.sizeOf47, Try.isAgg47, Try.zeroValue47, info_of (by kernel_rfl)⟩

theorem ex_zeroE {ρ : Operand → Value} {d : Option Tmp} {ty0 : TypeId} {pos : String} {after : Array Edge} {guard : Option (Nat × Bool)} {w : World} :
    (execOp ρ ⟨d, .build 47 #[], ty0, pos, after, guard⟩).run Try.prog w = .ok (.value (nv 4 [0])) w := by
  rw [← litFr]
  simp [execOp, Instr.build, Instr.fill, Value.cells, go_sem]
theorem ex_oneE {ρ : Operand → Value} {d : Option Tmp} {ty0 : TypeId} {pos : String} {after : Array Edge} {guard : Option (Nat × Bool)} {w : World} (HC : ρ (.const (.int .u64 1)) = .int .u64 1) :
    (execOp ρ ⟨d, .build 47 #[(0, .const (.int .u64 1))], ty0, pos, after, guard⟩).run Try.prog w = .ok (.value (nv 4 [1])) w := by
  rw [← litOneR]
  simp [execOp, Instr.build, Instr.fill, Value.cells, go_sem, HC]

/-- Filled up to k. -/
def fil (B : Nat → Nat) (k : Nat) : Nat → Nat := fun j => if j < k then B j else 0

theorem fil_at (B : Nat → Nat) (k : Nat) : fil B (k + 1) k = B k := by unfold fil; rw [if_pos (Nat.lt_succ_self k)]
theorem fil_ne {m : Nat} (B : Nat → Nat) (k : Nat) : ∀ j, j < m → j ≠ k → fil B k j = fil B (k + 1) j := fun j _ h => by
  unfold fil
  by_cases h1 : j < k
  · rw [if_pos h1, if_pos (by omega)]
  · rw [if_neg h1, if_neg (by omega)]
theorem fil_first {m : Nat} (B : Nat → Nat) : ∀ j, j < m → j ≠ 0 → (fun _ => 0 : Nat → Nat) j = fil B (0 + 1) j := fun j _ h => by
  unfold fil
  rw [if_neg (by omega)]
theorem fil_init (m : Nat) (B : Nat → Nat) : tab m (fil B 0) = tab m (fun _ => 0) := tab_ext fun j _ => by unfold fil; rw [if_neg (by omega)]
theorem fil_end (m : Nat) (B : Nat → Nat) : tab m (fil B m) = tab m B := tab_ext fun j h => by unfold fil; rw [if_pos h]

/-- What answers a slice of its own. -/
def MadeS (T : TypeId) (w : World) (m c : Nat) (B : Nat → Nat) (e : Ending) (w' : World) : Prop :=
  ∃ g, e = .returned (.slice (some ⟨g, 0, none⟩) m c) ∧ w.heap.size ≤ g ∧ Arr T w' g (rows 4 (tab c B)) ∧ Below w.heap.size w w'

set_option maxRecDepth 20000 in
set_option maxHeartbeats 4000000 in
theorem elclean_v (a : Nat) (w : World) (ha : a < frB) (v : Nat) (hv : v = a % rN) :
    Calls Try.prog 27 #[nv 4 [a]] w (Is (nv 4 [v]) w) := by
  go_enter Try.func27, Try.ntmps27
  refine seq_lit ?_
  refine sq_new (a' := ⟨#[nv 4 [a], .pointer (some ⟨w.heap.size, 0, none⟩), undef, undef, undef], []⟩) (xs := rows 4 [a]) rfl rfl (ex_boxn (K := 4) (l := [a]) rfl) ?_
  intro w1 N1 hb1
  have HB2 := below_then (Below.refl w.heap.size w) hb1
  refine sq_new (a' := ⟨#[nv 4 [a], .pointer (some ⟨w.heap.size, 0, none⟩), .pointer (some ⟨w1.heap.size, 0, none⟩), undef, undef], []⟩) (xs := rows 4 [0]) rfl rfl (ex_alloc zEl) ?_
  intro w3 N3 hb3
  have A4 := N1.keep hb3
  have HB5 := below_then HB2 hb3
  refine seq_nil ?_
  refine seq_lit ?_
  refine sq_val (a' := ⟨#[nv 4 [a], .pointer (some ⟨w.heap.size, 0, none⟩), .pointer (some ⟨w1.heap.size, 0, none⟩), nv 4 [a], undef], []⟩) (v := nv 4 [a]) rfl rfl (ex_loadn (K := 4) (k := 0) (j := 1) (l := [a]) flEl rfl A4 rfl _ rfl) ?_
  refine sq_call (a' := ⟨#[nv 4 [a], .pointer (some ⟨w.heap.size, 0, none⟩), .pointer (some ⟨w1.heap.size, 0, none⟩), nv 4 [a], nv 4 [v]], []⟩) (v := nv 4 [v]) rfl rfl (ex_call (vs := [nv 4 [a]]) rfl Try.call20 rfl) (frClean_n a _ ha v hv) ?_
  intro w7 hb7
  have A8 := A4.keep hb7
  have A9 := N3.keep hb7
  have HB10 := below_then HB5 hb7
  refine sq_store (a' := ⟨#[nv 4 [a], .pointer (some ⟨w.heap.size, 0, none⟩), .pointer (some ⟨w1.heap.size, 0, none⟩), nv 4 [a], nv 4 [v]], []⟩) (t := 47) (xs := rows 4 [0]) (ys := rows 4 [v]) rfl rfl A9 (len_rows rfl) (ex_storen (K := 4) (l := [0]) (m := [v]) flEl rfl rfl A9 rfl) ?_
  intro w11 N11 hst11 hoth11
  have A12 := hoth11 _ _ _ (Nat.ne_of_lt N1.lt) A8
  have HB13 := hst11 _ _ HB10 HB2.size
  refine seq_nil ?_
  exact wp_ret (bodyPost_ret (ret_cellnR (K := 4) Try.results27 rfl N11 flEl) rfl ⟨rfl, HB13⟩)

set_option maxRecDepth 20000 in
set_option maxHeartbeats 4000000 in
theorem eltimes_v (a b : Nat) (w : World) (ha : a < frB) (hb : b < frB) (v : Nat) (hv : v = a * b % rN) :
    Calls Try.prog 31 #[nv 4 [a], nv 4 [b]] w (Is (nv 4 [v]) w) := by
  go_enter Try.func31, Try.ntmps31
  refine seq_lit ?_
  refine sq_new (a' := ⟨#[nv 4 [a], nv 4 [b], .pointer (some ⟨w.heap.size, 0, none⟩), undef, undef, undef, undef, undef], []⟩) (xs := rows 4 [a]) rfl rfl (ex_boxn (K := 4) (l := [a]) rfl) ?_
  intro w1 N1 hb1
  have HB2 := below_then (Below.refl w.heap.size w) hb1
  refine sq_new (a' := ⟨#[nv 4 [a], nv 4 [b], .pointer (some ⟨w.heap.size, 0, none⟩), .pointer (some ⟨w1.heap.size, 0, none⟩), undef, undef, undef, undef], []⟩) (xs := rows 4 [b]) rfl rfl (ex_boxn (K := 4) (l := [b]) rfl) ?_
  intro w3 N3 hb3
  have A4 := N1.keep hb3
  have HB5 := below_then HB2 hb3
  refine sq_new (a' := ⟨#[nv 4 [a], nv 4 [b], .pointer (some ⟨w.heap.size, 0, none⟩), .pointer (some ⟨w1.heap.size, 0, none⟩), .pointer (some ⟨w3.heap.size, 0, none⟩), undef, undef, undef], []⟩) (xs := rows 4 [0]) rfl rfl (ex_alloc zEl) ?_
  intro w7 N7 hb7
  have A8 := A4.keep hb7
  have A9 := N3.keep hb7
  have HB10 := below_then HB5 hb7
  refine seq_nil ?_
  refine seq_lit ?_
  refine sq_val (a' := ⟨#[nv 4 [a], nv 4 [b], .pointer (some ⟨w.heap.size, 0, none⟩), .pointer (some ⟨w1.heap.size, 0, none⟩), .pointer (some ⟨w3.heap.size, 0, none⟩), nv 4 [a], undef, undef], []⟩) (v := nv 4 [a]) rfl rfl (ex_loadn (K := 4) (k := 0) (j := 1) (l := [a]) flEl rfl A8 rfl _ rfl) ?_
  refine sq_val (a' := ⟨#[nv 4 [a], nv 4 [b], .pointer (some ⟨w.heap.size, 0, none⟩), .pointer (some ⟨w1.heap.size, 0, none⟩), .pointer (some ⟨w3.heap.size, 0, none⟩), nv 4 [a], nv 4 [b], undef], []⟩) (v := nv 4 [b]) rfl rfl (ex_loadn (K := 4) (k := 0) (j := 1) (l := [b]) flEl rfl A9 rfl _ rfl) ?_
  refine sq_call (a' := ⟨#[nv 4 [a], nv 4 [b], .pointer (some ⟨w.heap.size, 0, none⟩), .pointer (some ⟨w1.heap.size, 0, none⟩), .pointer (some ⟨w3.heap.size, 0, none⟩), nv 4 [a], nv 4 [b], nv 4 [v]], []⟩) (v := nv 4 [v]) rfl rfl (ex_call (vs := [nv 4 [a], nv 4 [b]]) rfl Try.call50 rfl) (frMul_n a b _ ha hb v hv) ?_
  intro w13 hb13
  have A14 := A8.keep hb13
  have A15 := A9.keep hb13
  have A16 := N7.keep hb13
  have HB17 := below_then HB10 hb13
  refine sq_store (a' := ⟨#[nv 4 [a], nv 4 [b], .pointer (some ⟨w.heap.size, 0, none⟩), .pointer (some ⟨w1.heap.size, 0, none⟩), .pointer (some ⟨w3.heap.size, 0, none⟩), nv 4 [a], nv 4 [b], nv 4 [v]], []⟩) (t := 47) (xs := rows 4 [0]) (ys := rows 4 [v]) rfl rfl A16 (len_rows rfl) (ex_storen (K := 4) (l := [0]) (m := [v]) flEl rfl rfl A16 rfl) ?_
  intro w18 N18 hst18 hoth18
  have A19 := hoth18 _ _ _ (Nat.ne_of_lt A4.lt) A14
  have A20 := hoth18 _ _ _ (Nat.ne_of_lt N3.lt) A15
  have HB21 := hst18 _ _ HB17 HB5.size
  refine seq_nil ?_
  exact wp_ret (bodyPost_ret (ret_cellnR (K := 4) Try.results31 rfl N18 flEl) rfl ⟨rfl, HB21⟩)

set_option maxRecDepth 20000 in
set_option maxHeartbeats 4000000 in
theorem elinverse_v (a : Nat) (w : World) (ha : a < frB) (v : Nat) (hv : v = a ^ (rN - 2) % rN) :
    Calls Try.prog 32 #[nv 4 [a]] w (Is (nv 4 [v]) w) := by
  go_enter Try.func32, Try.ntmps32
  refine seq_lit ?_
  refine sq_new (a' := ⟨#[nv 4 [a], .pointer (some ⟨w.heap.size, 0, none⟩), undef, undef, undef], []⟩) (xs := rows 4 [a]) rfl rfl (ex_boxn (K := 4) (l := [a]) rfl) ?_
  intro w1 N1 hb1
  have HB2 := below_then (Below.refl w.heap.size w) hb1
  refine sq_new (a' := ⟨#[nv 4 [a], .pointer (some ⟨w.heap.size, 0, none⟩), .pointer (some ⟨w1.heap.size, 0, none⟩), undef, undef], []⟩) (xs := rows 4 [0]) rfl rfl (ex_alloc zEl) ?_
  intro w3 N3 hb3
  have A4 := N1.keep hb3
  have HB5 := below_then HB2 hb3
  refine seq_nil ?_
  refine seq_lit ?_
  refine sq_val (a' := ⟨#[nv 4 [a], .pointer (some ⟨w.heap.size, 0, none⟩), .pointer (some ⟨w1.heap.size, 0, none⟩), nv 4 [a], undef], []⟩) (v := nv 4 [a]) rfl rfl (ex_loadn (K := 4) (k := 0) (j := 1) (l := [a]) flEl rfl A4 rfl _ rfl) ?_
  refine sq_call (a' := ⟨#[nv 4 [a], .pointer (some ⟨w.heap.size, 0, none⟩), .pointer (some ⟨w1.heap.size, 0, none⟩), nv 4 [a], nv 4 [v]], []⟩) (v := nv 4 [v]) rfl rfl (ex_call (vs := [nv 4 [a]]) rfl Try.call14 rfl) (frInv_n a _ ha v hv) ?_
  intro w7 hb7
  have A8 := A4.keep hb7
  have A9 := N3.keep hb7
  have HB10 := below_then HB5 hb7
  refine sq_store (a' := ⟨#[nv 4 [a], .pointer (some ⟨w.heap.size, 0, none⟩), .pointer (some ⟨w1.heap.size, 0, none⟩), nv 4 [a], nv 4 [v]], []⟩) (t := 47) (xs := rows 4 [0]) (ys := rows 4 [v]) rfl rfl A9 (len_rows rfl) (ex_storen (K := 4) (l := [0]) (m := [v]) flEl rfl rfl A9 rfl) ?_
  intro w11 N11 hst11 hoth11
  have A12 := hoth11 _ _ _ (Nat.ne_of_lt N1.lt) A8
  have HB13 := hst11 _ _ HB10 HB2.size
  refine seq_nil ?_
  exact wp_ret (bodyPost_ret (ret_cellnR (K := 4) Try.results32 rfl N11 flEl) rfl ⟨rfl, HB13⟩)

set_option maxRecDepth 20000 in
set_option maxHeartbeats 4000000 in
theorem elfactor_0  (w : World)  :
    Calls Try.prog 29 #[nv 4 [0]] w (Is (nv 4 [1]) w) := by
  go_enter Try.func29, Try.ntmps29
  refine seq_lit ?_
  refine sq_new (a' := ⟨#[nv 4 [0], .pointer (some ⟨w.heap.size, 0, none⟩), undef, undef, undef, undef, undef, undef], []⟩) (xs := rows 4 [0]) rfl rfl (ex_boxn (K := 4) (l := [0]) rfl) ?_
  intro w1 N1 hb1
  have HB2 := below_then (Below.refl w.heap.size w) hb1
  refine sq_new (a' := ⟨#[nv 4 [0], .pointer (some ⟨w.heap.size, 0, none⟩), .pointer (some ⟨w1.heap.size, 0, none⟩), undef, undef, undef, undef, undef], []⟩) (xs := rows 4 [0]) rfl rfl (ex_alloc zEl) ?_
  intro w3 N3 hb3
  have A4 := N1.keep hb3
  have HB5 := below_then HB2 hb3
  refine seq_nil ?_
  refine wp_seq ?_
  refine seq_lit ?_
  refine sq_val (a' := ⟨#[nv 4 [0], .pointer (some ⟨w.heap.size, 0, none⟩), .pointer (some ⟨w1.heap.size, 0, none⟩), nv 4 [0], undef, undef, undef, undef], []⟩) (v := nv 4 [0]) rfl rfl (ex_loadn (K := 4) (k := 0) (j := 1) (l := [0]) flEl rfl A4 rfl _ rfl) ?_
  refine sq_val (a' := ⟨#[nv 4 [0], .pointer (some ⟨w.heap.size, 0, none⟩), .pointer (some ⟨w1.heap.size, 0, none⟩), nv 4 [0], nv 4 [0], undef, undef, undef], []⟩) (v := nv 4 [0]) rfl rfl (ex_zeroE) ?_
  refine sq_val (a' := ⟨#[nv 4 [0], .pointer (some ⟨w.heap.size, 0, none⟩), .pointer (some ⟨w1.heap.size, 0, none⟩), nv 4 [0], nv 4 [0], .bool true, undef, undef], []⟩) (v := .bool true) rfl rfl (ex_eqt (K := 4) (l := [0]) eqEl rfl rfl rfl rfl) ?_
  refine seq_nil ?_
  refine wp_cond_true rfl ?_
  refine seq_lit ?_
  refine sq_val (a' := ⟨#[nv 4 [0], .pointer (some ⟨w.heap.size, 0, none⟩), .pointer (some ⟨w1.heap.size, 0, none⟩), nv 4 [0], nv 4 [0], .bool true, nv 4 [1], undef], []⟩) (v := nv 4 [1]) rfl rfl (ex_oneE rfl) ?_
  refine sq_store (a' := ⟨#[nv 4 [0], .pointer (some ⟨w.heap.size, 0, none⟩), .pointer (some ⟨w1.heap.size, 0, none⟩), nv 4 [0], nv 4 [0], .bool true, nv 4 [1], undef], []⟩) (t := 47) (xs := rows 4 [0]) (ys := rows 4 [1]) rfl rfl N3 (len_rows rfl) (ex_storen (K := 4) (l := [0]) (m := [1]) flEl rfl rfl N3 rfl) ?_
  intro w7 N7 hst7 hoth7
  have A8 := hoth7 _ _ _ (Nat.ne_of_lt N1.lt) A4
  have HB9 := hst7 _ _ HB5 HB2.size
  refine seq_nil ?_
  exact wp_ret (bodyPost_ret (ret_cellnR (K := 4) Try.results29 rfl N7 flEl) rfl ⟨rfl, HB9⟩)

set_option maxRecDepth 20000 in
set_option maxHeartbeats 4000000 in
theorem elfactor_n (a : Nat) (w : World) (ha : a < frB) (hne : [a] ≠ [0]) :
    Calls Try.prog 29 #[nv 4 [a]] w (Is (nv 4 [a]) w) := by
  go_enter Try.func29, Try.ntmps29
  refine seq_lit ?_
  refine sq_new (a' := ⟨#[nv 4 [a], .pointer (some ⟨w.heap.size, 0, none⟩), undef, undef, undef, undef, undef, undef], []⟩) (xs := rows 4 [a]) rfl rfl (ex_boxn (K := 4) (l := [a]) rfl) ?_
  intro w1 N1 hb1
  have HB2 := below_then (Below.refl w.heap.size w) hb1
  refine sq_new (a' := ⟨#[nv 4 [a], .pointer (some ⟨w.heap.size, 0, none⟩), .pointer (some ⟨w1.heap.size, 0, none⟩), undef, undef, undef, undef, undef], []⟩) (xs := rows 4 [0]) rfl rfl (ex_alloc zEl) ?_
  intro w3 N3 hb3
  have A4 := N1.keep hb3
  have HB5 := below_then HB2 hb3
  refine seq_nil ?_
  refine wp_seq ?_
  refine seq_lit ?_
  refine sq_val (a' := ⟨#[nv 4 [a], .pointer (some ⟨w.heap.size, 0, none⟩), .pointer (some ⟨w1.heap.size, 0, none⟩), nv 4 [a], undef, undef, undef, undef], []⟩) (v := nv 4 [a]) rfl rfl (ex_loadn (K := 4) (k := 0) (j := 1) (l := [a]) flEl rfl A4 rfl _ rfl) ?_
  refine sq_val (a' := ⟨#[nv 4 [a], .pointer (some ⟨w.heap.size, 0, none⟩), .pointer (some ⟨w1.heap.size, 0, none⟩), nv 4 [a], nv 4 [0], undef, undef, undef], []⟩) (v := nv 4 [0]) rfl rfl (ex_zeroE) ?_
  refine sq_val (a' := ⟨#[nv 4 [a], .pointer (some ⟨w.heap.size, 0, none⟩), .pointer (some ⟨w1.heap.size, 0, none⟩), nv 4 [a], nv 4 [0], .bool false, undef, undef], []⟩) (v := .bool false) rfl rfl (ex_eqn (K := 4) (l := [a]) (m := [0]) eqEl rfl rfl rfl rfl rfl (frB_all1 ha) (frB_all1 zero_BR) rfl false (decide_eq_false hne).symm) ?_
  refine seq_nil ?_
  refine wp_cond_false rfl ?_
  refine wp_skip (then_nR ?_)
  refine seq_lit ?_
  refine sq_val (a' := ⟨#[nv 4 [a], .pointer (some ⟨w.heap.size, 0, none⟩), .pointer (some ⟨w1.heap.size, 0, none⟩), nv 4 [a], nv 4 [0], .bool false, undef, nv 4 [a]], []⟩) (v := nv 4 [a]) rfl rfl (ex_loadn (K := 4) (k := 0) (j := 1) (l := [a]) flEl rfl A4 rfl _ rfl) ?_
  refine sq_store (a' := ⟨#[nv 4 [a], .pointer (some ⟨w.heap.size, 0, none⟩), .pointer (some ⟨w1.heap.size, 0, none⟩), nv 4 [a], nv 4 [0], .bool false, undef, nv 4 [a]], []⟩) (t := 47) (xs := rows 4 [0]) (ys := rows 4 [a]) rfl rfl N3 (len_rows rfl) (ex_storen (K := 4) (l := [0]) (m := [a]) flEl rfl rfl N3 rfl) ?_
  intro w7 N7 hst7 hoth7
  have A8 := hoth7 _ _ _ (Nat.ne_of_lt N1.lt) A4
  have HB9 := hst7 _ _ HB5 HB2.size
  refine seq_nil ?_
  exact wp_ret (bodyPost_ret (ret_cellnR (K := 4) Try.results29 rfl N7 flEl) rfl ⟨rfl, HB9⟩)

set_option maxRecDepth 20000 in
set_option maxHeartbeats 4000000 in
theorem each1_w (f : FuncId) (hf : ∀ (args : Array Value) (w : World), (callFunc f args).run Try.prog w = .ok (.enter f args) w) (m : Nat) (A B : Nat → Nat) (hG : ∀ i, i < m → ∀ w, Calls Try.prog f #[nv 4 [A i]] w (Is (nv 4 [B i]) w)) (a : Option Addr) (c : Nat) (hm : m ≤ 30) (w : World) (hN : Nums w a m A) :
    Calls Try.prog 26 #[.slice a m c, .func (.func f) #[] #[]] w (MadeS 47 w m m B) := by
  go_enter Try.func26, Try.ntmps26
  refine seq_lit ?_
  refine sq_val (a' := ⟨#[.slice a m c, .func (.func f) #[] #[], undef, undef, .slice none 0 0, undef, undef, undef, undef, undef, undef, undef, undef, undef, undef, undef, undef, undef, undef, undef, undef, undef, undef, undef, undef, undef], []⟩) (v := .slice none 0 0) rfl rfl (ex_assign _) ?_
  refine seq_nil ?_
  refine seq_lit ?_
  refine sq_val (a' := ⟨#[.slice a m c, .func (.func f) #[] #[], undef, undef, .slice none 0 0, undef, undef, undef, .slice a m c, undef, undef, undef, undef, undef, undef, undef, undef, undef, undef, undef, undef, undef, undef, undef, undef, undef], []⟩) (v := .slice a m c) rfl rfl (ex_move _) ?_
  refine sq_val (a' := ⟨#[.slice a m c, .func (.func f) #[] #[], undef, undef, .slice none 0 0, undef, undef, undef, .slice a m c, .int .i64 ((m : Nat) : Int), undef, undef, undef, undef, undef, undef, undef, undef, undef, undef, undef, undef, undef, undef, undef, undef], []⟩) (v := .int .i64 ((m : Nat) : Int)) rfl rfl (ex_lenL slFr rfl) ?_
  refine sq_newv (a' := ⟨#[.slice a m c, .func (.func f) #[] #[], undef, undef, .slice none 0 0, undef, undef, undef, .slice a m c, .int .i64 ((m : Nat) : Int), .slice (some ⟨w.heap.size, 0, none⟩) m m, undef, undef, undef, undef, undef, undef, undef, undef, undef, undef, undef, undef, undef, undef, undef], []⟩) (v := .slice (some ⟨w.heap.size, 0, none⟩) m m) (xs := rows 4 (tab (m) (fun _ => 0))) rfl rfl (ex_mk slEl rfl rfl (Nat.le_refl _) (by omega)) ?_
  intro w1 N1 hb1
  have HB2 := below_then (Below.refl w.heap.size w) hb1
  refine sq_val (a' := ⟨#[.slice a m c, .func (.func f) #[] #[], undef, undef, .slice none 0 0, .slice (some ⟨w.heap.size, 0, none⟩) m m, undef, undef, .slice a m c, .int .i64 ((m : Nat) : Int), .slice (some ⟨w.heap.size, 0, none⟩) m m, undef, undef, undef, undef, undef, undef, undef, undef, undef, undef, undef, undef, undef, undef, undef], []⟩) (v := .slice (some ⟨w.heap.size, 0, none⟩) m m) rfl rfl (ex_assign _) ?_
  refine seq_nil ?_
  refine wp_seq ?_
  refine seq_lit ?_
  refine sq_val (a' := ⟨#[.slice a m c, .func (.func f) #[] #[], undef, undef, .slice none 0 0, .slice (some ⟨w.heap.size, 0, none⟩) m m, undef, undef, .slice a m c, .int .i64 ((m : Nat) : Int), .slice (some ⟨w.heap.size, 0, none⟩) m m, .slice a m c, undef, undef, undef, undef, undef, undef, undef, undef, undef, undef, undef, undef, undef, undef], []⟩) (v := .slice a m c) rfl rfl (ex_move _) ?_
  refine sq_val (a' := ⟨#[.slice a m c, .func (.func f) #[] #[], undef, undef, .slice none 0 0, .slice (some ⟨w.heap.size, 0, none⟩) m m, undef, undef, .slice a m c, .int .i64 ((m : Nat) : Int), .slice (some ⟨w.heap.size, 0, none⟩) m m, .slice a m c, .int .i64 ((m : Nat) : Int), undef, undef, undef, undef, undef, undef, undef, undef, undef, undef, undef, undef, undef], []⟩) (v := .int .i64 ((m : Nat) : Int)) rfl rfl (ex_lenL slFr rfl) ?_
  refine sq_val (a' := ⟨#[.slice a m c, .func (.func f) #[] #[], undef, undef, .slice none 0 0, .slice (some ⟨w.heap.size, 0, none⟩) m m, undef, undef, .slice a m c, .int .i64 ((m : Nat) : Int), .slice (some ⟨w.heap.size, 0, none⟩) m m, .slice a m c, .int .i64 ((m : Nat) : Int), .int .i64 0, undef, undef, undef, undef, undef, undef, undef, undef, undef, undef, undef, undef], []⟩) (v := .int .i64 0) rfl rfl (ex_move _) ?_
  refine seq_nil ?_
  refine wp_block ?_
  have NI : Arr 47 w1 (w.heap.size) (rows 4 (tab m (fil B 0))) := by rw [fil_init]; exact N1
  refine wp_loop_ind (m) (fun q_ a_ v_ => ∃ j6 j7 j14 j15 j16 j17 j18 j19 j20 j21 j22 j23 j24 : Value, a_ = ⟨#[.slice a m c, .func (.func f) #[] #[], undef, undef, .slice none 0 0, .slice (some ⟨w.heap.size, 0, none⟩) m m, j6, j7, .slice a m c, .int .i64 ((m : Nat) : Int), .slice (some ⟨w.heap.size, 0, none⟩) m m, .slice a m c, .int .i64 ((m : Nat) : Int), .int .i64 ((q_ : Nat) : Int), j14, j15, j16, j17, j18, j19, j20, j21, j22, j23, j24, undef], []⟩ ∧ Arr 47 v_ (w.heap.size) (rows 4 (tab m (fil B q_))) ∧ Below w.heap.size w v_) ⟨_, _, _, _, _, _, _, _, _, _, _, _, _, rfl, NI, HB2⟩ ?_ ?_
  · intro k3 hk3
    rintro _ w3 ⟨i3_6, i3_7, i3_14, i3_15, i3_16, i3_17, i3_18, i3_19, i3_20, i3_21, i3_22, i3_23, i3_24, rfl, A3_0, HB3⟩ K3 hK3
    obtain ⟨gp, op, hap, hlp, hrp⟩ := hN k3 hk3
    refine seq_lit ?_
    refine sq_val (a' := ⟨#[.slice a m c, .func (.func f) #[] #[], undef, undef, .slice none 0 0, .slice (some ⟨w.heap.size, 0, none⟩) m m, i3_6, i3_7, .slice a m c, .int .i64 ((m : Nat) : Int), .slice (some ⟨w.heap.size, 0, none⟩) m m, .slice a m c, .int .i64 ((m : Nat) : Int), .int .i64 ((k3 : Nat) : Int), .bool true, i3_15, i3_16, i3_17, i3_18, i3_19, i3_20, i3_21, i3_22, i3_23, i3_24, undef], []⟩) (v := .bool true) rfl rfl (ex_lssN rfl rfl true (decide_eq_true hk3).symm) ?_
    refine seq_nil ?_
    refine wp_seq ?_
    refine wp_cond_true rfl ?_
    refine wp_skip ?_
    refine then_nR ?_
    refine wp_seq ?_
    refine wp_block ?_
    refine seq_lit ?_
    refine sq_val (a' := ⟨#[.slice a m c, .func (.func f) #[] #[], undef, undef, .slice none 0 0, .slice (some ⟨w.heap.size, 0, none⟩) m m, i3_6, i3_7, .slice a m c, .int .i64 ((m : Nat) : Int), .slice (some ⟨w.heap.size, 0, none⟩) m m, .slice a m c, .int .i64 ((m : Nat) : Int), .int .i64 ((k3 : Nat) : Int), .bool true, .int .i64 ((k3 : Nat) : Int), i3_16, i3_17, i3_18, i3_19, i3_20, i3_21, i3_22, i3_23, i3_24, undef], []⟩) (v := .int .i64 ((k3 : Nat) : Int)) rfl rfl (ex_move _) ?_
    refine sq_val (a' := ⟨#[.slice a m c, .func (.func f) #[] #[], undef, undef, .slice none 0 0, .slice (some ⟨w.heap.size, 0, none⟩) m m, i3_6, i3_7, .slice a m c, .int .i64 ((m : Nat) : Int), .slice (some ⟨w.heap.size, 0, none⟩) m m, .slice a m c, .int .i64 ((m : Nat) : Int), .int .i64 ((k3 : Nat) : Int), .bool true, .int .i64 ((k3 : Nat) : Int), .pointer (some ⟨gp, op + 4 * k3, none⟩), i3_17, i3_18, i3_19, i3_20, i3_21, i3_22, i3_23, i3_24, undef], []⟩) (v := .pointer (some ⟨gp, op + 4 * k3, none⟩)) rfl rfl (ex_idxP slFr rfl hap rfl hk3) ?_
    refine sq_val (a' := ⟨#[.slice a m c, .func (.func f) #[] #[], undef, undef, .slice none 0 0, .slice (some ⟨w.heap.size, 0, none⟩) m m, i3_6, i3_7, .slice a m c, .int .i64 ((m : Nat) : Int), .slice (some ⟨w.heap.size, 0, none⟩) m m, .slice a m c, .int .i64 ((m : Nat) : Int), .int .i64 ((k3 : Nat) : Int), .bool true, .int .i64 ((k3 : Nat) : Int), .pointer (some ⟨gp, op + 4 * k3, none⟩), nv 4 [(A k3)], i3_18, i3_19, i3_20, i3_21, i3_22, i3_23, i3_24, undef], []⟩) (v := nv 4 [(A k3)]) rfl rfl (ex_loadP flFr rfl (rangeAt_keep hlp HB3 hrp)) ?_
    refine sq_new (a' := ⟨#[.slice a m c, .func (.func f) #[] #[], undef, undef, .slice none 0 0, .slice (some ⟨w.heap.size, 0, none⟩) m m, i3_6, .pointer (some ⟨w3.heap.size, 0, none⟩), .slice a m c, .int .i64 ((m : Nat) : Int), .slice (some ⟨w.heap.size, 0, none⟩) m m, .slice a m c, .int .i64 ((m : Nat) : Int), .int .i64 ((k3 : Nat) : Int), .bool true, .int .i64 ((k3 : Nat) : Int), .pointer (some ⟨gp, op + 4 * k3, none⟩), nv 4 [(A k3)], i3_18, i3_19, i3_20, i3_21, i3_22, i3_23, i3_24, undef], []⟩) (xs := rows 4 [0]) rfl rfl (ex_alloc zFr) ?_
    intro w4 N4 hb4
    have A5 := A3_0.keep hb4
    have HB6 := below_then HB3 hb4
    refine sq_val (a' := ⟨#[.slice a m c, .func (.func f) #[] #[], undef, undef, .slice none 0 0, .slice (some ⟨w.heap.size, 0, none⟩) m m, .int .i64 ((k3 : Nat) : Int), .pointer (some ⟨w3.heap.size, 0, none⟩), .slice a m c, .int .i64 ((m : Nat) : Int), .slice (some ⟨w.heap.size, 0, none⟩) m m, .slice a m c, .int .i64 ((m : Nat) : Int), .int .i64 ((k3 : Nat) : Int), .bool true, .int .i64 ((k3 : Nat) : Int), .pointer (some ⟨gp, op + 4 * k3, none⟩), nv 4 [(A k3)], i3_18, i3_19, i3_20, i3_21, i3_22, i3_23, i3_24, undef], []⟩) (v := .int .i64 ((k3 : Nat) : Int)) rfl rfl (ex_assign _) ?_
    refine sq_store (a' := ⟨#[.slice a m c, .func (.func f) #[] #[], undef, undef, .slice none 0 0, .slice (some ⟨w.heap.size, 0, none⟩) m m, .int .i64 ((k3 : Nat) : Int), .pointer (some ⟨w3.heap.size, 0, none⟩), .slice a m c, .int .i64 ((m : Nat) : Int), .slice (some ⟨w.heap.size, 0, none⟩) m m, .slice a m c, .int .i64 ((m : Nat) : Int), .int .i64 ((k3 : Nat) : Int), .bool true, .int .i64 ((k3 : Nat) : Int), .pointer (some ⟨gp, op + 4 * k3, none⟩), nv 4 [(A k3)], i3_18, i3_19, i3_20, i3_21, i3_22, i3_23, i3_24, undef], []⟩) (t := 24) (xs := rows 4 [0]) (ys := rows 4 [(A k3)]) rfl rfl N4 (len_rows rfl) (ex_storen (K := 4) (l := [0]) (m := [(A k3)]) flFr rfl rfl N4 rfl) ?_
    intro w8 N8 hst8 hoth8
    have A9 := hoth8 _ _ _ (Nat.ne_of_lt A3_0.lt) A5
    have HB10 := hst8 _ _ HB6 HB3.size
    refine seq_nil ?_
    refine wp_region_lit ?_
    refine sq_val (a' := ⟨#[.slice a m c, .func (.func f) #[] #[], undef, undef, .slice none 0 0, .slice (some ⟨w.heap.size, 0, none⟩) m m, .int .i64 ((k3 : Nat) : Int), .pointer (some ⟨w3.heap.size, 0, none⟩), .slice a m c, .int .i64 ((m : Nat) : Int), .slice (some ⟨w.heap.size, 0, none⟩) m m, .slice a m c, .int .i64 ((m : Nat) : Int), .int .i64 ((k3 : Nat) : Int), .bool true, .int .i64 ((k3 : Nat) : Int), .pointer (some ⟨gp, op + 4 * k3, none⟩), nv 4 [(A k3)], .slice (some ⟨w.heap.size, 0, none⟩) m m, i3_19, i3_20, i3_21, i3_22, i3_23, i3_24, undef], []⟩) (v := .slice (some ⟨w.heap.size, 0, none⟩) m m) rfl rfl (ex_move _) ?_
    refine sq_val (a' := ⟨#[.slice a m c, .func (.func f) #[] #[], undef, undef, .slice none 0 0, .slice (some ⟨w.heap.size, 0, none⟩) m m, .int .i64 ((k3 : Nat) : Int), .pointer (some ⟨w3.heap.size, 0, none⟩), .slice a m c, .int .i64 ((m : Nat) : Int), .slice (some ⟨w.heap.size, 0, none⟩) m m, .slice a m c, .int .i64 ((m : Nat) : Int), .int .i64 ((k3 : Nat) : Int), .bool true, .int .i64 ((k3 : Nat) : Int), .pointer (some ⟨gp, op + 4 * k3, none⟩), nv 4 [(A k3)], .slice (some ⟨w.heap.size, 0, none⟩) m m, .int .i64 ((k3 : Nat) : Int), i3_20, i3_21, i3_22, i3_23, i3_24, undef], []⟩) (v := .int .i64 ((k3 : Nat) : Int)) rfl rfl (ex_move _) ?_
    refine sq_val (a' := ⟨#[.slice a m c, .func (.func f) #[] #[], undef, undef, .slice none 0 0, .slice (some ⟨w.heap.size, 0, none⟩) m m, .int .i64 ((k3 : Nat) : Int), .pointer (some ⟨w3.heap.size, 0, none⟩), .slice a m c, .int .i64 ((m : Nat) : Int), .slice (some ⟨w.heap.size, 0, none⟩) m m, .slice a m c, .int .i64 ((m : Nat) : Int), .int .i64 ((k3 : Nat) : Int), .bool true, .int .i64 ((k3 : Nat) : Int), .pointer (some ⟨gp, op + 4 * k3, none⟩), nv 4 [(A k3)], .slice (some ⟨w.heap.size, 0, none⟩) m m, .int .i64 ((k3 : Nat) : Int), .func (.func f) #[] #[], i3_21, i3_22, i3_23, i3_24, undef], []⟩) (v := .func (.func f) #[] #[]) rfl rfl (ex_move _) ?_
    refine sq_val (a' := ⟨#[.slice a m c, .func (.func f) #[] #[], undef, undef, .slice none 0 0, .slice (some ⟨w.heap.size, 0, none⟩) m m, .int .i64 ((k3 : Nat) : Int), .pointer (some ⟨w3.heap.size, 0, none⟩), .slice a m c, .int .i64 ((m : Nat) : Int), .slice (some ⟨w.heap.size, 0, none⟩) m m, .slice a m c, .int .i64 ((m : Nat) : Int), .int .i64 ((k3 : Nat) : Int), .bool true, .int .i64 ((k3 : Nat) : Int), .pointer (some ⟨gp, op + 4 * k3, none⟩), nv 4 [(A k3)], .slice (some ⟨w.heap.size, 0, none⟩) m m, .int .i64 ((k3 : Nat) : Int), .func (.func f) #[] #[], nv 4 [(A k3)], i3_22, i3_23, i3_24, undef], []⟩) (v := nv 4 [(A k3)]) rfl rfl (ex_loadn (K := 4) (k := 0) (j := 1) (l := [(A k3)]) flFr rfl N8 rfl _ rfl) ?_
    refine sq_call (a' := ⟨#[.slice a m c, .func (.func f) #[] #[], undef, undef, .slice none 0 0, .slice (some ⟨w.heap.size, 0, none⟩) m m, .int .i64 ((k3 : Nat) : Int), .pointer (some ⟨w3.heap.size, 0, none⟩), .slice a m c, .int .i64 ((m : Nat) : Int), .slice (some ⟨w.heap.size, 0, none⟩) m m, .slice a m c, .int .i64 ((m : Nat) : Int), .int .i64 ((k3 : Nat) : Int), .bool true, .int .i64 ((k3 : Nat) : Int), .pointer (some ⟨gp, op + 4 * k3, none⟩), nv 4 [(A k3)], .slice (some ⟨w.heap.size, 0, none⟩) m m, .int .i64 ((k3 : Nat) : Int), .func (.func f) #[] #[], nv 4 [(A k3)], nv 4 [(B k3)], i3_23, i3_24, undef], []⟩) (v := nv 4 [(B k3)]) rfl rfl (ex_call (vs := [nv 4 [(A k3)]]) rfl hf rfl) (hG k3 hk3 _) ?_
    intro w11 hb11
    have A12 := A9.keep hb11
    have A13 := N8.keep hb11
    have HB14 := below_then HB10 hb11
    refine sq_val (a' := ⟨#[.slice a m c, .func (.func f) #[] #[], undef, undef, .slice none 0 0, .slice (some ⟨w.heap.size, 0, none⟩) m m, .int .i64 ((k3 : Nat) : Int), .pointer (some ⟨w3.heap.size, 0, none⟩), .slice a m c, .int .i64 ((m : Nat) : Int), .slice (some ⟨w.heap.size, 0, none⟩) m m, .slice a m c, .int .i64 ((m : Nat) : Int), .int .i64 ((k3 : Nat) : Int), .bool true, .int .i64 ((k3 : Nat) : Int), .pointer (some ⟨gp, op + 4 * k3, none⟩), nv 4 [(A k3)], .slice (some ⟨w.heap.size, 0, none⟩) m m, .int .i64 ((k3 : Nat) : Int), .func (.func f) #[] #[], nv 4 [(A k3)], nv 4 [(B k3)], .pointer (some ⟨w.heap.size, 4 * k3, none⟩), i3_24, undef], []⟩) (v := .pointer (some ⟨w.heap.size, 4 * k3, none⟩)) rfl rfl (ex_idxO slEl rfl rfl hk3) ?_
    refine sq_storeO (a' := ⟨#[.slice a m c, .func (.func f) #[] #[], undef, undef, .slice none 0 0, .slice (some ⟨w.heap.size, 0, none⟩) m m, .int .i64 ((k3 : Nat) : Int), .pointer (some ⟨w3.heap.size, 0, none⟩), .slice a m c, .int .i64 ((m : Nat) : Int), .slice (some ⟨w.heap.size, 0, none⟩) m m, .slice a m c, .int .i64 ((m : Nat) : Int), .int .i64 ((k3 : Nat) : Int), .bool true, .int .i64 ((k3 : Nat) : Int), .pointer (some ⟨gp, op + 4 * k3, none⟩), nv 4 [(A k3)], .slice (some ⟨w.heap.size, 0, none⟩) m m, .int .i64 ((k3 : Nat) : Int), .func (.func f) #[] #[], nv 4 [(A k3)], nv 4 [(B k3)], .pointer (some ⟨w.heap.size, 4 * k3, none⟩), i3_24, undef], []⟩) (t := 47) (i := k3) (m := m) (A := fil B k3) (B := fil B (k3 + 1)) rfl rfl A12 hk3 (fil_at B k3) (fil_ne B k3) (ex_storeO flEl rfl rfl A12 hk3) ?_
    intro w15 N15 hst15 hoth15
    have A16 := hoth15 _ _ _ (Ne.symm (Nat.ne_of_lt A3_0.lt)) A13
    have HB17 := hst15 _ _ HB14 (Nat.le_refl _)
    refine wpList_nil ?_
    refine inblock_l ?_
    refine then_nR ?_
    refine wp_region_lit ?_
    refine sq_val (a' := ⟨#[.slice a m c, .func (.func f) #[] #[], undef, undef, .slice none 0 0, .slice (some ⟨w.heap.size, 0, none⟩) m m, .int .i64 ((k3 : Nat) : Int), .pointer (some ⟨w3.heap.size, 0, none⟩), .slice a m c, .int .i64 ((m : Nat) : Int), .slice (some ⟨w.heap.size, 0, none⟩) m m, .slice a m c, .int .i64 ((m : Nat) : Int), .int .i64 ((k3 : Nat) : Int), .bool true, .int .i64 ((k3 : Nat) : Int), .pointer (some ⟨gp, op + 4 * k3, none⟩), nv 4 [(A k3)], .slice (some ⟨w.heap.size, 0, none⟩) m m, .int .i64 ((k3 : Nat) : Int), .func (.func f) #[] #[], nv 4 [(A k3)], nv 4 [(B k3)], .pointer (some ⟨w.heap.size, 4 * k3, none⟩), .int .i64 ((k3 + 1 : Nat) : Int), undef], []⟩) (v := .int .i64 ((k3 + 1 : Nat) : Int)) rfl rfl (ex_addN (b := 1) rfl rfl (by omega) rfl) ?_
    refine sq_val (a' := ⟨#[.slice a m c, .func (.func f) #[] #[], undef, undef, .slice none 0 0, .slice (some ⟨w.heap.size, 0, none⟩) m m, .int .i64 ((k3 : Nat) : Int), .pointer (some ⟨w3.heap.size, 0, none⟩), .slice a m c, .int .i64 ((m : Nat) : Int), .slice (some ⟨w.heap.size, 0, none⟩) m m, .slice a m c, .int .i64 ((m : Nat) : Int), .int .i64 ((k3 + 1 : Nat) : Int), .bool true, .int .i64 ((k3 : Nat) : Int), .pointer (some ⟨gp, op + 4 * k3, none⟩), nv 4 [(A k3)], .slice (some ⟨w.heap.size, 0, none⟩) m m, .int .i64 ((k3 : Nat) : Int), .func (.func f) #[] #[], nv 4 [(A k3)], nv 4 [(B k3)], .pointer (some ⟨w.heap.size, 4 * k3, none⟩), .int .i64 ((k3 + 1 : Nat) : Int), undef], []⟩) (v := .int .i64 ((k3 + 1 : Nat) : Int)) rfl rfl (ex_move _) ?_
    refine wpList_nil ?_
    refine then_l ?_
    exact hK3.out _ _ ⟨_, _, _, _, _, _, _, _, _, _, _, _, _, rfl, N15, HB17⟩
  · rintro _ w18 ⟨i18_6, i18_7, i18_14, i18_15, i18_16, i18_17, i18_18, i18_19, i18_20, i18_21, i18_22, i18_23, i18_24, rfl, A18_0, HB18⟩ K18
    refine seq_lit ?_
    refine sq_val (a' := ⟨#[.slice a m c, .func (.func f) #[] #[], undef, undef, .slice none 0 0, .slice (some ⟨w.heap.size, 0, none⟩) m m, i18_6, i18_7, .slice a m c, .int .i64 ((m : Nat) : Int), .slice (some ⟨w.heap.size, 0, none⟩) m m, .slice a m c, .int .i64 ((m : Nat) : Int), .int .i64 ((m : Nat) : Int), .bool false, i18_15, i18_16, i18_17, i18_18, i18_19, i18_20, i18_21, i18_22, i18_23, i18_24, undef], []⟩) (v := .bool false) rfl rfl (ex_lssN rfl rfl false (decide_eq_false (Nat.lt_irrefl _)).symm) ?_
    refine seq_nil ?_
    refine wp_seq ?_
    refine wp_cond_false rfl ?_
    refine wp_exit ((then_x (then_x (exit_l ?_))))
    refine then_nR ?_
    refine seq_lit ?_
    refine sq_val (a' := ⟨#[.slice a m c, .func (.func f) #[] #[], undef, undef, .slice none 0 0, .slice (some ⟨w.heap.size, 0, none⟩) m m, i18_6, i18_7, .slice a m c, .int .i64 ((m : Nat) : Int), .slice (some ⟨w.heap.size, 0, none⟩) m m, .slice a m c, .int .i64 ((m : Nat) : Int), .int .i64 ((m : Nat) : Int), .bool false, i18_15, i18_16, i18_17, i18_18, i18_19, i18_20, i18_21, i18_22, i18_23, i18_24, .slice (some ⟨w.heap.size, 0, none⟩) m m], []⟩) (v := .slice (some ⟨w.heap.size, 0, none⟩) m m) rfl rfl (ex_move _) ?_
    refine sq_val (a' := ⟨#[.slice a m c, .func (.func f) #[] #[], undef, undef, .slice (some ⟨w.heap.size, 0, none⟩) m m, .slice (some ⟨w.heap.size, 0, none⟩) m m, i18_6, i18_7, .slice a m c, .int .i64 ((m : Nat) : Int), .slice (some ⟨w.heap.size, 0, none⟩) m m, .slice a m c, .int .i64 ((m : Nat) : Int), .int .i64 ((m : Nat) : Int), .bool false, i18_15, i18_16, i18_17, i18_18, i18_19, i18_20, i18_21, i18_22, i18_23, i18_24, .slice (some ⟨w.heap.size, 0, none⟩) m m], []⟩) (v := .slice (some ⟨w.heap.size, 0, none⟩) m m) rfl rfl (ex_assign _) ?_
    refine seq_nil ?_
    exact wp_ret (bodyPost_ret (ret_tmp Try.results26 rfl) rfl ⟨_, rfl, (Nat.le_refl _), (by rw [← fil_end]; exact A18_0), HB18⟩)

set_option maxRecDepth 20000 in
set_option maxHeartbeats 4000000 in
theorem each2_w (f : FuncId) (hf : ∀ (args : Array Value) (w : World), (callFunc f args).run Try.prog w = .ok (.enter f args) w) (m : Nat) (A B : Nat → Nat) (hG : ∀ i, i < m → ∀ w, Calls Try.prog f #[nv 4 [A i]] w (Is (nv 4 [B i]) w)) (a : Option Addr) (c : Nat) (hm : m ≤ 30) (w : World) (hN : Nums w a m A) :
    Calls Try.prog 28 #[.slice a m c, .func (.func f) #[] #[]] w (MadeS 47 w m m B) := by
  go_enter Try.func28, Try.ntmps28
  refine seq_lit ?_
  refine sq_val (a' := ⟨#[.slice a m c, .func (.func f) #[] #[], undef, undef, .slice none 0 0, undef, undef, undef, undef, undef, undef, undef, undef, undef, undef, undef, undef, undef, undef, undef, undef, undef, undef, undef, undef, undef], []⟩) (v := .slice none 0 0) rfl rfl (ex_assign _) ?_
  refine seq_nil ?_
  refine seq_lit ?_
  refine sq_val (a' := ⟨#[.slice a m c, .func (.func f) #[] #[], undef, undef, .slice none 0 0, undef, undef, undef, .slice a m c, undef, undef, undef, undef, undef, undef, undef, undef, undef, undef, undef, undef, undef, undef, undef, undef, undef], []⟩) (v := .slice a m c) rfl rfl (ex_move _) ?_
  refine sq_val (a' := ⟨#[.slice a m c, .func (.func f) #[] #[], undef, undef, .slice none 0 0, undef, undef, undef, .slice a m c, .int .i64 ((m : Nat) : Int), undef, undef, undef, undef, undef, undef, undef, undef, undef, undef, undef, undef, undef, undef, undef, undef], []⟩) (v := .int .i64 ((m : Nat) : Int)) rfl rfl (ex_lenL slEl rfl) ?_
  refine sq_newv (a' := ⟨#[.slice a m c, .func (.func f) #[] #[], undef, undef, .slice none 0 0, undef, undef, undef, .slice a m c, .int .i64 ((m : Nat) : Int), .slice (some ⟨w.heap.size, 0, none⟩) m m, undef, undef, undef, undef, undef, undef, undef, undef, undef, undef, undef, undef, undef, undef, undef], []⟩) (v := .slice (some ⟨w.heap.size, 0, none⟩) m m) (xs := rows 4 (tab (m) (fun _ => 0))) rfl rfl (ex_mk slEl rfl rfl (Nat.le_refl _) (by omega)) ?_
  intro w1 N1 hb1
  have HB2 := below_then (Below.refl w.heap.size w) hb1
  refine sq_val (a' := ⟨#[.slice a m c, .func (.func f) #[] #[], undef, undef, .slice none 0 0, .slice (some ⟨w.heap.size, 0, none⟩) m m, undef, undef, .slice a m c, .int .i64 ((m : Nat) : Int), .slice (some ⟨w.heap.size, 0, none⟩) m m, undef, undef, undef, undef, undef, undef, undef, undef, undef, undef, undef, undef, undef, undef, undef], []⟩) (v := .slice (some ⟨w.heap.size, 0, none⟩) m m) rfl rfl (ex_assign _) ?_
  refine seq_nil ?_
  refine wp_seq ?_
  refine seq_lit ?_
  refine sq_val (a' := ⟨#[.slice a m c, .func (.func f) #[] #[], undef, undef, .slice none 0 0, .slice (some ⟨w.heap.size, 0, none⟩) m m, undef, undef, .slice a m c, .int .i64 ((m : Nat) : Int), .slice (some ⟨w.heap.size, 0, none⟩) m m, .slice a m c, undef, undef, undef, undef, undef, undef, undef, undef, undef, undef, undef, undef, undef, undef], []⟩) (v := .slice a m c) rfl rfl (ex_move _) ?_
  refine sq_val (a' := ⟨#[.slice a m c, .func (.func f) #[] #[], undef, undef, .slice none 0 0, .slice (some ⟨w.heap.size, 0, none⟩) m m, undef, undef, .slice a m c, .int .i64 ((m : Nat) : Int), .slice (some ⟨w.heap.size, 0, none⟩) m m, .slice a m c, .int .i64 ((m : Nat) : Int), undef, undef, undef, undef, undef, undef, undef, undef, undef, undef, undef, undef, undef], []⟩) (v := .int .i64 ((m : Nat) : Int)) rfl rfl (ex_lenL slEl rfl) ?_
  refine sq_val (a' := ⟨#[.slice a m c, .func (.func f) #[] #[], undef, undef, .slice none 0 0, .slice (some ⟨w.heap.size, 0, none⟩) m m, undef, undef, .slice a m c, .int .i64 ((m : Nat) : Int), .slice (some ⟨w.heap.size, 0, none⟩) m m, .slice a m c, .int .i64 ((m : Nat) : Int), .int .i64 0, undef, undef, undef, undef, undef, undef, undef, undef, undef, undef, undef, undef], []⟩) (v := .int .i64 0) rfl rfl (ex_move _) ?_
  refine seq_nil ?_
  refine wp_block ?_
  have NI : Arr 47 w1 (w.heap.size) (rows 4 (tab m (fil B 0))) := by rw [fil_init]; exact N1
  refine wp_loop_ind (m) (fun q_ a_ v_ => ∃ j6 j7 j14 j15 j16 j17 j18 j19 j20 j21 j22 j23 j24 : Value, a_ = ⟨#[.slice a m c, .func (.func f) #[] #[], undef, undef, .slice none 0 0, .slice (some ⟨w.heap.size, 0, none⟩) m m, j6, j7, .slice a m c, .int .i64 ((m : Nat) : Int), .slice (some ⟨w.heap.size, 0, none⟩) m m, .slice a m c, .int .i64 ((m : Nat) : Int), .int .i64 ((q_ : Nat) : Int), j14, j15, j16, j17, j18, j19, j20, j21, j22, j23, j24, undef], []⟩ ∧ Arr 47 v_ (w.heap.size) (rows 4 (tab m (fil B q_))) ∧ Below w.heap.size w v_) ⟨_, _, _, _, _, _, _, _, _, _, _, _, _, rfl, NI, HB2⟩ ?_ ?_
  · intro k3 hk3
    rintro _ w3 ⟨i3_6, i3_7, i3_14, i3_15, i3_16, i3_17, i3_18, i3_19, i3_20, i3_21, i3_22, i3_23, i3_24, rfl, A3_0, HB3⟩ K3 hK3
    obtain ⟨gp, op, hap, hlp, hrp⟩ := hN k3 hk3
    refine seq_lit ?_
    refine sq_val (a' := ⟨#[.slice a m c, .func (.func f) #[] #[], undef, undef, .slice none 0 0, .slice (some ⟨w.heap.size, 0, none⟩) m m, i3_6, i3_7, .slice a m c, .int .i64 ((m : Nat) : Int), .slice (some ⟨w.heap.size, 0, none⟩) m m, .slice a m c, .int .i64 ((m : Nat) : Int), .int .i64 ((k3 : Nat) : Int), .bool true, i3_15, i3_16, i3_17, i3_18, i3_19, i3_20, i3_21, i3_22, i3_23, i3_24, undef], []⟩) (v := .bool true) rfl rfl (ex_lssN rfl rfl true (decide_eq_true hk3).symm) ?_
    refine seq_nil ?_
    refine wp_seq ?_
    refine wp_cond_true rfl ?_
    refine wp_skip ?_
    refine then_nR ?_
    refine wp_seq ?_
    refine wp_block ?_
    refine seq_lit ?_
    refine sq_val (a' := ⟨#[.slice a m c, .func (.func f) #[] #[], undef, undef, .slice none 0 0, .slice (some ⟨w.heap.size, 0, none⟩) m m, i3_6, i3_7, .slice a m c, .int .i64 ((m : Nat) : Int), .slice (some ⟨w.heap.size, 0, none⟩) m m, .slice a m c, .int .i64 ((m : Nat) : Int), .int .i64 ((k3 : Nat) : Int), .bool true, .int .i64 ((k3 : Nat) : Int), i3_16, i3_17, i3_18, i3_19, i3_20, i3_21, i3_22, i3_23, i3_24, undef], []⟩) (v := .int .i64 ((k3 : Nat) : Int)) rfl rfl (ex_move _) ?_
    refine sq_val (a' := ⟨#[.slice a m c, .func (.func f) #[] #[], undef, undef, .slice none 0 0, .slice (some ⟨w.heap.size, 0, none⟩) m m, i3_6, i3_7, .slice a m c, .int .i64 ((m : Nat) : Int), .slice (some ⟨w.heap.size, 0, none⟩) m m, .slice a m c, .int .i64 ((m : Nat) : Int), .int .i64 ((k3 : Nat) : Int), .bool true, .int .i64 ((k3 : Nat) : Int), .pointer (some ⟨gp, op + 4 * k3, none⟩), i3_17, i3_18, i3_19, i3_20, i3_21, i3_22, i3_23, i3_24, undef], []⟩) (v := .pointer (some ⟨gp, op + 4 * k3, none⟩)) rfl rfl (ex_idxP slEl rfl hap rfl hk3) ?_
    refine sq_val (a' := ⟨#[.slice a m c, .func (.func f) #[] #[], undef, undef, .slice none 0 0, .slice (some ⟨w.heap.size, 0, none⟩) m m, i3_6, i3_7, .slice a m c, .int .i64 ((m : Nat) : Int), .slice (some ⟨w.heap.size, 0, none⟩) m m, .slice a m c, .int .i64 ((m : Nat) : Int), .int .i64 ((k3 : Nat) : Int), .bool true, .int .i64 ((k3 : Nat) : Int), .pointer (some ⟨gp, op + 4 * k3, none⟩), nv 4 [(A k3)], i3_18, i3_19, i3_20, i3_21, i3_22, i3_23, i3_24, undef], []⟩) (v := nv 4 [(A k3)]) rfl rfl (ex_loadP flEl rfl (rangeAt_keep hlp HB3 hrp)) ?_
    refine sq_new (a' := ⟨#[.slice a m c, .func (.func f) #[] #[], undef, undef, .slice none 0 0, .slice (some ⟨w.heap.size, 0, none⟩) m m, i3_6, .pointer (some ⟨w3.heap.size, 0, none⟩), .slice a m c, .int .i64 ((m : Nat) : Int), .slice (some ⟨w.heap.size, 0, none⟩) m m, .slice a m c, .int .i64 ((m : Nat) : Int), .int .i64 ((k3 : Nat) : Int), .bool true, .int .i64 ((k3 : Nat) : Int), .pointer (some ⟨gp, op + 4 * k3, none⟩), nv 4 [(A k3)], i3_18, i3_19, i3_20, i3_21, i3_22, i3_23, i3_24, undef], []⟩) (xs := rows 4 [0]) rfl rfl (ex_alloc zEl) ?_
    intro w4 N4 hb4
    have A5 := A3_0.keep hb4
    have HB6 := below_then HB3 hb4
    refine sq_val (a' := ⟨#[.slice a m c, .func (.func f) #[] #[], undef, undef, .slice none 0 0, .slice (some ⟨w.heap.size, 0, none⟩) m m, .int .i64 ((k3 : Nat) : Int), .pointer (some ⟨w3.heap.size, 0, none⟩), .slice a m c, .int .i64 ((m : Nat) : Int), .slice (some ⟨w.heap.size, 0, none⟩) m m, .slice a m c, .int .i64 ((m : Nat) : Int), .int .i64 ((k3 : Nat) : Int), .bool true, .int .i64 ((k3 : Nat) : Int), .pointer (some ⟨gp, op + 4 * k3, none⟩), nv 4 [(A k3)], i3_18, i3_19, i3_20, i3_21, i3_22, i3_23, i3_24, undef], []⟩) (v := .int .i64 ((k3 : Nat) : Int)) rfl rfl (ex_assign _) ?_
    refine sq_store (a' := ⟨#[.slice a m c, .func (.func f) #[] #[], undef, undef, .slice none 0 0, .slice (some ⟨w.heap.size, 0, none⟩) m m, .int .i64 ((k3 : Nat) : Int), .pointer (some ⟨w3.heap.size, 0, none⟩), .slice a m c, .int .i64 ((m : Nat) : Int), .slice (some ⟨w.heap.size, 0, none⟩) m m, .slice a m c, .int .i64 ((m : Nat) : Int), .int .i64 ((k3 : Nat) : Int), .bool true, .int .i64 ((k3 : Nat) : Int), .pointer (some ⟨gp, op + 4 * k3, none⟩), nv 4 [(A k3)], i3_18, i3_19, i3_20, i3_21, i3_22, i3_23, i3_24, undef], []⟩) (t := 47) (xs := rows 4 [0]) (ys := rows 4 [(A k3)]) rfl rfl N4 (len_rows rfl) (ex_storen (K := 4) (l := [0]) (m := [(A k3)]) flEl rfl rfl N4 rfl) ?_
    intro w8 N8 hst8 hoth8
    have A9 := hoth8 _ _ _ (Nat.ne_of_lt A3_0.lt) A5
    have HB10 := hst8 _ _ HB6 HB3.size
    refine seq_nil ?_
    refine wp_region_lit ?_
    refine sq_val (a' := ⟨#[.slice a m c, .func (.func f) #[] #[], undef, undef, .slice none 0 0, .slice (some ⟨w.heap.size, 0, none⟩) m m, .int .i64 ((k3 : Nat) : Int), .pointer (some ⟨w3.heap.size, 0, none⟩), .slice a m c, .int .i64 ((m : Nat) : Int), .slice (some ⟨w.heap.size, 0, none⟩) m m, .slice a m c, .int .i64 ((m : Nat) : Int), .int .i64 ((k3 : Nat) : Int), .bool true, .int .i64 ((k3 : Nat) : Int), .pointer (some ⟨gp, op + 4 * k3, none⟩), nv 4 [(A k3)], .slice (some ⟨w.heap.size, 0, none⟩) m m, i3_19, i3_20, i3_21, i3_22, i3_23, i3_24, undef], []⟩) (v := .slice (some ⟨w.heap.size, 0, none⟩) m m) rfl rfl (ex_move _) ?_
    refine sq_val (a' := ⟨#[.slice a m c, .func (.func f) #[] #[], undef, undef, .slice none 0 0, .slice (some ⟨w.heap.size, 0, none⟩) m m, .int .i64 ((k3 : Nat) : Int), .pointer (some ⟨w3.heap.size, 0, none⟩), .slice a m c, .int .i64 ((m : Nat) : Int), .slice (some ⟨w.heap.size, 0, none⟩) m m, .slice a m c, .int .i64 ((m : Nat) : Int), .int .i64 ((k3 : Nat) : Int), .bool true, .int .i64 ((k3 : Nat) : Int), .pointer (some ⟨gp, op + 4 * k3, none⟩), nv 4 [(A k3)], .slice (some ⟨w.heap.size, 0, none⟩) m m, .int .i64 ((k3 : Nat) : Int), i3_20, i3_21, i3_22, i3_23, i3_24, undef], []⟩) (v := .int .i64 ((k3 : Nat) : Int)) rfl rfl (ex_move _) ?_
    refine sq_val (a' := ⟨#[.slice a m c, .func (.func f) #[] #[], undef, undef, .slice none 0 0, .slice (some ⟨w.heap.size, 0, none⟩) m m, .int .i64 ((k3 : Nat) : Int), .pointer (some ⟨w3.heap.size, 0, none⟩), .slice a m c, .int .i64 ((m : Nat) : Int), .slice (some ⟨w.heap.size, 0, none⟩) m m, .slice a m c, .int .i64 ((m : Nat) : Int), .int .i64 ((k3 : Nat) : Int), .bool true, .int .i64 ((k3 : Nat) : Int), .pointer (some ⟨gp, op + 4 * k3, none⟩), nv 4 [(A k3)], .slice (some ⟨w.heap.size, 0, none⟩) m m, .int .i64 ((k3 : Nat) : Int), .func (.func f) #[] #[], i3_21, i3_22, i3_23, i3_24, undef], []⟩) (v := .func (.func f) #[] #[]) rfl rfl (ex_move _) ?_
    refine sq_val (a' := ⟨#[.slice a m c, .func (.func f) #[] #[], undef, undef, .slice none 0 0, .slice (some ⟨w.heap.size, 0, none⟩) m m, .int .i64 ((k3 : Nat) : Int), .pointer (some ⟨w3.heap.size, 0, none⟩), .slice a m c, .int .i64 ((m : Nat) : Int), .slice (some ⟨w.heap.size, 0, none⟩) m m, .slice a m c, .int .i64 ((m : Nat) : Int), .int .i64 ((k3 : Nat) : Int), .bool true, .int .i64 ((k3 : Nat) : Int), .pointer (some ⟨gp, op + 4 * k3, none⟩), nv 4 [(A k3)], .slice (some ⟨w.heap.size, 0, none⟩) m m, .int .i64 ((k3 : Nat) : Int), .func (.func f) #[] #[], nv 4 [(A k3)], i3_22, i3_23, i3_24, undef], []⟩) (v := nv 4 [(A k3)]) rfl rfl (ex_loadn (K := 4) (k := 0) (j := 1) (l := [(A k3)]) flEl rfl N8 rfl _ rfl) ?_
    refine sq_call (a' := ⟨#[.slice a m c, .func (.func f) #[] #[], undef, undef, .slice none 0 0, .slice (some ⟨w.heap.size, 0, none⟩) m m, .int .i64 ((k3 : Nat) : Int), .pointer (some ⟨w3.heap.size, 0, none⟩), .slice a m c, .int .i64 ((m : Nat) : Int), .slice (some ⟨w.heap.size, 0, none⟩) m m, .slice a m c, .int .i64 ((m : Nat) : Int), .int .i64 ((k3 : Nat) : Int), .bool true, .int .i64 ((k3 : Nat) : Int), .pointer (some ⟨gp, op + 4 * k3, none⟩), nv 4 [(A k3)], .slice (some ⟨w.heap.size, 0, none⟩) m m, .int .i64 ((k3 : Nat) : Int), .func (.func f) #[] #[], nv 4 [(A k3)], nv 4 [(B k3)], i3_23, i3_24, undef], []⟩) (v := nv 4 [(B k3)]) rfl rfl (ex_call (vs := [nv 4 [(A k3)]]) rfl hf rfl) (hG k3 hk3 _) ?_
    intro w11 hb11
    have A12 := A9.keep hb11
    have A13 := N8.keep hb11
    have HB14 := below_then HB10 hb11
    refine sq_val (a' := ⟨#[.slice a m c, .func (.func f) #[] #[], undef, undef, .slice none 0 0, .slice (some ⟨w.heap.size, 0, none⟩) m m, .int .i64 ((k3 : Nat) : Int), .pointer (some ⟨w3.heap.size, 0, none⟩), .slice a m c, .int .i64 ((m : Nat) : Int), .slice (some ⟨w.heap.size, 0, none⟩) m m, .slice a m c, .int .i64 ((m : Nat) : Int), .int .i64 ((k3 : Nat) : Int), .bool true, .int .i64 ((k3 : Nat) : Int), .pointer (some ⟨gp, op + 4 * k3, none⟩), nv 4 [(A k3)], .slice (some ⟨w.heap.size, 0, none⟩) m m, .int .i64 ((k3 : Nat) : Int), .func (.func f) #[] #[], nv 4 [(A k3)], nv 4 [(B k3)], .pointer (some ⟨w.heap.size, 4 * k3, none⟩), i3_24, undef], []⟩) (v := .pointer (some ⟨w.heap.size, 4 * k3, none⟩)) rfl rfl (ex_idxO slEl rfl rfl hk3) ?_
    refine sq_storeO (a' := ⟨#[.slice a m c, .func (.func f) #[] #[], undef, undef, .slice none 0 0, .slice (some ⟨w.heap.size, 0, none⟩) m m, .int .i64 ((k3 : Nat) : Int), .pointer (some ⟨w3.heap.size, 0, none⟩), .slice a m c, .int .i64 ((m : Nat) : Int), .slice (some ⟨w.heap.size, 0, none⟩) m m, .slice a m c, .int .i64 ((m : Nat) : Int), .int .i64 ((k3 : Nat) : Int), .bool true, .int .i64 ((k3 : Nat) : Int), .pointer (some ⟨gp, op + 4 * k3, none⟩), nv 4 [(A k3)], .slice (some ⟨w.heap.size, 0, none⟩) m m, .int .i64 ((k3 : Nat) : Int), .func (.func f) #[] #[], nv 4 [(A k3)], nv 4 [(B k3)], .pointer (some ⟨w.heap.size, 4 * k3, none⟩), i3_24, undef], []⟩) (t := 47) (i := k3) (m := m) (A := fil B k3) (B := fil B (k3 + 1)) rfl rfl A12 hk3 (fil_at B k3) (fil_ne B k3) (ex_storeO flEl rfl rfl A12 hk3) ?_
    intro w15 N15 hst15 hoth15
    have A16 := hoth15 _ _ _ (Ne.symm (Nat.ne_of_lt A3_0.lt)) A13
    have HB17 := hst15 _ _ HB14 (Nat.le_refl _)
    refine wpList_nil ?_
    refine inblock_l ?_
    refine then_nR ?_
    refine wp_region_lit ?_
    refine sq_val (a' := ⟨#[.slice a m c, .func (.func f) #[] #[], undef, undef, .slice none 0 0, .slice (some ⟨w.heap.size, 0, none⟩) m m, .int .i64 ((k3 : Nat) : Int), .pointer (some ⟨w3.heap.size, 0, none⟩), .slice a m c, .int .i64 ((m : Nat) : Int), .slice (some ⟨w.heap.size, 0, none⟩) m m, .slice a m c, .int .i64 ((m : Nat) : Int), .int .i64 ((k3 : Nat) : Int), .bool true, .int .i64 ((k3 : Nat) : Int), .pointer (some ⟨gp, op + 4 * k3, none⟩), nv 4 [(A k3)], .slice (some ⟨w.heap.size, 0, none⟩) m m, .int .i64 ((k3 : Nat) : Int), .func (.func f) #[] #[], nv 4 [(A k3)], nv 4 [(B k3)], .pointer (some ⟨w.heap.size, 4 * k3, none⟩), .int .i64 ((k3 + 1 : Nat) : Int), undef], []⟩) (v := .int .i64 ((k3 + 1 : Nat) : Int)) rfl rfl (ex_addN (b := 1) rfl rfl (by omega) rfl) ?_
    refine sq_val (a' := ⟨#[.slice a m c, .func (.func f) #[] #[], undef, undef, .slice none 0 0, .slice (some ⟨w.heap.size, 0, none⟩) m m, .int .i64 ((k3 : Nat) : Int), .pointer (some ⟨w3.heap.size, 0, none⟩), .slice a m c, .int .i64 ((m : Nat) : Int), .slice (some ⟨w.heap.size, 0, none⟩) m m, .slice a m c, .int .i64 ((m : Nat) : Int), .int .i64 ((k3 + 1 : Nat) : Int), .bool true, .int .i64 ((k3 : Nat) : Int), .pointer (some ⟨gp, op + 4 * k3, none⟩), nv 4 [(A k3)], .slice (some ⟨w.heap.size, 0, none⟩) m m, .int .i64 ((k3 : Nat) : Int), .func (.func f) #[] #[], nv 4 [(A k3)], nv 4 [(B k3)], .pointer (some ⟨w.heap.size, 4 * k3, none⟩), .int .i64 ((k3 + 1 : Nat) : Int), undef], []⟩) (v := .int .i64 ((k3 + 1 : Nat) : Int)) rfl rfl (ex_move _) ?_
    refine wpList_nil ?_
    refine then_l ?_
    exact hK3.out _ _ ⟨_, _, _, _, _, _, _, _, _, _, _, _, _, rfl, N15, HB17⟩
  · rintro _ w18 ⟨i18_6, i18_7, i18_14, i18_15, i18_16, i18_17, i18_18, i18_19, i18_20, i18_21, i18_22, i18_23, i18_24, rfl, A18_0, HB18⟩ K18
    refine seq_lit ?_
    refine sq_val (a' := ⟨#[.slice a m c, .func (.func f) #[] #[], undef, undef, .slice none 0 0, .slice (some ⟨w.heap.size, 0, none⟩) m m, i18_6, i18_7, .slice a m c, .int .i64 ((m : Nat) : Int), .slice (some ⟨w.heap.size, 0, none⟩) m m, .slice a m c, .int .i64 ((m : Nat) : Int), .int .i64 ((m : Nat) : Int), .bool false, i18_15, i18_16, i18_17, i18_18, i18_19, i18_20, i18_21, i18_22, i18_23, i18_24, undef], []⟩) (v := .bool false) rfl rfl (ex_lssN rfl rfl false (decide_eq_false (Nat.lt_irrefl _)).symm) ?_
    refine seq_nil ?_
    refine wp_seq ?_
    refine wp_cond_false rfl ?_
    refine wp_exit ((then_x (then_x (exit_l ?_))))
    refine then_nR ?_
    refine seq_lit ?_
    refine sq_val (a' := ⟨#[.slice a m c, .func (.func f) #[] #[], undef, undef, .slice none 0 0, .slice (some ⟨w.heap.size, 0, none⟩) m m, i18_6, i18_7, .slice a m c, .int .i64 ((m : Nat) : Int), .slice (some ⟨w.heap.size, 0, none⟩) m m, .slice a m c, .int .i64 ((m : Nat) : Int), .int .i64 ((m : Nat) : Int), .bool false, i18_15, i18_16, i18_17, i18_18, i18_19, i18_20, i18_21, i18_22, i18_23, i18_24, .slice (some ⟨w.heap.size, 0, none⟩) m m], []⟩) (v := .slice (some ⟨w.heap.size, 0, none⟩) m m) rfl rfl (ex_move _) ?_
    refine sq_val (a' := ⟨#[.slice a m c, .func (.func f) #[] #[], undef, undef, .slice (some ⟨w.heap.size, 0, none⟩) m m, .slice (some ⟨w.heap.size, 0, none⟩) m m, i18_6, i18_7, .slice a m c, .int .i64 ((m : Nat) : Int), .slice (some ⟨w.heap.size, 0, none⟩) m m, .slice a m c, .int .i64 ((m : Nat) : Int), .int .i64 ((m : Nat) : Int), .bool false, i18_15, i18_16, i18_17, i18_18, i18_19, i18_20, i18_21, i18_22, i18_23, i18_24, .slice (some ⟨w.heap.size, 0, none⟩) m m], []⟩) (v := .slice (some ⟨w.heap.size, 0, none⟩) m m) rfl rfl (ex_assign _) ?_
    refine seq_nil ?_
    exact wp_ret (bodyPost_ret (ret_tmp Try.results28 rfl) rfl ⟨_, rfl, (Nat.le_refl _), (by rw [← fil_end]; exact A18_0), HB18⟩)

set_option maxRecDepth 20000 in
set_option maxHeartbeats 4000000 in
theorem running_w (f : FuncId) (hf : ∀ (args : Array Value) (w : World), (callFunc f args).run Try.prog w = .ok (.enter f args) w) (m s0 : Nat) (A P : Nat → Nat) (hP0 : P 0 = s0) (hJ : ∀ i, i < m → ∀ w, Calls Try.prog f #[nv 4 [P i], nv 4 [A i]] w (Is (nv 4 [P (i + 1)]) w)) (a : Option Addr) (c : Nat) (hm : m ≤ 30) (w : World) (hN : Nums w a m A) :
    Calls Try.prog 30 #[nv 4 [s0], .slice a m c, .func (.func f) #[] #[]] w (MadeS 47 w (m + 1) (m + 1) P) := by
  go_enter Try.func30, Try.ntmps30
  refine seq_lit ?_
  refine sq_new (a' := ⟨List.toArray ((nv 4 [s0]) :: (.slice a m c) :: (.func (.func f) #[] #[]) :: (.pointer (some ⟨w.heap.size, 0, none⟩)) :: undef :: undef :: undef :: undef :: undef :: undef :: undef :: undef :: undef :: undef :: undef :: undef :: undef :: undef :: undef :: undef :: undef :: undef :: undef :: undef :: undef :: undef :: undef :: undef :: undef :: undef :: undef :: undef :: undef :: undef :: undef :: undef :: undef :: []), []⟩) (xs := rows 4 [s0]) rfl rfl (ex_boxn (K := 4) (l := [s0]) rfl) ?_
  intro w1 N1 hb1
  have HB2 := below_then (Below.refl w.heap.size w) hb1
  refine sq_val (a' := ⟨List.toArray ((nv 4 [s0]) :: (.slice a m c) :: (.func (.func f) #[] #[]) :: (.pointer (some ⟨w.heap.size, 0, none⟩)) :: undef :: undef :: (.slice none 0 0) :: undef :: undef :: undef :: undef :: undef :: undef :: undef :: undef :: undef :: undef :: undef :: undef :: undef :: undef :: undef :: undef :: undef :: undef :: undef :: undef :: undef :: undef :: undef :: undef :: undef :: undef :: undef :: undef :: undef :: undef :: []), []⟩) (v := .slice none 0 0) rfl rfl (ex_assign _) ?_
  refine seq_nil ?_
  refine seq_lit ?_
  refine sq_val (a' := ⟨List.toArray ((nv 4 [s0]) :: (.slice a m c) :: (.func (.func f) #[] #[]) :: (.pointer (some ⟨w.heap.size, 0, none⟩)) :: undef :: undef :: (.slice none 0 0) :: undef :: undef :: undef :: (.slice a m c) :: undef :: undef :: undef :: undef :: undef :: undef :: undef :: undef :: undef :: undef :: undef :: undef :: undef :: undef :: undef :: undef :: undef :: undef :: undef :: undef :: undef :: undef :: undef :: undef :: undef :: undef :: []), []⟩) (v := .slice a m c) rfl rfl (ex_move _) ?_
  refine sq_val (a' := ⟨List.toArray ((nv 4 [s0]) :: (.slice a m c) :: (.func (.func f) #[] #[]) :: (.pointer (some ⟨w.heap.size, 0, none⟩)) :: undef :: undef :: (.slice none 0 0) :: undef :: undef :: undef :: (.slice a m c) :: (.int .i64 ((m : Nat) : Int)) :: undef :: undef :: undef :: undef :: undef :: undef :: undef :: undef :: undef :: undef :: undef :: undef :: undef :: undef :: undef :: undef :: undef :: undef :: undef :: undef :: undef :: undef :: undef :: undef :: undef :: []), []⟩) (v := .int .i64 ((m : Nat) : Int)) rfl rfl (ex_lenL slEl rfl) ?_
  refine sq_val (a' := ⟨List.toArray ((nv 4 [s0]) :: (.slice a m c) :: (.func (.func f) #[] #[]) :: (.pointer (some ⟨w.heap.size, 0, none⟩)) :: undef :: undef :: (.slice none 0 0) :: undef :: undef :: undef :: (.slice a m c) :: (.int .i64 ((m : Nat) : Int)) :: (.int .i64 ((m + 1 : Nat) : Int)) :: undef :: undef :: undef :: undef :: undef :: undef :: undef :: undef :: undef :: undef :: undef :: undef :: undef :: undef :: undef :: undef :: undef :: undef :: undef :: undef :: undef :: undef :: undef :: undef :: []), []⟩) (v := .int .i64 ((m + 1 : Nat) : Int)) rfl rfl (ex_addN (b := 1) rfl rfl (by omega) rfl) ?_
  refine sq_newv (a' := ⟨List.toArray ((nv 4 [s0]) :: (.slice a m c) :: (.func (.func f) #[] #[]) :: (.pointer (some ⟨w.heap.size, 0, none⟩)) :: undef :: undef :: (.slice none 0 0) :: undef :: undef :: undef :: (.slice a m c) :: (.int .i64 ((m : Nat) : Int)) :: (.int .i64 ((m + 1 : Nat) : Int)) :: (.slice (some ⟨w1.heap.size, 0, none⟩) 0 (m + 1)) :: undef :: undef :: undef :: undef :: undef :: undef :: undef :: undef :: undef :: undef :: undef :: undef :: undef :: undef :: undef :: undef :: undef :: undef :: undef :: undef :: undef :: undef :: undef :: []), []⟩) (v := .slice (some ⟨w1.heap.size, 0, none⟩) 0 (m + 1)) (xs := rows 4 (tab ((m + 1)) (fun _ => 0))) rfl rfl (ex_mk slEl rfl rfl (Nat.zero_le _) (by omega)) ?_
  intro w3 N3 hb3
  have A4 := N1.keep hb3
  have HB5 := below_then HB2 hb3
  refine sq_val (a' := ⟨List.toArray ((nv 4 [s0]) :: (.slice a m c) :: (.func (.func f) #[] #[]) :: (.pointer (some ⟨w.heap.size, 0, none⟩)) :: undef :: undef :: (.slice none 0 0) :: (.slice (some ⟨w1.heap.size, 0, none⟩) 0 (m + 1)) :: undef :: undef :: (.slice a m c) :: (.int .i64 ((m : Nat) : Int)) :: (.int .i64 ((m + 1 : Nat) : Int)) :: (.slice (some ⟨w1.heap.size, 0, none⟩) 0 (m + 1)) :: undef :: undef :: undef :: undef :: undef :: undef :: undef :: undef :: undef :: undef :: undef :: undef :: undef :: undef :: undef :: undef :: undef :: undef :: undef :: undef :: undef :: undef :: undef :: []), []⟩) (v := .slice (some ⟨w1.heap.size, 0, none⟩) 0 (m + 1)) rfl rfl (ex_assign _) ?_
  refine seq_nil ?_
  refine seq_lit ?_
  refine sq_val (a' := ⟨List.toArray ((nv 4 [s0]) :: (.slice a m c) :: (.func (.func f) #[] #[]) :: (.pointer (some ⟨w.heap.size, 0, none⟩)) :: undef :: undef :: (.slice none 0 0) :: (.slice (some ⟨w1.heap.size, 0, none⟩) 0 (m + 1)) :: undef :: undef :: (.slice a m c) :: (.int .i64 ((m : Nat) : Int)) :: (.int .i64 ((m + 1 : Nat) : Int)) :: (.slice (some ⟨w1.heap.size, 0, none⟩) 0 (m + 1)) :: (.slice (some ⟨w1.heap.size, 0, none⟩) 0 (m + 1)) :: undef :: undef :: undef :: undef :: undef :: undef :: undef :: undef :: undef :: undef :: undef :: undef :: undef :: undef :: undef :: undef :: undef :: undef :: undef :: undef :: undef :: undef :: []), []⟩) (v := .slice (some ⟨w1.heap.size, 0, none⟩) 0 (m + 1)) rfl rfl (ex_move _) ?_
  refine sq_val (a' := ⟨List.toArray ((nv 4 [s0]) :: (.slice a m c) :: (.func (.func f) #[] #[]) :: (.pointer (some ⟨w.heap.size, 0, none⟩)) :: undef :: undef :: (.slice none 0 0) :: (.slice (some ⟨w1.heap.size, 0, none⟩) 0 (m + 1)) :: undef :: undef :: (.slice a m c) :: (.int .i64 ((m : Nat) : Int)) :: (.int .i64 ((m + 1 : Nat) : Int)) :: (.slice (some ⟨w1.heap.size, 0, none⟩) 0 (m + 1)) :: (.slice (some ⟨w1.heap.size, 0, none⟩) 0 (m + 1)) :: (nv 4 [s0]) :: undef :: undef :: undef :: undef :: undef :: undef :: undef :: undef :: undef :: undef :: undef :: undef :: undef :: undef :: undef :: undef :: undef :: undef :: undef :: undef :: undef :: []), []⟩) (v := nv 4 [s0]) rfl rfl (ex_loadn (K := 4) (k := 0) (j := 1) (l := [s0]) flEl rfl A4 rfl _ rfl) ?_
  refine sq_newv (a' := ⟨List.toArray ((nv 4 [s0]) :: (.slice a m c) :: (.func (.func f) #[] #[]) :: (.pointer (some ⟨w.heap.size, 0, none⟩)) :: undef :: undef :: (.slice none 0 0) :: (.slice (some ⟨w1.heap.size, 0, none⟩) 0 (m + 1)) :: undef :: undef :: (.slice a m c) :: (.int .i64 ((m : Nat) : Int)) :: (.int .i64 ((m + 1 : Nat) : Int)) :: (.slice (some ⟨w1.heap.size, 0, none⟩) 0 (m + 1)) :: (.slice (some ⟨w1.heap.size, 0, none⟩) 0 (m + 1)) :: (nv 4 [s0]) :: (.slice (some ⟨w3.heap.size, 0, none⟩) 1 1) :: undef :: undef :: undef :: undef :: undef :: undef :: undef :: undef :: undef :: undef :: undef :: undef :: undef :: undef :: undef :: undef :: undef :: undef :: undef :: undef :: []), []⟩) (v := .slice (some ⟨w3.heap.size, 0, none⟩) 1 1) (xs := row 4 s0) rfl rfl (ex_bs slEl rfl) ?_
  intro w6 N6 hb6
  have A7 := A4.keep hb6
  have A8 := N3.keep hb6
  have HB9 := below_then HB5 hb6
  refine sq_app (a' := ⟨List.toArray ((nv 4 [s0]) :: (.slice a m c) :: (.func (.func f) #[] #[]) :: (.pointer (some ⟨w.heap.size, 0, none⟩)) :: undef :: undef :: (.slice none 0 0) :: (.slice (some ⟨w1.heap.size, 0, none⟩) 0 (m + 1)) :: undef :: undef :: (.slice a m c) :: (.int .i64 ((m : Nat) : Int)) :: (.int .i64 ((m + 1 : Nat) : Int)) :: (.slice (some ⟨w1.heap.size, 0, none⟩) 0 (m + 1)) :: (.slice (some ⟨w1.heap.size, 0, none⟩) 0 (m + 1)) :: (nv 4 [s0]) :: (.slice (some ⟨w3.heap.size, 0, none⟩) 1 1) :: (.slice (some ⟨w1.heap.size, 0, none⟩) (0 + 1) (m + 1)) :: undef :: undef :: undef :: undef :: undef :: undef :: undef :: undef :: undef :: undef :: undef :: undef :: undef :: undef :: undef :: undef :: undef :: undef :: undef :: []), []⟩) (t := 47) (i := 0) (m := m + 1) (A := fun _ => 0) (B := fil P (0 + 1)) (u := .slice (some ⟨w1.heap.size, 0, none⟩) (0 + 1) (m + 1)) rfl rfl A8 (Nat.succ_pos m) ((fil_at P 0).trans hP0) (fil_first P) (ex_app slEl rfl rfl A8 N6 (Nat.succ_pos m)) ?_
  intro w10 N10 hst10 hoth10
  have A11 := hoth10 _ _ _ (Nat.ne_of_lt N1.lt) A7
  have HB12 := hst10 _ _ HB9 HB2.size
  refine sq_val (a' := ⟨List.toArray ((nv 4 [s0]) :: (.slice a m c) :: (.func (.func f) #[] #[]) :: (.pointer (some ⟨w.heap.size, 0, none⟩)) :: undef :: undef :: (.slice none 0 0) :: (.slice (some ⟨w1.heap.size, 0, none⟩) (0 + 1) (m + 1)) :: undef :: undef :: (.slice a m c) :: (.int .i64 ((m : Nat) : Int)) :: (.int .i64 ((m + 1 : Nat) : Int)) :: (.slice (some ⟨w1.heap.size, 0, none⟩) 0 (m + 1)) :: (.slice (some ⟨w1.heap.size, 0, none⟩) 0 (m + 1)) :: (nv 4 [s0]) :: (.slice (some ⟨w3.heap.size, 0, none⟩) 1 1) :: (.slice (some ⟨w1.heap.size, 0, none⟩) (0 + 1) (m + 1)) :: undef :: undef :: undef :: undef :: undef :: undef :: undef :: undef :: undef :: undef :: undef :: undef :: undef :: undef :: undef :: undef :: undef :: undef :: undef :: []), []⟩) (v := .slice (some ⟨w1.heap.size, 0, none⟩) (0 + 1) (m + 1)) rfl rfl (ex_assign _) ?_
  refine seq_nil ?_
  refine wp_seq ?_
  refine seq_lit ?_
  refine sq_val (a' := ⟨List.toArray ((nv 4 [s0]) :: (.slice a m c) :: (.func (.func f) #[] #[]) :: (.pointer (some ⟨w.heap.size, 0, none⟩)) :: undef :: undef :: (.slice none 0 0) :: (.slice (some ⟨w1.heap.size, 0, none⟩) (0 + 1) (m + 1)) :: undef :: undef :: (.slice a m c) :: (.int .i64 ((m : Nat) : Int)) :: (.int .i64 ((m + 1 : Nat) : Int)) :: (.slice (some ⟨w1.heap.size, 0, none⟩) 0 (m + 1)) :: (.slice (some ⟨w1.heap.size, 0, none⟩) 0 (m + 1)) :: (nv 4 [s0]) :: (.slice (some ⟨w3.heap.size, 0, none⟩) 1 1) :: (.slice (some ⟨w1.heap.size, 0, none⟩) (0 + 1) (m + 1)) :: (.slice a m c) :: undef :: undef :: undef :: undef :: undef :: undef :: undef :: undef :: undef :: undef :: undef :: undef :: undef :: undef :: undef :: undef :: undef :: undef :: []), []⟩) (v := .slice a m c) rfl rfl (ex_move _) ?_
  refine sq_val (a' := ⟨List.toArray ((nv 4 [s0]) :: (.slice a m c) :: (.func (.func f) #[] #[]) :: (.pointer (some ⟨w.heap.size, 0, none⟩)) :: undef :: undef :: (.slice none 0 0) :: (.slice (some ⟨w1.heap.size, 0, none⟩) (0 + 1) (m + 1)) :: undef :: undef :: (.slice a m c) :: (.int .i64 ((m : Nat) : Int)) :: (.int .i64 ((m + 1 : Nat) : Int)) :: (.slice (some ⟨w1.heap.size, 0, none⟩) 0 (m + 1)) :: (.slice (some ⟨w1.heap.size, 0, none⟩) 0 (m + 1)) :: (nv 4 [s0]) :: (.slice (some ⟨w3.heap.size, 0, none⟩) 1 1) :: (.slice (some ⟨w1.heap.size, 0, none⟩) (0 + 1) (m + 1)) :: (.slice a m c) :: (.int .i64 ((m : Nat) : Int)) :: undef :: undef :: undef :: undef :: undef :: undef :: undef :: undef :: undef :: undef :: undef :: undef :: undef :: undef :: undef :: undef :: undef :: []), []⟩) (v := .int .i64 ((m : Nat) : Int)) rfl rfl (ex_lenL slEl rfl) ?_
  refine sq_val (a' := ⟨List.toArray ((nv 4 [s0]) :: (.slice a m c) :: (.func (.func f) #[] #[]) :: (.pointer (some ⟨w.heap.size, 0, none⟩)) :: undef :: undef :: (.slice none 0 0) :: (.slice (some ⟨w1.heap.size, 0, none⟩) (0 + 1) (m + 1)) :: undef :: undef :: (.slice a m c) :: (.int .i64 ((m : Nat) : Int)) :: (.int .i64 ((m + 1 : Nat) : Int)) :: (.slice (some ⟨w1.heap.size, 0, none⟩) 0 (m + 1)) :: (.slice (some ⟨w1.heap.size, 0, none⟩) 0 (m + 1)) :: (nv 4 [s0]) :: (.slice (some ⟨w3.heap.size, 0, none⟩) 1 1) :: (.slice (some ⟨w1.heap.size, 0, none⟩) (0 + 1) (m + 1)) :: (.slice a m c) :: (.int .i64 ((m : Nat) : Int)) :: (.int .i64 0) :: undef :: undef :: undef :: undef :: undef :: undef :: undef :: undef :: undef :: undef :: undef :: undef :: undef :: undef :: undef :: undef :: []), []⟩) (v := .int .i64 0) rfl rfl (ex_move _) ?_
  refine seq_nil ?_
  refine wp_block ?_
  refine wp_loop_ind (m) (fun q_ a_ v_ => ∃ j8 j9 j21 j22 j23 j24 j25 j26 j27 j28 j29 j30 j31 j32 j33 j34 j35 : Value, a_ = ⟨List.toArray ((nv 4 [s0]) :: (.slice a m c) :: (.func (.func f) #[] #[]) :: (.pointer (some ⟨w.heap.size, 0, none⟩)) :: undef :: undef :: (.slice none 0 0) :: (.slice (some ⟨w1.heap.size, 0, none⟩) (q_ + 1) (m + 1)) :: j8 :: j9 :: (.slice a m c) :: (.int .i64 ((m : Nat) : Int)) :: (.int .i64 ((m + 1 : Nat) : Int)) :: (.slice (some ⟨w1.heap.size, 0, none⟩) 0 (m + 1)) :: (.slice (some ⟨w1.heap.size, 0, none⟩) 0 (m + 1)) :: (nv 4 [s0]) :: (.slice (some ⟨w3.heap.size, 0, none⟩) 1 1) :: (.slice (some ⟨w1.heap.size, 0, none⟩) (0 + 1) (m + 1)) :: (.slice a m c) :: (.int .i64 ((m : Nat) : Int)) :: (.int .i64 ((q_ : Nat) : Int)) :: j21 :: j22 :: j23 :: j24 :: j25 :: j26 :: j27 :: j28 :: j29 :: j30 :: j31 :: j32 :: j33 :: j34 :: j35 :: undef :: []), []⟩ ∧ Arr 47 v_ (w.heap.size) (rows 4 [s0]) ∧ Arr 47 v_ (w1.heap.size) (rows 4 (tab (m + 1) (fil P (q_ + 1)))) ∧ Below w.heap.size w v_) ⟨_, _, _, _, _, _, _, _, _, _, _, _, _, _, _, _, _, rfl, A11, N10, HB12⟩ ?_ ?_
  · intro k13 hk13
    rintro _ w13 ⟨i13_8, i13_9, i13_21, i13_22, i13_23, i13_24, i13_25, i13_26, i13_27, i13_28, i13_29, i13_30, i13_31, i13_32, i13_33, i13_34, i13_35, rfl, A13_0, A13_1, HB13⟩ K13 hK13
    obtain ⟨gp, op, hap, hlp, hrp⟩ := hN k13 hk13
    refine seq_lit ?_
    refine sq_val (a' := ⟨List.toArray ((nv 4 [s0]) :: (.slice a m c) :: (.func (.func f) #[] #[]) :: (.pointer (some ⟨w.heap.size, 0, none⟩)) :: undef :: undef :: (.slice none 0 0) :: (.slice (some ⟨w1.heap.size, 0, none⟩) (k13 + 1) (m + 1)) :: i13_8 :: i13_9 :: (.slice a m c) :: (.int .i64 ((m : Nat) : Int)) :: (.int .i64 ((m + 1 : Nat) : Int)) :: (.slice (some ⟨w1.heap.size, 0, none⟩) 0 (m + 1)) :: (.slice (some ⟨w1.heap.size, 0, none⟩) 0 (m + 1)) :: (nv 4 [s0]) :: (.slice (some ⟨w3.heap.size, 0, none⟩) 1 1) :: (.slice (some ⟨w1.heap.size, 0, none⟩) (0 + 1) (m + 1)) :: (.slice a m c) :: (.int .i64 ((m : Nat) : Int)) :: (.int .i64 ((k13 : Nat) : Int)) :: (.bool true) :: i13_22 :: i13_23 :: i13_24 :: i13_25 :: i13_26 :: i13_27 :: i13_28 :: i13_29 :: i13_30 :: i13_31 :: i13_32 :: i13_33 :: i13_34 :: i13_35 :: undef :: []), []⟩) (v := .bool true) rfl rfl (ex_lssN rfl rfl true (decide_eq_true hk13).symm) ?_
    refine seq_nil ?_
    refine wp_seq ?_
    refine wp_cond_true rfl ?_
    refine wp_skip ?_
    refine then_nR ?_
    refine wp_seq ?_
    refine wp_block ?_
    refine seq_lit ?_
    refine sq_val (a' := ⟨List.toArray ((nv 4 [s0]) :: (.slice a m c) :: (.func (.func f) #[] #[]) :: (.pointer (some ⟨w.heap.size, 0, none⟩)) :: undef :: undef :: (.slice none 0 0) :: (.slice (some ⟨w1.heap.size, 0, none⟩) (k13 + 1) (m + 1)) :: i13_8 :: i13_9 :: (.slice a m c) :: (.int .i64 ((m : Nat) : Int)) :: (.int .i64 ((m + 1 : Nat) : Int)) :: (.slice (some ⟨w1.heap.size, 0, none⟩) 0 (m + 1)) :: (.slice (some ⟨w1.heap.size, 0, none⟩) 0 (m + 1)) :: (nv 4 [s0]) :: (.slice (some ⟨w3.heap.size, 0, none⟩) 1 1) :: (.slice (some ⟨w1.heap.size, 0, none⟩) (0 + 1) (m + 1)) :: (.slice a m c) :: (.int .i64 ((m : Nat) : Int)) :: (.int .i64 ((k13 : Nat) : Int)) :: (.bool true) :: (.int .i64 ((k13 : Nat) : Int)) :: i13_23 :: i13_24 :: i13_25 :: i13_26 :: i13_27 :: i13_28 :: i13_29 :: i13_30 :: i13_31 :: i13_32 :: i13_33 :: i13_34 :: i13_35 :: undef :: []), []⟩) (v := .int .i64 ((k13 : Nat) : Int)) rfl rfl (ex_move _) ?_
    refine sq_val (a' := ⟨List.toArray ((nv 4 [s0]) :: (.slice a m c) :: (.func (.func f) #[] #[]) :: (.pointer (some ⟨w.heap.size, 0, none⟩)) :: undef :: undef :: (.slice none 0 0) :: (.slice (some ⟨w1.heap.size, 0, none⟩) (k13 + 1) (m + 1)) :: i13_8 :: i13_9 :: (.slice a m c) :: (.int .i64 ((m : Nat) : Int)) :: (.int .i64 ((m + 1 : Nat) : Int)) :: (.slice (some ⟨w1.heap.size, 0, none⟩) 0 (m + 1)) :: (.slice (some ⟨w1.heap.size, 0, none⟩) 0 (m + 1)) :: (nv 4 [s0]) :: (.slice (some ⟨w3.heap.size, 0, none⟩) 1 1) :: (.slice (some ⟨w1.heap.size, 0, none⟩) (0 + 1) (m + 1)) :: (.slice a m c) :: (.int .i64 ((m : Nat) : Int)) :: (.int .i64 ((k13 : Nat) : Int)) :: (.bool true) :: (.int .i64 ((k13 : Nat) : Int)) :: (.pointer (some ⟨gp, op + 4 * k13, none⟩)) :: i13_24 :: i13_25 :: i13_26 :: i13_27 :: i13_28 :: i13_29 :: i13_30 :: i13_31 :: i13_32 :: i13_33 :: i13_34 :: i13_35 :: undef :: []), []⟩) (v := .pointer (some ⟨gp, op + 4 * k13, none⟩)) rfl rfl (ex_idxP slEl rfl hap rfl hk13) ?_
    refine sq_val (a' := ⟨List.toArray ((nv 4 [s0]) :: (.slice a m c) :: (.func (.func f) #[] #[]) :: (.pointer (some ⟨w.heap.size, 0, none⟩)) :: undef :: undef :: (.slice none 0 0) :: (.slice (some ⟨w1.heap.size, 0, none⟩) (k13 + 1) (m + 1)) :: i13_8 :: i13_9 :: (.slice a m c) :: (.int .i64 ((m : Nat) : Int)) :: (.int .i64 ((m + 1 : Nat) : Int)) :: (.slice (some ⟨w1.heap.size, 0, none⟩) 0 (m + 1)) :: (.slice (some ⟨w1.heap.size, 0, none⟩) 0 (m + 1)) :: (nv 4 [s0]) :: (.slice (some ⟨w3.heap.size, 0, none⟩) 1 1) :: (.slice (some ⟨w1.heap.size, 0, none⟩) (0 + 1) (m + 1)) :: (.slice a m c) :: (.int .i64 ((m : Nat) : Int)) :: (.int .i64 ((k13 : Nat) : Int)) :: (.bool true) :: (.int .i64 ((k13 : Nat) : Int)) :: (.pointer (some ⟨gp, op + 4 * k13, none⟩)) :: (nv 4 [(A k13)]) :: i13_25 :: i13_26 :: i13_27 :: i13_28 :: i13_29 :: i13_30 :: i13_31 :: i13_32 :: i13_33 :: i13_34 :: i13_35 :: undef :: []), []⟩) (v := nv 4 [(A k13)]) rfl rfl (ex_loadP flEl rfl (rangeAt_keep hlp HB13 hrp)) ?_
    refine sq_new (a' := ⟨List.toArray ((nv 4 [s0]) :: (.slice a m c) :: (.func (.func f) #[] #[]) :: (.pointer (some ⟨w.heap.size, 0, none⟩)) :: undef :: undef :: (.slice none 0 0) :: (.slice (some ⟨w1.heap.size, 0, none⟩) (k13 + 1) (m + 1)) :: i13_8 :: (.pointer (some ⟨w13.heap.size, 0, none⟩)) :: (.slice a m c) :: (.int .i64 ((m : Nat) : Int)) :: (.int .i64 ((m + 1 : Nat) : Int)) :: (.slice (some ⟨w1.heap.size, 0, none⟩) 0 (m + 1)) :: (.slice (some ⟨w1.heap.size, 0, none⟩) 0 (m + 1)) :: (nv 4 [s0]) :: (.slice (some ⟨w3.heap.size, 0, none⟩) 1 1) :: (.slice (some ⟨w1.heap.size, 0, none⟩) (0 + 1) (m + 1)) :: (.slice a m c) :: (.int .i64 ((m : Nat) : Int)) :: (.int .i64 ((k13 : Nat) : Int)) :: (.bool true) :: (.int .i64 ((k13 : Nat) : Int)) :: (.pointer (some ⟨gp, op + 4 * k13, none⟩)) :: (nv 4 [(A k13)]) :: i13_25 :: i13_26 :: i13_27 :: i13_28 :: i13_29 :: i13_30 :: i13_31 :: i13_32 :: i13_33 :: i13_34 :: i13_35 :: undef :: []), []⟩) (xs := rows 4 [0]) rfl rfl (ex_alloc zEl) ?_
    intro w14 N14 hb14
    have A15 := A13_0.keep hb14
    have A16 := A13_1.keep hb14
    have HB17 := below_then HB13 hb14
    refine sq_val (a' := ⟨List.toArray ((nv 4 [s0]) :: (.slice a m c) :: (.func (.func f) #[] #[]) :: (.pointer (some ⟨w.heap.size, 0, none⟩)) :: undef :: undef :: (.slice none 0 0) :: (.slice (some ⟨w1.heap.size, 0, none⟩) (k13 + 1) (m + 1)) :: (.int .i64 ((k13 : Nat) : Int)) :: (.pointer (some ⟨w13.heap.size, 0, none⟩)) :: (.slice a m c) :: (.int .i64 ((m : Nat) : Int)) :: (.int .i64 ((m + 1 : Nat) : Int)) :: (.slice (some ⟨w1.heap.size, 0, none⟩) 0 (m + 1)) :: (.slice (some ⟨w1.heap.size, 0, none⟩) 0 (m + 1)) :: (nv 4 [s0]) :: (.slice (some ⟨w3.heap.size, 0, none⟩) 1 1) :: (.slice (some ⟨w1.heap.size, 0, none⟩) (0 + 1) (m + 1)) :: (.slice a m c) :: (.int .i64 ((m : Nat) : Int)) :: (.int .i64 ((k13 : Nat) : Int)) :: (.bool true) :: (.int .i64 ((k13 : Nat) : Int)) :: (.pointer (some ⟨gp, op + 4 * k13, none⟩)) :: (nv 4 [(A k13)]) :: i13_25 :: i13_26 :: i13_27 :: i13_28 :: i13_29 :: i13_30 :: i13_31 :: i13_32 :: i13_33 :: i13_34 :: i13_35 :: undef :: []), []⟩) (v := .int .i64 ((k13 : Nat) : Int)) rfl rfl (ex_assign _) ?_
    refine sq_store (a' := ⟨List.toArray ((nv 4 [s0]) :: (.slice a m c) :: (.func (.func f) #[] #[]) :: (.pointer (some ⟨w.heap.size, 0, none⟩)) :: undef :: undef :: (.slice none 0 0) :: (.slice (some ⟨w1.heap.size, 0, none⟩) (k13 + 1) (m + 1)) :: (.int .i64 ((k13 : Nat) : Int)) :: (.pointer (some ⟨w13.heap.size, 0, none⟩)) :: (.slice a m c) :: (.int .i64 ((m : Nat) : Int)) :: (.int .i64 ((m + 1 : Nat) : Int)) :: (.slice (some ⟨w1.heap.size, 0, none⟩) 0 (m + 1)) :: (.slice (some ⟨w1.heap.size, 0, none⟩) 0 (m + 1)) :: (nv 4 [s0]) :: (.slice (some ⟨w3.heap.size, 0, none⟩) 1 1) :: (.slice (some ⟨w1.heap.size, 0, none⟩) (0 + 1) (m + 1)) :: (.slice a m c) :: (.int .i64 ((m : Nat) : Int)) :: (.int .i64 ((k13 : Nat) : Int)) :: (.bool true) :: (.int .i64 ((k13 : Nat) : Int)) :: (.pointer (some ⟨gp, op + 4 * k13, none⟩)) :: (nv 4 [(A k13)]) :: i13_25 :: i13_26 :: i13_27 :: i13_28 :: i13_29 :: i13_30 :: i13_31 :: i13_32 :: i13_33 :: i13_34 :: i13_35 :: undef :: []), []⟩) (t := 47) (xs := rows 4 [0]) (ys := rows 4 [(A k13)]) rfl rfl N14 (len_rows rfl) (ex_storen (K := 4) (l := [0]) (m := [(A k13)]) flEl rfl rfl N14 rfl) ?_
    intro w20 N20 hst20 hoth20
    have A21 := hoth20 _ _ _ (Nat.ne_of_lt A13_0.lt) A15
    have A22 := hoth20 _ _ _ (Nat.ne_of_lt A13_1.lt) A16
    have HB23 := hst20 _ _ HB17 HB13.size
    refine seq_nil ?_
    refine wp_region_app (F := fun γ => ⟨List.toArray ((nv 4 [s0]) :: (.slice a m c) :: (.func (.func f) #[] #[]) :: (.pointer (some ⟨w.heap.size, 0, none⟩)) :: undef :: undef :: (.slice none 0 0) :: (.slice (some ⟨w1.heap.size, 0, none⟩) (k13 + 1) (m + 1)) :: (.int .i64 ((k13 : Nat) : Int)) :: (.pointer (some ⟨w13.heap.size, 0, none⟩)) :: (.slice a m c) :: (.int .i64 ((m : Nat) : Int)) :: (.int .i64 ((m + 1 : Nat) : Int)) :: (.slice (some ⟨w1.heap.size, 0, none⟩) 0 (m + 1)) :: (.slice (some ⟨w1.heap.size, 0, none⟩) 0 (m + 1)) :: (nv 4 [s0]) :: (.slice (some ⟨w3.heap.size, 0, none⟩) 1 1) :: (.slice (some ⟨w1.heap.size, 0, none⟩) (0 + 1) (m + 1)) :: (.slice a m c) :: (.int .i64 ((m : Nat) : Int)) :: (.int .i64 ((k13 : Nat) : Int)) :: (.bool true) :: (.int .i64 ((k13 : Nat) : Int)) :: (.pointer (some ⟨gp, op + 4 * k13, none⟩)) :: (nv 4 [(A k13)]) :: (.slice (some ⟨w1.heap.size, 0, none⟩) (k13 + 1) (m + 1)) :: (.func (.func f) #[] #[]) :: (.slice (some ⟨w1.heap.size, 0, none⟩) (k13 + 1) (m + 1)) :: (.int .i64 ((k13 : Nat) : Int)) :: (.pointer (some ⟨w1.heap.size, 4 * k13, none⟩)) :: (nv 4 [(P k13)]) :: (nv 4 [(A k13)]) :: (nv 4 [(P (k13 + 1))]) :: (.slice (some ⟨γ, 0, none⟩) 1 1) :: (.slice (some ⟨w1.heap.size, 0, none⟩) (k13 + 1 + 1) (m + 1)) :: i13_35 :: undef :: []), []⟩) (G := fun γ => ⟨List.toArray ((nv 4 [s0]) :: (.slice a m c) :: (.func (.func f) #[] #[]) :: (.pointer (some ⟨w.heap.size, 0, none⟩)) :: undef :: undef :: (.slice none 0 0) :: (.slice (some ⟨w1.heap.size, 0, none⟩) (k13 + 1 + 1) (m + 1)) :: (.int .i64 ((k13 : Nat) : Int)) :: (.pointer (some ⟨w13.heap.size, 0, none⟩)) :: (.slice a m c) :: (.int .i64 ((m : Nat) : Int)) :: (.int .i64 ((m + 1 : Nat) : Int)) :: (.slice (some ⟨w1.heap.size, 0, none⟩) 0 (m + 1)) :: (.slice (some ⟨w1.heap.size, 0, none⟩) 0 (m + 1)) :: (nv 4 [s0]) :: (.slice (some ⟨w3.heap.size, 0, none⟩) 1 1) :: (.slice (some ⟨w1.heap.size, 0, none⟩) (0 + 1) (m + 1)) :: (.slice a m c) :: (.int .i64 ((m : Nat) : Int)) :: (.int .i64 ((k13 : Nat) : Int)) :: (.bool true) :: (.int .i64 ((k13 : Nat) : Int)) :: (.pointer (some ⟨gp, op + 4 * k13, none⟩)) :: (nv 4 [(A k13)]) :: (.slice (some ⟨w1.heap.size, 0, none⟩) (k13 + 1) (m + 1)) :: (.func (.func f) #[] #[]) :: (.slice (some ⟨w1.heap.size, 0, none⟩) (k13 + 1) (m + 1)) :: (.int .i64 ((k13 : Nat) : Int)) :: (.pointer (some ⟨w1.heap.size, 4 * k13, none⟩)) :: (nv 4 [(P k13)]) :: (nv 4 [(A k13)]) :: (nv 4 [(P (k13 + 1))]) :: (.slice (some ⟨γ, 0, none⟩) 1 1) :: (.slice (some ⟨w1.heap.size, 0, none⟩) (k13 + 1 + 1) (m + 1)) :: i13_35 :: undef :: []), []⟩) 47 47 (w1.heap.size) (m + 1) (P (k13 + 1)) 8 9 (fil P (k13 + 1)) (fil P (k13 + 1 + 1)) 10 _ (.tmp 34) 7 [(25, .slice (some ⟨w1.heap.size, 0, none⟩) (k13 + 1) (m + 1)), (26, .func (.func f) #[] #[]), (27, .slice (some ⟨w1.heap.size, 0, none⟩) (k13 + 1) (m + 1)), (28, .int .i64 ((k13 : Nat) : Int)), (29, .pointer (some ⟨w1.heap.size, 4 * k13, none⟩)), (30, nv 4 [(P k13)]), (31, nv 4 [(A k13)]), (32, nv 4 [(P (k13 + 1))]), (33, .slice (some ⟨0, 0, none⟩) 1 1), (34, .slice (some ⟨w1.heap.size, 0, none⟩) (k13 + 1 + 1) (m + 1))] (by kernel_rfl) rfl rfl rfl (by kernel_rfl) (by kernel_rfl) (by kernel_rfl) (by kernel_rfl) (by kernel_rfl) rfl (by simp only [putAll, List.setIfInBounds_toArray, List.set_cons_zero, List.set_cons_succ]) (fun γ => rfl) rfl rfl rfl ?_ ?_
    · refine GSteps.cons (aj_pure (u := .slice (some ⟨w1.heap.size, 0, none⟩) (k13 + 1) (m + 1)) rfl (fun γ => rfl) (fun γ => rfl) (fun γ W' => ex_move _) rfl rfl) ?_
      refine GSteps.cons (aj_pure (u := .func (.func f) #[] #[]) rfl (fun γ => rfl) (fun γ => rfl) (fun γ W' => ex_move _) rfl rfl) ?_
      refine GSteps.cons (aj_pure (u := .slice (some ⟨w1.heap.size, 0, none⟩) (k13 + 1) (m + 1)) rfl (fun γ => rfl) (fun γ => rfl) (fun γ W' => ex_move _) rfl rfl) ?_
      refine GSteps.cons (aj_pure (u := .int .i64 ((k13 : Nat) : Int)) rfl (fun γ => rfl) (fun γ => rfl) (fun γ W' => ex_move _) rfl rfl) ?_
      refine GSteps.cons (aj_val (u := .pointer (some ⟨w1.heap.size, 4 * k13, none⟩)) rfl (fun γ => rfl) (fun γ => rfl) (fun γ W' h => ex_idxO slEl rfl rfl (Nat.lt_succ_self k13)) rfl rfl (fun _ hc hq => (waitsFor_on (i := 5) (j := 4) hc (by kernel_rfl) (waitsFor_on (i := 7) (j := 5) hc (by kernel_rfl) (waitsFor_on (i := 8) (j := 7) hc (by kernel_rfl) hq)))) (fun _ hc hq => (waitsFor_on (i := 5) (j := 4) hc (by kernel_rfl) (waitsFor_on (i := 7) (j := 5) hc (by kernel_rfl) (waitsFor_on (i := 9) (j := 7) hc (by kernel_rfl) hq))))) ?_
      refine GSteps.cons (aj_val (u := nv 4 [(P k13)]) rfl (fun γ => rfl) (fun γ => rfl) (fun γ W' h => ex_loadO flEl rfl (A22.keep h.out) (by omega) (fil_at P k13)) rfl rfl (fun _ hc hq => (waitsFor_on (i := 7) (j := 5) hc (by kernel_rfl) (waitsFor_on (i := 8) (j := 7) hc (by kernel_rfl) hq))) (fun _ hc hq => (waitsFor_on (i := 7) (j := 5) hc (by kernel_rfl) (waitsFor_on (i := 9) (j := 7) hc (by kernel_rfl) hq)))) ?_
      refine GSteps.cons (aj_val (u := nv 4 [(A k13)]) rfl (fun γ => rfl) (fun γ => rfl) (fun γ W' h => ex_loadn (K := 4) (k := 0) (j := 1) (l := [(A k13)]) flEl rfl (N20.keep h.out) rfl _ rfl) rfl rfl (fun _ hc hq => (waitsFor_on (i := 7) (j := 6) hc (by kernel_rfl) (waitsFor_on (i := 8) (j := 7) hc (by kernel_rfl) hq))) (fun _ hc hq => (waitsFor_on (i := 7) (j := 6) hc (by kernel_rfl) (waitsFor_on (i := 9) (j := 7) hc (by kernel_rfl) hq)))) ?_
      refine GSteps.cons (aj_call (u := nv 4 [(P (k13 + 1))]) rfl (fun γ => rfl) (fun γ => rfl) (fun γ W' => ex_call (vs := [nv 4 [(P k13)], nv 4 [(A k13)]]) rfl hf rfl) (fun W' h => hJ k13 hk13 _) rfl rfl (fun _ hc hq => (waitsFor_on (i := 8) (j := 7) hc (by kernel_rfl) hq)) (fun _ hc hq => (waitsFor_on (i := 9) (j := 7) hc (by kernel_rfl) hq))) ?_
      refine GSteps.cons (aj_build (fun γ => rfl) (fun γ n => rfl) (fun γ W' => ex_bs slEl rfl) rfl rfl (fun _ hc hq => (waitsFor_on (i := 9) (j := 8) hc (by kernel_rfl) hq))) ?_
      refine GSteps.cons (aj_app (k := k13 + 1) (u := .slice (some ⟨w1.heap.size, 0, none⟩) (k13 + 1 + 1) (m + 1)) rfl (fun γ => rfl) (fun γ => rfl) (fun W' h => A22.keep h.out) (by omega) (fil_at P (k13 + 1)) (fil_ne P (k13 + 1)) (fun γ W' hA hB => ex_app slEl rfl rfl hA hB (by omega)) rfl rfl (by kernel_rfl)) ?_
      refine GSteps.cons (aj_none rfl (fun γ => rfl) (fun γ W' => ⟨_, ex_assign _⟩) rfl rfl) ?_
      exact GSteps.nil
    intro γ24 w24 w25 hb24 N25 hst25 hoth25
    have A26 := A21.keep hb24.out
    have A27 := A22.keep hb24.out
    have A28 := N20.keep hb24.out
    have HB29 := below_then HB23 hb24.out
    have A30 := hoth25 _ _ _ (Nat.ne_of_lt N1.lt) A26
    have A31 := hoth25 _ _ _ (Ne.symm (Nat.ne_of_lt A13_1.lt)) A28
    have HB32 := hst25 _ _ HB29 HB2.size
    refine inblock_l ?_
    refine then_nR ?_
    refine wp_region_lit ?_
    refine sq_val (a' := ⟨List.toArray ((nv 4 [s0]) :: (.slice a m c) :: (.func (.func f) #[] #[]) :: (.pointer (some ⟨w.heap.size, 0, none⟩)) :: undef :: undef :: (.slice none 0 0) :: (.slice (some ⟨w1.heap.size, 0, none⟩) (k13 + 1 + 1) (m + 1)) :: (.int .i64 ((k13 : Nat) : Int)) :: (.pointer (some ⟨w13.heap.size, 0, none⟩)) :: (.slice a m c) :: (.int .i64 ((m : Nat) : Int)) :: (.int .i64 ((m + 1 : Nat) : Int)) :: (.slice (some ⟨w1.heap.size, 0, none⟩) 0 (m + 1)) :: (.slice (some ⟨w1.heap.size, 0, none⟩) 0 (m + 1)) :: (nv 4 [s0]) :: (.slice (some ⟨w3.heap.size, 0, none⟩) 1 1) :: (.slice (some ⟨w1.heap.size, 0, none⟩) (0 + 1) (m + 1)) :: (.slice a m c) :: (.int .i64 ((m : Nat) : Int)) :: (.int .i64 ((k13 : Nat) : Int)) :: (.bool true) :: (.int .i64 ((k13 : Nat) : Int)) :: (.pointer (some ⟨gp, op + 4 * k13, none⟩)) :: (nv 4 [(A k13)]) :: (.slice (some ⟨w1.heap.size, 0, none⟩) (k13 + 1) (m + 1)) :: (.func (.func f) #[] #[]) :: (.slice (some ⟨w1.heap.size, 0, none⟩) (k13 + 1) (m + 1)) :: (.int .i64 ((k13 : Nat) : Int)) :: (.pointer (some ⟨w1.heap.size, 4 * k13, none⟩)) :: (nv 4 [(P k13)]) :: (nv 4 [(A k13)]) :: (nv 4 [(P (k13 + 1))]) :: (.slice (some ⟨γ24, 0, none⟩) 1 1) :: (.slice (some ⟨w1.heap.size, 0, none⟩) (k13 + 1 + 1) (m + 1)) :: (.int .i64 ((k13 + 1 : Nat) : Int)) :: undef :: []), []⟩) (v := .int .i64 ((k13 + 1 : Nat) : Int)) rfl rfl (ex_addN (b := 1) rfl rfl (by omega) rfl) ?_
    refine sq_val (a' := ⟨List.toArray ((nv 4 [s0]) :: (.slice a m c) :: (.func (.func f) #[] #[]) :: (.pointer (some ⟨w.heap.size, 0, none⟩)) :: undef :: undef :: (.slice none 0 0) :: (.slice (some ⟨w1.heap.size, 0, none⟩) (k13 + 1 + 1) (m + 1)) :: (.int .i64 ((k13 : Nat) : Int)) :: (.pointer (some ⟨w13.heap.size, 0, none⟩)) :: (.slice a m c) :: (.int .i64 ((m : Nat) : Int)) :: (.int .i64 ((m + 1 : Nat) : Int)) :: (.slice (some ⟨w1.heap.size, 0, none⟩) 0 (m + 1)) :: (.slice (some ⟨w1.heap.size, 0, none⟩) 0 (m + 1)) :: (nv 4 [s0]) :: (.slice (some ⟨w3.heap.size, 0, none⟩) 1 1) :: (.slice (some ⟨w1.heap.size, 0, none⟩) (0 + 1) (m + 1)) :: (.slice a m c) :: (.int .i64 ((m : Nat) : Int)) :: (.int .i64 ((k13 + 1 : Nat) : Int)) :: (.bool true) :: (.int .i64 ((k13 : Nat) : Int)) :: (.pointer (some ⟨gp, op + 4 * k13, none⟩)) :: (nv 4 [(A k13)]) :: (.slice (some ⟨w1.heap.size, 0, none⟩) (k13 + 1) (m + 1)) :: (.func (.func f) #[] #[]) :: (.slice (some ⟨w1.heap.size, 0, none⟩) (k13 + 1) (m + 1)) :: (.int .i64 ((k13 : Nat) : Int)) :: (.pointer (some ⟨w1.heap.size, 4 * k13, none⟩)) :: (nv 4 [(P k13)]) :: (nv 4 [(A k13)]) :: (nv 4 [(P (k13 + 1))]) :: (.slice (some ⟨γ24, 0, none⟩) 1 1) :: (.slice (some ⟨w1.heap.size, 0, none⟩) (k13 + 1 + 1) (m + 1)) :: (.int .i64 ((k13 + 1 : Nat) : Int)) :: undef :: []), []⟩) (v := .int .i64 ((k13 + 1 : Nat) : Int)) rfl rfl (ex_move _) ?_
    refine wpList_nil ?_
    refine then_l ?_
    exact hK13.out _ _ ⟨_, _, _, _, _, _, _, _, _, _, _, _, _, _, _, _, _, rfl, A30, N25, HB32⟩
  · rintro _ w33 ⟨i33_8, i33_9, i33_21, i33_22, i33_23, i33_24, i33_25, i33_26, i33_27, i33_28, i33_29, i33_30, i33_31, i33_32, i33_33, i33_34, i33_35, rfl, A33_0, A33_1, HB33⟩ K33
    refine seq_lit ?_
    refine sq_val (a' := ⟨List.toArray ((nv 4 [s0]) :: (.slice a m c) :: (.func (.func f) #[] #[]) :: (.pointer (some ⟨w.heap.size, 0, none⟩)) :: undef :: undef :: (.slice none 0 0) :: (.slice (some ⟨w1.heap.size, 0, none⟩) (m + 1) (m + 1)) :: i33_8 :: i33_9 :: (.slice a m c) :: (.int .i64 ((m : Nat) : Int)) :: (.int .i64 ((m + 1 : Nat) : Int)) :: (.slice (some ⟨w1.heap.size, 0, none⟩) 0 (m + 1)) :: (.slice (some ⟨w1.heap.size, 0, none⟩) 0 (m + 1)) :: (nv 4 [s0]) :: (.slice (some ⟨w3.heap.size, 0, none⟩) 1 1) :: (.slice (some ⟨w1.heap.size, 0, none⟩) (0 + 1) (m + 1)) :: (.slice a m c) :: (.int .i64 ((m : Nat) : Int)) :: (.int .i64 ((m : Nat) : Int)) :: (.bool false) :: i33_22 :: i33_23 :: i33_24 :: i33_25 :: i33_26 :: i33_27 :: i33_28 :: i33_29 :: i33_30 :: i33_31 :: i33_32 :: i33_33 :: i33_34 :: i33_35 :: undef :: []), []⟩) (v := .bool false) rfl rfl (ex_lssN rfl rfl false (decide_eq_false (Nat.lt_irrefl _)).symm) ?_
    refine seq_nil ?_
    refine wp_seq ?_
    refine wp_cond_false rfl ?_
    refine wp_exit ((then_x (then_x (exit_l ?_))))
    refine then_nR ?_
    refine seq_lit ?_
    refine sq_val (a' := ⟨List.toArray ((nv 4 [s0]) :: (.slice a m c) :: (.func (.func f) #[] #[]) :: (.pointer (some ⟨w.heap.size, 0, none⟩)) :: undef :: undef :: (.slice none 0 0) :: (.slice (some ⟨w1.heap.size, 0, none⟩) (m + 1) (m + 1)) :: i33_8 :: i33_9 :: (.slice a m c) :: (.int .i64 ((m : Nat) : Int)) :: (.int .i64 ((m + 1 : Nat) : Int)) :: (.slice (some ⟨w1.heap.size, 0, none⟩) 0 (m + 1)) :: (.slice (some ⟨w1.heap.size, 0, none⟩) 0 (m + 1)) :: (nv 4 [s0]) :: (.slice (some ⟨w3.heap.size, 0, none⟩) 1 1) :: (.slice (some ⟨w1.heap.size, 0, none⟩) (0 + 1) (m + 1)) :: (.slice a m c) :: (.int .i64 ((m : Nat) : Int)) :: (.int .i64 ((m : Nat) : Int)) :: (.bool false) :: i33_22 :: i33_23 :: i33_24 :: i33_25 :: i33_26 :: i33_27 :: i33_28 :: i33_29 :: i33_30 :: i33_31 :: i33_32 :: i33_33 :: i33_34 :: i33_35 :: (.slice (some ⟨w1.heap.size, 0, none⟩) (m + 1) (m + 1)) :: []), []⟩) (v := .slice (some ⟨w1.heap.size, 0, none⟩) (m + 1) (m + 1)) rfl rfl (ex_move _) ?_
    refine sq_val (a' := ⟨List.toArray ((nv 4 [s0]) :: (.slice a m c) :: (.func (.func f) #[] #[]) :: (.pointer (some ⟨w.heap.size, 0, none⟩)) :: undef :: undef :: (.slice (some ⟨w1.heap.size, 0, none⟩) (m + 1) (m + 1)) :: (.slice (some ⟨w1.heap.size, 0, none⟩) (m + 1) (m + 1)) :: i33_8 :: i33_9 :: (.slice a m c) :: (.int .i64 ((m : Nat) : Int)) :: (.int .i64 ((m + 1 : Nat) : Int)) :: (.slice (some ⟨w1.heap.size, 0, none⟩) 0 (m + 1)) :: (.slice (some ⟨w1.heap.size, 0, none⟩) 0 (m + 1)) :: (nv 4 [s0]) :: (.slice (some ⟨w3.heap.size, 0, none⟩) 1 1) :: (.slice (some ⟨w1.heap.size, 0, none⟩) (0 + 1) (m + 1)) :: (.slice a m c) :: (.int .i64 ((m : Nat) : Int)) :: (.int .i64 ((m : Nat) : Int)) :: (.bool false) :: i33_22 :: i33_23 :: i33_24 :: i33_25 :: i33_26 :: i33_27 :: i33_28 :: i33_29 :: i33_30 :: i33_31 :: i33_32 :: i33_33 :: i33_34 :: i33_35 :: (.slice (some ⟨w1.heap.size, 0, none⟩) (m + 1) (m + 1)) :: []), []⟩) (v := .slice (some ⟨w1.heap.size, 0, none⟩) (m + 1) (m + 1)) rfl rfl (ex_assign _) ?_
    refine seq_nil ?_
    exact wp_ret (bodyPost_ret (ret_tmp Try.results30 rfl) rfl ⟨_, rfl, HB2.size, (by rw [← fil_end]; exact A33_1), HB33⟩)

end Go.Proofs.Ytlpaegmnahcbjaa
