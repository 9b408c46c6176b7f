/- What is proved here: sums of many points of a curve; whole numbers of times; sums by buckets; what the buckets, the digits and the places of a sum make; package sum: a sum by its numbers' digits. -/
import Derived.Test.YtkkmekdhejhapaaCurve
import Derived.Test.YtkkmekdhejhapaaSumBuck
import Derived.Test.YtkkmekdhejhapaaSumDig
namespace Go.Proofs.Ytkkmekdhejhapaa
section
section
namespace Cv
section
variable {F : Type} [Rg F] [DecidableEq F] {b : F} (C : Cu F b)
def gs (C : Cu F b) : Nat → (Nat → EP b) → EP b
  | 0, _ => EP.zero
  | n + 1, f => (gs C n f).add C (f n)
theorem gs_congr {n : Nat} {f g : Nat → EP b} (h : ∀ i, i < n → f i = g i) : gs C n f = gs C n g := by
  induction n with
  | zero => rfl
  | succ n ih =>
    show (gs C n f).add C (f n) = (gs C n g).add C (g n)
    rw [ih (fun i hi => h i (by omega)), h n (by omega)]
theorem EP.swap4 (P Q R S : EP b) : (P.add C Q).add C (R.add C S) = (P.add C R).add C (Q.add C S) := by
  rw [EP.add_assoc, EP.add_assoc, ← EP.add_assoc C Q R S, EP.add_comm C Q R, EP.add_assoc C R Q S]
theorem EP.swap3 (P Q R : EP b) : (P.add C Q).add C R = (P.add C R).add C Q := by
  rw [EP.add_assoc, EP.add_assoc, EP.add_comm C Q R]
theorem gs_zero (n : Nat) : gs C n (fun _ => (EP.zero : EP b)) = EP.zero := by
  induction n with
  | zero => rfl
  | succ n ih => show (gs C n _).add C EP.zero = _; rw [ih, EP.add_zero]
theorem gs_add (n : Nat) (f g : Nat → EP b) : gs C n (fun i => (f i).add C (g i)) = (gs C n f).add C (gs C n g) := by
  induction n with
  | zero => exact (EP.add_zero C _).symm
  | succ n ih =>
    show (gs C n (fun i => (f i).add C (g i))).add C ((f n).add C (g n)) = _
    rw [ih, EP.swap4]
    rfl
theorem gs_times (n k : Nat) (f : Nat → EP b) : gs C n (fun i => EP.times C k (f i)) = EP.times C k (gs C n f) := by
  induction n with
  | zero => exact (EP.times_zero C k).symm
  | succ n ih =>
    show (gs C n (fun i => EP.times C k (f i))).add C (EP.times C k (f n)) = EP.times C k ((gs C n f).add C (f n))
    rw [ih, EP.times_sum]
theorem gs_const (n : Nat) (P : EP b) : gs C n (fun _ => P) = EP.times C n P := by
  induction n with
  | zero => rfl
  | succ n ih => show (gs C n _).add C P = (EP.times C n P).add C P; rw [ih]
theorem gs_first (n : Nat) (f : Nat → EP b) : gs C (n + 1) f = (f 0).add C (gs C n (fun i => f (i + 1))) := by
  induction n with
  | zero => show (EP.zero : EP b).add C (f 0) = (f 0).add C EP.zero; rw [EP.zero_add, EP.add_zero]
  | succ n ih =>
    show (gs C (n + 1) f).add C (f (n + 1)) = (f 0).add C ((gs C n (fun i => f (i + 1))).add C (f (n + 1)))
    rw [ih, EP.add_assoc]
theorem gs_put (n : Nat) (f g : Nat → EP b) {k : Nat} {P : EP b} (hk : k < n) (h1 : g k = (f k).add C P) (h : ∀ i, i < n → i ≠ k → g i = f i) : gs C n g = (gs C n f).add C P := by
  induction n with
  | zero => omega
  | succ n ih =>
    show (gs C n g).add C (g n) = ((gs C n f).add C (f n)).add C P
    by_cases e : n = k
    · subst e
      rw [gs_congr C (fun i hi => h i (by omega) (by omega)), h1, EP.add_assoc]
    · rw [ih (by omega) (fun i hi hne => h i (by omega) hne), h n (by omega) e, EP.swap3]
theorem gs_runs (m : Nat) (B : Nat → EP b) : gs C m (fun j => gs C (m - j) (fun i => B (j + i))) = gs C m (fun d => EP.times C (d + 1) (B d)) := by
  induction m with
  | zero => rfl
  | succ m ih =>
    show (gs C m (fun j => gs C (m + 1 - j) (fun i => B (j + i)))).add C (gs C (m + 1 - m) (fun i => B (m + i))) = (gs C m (fun d => EP.times C (d + 1) (B d))).add C ((EP.times C m (B m)).add C (B m))
    have e1 : gs C m (fun j => gs C (m + 1 - j) (fun i => B (j + i))) = (gs C m (fun j => gs C (m - j) (fun i => B (j + i)))).add C (gs C m (fun _ => B m)) := by
      rw [← gs_add]
      refine gs_congr C (fun j hj => ?_)
      rw [show m + 1 - j = (m - j) + 1 by omega]
      show (gs C (m - j) (fun i => B (j + i))).add C (B (j + (m - j))) = _
      rw [show j + (m - j) = m by omega]
    have e2 : gs C (m + 1 - m) (fun i => B (m + i)) = B m := by
      rw [show m + 1 - m = 0 + 1 by omega]
      show (EP.zero : EP b).add C (B (m + 0)) = _
      rw [EP.zero_add, Nat.add_zero]
    rw [e1, e2, ih, gs_const, EP.add_assoc]
end
end Cv
end

section
open Go.RowKit Cv
theorem gs_rev (n : Nat) (f : Nat → E1) : gs C1 n f = gs C1 n (fun i => f (n - 1 - i)) := by
  induction n generalizing f with
  | zero => rfl
  | succ n ih =>
    rw [gs_first, ih (fun i => f (i + 1)), EP.add_comm]
    show _ = (gs C1 n (fun i => f (n + 1 - 1 - i))).add C1 (f (n + 1 - 1 - n))
    rw [show n + 1 - 1 - n = 0 by omega]
    congr 1
    exact gs_congr C1 fun i hi => by rw [show n + 1 - 1 - i = n - 1 - i + 1 by omega]
theorem abF_gs (B : Nat → E1) (n : Nat) : ∀ q, q ≤ n → abF B n q = gs C1 q (fun i => B (n - q + i))
  | 0, _ => rfl
  | q + 1, h => by
    show (abF B n q).add C1 (B (n - 1 - q)) = _
    rw [abF_gs B n q (by omega), gs_first, EP.add_comm, show n - (q + 1) + 0 = n - 1 - q by omega]
    congr 1
    exact gs_congr C1 fun i _ => by rw [show n - (q + 1) + (i + 1) = n - q + i by omega]
theorem smF_gs (B : Nat → E1) (n : Nat) : ∀ q, smF B n q = gs C1 q (fun t => abF B n (t + 1))
  | 0 => rfl
  | q + 1 => by
    show (smF B n q).add C1 (abF B n (q + 1)) = _
    rw [smF_gs B n q]
    rfl
theorem smF_all (B : Nat → E1) (n : Nat) : smF B n n = gs C1 n (fun d => EP.times C1 (d + 1) (B d)) := by
  rw [smF_gs, gs_rev, ← gs_runs]
  refine gs_congr C1 fun j hj => ?_
  rw [abF_gs B n _ (by omega), show n - 1 - j + 1 = n - j by omega]
  exact gs_congr C1 fun i _ => by rw [show n - (n - j) + i = j + i by omega]
theorem bkF_all (S : Nat → E1) (D : Nat → Nat) (n : Nat) : ∀ m, (∀ i, i < m → D i ≤ n) → gs C1 n (fun d => EP.times C1 (d + 1) (bkF S D (fun _ => Z1) m d)) = gs C1 m (fun i => EP.times C1 (D i) (S i))
  | 0, _ => by
    show gs C1 n (fun d => EP.times C1 (d + 1) (EP.zero : E1)) = EP.zero
    exact (gs_congr C1 fun i _ => EP.times_zero C1 _).trans (gs_zero C1 n)
  | m + 1, h => by
    have ih := bkF_all S D n m (fun i hi => h i (by omega))
    show _ = (gs C1 m (fun i => EP.times C1 (D i) (S i))).add C1 (EP.times C1 (D m) (S m))
    rw [← ih]
    rcases Nat.eq_zero_or_pos (D m) with hd | hd
    · rw [bkF_none S D _ m hd, hd]
      exact (EP.add_zero C1 _).symm
    · refine gs_put C1 n _ _ (k := D m - 1) (by have := h m (by omega); omega) ?_ ?_
      · show EP.times C1 (D m - 1 + 1) (bkF S D (fun _ => Z1) (m + 1) (D m - 1)) = _
        rw [bkF_here S D _ m hd, EP.times_sum, show D m - 1 + 1 = D m by omega]
      · intro i _ hne
        show EP.times C1 (i + 1) (bkF S D (fun _ => Z1) (m + 1) i) = EP.times C1 (i + 1) (bkF S D (fun _ => Z1) m i)
        rw [bkF_other S D _ m i hne]
def dgF (A : Nat → Nat) (wd p q : Nat) : Nat → Nat := fun i => A i / 2 ^ ((p - 1 - q) * wd) % 2 ^ wd
def suF (S : Nat → E1) (A : Nat → Nat) (m wd p : Nat) : Nat → E1
  | 0 => Z1
  | q + 1 => (EP.times C1 (2 ^ wd) (suF S A m wd p q)).add C1 (smF (bkF S (dgF A wd p q) (fun _ => Z1) m) (2 ^ wd - 1) (2 ^ wd - 1))
theorem suF_gs (S : Nat → E1) (A : Nat → Nat) (m wd p : Nat) (hA : ∀ i, i < m → A i < 2 ^ (p * wd)) : ∀ q, q ≤ p → suF S A m wd p q = gs C1 m (fun i => EP.times C1 (A i / 2 ^ ((p - q) * wd)) (S i))
  | 0, _ => by
    refine ((gs_congr C1 fun i hi => ?_).trans (gs_zero C1 m)).symm
    rw [Nat.sub_zero, Nat.div_eq_of_lt (hA i hi)]
    rfl
  | q + 1, h => by
    have hp := Nat.two_pow_pos wd
    show (EP.times C1 (2 ^ wd) (suF S A m wd p q)).add C1 (smF _ _ _) = _
    rw [suF_gs S A m wd p hA q (by omega), smF_all, bkF_all S _ _ m (fun i _ => by have := Nat.mod_lt (A i / 2 ^ ((p - 1 - q) * wd)) hp; show _ % _ ≤ _; omega), ← gs_times, ← gs_add]
    refine gs_congr C1 fun i _ => ?_
    rw [← EP.times_mul, ← EP.times_add]
    congr 1
    show 2 ^ wd * (A i / 2 ^ ((p - q) * wd)) + A i / 2 ^ ((p - 1 - q) * wd) % 2 ^ wd = _
    rw [show (p - q) * wd = (p - 1 - q) * wd + wd by rw [← Nat.succ_mul]; congr 1; omega, Nat.pow_add, ← Nat.div_div_eq_div_mul, show p - (q + 1) = p - 1 - q by omega]
    exact Nat.div_add_mod _ _
theorem suF_all (S : Nat → E1) (A : Nat → Nat) (m wd p : Nat) (hA : ∀ i, i < m → A i < 2 ^ (p * wd)) : suF S A m wd p p = sumE1 S A m := by
  rw [suF_gs S A m wd p hA p (Nat.le_refl p)]
  have key : ∀ k, gs C1 k (fun i => EP.times C1 (A i / 2 ^ ((p - p) * wd)) (S i)) = sumE1 S A k := by
    intro k
    induction k with
    | zero => rfl
    | succ k ih =>
      show (gs C1 k _).add C1 (EP.times C1 (A k / 2 ^ ((p - p) * wd)) (S k)) = (sumE1 S A k).add C1 (EP.times C1 (A k) (S k))
      rw [ih, Nat.sub_self, Nat.zero_mul, Nat.pow_zero, Nat.div_one]
  exact key m
end
end

section
open Go.RowKit Cv
section
variable {ρ : Operand → Value} {d : Option Tmp} {ty0 : TypeId} {pos : String} {after : Array Edge} {guard : Option (Nat × Bool)} {w : World}
theorem ex_mkI {b : Nat} (hi : ∃ i, Try.prog.info? 3 = some i ∧ i.bytes = b) (hb1 : b ≤ 1000)
    {x y : Operand} {m : Nat} (hx : ρ x = .int .i64 (m : Int)) (hy : ρ y = .int .i64 (m : Int)) (hm : m ≤ 5000) :
    (execOp ρ ⟨d, .makeSlice 89 x y, ty0, pos, after, guard⟩).run Try.prog w = .ok (.value (.slice (some ⟨w.heap.size, 0, none⟩) m m)) (w.alloc (.cells (segs (ints (fun _ => 0) m)).toArray 3)) := by
  obtain ⟨i, hi, hb⟩ := hi
  have hmb : m * b ≤ 5000 * 1000 := Nat.mul_le_mul hm hb1
  have hmbI : (b : Int) * (m : Int) = ((m * b : Nat) : Int) := by rw [Int.natCast_mul, Int.mul_comm]
  have w1 : IntKind.i64.wrap (m : Int) = (m : Int) := by rw [IntKind.wrap_i64]; omega
  have t1 : ¬ ((m : Int) < 0) := by omega
  have t2 : ¬ ((b : Int) * (m : Int) > 2 ^ 48) := by rw [hmbI]; omega
  have t4 : ¬ ((m : Int) > (m : Int)) := by omega
  have hroom : (askRoom (m * b)).run Try.prog w = .ok () w := by
    have : ¬ (m * b > roomBytes) := by unfold roomBytes; omega
    simp [askRoom, this]
  by_cases h0 : m * 1 = 0
  · have hm0 : m = 0 := by omega
    have hrow : (Array.range 0).map ((#[] : Array Value)[· % (#[] : Array Value).size]!) = (segs (ints (fun _ => 0) m)).toArray := by
      subst hm0
      simp [cat, segs]
    simp only [execOp, Instr.makeSlice, Sem.run_bind, hx, hy, run_underlying Try.underlying89 w, Result.andThen_ok, asInt, asIntOf, Sem.run_pure, run_inf hi w, hb, w1, decide_eq_false t1, decide_eq_false t4, decide_eq_false t2, Bool.or_false, Bool.false_eq_true, if_false, Int.toNat_natCast, hroom, sgInt.2 w, h0, if_true, hrow]
    rfl
  · have hrow : (Array.range (m * 1)).map (fun i => (#[Value.int .i64 0] : Array Value)[i % (#[Value.int .i64 0] : Array Value).size]!) = (segs (ints (fun _ => 0) m)).toArray := made_row (z := [.i .i64 0]) (n := 1) rfl (by decide) m
    have hcells : (Value.int .i64 0).cells = #[.int .i64 0] := rfl
    simp only [execOp, Instr.makeSlice, Sem.run_bind, hx, hy, run_underlying Try.underlying89 w, Result.andThen_ok, asInt, asIntOf, Sem.run_pure, run_inf hi w, hb, w1, decide_eq_false t1, decide_eq_false t4, decide_eq_false t2, Bool.or_false, Bool.false_eq_true, if_false, Int.toNat_natCast, hroom, sgInt.2 w, h0, if_false, Try.zeroValue3 w, hcells, hrow]
    rfl
theorem ex_shlV {t t2 : TypeId} {x y : Operand} {a : Int} {s : Nat} (hx : ρ x = .int .u64 a) (hy : ρ y = .int .i64 (s : Int)) (hs : s ≤ 64) (r : Int) (hr : IntKind.u64.wrap (a * 2 ^ s) = r) :
    (execOp ρ ⟨d, .binOp .shl t x y t2, ty0, pos, after, guard⟩).run Try.prog w = .ok (.value (.int .u64 r)) w := by
  have h1 : ¬ ((s : Int) < 0) := by omega
  have h2 : min (s : Int).toNat IntKind.u64.bits = s := by
    rw [Int.toNat_natCast]
    exact Nat.min_eq_left hs
  simp only [execOp, hx, hy, eqGuard, binOp, Op.shift, Sem.run_bind]
  rw [if_neg h1, h2, hr]
  simp
end
theorem info_int : ∃ i, Try.prog.info? 3 = some i ∧ i.bytes = 8 := inf_of (by kernel_rfl)
theorem imul_nat {a b : Nat} (h : a * b ≤ 1000) : IntKind.i64.wrap ((a : Int) * (b : Int)) = ((a * b : Nat) : Int) := by
  rw [← Int.natCast_mul]
  generalize a * b = q at *
  exact wrapI64 (by omega) (by omega)
theorem shl_oneU {d : Nat} (h : d ≤ 9) : IntKind.u64.wrap (1 * 2 ^ d) = ((2 ^ d : Nat) : Int) := by
  have : 2 ^ d ≤ 2 ^ 9 := Nat.pow_le_pow_right (by decide) h
  have e : (1 : Int) * 2 ^ d = ((2 ^ d : Nat) : Int) := by rw [Int.one_mul, Int.natCast_pow]; rfl
  rw [e]
  generalize 2 ^ d = q at *
  exact wrap64 (by omega) (by omega)
def dgH (A : Nat → Nat) (wd p : Nat) : Nat → Nat → Nat
  | 0 => fun _ => 0
  | q + 1 => dgF A wd p q
def bkH (S : Nat → E1) (A : Nat → Nat) (m wd p : Nat) : Nat → Nat → List Seg
  | 0 => fun _ => [.n 6 0, .n 6 0, .b false]
  | q + 1 => fun d => pt1 (bkF S (dgF A wd p q) (fun _ => Z1) m d)
theorem bkH_size (S : Nat → E1) (A : Nat → Nat) (m wd p q i : Nat) : ssize (bkH S A m wd p q i) = 13 := by
  cases q <;> rfl
set_option maxRecDepth 20000 in
set_option maxHeartbeats 4000000 in
theorem suplc_v (m : Nat) (hm : m ≤ 4096) (hm0 : 0 < m) (S : Nat → E1) (A : Nat → Nat) (ap ak : Option Addr) (cp ck : Nat) (HA : ∀ i, i < m → A i < frB) (wd p : Nat) (h9 : wd ≤ 9) (hp : p ≤ 264) (hpw : p * wd ≤ 264) (hw : ∀ w, Calls Try.prog 58 #[.int .i64 ((m : Nat) : Int)] w (Is (.int .i64 ((wd : Nat) : Int)) w)) (hpl : ∀ (ak : Option Addr) (ck : Nat) (w : World), Row w ak 4 m (fun i => [.n 4 (A i)]) → Calls Try.prog 60 #[.slice ak m ck, .int .i64 ((wd : Nat) : Int)] w (Is (.int .i64 ((p : Nat) : Int)) w)) (w : World) (HP : Row w ap 13 m (fun i => pt1 (S i))) (HK : Row w ak 4 m (fun i => [.n 4 (A i)])) :
    Calls Try.prog 36 #[sv [.v (.func (.func 6) #[] #[]), .v (.func (.func 10) #[] #[]), .v (.func (.func 12) #[] #[]), .v (.func (.func 11) #[] #[]), .i .i64 32], .slice ap m cp, .slice ak m ck] w (Is (sv [.n 6 (ax (((suF S A m wd p p)).pt)), .n 6 (ay (((suF S A m wd p p)).pt)), .b (ai (((suF S A m wd p p)).pt))]) w) := by
  have hp9 : 2 ^ wd ≤ 2 ^ 9 := Nat.pow_le_pow_right (by decide) h9
  have hp1 : 0 < 2 ^ wd := Nat.two_pow_pos wd
  have hn9 : 2 ^ wd - 1 < 1000 := by omega
  have hw64 : 2 ^ wd < 2 ^ 64 := by omega
  have hwB : 2 ^ wd < frB := Nat.lt_of_lt_of_le hw64 (by rw [frB_eq]; decide)
  go_enter Try.func36, Try.ntmps36
  refine wp_seq (region_c 2 (fun j_ => match j_ with | 0 => 47 | _ => 28) (fun j_ => match j_ with | 0 => 0 | _ => 1) (fun j_ => match j_ with | 0 => 0 | _ => 1) (fun j_ => match j_ with | 0 => segs [.v (.func (.func 6) #[] #[]), .v (.func (.func 10) #[] #[]), .v (.func (.func 12) #[] #[]), .v (.func (.func 11) #[] #[]), .i .i64 32] | _ => segs [.n 6 0, .n 6 0, .b false]) (fun j_ => match j_ with | 0 => segs [.v (.func (.func 6) #[] #[]), .v (.func (.func 10) #[] #[]), .v (.func (.func 12) #[] #[]), .v (.func (.func 11) #[] #[]), .i .i64 32] | _ => segs [.n 6 0, .n 6 0, .b false]) [3, 6] (fun γ => [.pointer (some ⟨γ 0, 0, none⟩), .pointer (some ⟨γ 1, 0, none⟩)]) ?_ ?_)
  · refine GSteps.cons (gm_box 0 rfl (fun _ => rfl) (fun _ _ => rfl) (fun γ w h => ex_boxs (l := [.v (.func (.func 6) #[] #[]), .v (.func (.func 10) #[] #[]), .v (.func (.func 12) #[] #[]), .v (.func (.func 11) #[] #[]), .i .i64 32]) rfl) rfl rfl rfl) ?_
    refine GSteps.cons (gm_box 1 rfl (fun _ => rfl) (fun _ _ => rfl) (fun γ w h => ex_allocs (l := [.n 6 0, .n 6 0, .b false]) zG1) rfl rfl rfl) ?_
    exact GSteps.nil
  intro γ1 w1 hb1 hB1 hn1
  refine th_r ?_
  have A2 : SB 47 w1 (γ1 0) [.v (.func (.func 6) #[] #[]), .v (.func (.func 10) #[] #[]), .v (.func (.func 12) #[] #[]), .v (.func (.func 11) #[] #[]), .i .i64 32] := (hB1 0 (by decide)).2
  have le2 := (hB1 0 (by decide)).1
  have A3 : SB 28 w1 (γ1 1) [.n 6 0, .n 6 0, .b false] := (hB1 1 (by decide)).2
  have le3 := (hB1 1 (by decide)).1
  have HB4 := below_then (Below.refl w.heap.size w) hb1.out
  refine seq_lit ?_
  refine sv1 (.slice ap m cp) (ex_move _) ?_
  refine sv1 (.int .i64 ((m : Nat) : Int)) (ex_lenR slP1 (m := m) rfl) ?_
  refine sc1 (.int .i64 ((wd : Nat) : Int)) (ex_call (vs := [.int .i64 ((m : Nat) : Int)]) rfl Try.call58 rfl) (hw _) ?_
  intro w7 hb7
  have A8 := A2.keep hb7
  have A9 := A3.keep hb7
  have HB10 := below_then HB4 hb7
  refine sv1 (.int .i64 ((wd : Nat) : Int)) (ex_assign _) ?_
  refine seq_nil ?_
  refine seq_lit ?_
  refine sv1 (.slice ak m ck) (ex_move _) ?_
  refine sv1 (.int .i64 ((m : Nat) : Int)) (ex_lenR slR1 (m := m) rfl) ?_
  refine sq_newR (ty := 3) (l := (ints (fun _ => 0) m)) (val := fun g14 => .slice (some ⟨g14, 0, none⟩) m m) (a' := fun g14 => ⟨List.toArray ((sv [.v (.func (.func 6) #[] #[]), .v (.func (.func 10) #[] #[]), .v (.func (.func 12) #[] #[]), .v (.func (.func 11) #[] #[]), .i .i64 32]) :: (.slice ap m cp) :: (.slice ak m ck) :: (.pointer (some ⟨(γ1 0), 0, none⟩)) :: undef :: undef :: (.pointer (some ⟨(γ1 1), 0, none⟩)) :: (.int .i64 ((wd : Nat) : Int)) :: undef :: undef :: undef :: undef :: (.slice ap m cp) :: (.int .i64 ((m : Nat) : Int)) :: (.int .i64 ((wd : Nat) : Int)) :: (.slice ak m ck) :: (.int .i64 ((m : Nat) : Int)) :: (.slice (some ⟨g14, 0, none⟩) m m) :: undef :: undef :: undef :: undef :: undef :: undef :: undef :: undef :: undef :: undef :: undef :: undef :: undef :: undef :: undef :: undef :: undef :: undef :: undef :: undef :: undef :: undef :: undef :: undef :: undef :: undef :: undef :: undef :: undef :: undef :: undef :: undef :: undef :: undef :: undef :: undef :: undef :: undef :: []), []⟩) rfl (fun _ => rfl) (ex_mkI info_int (by decide) rfl rfl (by omega)) ?_
  intro g14 w14 N14 le14 hb14
  have A15 := A8.keep hb14
  have A16 := A9.keep hb14
  have HB17 := below_then HB10 hb14
  refine sv1 (.slice (some ⟨g14, 0, none⟩) m m) (ex_assign _) ?_
  refine seq_nil ?_
  refine seq_lit ?_
  refine sv1 (sv [.v (.func (.func 6) #[] #[]), .v (.func (.func 10) #[] #[]), .v (.func (.func 12) #[] #[]), .v (.func (.func 11) #[] #[]), .i .i64 32]) (ex_loads 0 5 (m := [.v (.func (.func 6) #[] #[]), .v (.func (.func 10) #[] #[]), .v (.func (.func 12) #[] #[]), .v (.func (.func 11) #[] #[]), .i .i64 32]) flSc1 rfl rfl A15 rfl rfl) ?_
  refine sv1 (.int .i64 ((wd : Nat) : Int)) (ex_move _) ?_
  refine sq_makes (a' := fun g21 => ⟨List.toArray ((sv [.v (.func (.func 6) #[] #[]), .v (.func (.func 10) #[] #[]), .v (.func (.func 12) #[] #[]), .v (.func (.func 11) #[] #[]), .i .i64 32]) :: (.slice ap m cp) :: (.slice ak m ck) :: (.pointer (some ⟨(γ1 0), 0, none⟩)) :: undef :: undef :: (.pointer (some ⟨(γ1 1), 0, none⟩)) :: (.int .i64 ((wd : Nat) : Int)) :: (.slice (some ⟨g14, 0, none⟩) m m) :: undef :: undef :: undef :: (.slice ap m cp) :: (.int .i64 ((m : Nat) : Int)) :: (.int .i64 ((wd : Nat) : Int)) :: (.slice ak m ck) :: (.int .i64 ((m : Nat) : Int)) :: (.slice (some ⟨g14, 0, none⟩) m m) :: (sv [.v (.func (.func 6) #[] #[]), .v (.func (.func 10) #[] #[]), .v (.func (.func 12) #[] #[]), .v (.func (.func 11) #[] #[]), .i .i64 32]) :: (.int .i64 ((wd : Nat) : Int)) :: (sv [.v (.func (.func 6) #[] #[]), .v (.func (.func 10) #[] #[]), .v (.func (.func 12) #[] #[]), .v (.func (.func 11) #[] #[]), .i .i64 32, .v (.slice (some ⟨g21, 0, none⟩) ((2 ^ wd - 1)) ((2 ^ wd - 1)))]) :: undef :: undef :: undef :: undef :: undef :: undef :: undef :: undef :: undef :: undef :: undef :: undef :: undef :: undef :: undef :: undef :: undef :: undef :: undef :: undef :: undef :: undef :: undef :: undef :: undef :: undef :: undef :: undef :: undef :: undef :: undef :: undef :: undef :: undef :: undef :: []), []⟩) (val := fun g21 => sv [.v (.func (.func 6) #[] #[]), .v (.func (.func 10) #[] #[]), .v (.func (.func 12) #[] #[]), .v (.func (.func 11) #[] #[]), .i .i64 32, .v (.slice (some ⟨g21, 0, none⟩) ((2 ^ wd - 1)) ((2 ^ wd - 1)))]) (T := 28) (l := (cat (fun _ => [.n 6 0, .n 6 0, .b false]) (2 ^ wd - 1))) (fun _ => rfl) rfl (ex_call (vs := [sv [.v (.func (.func 6) #[] #[]), .v (.func (.func 10) #[] #[]), .v (.func (.func 12) #[] #[]), .v (.func (.func 11) #[] #[]), .i .i64 32], .int .i64 ((wd : Nat) : Int)]) rfl Try.call59 rfl) (sunew_v wd h9 _) ?_
  intro g21 w21 N21 le21 hb21
  have A22 := A15.keep hb21
  have A23 := A16.keep hb21
  have A24 := N14.keep hb21
  have HB25 := below_then HB17 hb21
  refine sq_block (a' := fun g26 => ⟨List.toArray ((sv [.v (.func (.func 6) #[] #[]), .v (.func (.func 10) #[] #[]), .v (.func (.func 12) #[] #[]), .v (.func (.func 11) #[] #[]), .i .i64 32]) :: (.slice ap m cp) :: (.slice ak m ck) :: (.pointer (some ⟨(γ1 0), 0, none⟩)) :: undef :: undef :: (.pointer (some ⟨(γ1 1), 0, none⟩)) :: (.int .i64 ((wd : Nat) : Int)) :: (.slice (some ⟨g14, 0, none⟩) m m) :: (.pointer (some ⟨g26, 0, none⟩)) :: undef :: undef :: (.slice ap m cp) :: (.int .i64 ((m : Nat) : Int)) :: (.int .i64 ((wd : Nat) : Int)) :: (.slice ak m ck) :: (.int .i64 ((m : Nat) : Int)) :: (.slice (some ⟨g14, 0, none⟩) m m) :: (sv [.v (.func (.func 6) #[] #[]), .v (.func (.func 10) #[] #[]), .v (.func (.func 12) #[] #[]), .v (.func (.func 11) #[] #[]), .i .i64 32]) :: (.int .i64 ((wd : Nat) : Int)) :: (sv [.v (.func (.func 6) #[] #[]), .v (.func (.func 10) #[] #[]), .v (.func (.func 12) #[] #[]), .v (.func (.func 11) #[] #[]), .i .i64 32, .v (.slice (some ⟨g21, 0, none⟩) ((2 ^ wd - 1)) ((2 ^ wd - 1)))]) :: undef :: undef :: undef :: undef :: undef :: undef :: undef :: undef :: undef :: undef :: undef :: undef :: undef :: undef :: undef :: undef :: undef :: undef :: undef :: undef :: undef :: undef :: undef :: undef :: undef :: undef :: undef :: undef :: undef :: undef :: undef :: undef :: undef :: undef :: undef :: []), []⟩) rfl (fun _ => rfl) (ex_allocs (l := [.v (.nilFunc), .v (.nilFunc), .v (.nilFunc), .v (.nilFunc), .i .i64 0, .v (.slice none 0 0)]) zBu) ?_
  intro g26 w26 N26 le26 hb26
  have A27 := A22.keep hb26
  have A28 := A23.keep hb26
  have A29 := A24.keep hb26
  have A30 := N21.keep hb26
  have HB31 := below_then HB25 hb26
  refine ss1 (ex_stores 0 6 (l := [.v (.nilFunc), .v (.nilFunc), .v (.nilFunc), .v (.nilFunc), .i .i64 0, .v (.slice none 0 0)]) (m := [.v (.func (.func 6) #[] #[]), .v (.func (.func 10) #[] #[]), .v (.func (.func 12) #[] #[]), .v (.func (.func 11) #[] #[]), .i .i64 32, .v (.slice (some ⟨g21, 0, none⟩) ((2 ^ wd - 1)) ((2 ^ wd - 1)))]) flBu.2 rfl rfl rfl rfl N26 rfl rfl) ?_
  intro w32 hs32
  have A33 := hs32.other (Nat.ne_of_lt (Nat.lt_of_lt_of_le A22.lt le26)) A27
  have A34 := hs32.other (Nat.ne_of_lt (Nat.lt_of_lt_of_le A23.lt le26)) A28
  have A35 := hs32.other (Nat.ne_of_lt (Nat.lt_of_lt_of_le A24.lt le26)) A29
  have A36 := hs32.other (Nat.ne_of_lt (Nat.lt_of_lt_of_le N21.lt le26)) A30
  have A37 := hs32.here 0 6 (l' := [.v (.func (.func 6) #[] #[]), .v (.func (.func 10) #[] #[]), .v (.func (.func 12) #[] #[]), .v (.func (.func 11) #[] #[]), .i .i64 32, .v (.slice (some ⟨g21, 0, none⟩) ((2 ^ wd - 1)) ((2 ^ wd - 1)))]) N26 rfl rfl rfl
  have HB38 := hs32.below HB31 (Nat.le_trans HB25.size le26)
  refine seq_nil ?_
  refine seq_lit ?_
  refine sv1 (.pointer (some ⟨(γ1 0), 1, none⟩)) (ex_field faSc1_1 rfl) ?_
  refine sv1 (.func (.func 10) #[] #[]) (ex_load1 1 (s := .v (.func (.func 10) #[] #[])) (v := .func (.func 10) #[] #[]) sgF1_1 rfl A33 rfl rfl rfl) ?_
  refine sc1 (sv [.n 6 (ax Z1.pt), .n 6 (ay Z1.pt), .b (ai Z1.pt)]) (ex_call (vs := []) rfl Try.call10 rfl) (oneZero_p _) ?_
  intro w41 hb41
  have A42 := A33.keep hb41
  have A43 := A34.keep hb41
  have A44 := A35.keep hb41
  have A45 := A36.keep hb41
  have A46 := A37.keep hb41
  have HB47 := below_then HB38 hb41
  refine sq_block (a' := fun g48 => ⟨List.toArray ((sv [.v (.func (.func 6) #[] #[]), .v (.func (.func 10) #[] #[]), .v (.func (.func 12) #[] #[]), .v (.func (.func 11) #[] #[]), .i .i64 32]) :: (.slice ap m cp) :: (.slice ak m ck) :: (.pointer (some ⟨(γ1 0), 0, none⟩)) :: undef :: undef :: (.pointer (some ⟨(γ1 1), 0, none⟩)) :: (.int .i64 ((wd : Nat) : Int)) :: (.slice (some ⟨g14, 0, none⟩) m m) :: (.pointer (some ⟨g26, 0, none⟩)) :: (.pointer (some ⟨g48, 0, none⟩)) :: undef :: (.slice ap m cp) :: (.int .i64 ((m : Nat) : Int)) :: (.int .i64 ((wd : Nat) : Int)) :: (.slice ak m ck) :: (.int .i64 ((m : Nat) : Int)) :: (.slice (some ⟨g14, 0, none⟩) m m) :: (sv [.v (.func (.func 6) #[] #[]), .v (.func (.func 10) #[] #[]), .v (.func (.func 12) #[] #[]), .v (.func (.func 11) #[] #[]), .i .i64 32]) :: (.int .i64 ((wd : Nat) : Int)) :: (sv [.v (.func (.func 6) #[] #[]), .v (.func (.func 10) #[] #[]), .v (.func (.func 12) #[] #[]), .v (.func (.func 11) #[] #[]), .i .i64 32, .v (.slice (some ⟨g21, 0, none⟩) ((2 ^ wd - 1)) ((2 ^ wd - 1)))]) :: (.pointer (some ⟨(γ1 0), 1, none⟩)) :: (.func (.func 10) #[] #[]) :: (sv [.n 6 (ax Z1.pt), .n 6 (ay Z1.pt), .b (ai Z1.pt)]) :: undef :: undef :: undef :: undef :: undef :: undef :: undef :: undef :: undef :: undef :: undef :: undef :: undef :: undef :: undef :: undef :: undef :: undef :: undef :: undef :: undef :: undef :: undef :: undef :: undef :: undef :: undef :: undef :: undef :: undef :: undef :: undef :: []), []⟩) rfl (fun _ => rfl) (ex_allocs (l := [.n 6 0, .n 6 0, .b false]) zG1) ?_
  intro g48 w48 N48 le48 hb48
  have A49 := A42.keep hb48
  have A50 := A43.keep hb48
  have A51 := A44.keep hb48
  have A52 := A45.keep hb48
  have A53 := A46.keep hb48
  have HB54 := below_then HB47 hb48
  refine ss1 (ex_stores 0 3 (l := [.n 6 0, .n 6 0, .b false]) (m := [.n 6 (ax Z1.pt), .n 6 (ay Z1.pt), .b (ai Z1.pt)]) flG1.2 rfl rfl rfl rfl N48 rfl rfl) ?_
  intro w55 hs55
  have A56 := hs55.other (Nat.ne_of_lt (Nat.lt_of_lt_of_le A42.lt le48)) A49
  have A57 := hs55.other (Nat.ne_of_lt (Nat.lt_of_lt_of_le A43.lt le48)) A50
  have A58 := hs55.other (Nat.ne_of_lt (Nat.lt_of_lt_of_le A44.lt le48)) A51
  have A59 := hs55.other (Nat.ne_of_lt (Nat.lt_of_lt_of_le A45.lt le48)) A52
  have A60 := hs55.other (Nat.ne_of_lt (Nat.lt_of_lt_of_le A46.lt le48)) A53
  have A61 := hs55.here 0 3 (l' := [.n 6 (ax Z1.pt), .n 6 (ay Z1.pt), .b (ai Z1.pt)]) N48 rfl rfl rfl
  have HB62 := hs55.below HB54 (Nat.le_trans HB47.size le48)
  refine seq_nil ?_
  refine wp_seq ?_
  refine seq_lit ?_
  refine sv1 (.slice ak m ck) (ex_move _) ?_
  refine sv1 (.int .i64 ((wd : Nat) : Int)) (ex_move _) ?_
  refine sc1 (.int .i64 ((p : Nat) : Int)) (ex_call (vs := [.slice ak m ck, .int .i64 ((wd : Nat) : Int)]) rfl Try.call60 rfl) (hpl ak ck _ (HK.keep HB62)) ?_
  intro w65 hb65
  have A66 := A56.keep hb65
  have A67 := A57.keep hb65
  have A68 := A58.keep hb65
  have A69 := A59.keep hb65
  have A70 := A60.keep hb65
  have A71 := A61.keep hb65
  have HB72 := below_then HB62 hb65
  refine sv1 (.int .i64 ((p : Int) - 1 - ((0 : Nat) : Int))) (ex_isub rfl rfl ((p : Int) - 1 - ((0 : Nat) : Int)) (by rw [wrapI64 (by omega) (by omega)]; omega)) ?_
  refine sv1 (.int .i64 ((p : Int) - 1 - ((0 : Nat) : Int))) (ex_assign _) ?_
  refine seq_nil ?_
  refine wp_block ?_
  refine wp_loop_by (p) (fun q_ a_ v_ => ∃ j28 j29 j30 j31 j32 j33 j34 j35 j36 j37 j38 j39 j40 j41 j42 j43 j44 j45 j46 j47 j48 j49 j50 j51 j52 j53 j54 : Value, a_ = ⟨List.toArray ((sv [.v (.func (.func 6) #[] #[]), .v (.func (.func 10) #[] #[]), .v (.func (.func 12) #[] #[]), .v (.func (.func 11) #[] #[]), .i .i64 32]) :: (.slice ap m cp) :: (.slice ak m ck) :: (.pointer (some ⟨(γ1 0), 0, none⟩)) :: undef :: undef :: (.pointer (some ⟨(γ1 1), 0, none⟩)) :: (.int .i64 ((wd : Nat) : Int)) :: (.slice (some ⟨g14, 0, none⟩) m m) :: (.pointer (some ⟨g26, 0, none⟩)) :: (.pointer (some ⟨g48, 0, none⟩)) :: (.int .i64 ((p : Int) - 1 - ((q_ : Nat) : Int))) :: (.slice ap m cp) :: (.int .i64 ((m : Nat) : Int)) :: (.int .i64 ((wd : Nat) : Int)) :: (.slice ak m ck) :: (.int .i64 ((m : Nat) : Int)) :: (.slice (some ⟨g14, 0, none⟩) m m) :: (sv [.v (.func (.func 6) #[] #[]), .v (.func (.func 10) #[] #[]), .v (.func (.func 12) #[] #[]), .v (.func (.func 11) #[] #[]), .i .i64 32]) :: (.int .i64 ((wd : Nat) : Int)) :: (sv [.v (.func (.func 6) #[] #[]), .v (.func (.func 10) #[] #[]), .v (.func (.func 12) #[] #[]), .v (.func (.func 11) #[] #[]), .i .i64 32, .v (.slice (some ⟨g21, 0, none⟩) ((2 ^ wd - 1)) ((2 ^ wd - 1)))]) :: (.pointer (some ⟨(γ1 0), 1, none⟩)) :: (.func (.func 10) #[] #[]) :: (sv [.n 6 (ax Z1.pt), .n 6 (ay Z1.pt), .b (ai Z1.pt)]) :: (.slice ak m ck) :: (.int .i64 ((wd : Nat) : Int)) :: (.int .i64 ((p : Nat) : Int)) :: (.int .i64 ((p : Int) - 1 - ((0 : Nat) : Int))) :: j28 :: j29 :: j30 :: j31 :: j32 :: j33 :: j34 :: j35 :: j36 :: j37 :: j38 :: j39 :: j40 :: j41 :: j42 :: j43 :: j44 :: j45 :: j46 :: j47 :: j48 :: j49 :: j50 :: j51 :: j52 :: j53 :: j54 :: undef :: []), []⟩ ∧ SB 47 v_ (γ1 0) [.v (.func (.func 6) #[] #[]), .v (.func (.func 10) #[] #[]), .v (.func (.func 12) #[] #[]), .v (.func (.func 11) #[] #[]), .i .i64 32] ∧ SB 28 v_ (γ1 1) [.n 6 0, .n 6 0, .b false] ∧ SB 3 v_ (g14) (ints (dgH A wd p q_) m) ∧ SB 28 v_ (g21) (cat (bkH S A m wd p q_) (2 ^ wd - 1)) ∧ SB 91 v_ (g26) [.v (.func (.func 6) #[] #[]), .v (.func (.func 10) #[] #[]), .v (.func (.func 12) #[] #[]), .v (.func (.func 11) #[] #[]), .i .i64 32, .v (.slice (some ⟨g21, 0, none⟩) ((2 ^ wd - 1)) ((2 ^ wd - 1)))] ∧ SB 28 v_ (g48) [.n 6 (ax (((suF S A m wd p q_)).pt)), .n 6 (ay (((suF S A m wd p q_)).pt)), .b (ai (((suF S A m wd p q_)).pt))] ∧ Below w.heap.size w v_) ⟨_, _, _, _, _, _, _, _, _, _, _, _, _, _, _, _, _, _, _, _, _, _, _, _, _, _, _, rfl, A66, A67, A68, A69, A70, A71, HB72⟩ ?_ ?_
  · intro k75 hk75
    rintro _ w75 ⟨i75_28, i75_29, i75_30, i75_31, i75_32, i75_33, i75_34, i75_35, i75_36, i75_37, i75_38, i75_39, i75_40, i75_41, i75_42, i75_43, i75_44, i75_45, i75_46, i75_47, i75_48, i75_49, i75_50, i75_51, i75_52, i75_53, i75_54, rfl, A75_0, A75_1, A75_2, A75_3, A75_4, A75_5, HB75⟩ K75 hK75
    have hmul : (p - 1 - k75) * wd ≤ 1000 := Nat.le_trans (Nat.mul_le_mul_right wd (show p - 1 - k75 ≤ p by omega)) (by omega)
    have en : (p : Int) - 1 - ((k75 : Nat) : Int) = ((p - 1 - k75 : Nat) : Int) := by omega
    rw [en]
    refine wp_seq ?_
    refine wp_seq (region_0 [28, 29] [.int .i64 ((p - 1 - k75 : Nat) : Int), .bool true] ?_ ?_)
    · refine stpx (fun _ _ => ex_move _) ?_
      refine stpx (fun _ _ => ex_igeq rfl rfl true (by rw [eq_comm, decide_eq_true_eq]; omega)) ?_
      exact GSteps.nil
    intro w76 hb76
    refine th_r ?_
    have A77 := A75_0.keep hb76.out
    have A78 := A75_1.keep hb76.out
    have A79 := A75_2.keep hb76.out
    have A80 := A75_3.keep hb76.out
    have A81 := A75_4.keep hb76.out
    have A82 := A75_5.keep hb76.out
    have HB83 := below_then HB75 hb76.out
    refine wp_cond_true rfl ?_
    refine wp_skip ?_
    refine th_r ?_
    refine wp_seq ?_
    refine wp_block ?_
    refine seq_lit ?_
    refine sv1 (.slice (some ⟨g14, 0, none⟩) m m) (ex_move _) ?_
    refine sv1 (.slice ak m ck) (ex_move _) ?_
    refine sv1 (.int .i64 ((p - 1 - k75 : Nat) : Int)) (ex_move _) ?_
    refine sv1 (.int .i64 ((wd : Nat) : Int)) (ex_move _) ?_
    refine sv1 (.int .i64 (((p - 1 - k75) * wd : Nat) : Int)) (ex_imul rfl rfl (((p - 1 - k75) * wd : Nat) : Int) (imul_nat hmul)) ?_
    refine sv1 (.int .i64 ((wd : Nat) : Int)) (ex_move _) ?_
    refine sk1 (.tuple #[]) (ex_call (vs := [.slice (some ⟨g14, 0, none⟩) m m, .slice ak m ck, .int .i64 (((p - 1 - k75) * wd : Nat) : Int), .int .i64 ((wd : Nat) : Int)]) rfl Try.call61 rfl) (sudig_v m hm hm0 A HA ak ck g14 ((p - 1 - k75) * wd) wd h9 (by have := hmul; omega) (dgH A wd p k75) _ A79 (fun w' hc => HK.keep (hc.under _ _ (Nat.le_trans HB10.size le14) (Nat.le_trans HB10.size le14) HB83.size HB83))) ?_
    rintro w90 ⟨hc90, N90_0⟩
    have A91 := hc90.kept _ _ _ (Nat.ne_of_lt (Nat.lt_of_lt_of_le A8.lt le14)) (Nat.ne_of_lt (Nat.lt_of_lt_of_le A8.lt le14)) A77
    have A92 := hc90.kept _ _ _ (Nat.ne_of_lt (Nat.lt_of_lt_of_le A9.lt le14)) (Nat.ne_of_lt (Nat.lt_of_lt_of_le A9.lt le14)) A78
    have A93 := hc90.kept _ _ _ (Ne.symm (Nat.ne_of_lt (Nat.lt_of_lt_of_le N14.lt le21))) (Ne.symm (Nat.ne_of_lt (Nat.lt_of_lt_of_le N14.lt le21))) A80
    have A94 := hc90.kept _ _ _ (Ne.symm (Nat.ne_of_lt (Nat.lt_of_lt_of_le A24.lt le26))) (Ne.symm (Nat.ne_of_lt (Nat.lt_of_lt_of_le A24.lt le26))) A81
    have A95 := hc90.kept _ _ _ (Ne.symm (Nat.ne_of_lt (Nat.lt_of_lt_of_le A44.lt le48))) (Ne.symm (Nat.ne_of_lt (Nat.lt_of_lt_of_le A44.lt le48))) A82
    have HB96 := hc90.below HB83 (Nat.le_trans HB10.size le14) (Nat.le_trans HB10.size le14) rfl
    refine seq_nil ?_
    refine seq_lit ?_
    refine sv1 (sv [.v (.func (.func 6) #[] #[]), .v (.func (.func 10) #[] #[]), .v (.func (.func 12) #[] #[]), .v (.func (.func 11) #[] #[]), .i .i64 32, .v (.slice (some ⟨g21, 0, none⟩) ((2 ^ wd - 1)) ((2 ^ wd - 1)))]) (ex_loads 0 6 (m := [.v (.func (.func 6) #[] #[]), .v (.func (.func 10) #[] #[]), .v (.func (.func 12) #[] #[]), .v (.func (.func 11) #[] #[]), .i .i64 32, .v (.slice (some ⟨g21, 0, none⟩) ((2 ^ wd - 1)) ((2 ^ wd - 1)))]) flBu rfl rfl A94 rfl rfl) ?_
    refine sk1 (.tuple #[]) (ex_call (vs := [sv [.v (.func (.func 6) #[] #[]), .v (.func (.func 10) #[] #[]), .v (.func (.func 12) #[] #[]), .v (.func (.func 11) #[] #[]), .i .i64 32, .v (.slice (some ⟨g21, 0, none⟩) ((2 ^ wd - 1)) ((2 ^ wd - 1)))]]) rfl Try.call62 rfl) (suempty_v (bkH S A m wd p k75) (bkH_size S A m wd p k75) (2 ^ wd - 1) g21 hn9 _ A93) ?_
    rintro w98 ⟨hc98, N98_0⟩
    have A99 := hc98.kept _ _ _ (Nat.ne_of_lt (Nat.lt_of_lt_of_le A15.lt le21)) (Nat.ne_of_lt (Nat.lt_of_lt_of_le A15.lt le21)) A91
    have A100 := hc98.kept _ _ _ (Nat.ne_of_lt (Nat.lt_of_lt_of_le A16.lt le21)) (Nat.ne_of_lt (Nat.lt_of_lt_of_le A16.lt le21)) A92
    have A101 := hc98.kept _ _ _ (Nat.ne_of_lt (Nat.lt_of_lt_of_le N14.lt le21)) (Nat.ne_of_lt (Nat.lt_of_lt_of_le N14.lt le21)) N90_0
    have A102 := hc98.kept _ _ _ (Ne.symm (Nat.ne_of_lt (Nat.lt_of_lt_of_le N21.lt le26))) (Ne.symm (Nat.ne_of_lt (Nat.lt_of_lt_of_le N21.lt le26))) A94
    have A103 := hc98.kept _ _ _ (Ne.symm (Nat.ne_of_lt (Nat.lt_of_lt_of_le A45.lt le48))) (Ne.symm (Nat.ne_of_lt (Nat.lt_of_lt_of_le A45.lt le48))) A95
    have HB104 := hc98.below HB96 (Nat.le_trans HB17.size le21) (Nat.le_trans HB17.size le21) rfl
    refine seq_nil ?_
    refine seq_lit ?_
    refine sv1 (sv [.v (.func (.func 6) #[] #[]), .v (.func (.func 10) #[] #[]), .v (.func (.func 12) #[] #[]), .v (.func (.func 11) #[] #[]), .i .i64 32, .v (.slice (some ⟨g21, 0, none⟩) ((2 ^ wd - 1)) ((2 ^ wd - 1)))]) (ex_loads 0 6 (m := [.v (.func (.func 6) #[] #[]), .v (.func (.func 10) #[] #[]), .v (.func (.func 12) #[] #[]), .v (.func (.func 11) #[] #[]), .i .i64 32, .v (.slice (some ⟨g21, 0, none⟩) ((2 ^ wd - 1)) ((2 ^ wd - 1)))]) flBu rfl rfl A102 rfl rfl) ?_
    refine sv1 (.slice ap m cp) (ex_move _) ?_
    refine sv1 (.slice (some ⟨g14, 0, none⟩) m m) (ex_move _) ?_
    refine sk1 (.tuple #[]) (ex_call (vs := [sv [.v (.func (.func 6) #[] #[]), .v (.func (.func 10) #[] #[]), .v (.func (.func 12) #[] #[]), .v (.func (.func 11) #[] #[]), .i .i64 32, .v (.slice (some ⟨g21, 0, none⟩) ((2 ^ wd - 1)) ((2 ^ wd - 1)))], .slice ap m cp, .slice (some ⟨g14, 0, none⟩) m m]) rfl Try.call63 rfl) (sufill_v S (dgF A wd p k75) (fun _ => Z1) m (2 ^ wd - 1) g21 g14 hm hn9 (fun i _ => Nat.le_sub_one_of_lt (Nat.mod_lt _ (Nat.two_pow_pos wd))) ap cp (Ne.symm (Nat.ne_of_lt (Nat.lt_of_lt_of_le N14.lt le21))) _ N98_0 A101 (fun w' hc => HP.keep (hc.under _ _ (Nat.le_trans HB17.size le21) (Nat.le_trans HB17.size le21) HB104.size HB104))) ?_
    rintro w108 ⟨hc108, N108_0⟩
    have A109 := hc108.kept _ _ _ (Nat.ne_of_lt (Nat.lt_of_lt_of_le A15.lt le21)) (Nat.ne_of_lt (Nat.lt_of_lt_of_le A15.lt le21)) A99
    have A110 := hc108.kept _ _ _ (Nat.ne_of_lt (Nat.lt_of_lt_of_le A16.lt le21)) (Nat.ne_of_lt (Nat.lt_of_lt_of_le A16.lt le21)) A100
    have A111 := hc108.kept _ _ _ (Nat.ne_of_lt (Nat.lt_of_lt_of_le N14.lt le21)) (Nat.ne_of_lt (Nat.lt_of_lt_of_le N14.lt le21)) A101
    have A112 := hc108.kept _ _ _ (Ne.symm (Nat.ne_of_lt (Nat.lt_of_lt_of_le N21.lt le26))) (Ne.symm (Nat.ne_of_lt (Nat.lt_of_lt_of_le N21.lt le26))) A102
    have A113 := hc108.kept _ _ _ (Ne.symm (Nat.ne_of_lt (Nat.lt_of_lt_of_le A45.lt le48))) (Ne.symm (Nat.ne_of_lt (Nat.lt_of_lt_of_le A45.lt le48))) A103
    have HB114 := hc108.below HB104 (Nat.le_trans HB17.size le21) (Nat.le_trans HB17.size le21) rfl
    refine seq_nil ?_
    refine region_s 10 (g48) 0 (segs [.n 6 (ax (((suF S A m wd p (k75 + 1))).pt)), .n 6 (ay (((suF S A m wd p (k75 + 1))).pt)), .b (ai (((suF S A m wd p (k75 + 1))).pt))]) [45, 46, 47, 48, 49, 50, 51, 52, 53, 54] [sv [.v (.func (.func 6) #[] #[]), .v (.func (.func 10) #[] #[]), .v (.func (.func 12) #[] #[]), .v (.func (.func 11) #[] #[]), .i .i64 32], sv [.v (.func (.func 6) #[] #[]), .v (.func (.func 10) #[] #[]), .v (.func (.func 12) #[] #[]), .v (.func (.func 11) #[] #[]), .i .i64 32], sv [.n 6 (ax (((suF S A m wd p k75)).pt)), .n 6 (ay (((suF S A m wd p k75)).pt)), .b (ai (((suF S A m wd p k75)).pt))], .int .i64 ((wd : Nat) : Int), .int .u64 ((2 ^ wd : Nat) : Int), nv 4 [(2 ^ wd)], sv [.n 6 (ax (((EP.times C1 (2 ^ wd) (suF S A m wd p k75))).pt)), .n 6 (ay (((EP.times C1 (2 ^ wd) (suF S A m wd p k75))).pt)), .b (ai (((EP.times C1 (2 ^ wd) (suF S A m wd p k75))).pt))], sv [.v (.func (.func 6) #[] #[]), .v (.func (.func 10) #[] #[]), .v (.func (.func 12) #[] #[]), .v (.func (.func 11) #[] #[]), .i .i64 32, .v (.slice (some ⟨g21, 0, none⟩) ((2 ^ wd - 1)) ((2 ^ wd - 1)))], sv [.n 6 (ax (((smF (bkF S (dgF A wd p k75) (fun _ => Z1) m) (2 ^ wd - 1) (2 ^ wd - 1))).pt)), .n 6 (ay (((smF (bkF S (dgF A wd p k75) (fun _ => Z1) m) (2 ^ wd - 1) (2 ^ wd - 1))).pt)), .b (ai (((smF (bkF S (dgF A wd p k75) (fun _ => Z1) m) (2 ^ wd - 1) (2 ^ wd - 1))).pt))], sv [.n 6 (ax (((suF S A m wd p (k75 + 1))).pt)), .n 6 (ay (((suF S A m wd p (k75 + 1))).pt)), .b (ai (((suF S A m wd p (k75 + 1))).pt))]] ?_ ?_
    · refine latv (fun γ w h => ex_loads 0 5 (m := [.v (.func (.func 6) #[] #[]), .v (.func (.func 10) #[] #[]), .v (.func (.func 12) #[] #[]), .v (.func (.func 11) #[] #[]), .i .i64 32]) flSc1 rfl rfl (A109.keep h.out) rfl rfl) ?_
      refine latv (fun γ w h => ex_loads 0 5 (m := [.v (.func (.func 6) #[] #[]), .v (.func (.func 10) #[] #[]), .v (.func (.func 12) #[] #[]), .v (.func (.func 11) #[] #[]), .i .i64 32]) flSc1 rfl rfl (A109.keep h.out) rfl rfl) ?_
      refine latv (fun γ w h => ex_loads 0 3 (m := [.n 6 (ax (((suF S A m wd p k75)).pt)), .n 6 (ay (((suF S A m wd p k75)).pt)), .b (ai (((suF S A m wd p k75)).pt))]) flG1 rfl rfl (A113.keep h.out) rfl rfl) ?_
      refine latv (fun γ w h => ex_move _) ?_
      refine latv (fun γ w h => ex_shlV rfl rfl (by omega) ((2 ^ wd : Nat) : Int) (shl_oneU h9)) ?_
      refine latv (fun γ w h => ex_limb4 hw64 rfl) ?_
      refine latc (sv [.n 6 (ax (((EP.times C1 (2 ^ wd) (suF S A m wd p k75))).pt)), .n 6 (ay (((EP.times C1 (2 ^ wd) (suF S A m wd p k75))).pt)), .b (ai (((EP.times C1 (2 ^ wd) (suF S A m wd p k75))).pt))]) (fun γ w => ex_call (vs := [sv [.v (.func (.func 6) #[] #[]), .v (.func (.func 10) #[] #[]), .v (.func (.func 12) #[] #[]), .v (.func (.func 11) #[] #[]), .i .i64 32], sv [.n 6 (ax (((suF S A m wd p k75)).pt)), .n 6 (ay (((suF S A m wd p k75)).pt)), .b (ai (((suF S A m wd p k75)).pt))], nv 4 [(2 ^ wd)]]) rfl Try.call57 rfl) (fun w h => scTimes1_p (suF S A m wd p k75) _ (2 ^ wd) hwB rfl _) ?_
      refine latv (fun γ w h => ex_loads 0 6 (m := [.v (.func (.func 6) #[] #[]), .v (.func (.func 10) #[] #[]), .v (.func (.func 12) #[] #[]), .v (.func (.func 11) #[] #[]), .i .i64 32, .v (.slice (some ⟨g21, 0, none⟩) ((2 ^ wd - 1)) ((2 ^ wd - 1)))]) flBu rfl rfl (A112.keep h.out) rfl rfl) ?_
      refine latc (sv [.n 6 (ax (((smF (bkF S (dgF A wd p k75) (fun _ => Z1) m) (2 ^ wd - 1) (2 ^ wd - 1))).pt)), .n 6 (ay (((smF (bkF S (dgF A wd p k75) (fun _ => Z1) m) (2 ^ wd - 1) (2 ^ wd - 1))).pt)), .b (ai (((smF (bkF S (dgF A wd p k75) (fun _ => Z1) m) (2 ^ wd - 1) (2 ^ wd - 1))).pt))]) (fun γ w => ex_call (vs := [sv [.v (.func (.func 6) #[] #[]), .v (.func (.func 10) #[] #[]), .v (.func (.func 12) #[] #[]), .v (.func (.func 11) #[] #[]), .i .i64 32, .v (.slice (some ⟨g21, 0, none⟩) ((2 ^ wd - 1)) ((2 ^ wd - 1)))]]) rfl Try.call64 rfl) (fun w h => sutotal_v (bkF S (dgF A wd p k75) (fun _ => Z1) m) (2 ^ wd - 1) g21 hn9 _ (N108_0.keep h.out)) ?_
      refine latc (sv [.n 6 (ax (((suF S A m wd p (k75 + 1))).pt)), .n 6 (ay (((suF S A m wd p (k75 + 1))).pt)), .b (ai (((suF S A m wd p (k75 + 1))).pt))]) (fun γ w => ex_call (vs := [sv [.v (.func (.func 6) #[] #[]), .v (.func (.func 10) #[] #[]), .v (.func (.func 12) #[] #[]), .v (.func (.func 11) #[] #[]), .i .i64 32], sv [.n 6 (ax (((EP.times C1 (2 ^ wd) (suF S A m wd p k75))).pt)), .n 6 (ay (((EP.times C1 (2 ^ wd) (suF S A m wd p k75))).pt)), .b (ai (((EP.times C1 (2 ^ wd) (suF S A m wd p k75))).pt))], sv [.n 6 (ax (((smF (bkF S (dgF A wd p k75) (fun _ => Z1) m) (2 ^ wd - 1) (2 ^ wd - 1))).pt)), .n 6 (ay (((smF (bkF S (dgF A wd p k75) (fun _ => Z1) m) (2 ^ wd - 1) (2 ^ wd - 1))).pt)), .b (ai (((smF (bkF S (dgF A wd p k75) (fun _ => Z1) m) (2 ^ wd - 1) (2 ^ wd - 1))).pt))]]) rfl Try.call56 rfl) (fun w h => scPlus1_p (EP.times C1 (2 ^ wd) (suF S A m wd p k75)) (smF (bkF S (dgF A wd p k75) (fun _ => Z1) m) (2 ^ wd - 1) (2 ^ wd - 1)) _ rfl _) ?_
      refine GSteps.cons (late_store rfl (fun _ => rfl) (fun γ w h => ex_stores 0 3 (l := [.n 6 (ax (((suF S A m wd p k75)).pt)), .n 6 (ay (((suF S A m wd p k75)).pt)), .b (ai (((suF S A m wd p k75)).pt))]) (m := [.n 6 (ax (((suF S A m wd p (k75 + 1))).pt)), .n 6 (ay (((suF S A m wd p (k75 + 1))).pt)), .b (ai (((suF S A m wd p (k75 + 1))).pt))]) flG1.2 rfl rfl rfl rfl (A113.keep h.out) rfl rfl) rfl) ?_
      exact GSteps.nil
    intro w115 w115_ hb115 hs115
    have A116 := A109.keep hb115.out
    have A117 := A110.keep hb115.out
    have A118 := A111.keep hb115.out
    have A119 := N108_0.keep hb115.out
    have A120 := A112.keep hb115.out
    have A121 := A113.keep hb115.out
    have HB122 := below_then HB114 hb115.out
    have A123 := hs115.other (Nat.ne_of_lt (Nat.lt_of_lt_of_le A42.lt le48)) A116
    have A124 := hs115.other (Nat.ne_of_lt (Nat.lt_of_lt_of_le A43.lt le48)) A117
    have A125 := hs115.other (Nat.ne_of_lt (Nat.lt_of_lt_of_le A44.lt le48)) A118
    have A126 := hs115.other (Nat.ne_of_lt (Nat.lt_of_lt_of_le A45.lt le48)) A119
    have A127 := hs115.other (Nat.ne_of_lt (Nat.lt_of_lt_of_le A46.lt le48)) A120
    have A128 := hs115.here 0 3 (l' := [.n 6 (ax (((suF S A m wd p (k75 + 1))).pt)), .n 6 (ay (((suF S A m wd p (k75 + 1))).pt)), .b (ai (((suF S A m wd p (k75 + 1))).pt))]) A121 rfl rfl rfl
    have HB129 := hs115.below HB122 (Nat.le_trans HB47.size le48)
    refine bk_n ?_
    refine th_r ?_
    refine wp_region_lit ?_
    refine sv1 (.int .i64 ((p - 1 - k75 : Nat) : Int)) (ex_move _) ?_
    refine sv1 (.int .i64 ((p : Int) - 1 - ((k75 + 1 : Nat) : Int))) (ex_isub rfl rfl ((p : Int) - 1 - ((k75 + 1 : Nat) : Int)) (by rw [wrapI64 (by omega) (by omega)]; omega)) ?_
    refine sv1 (.int .i64 ((p : Int) - 1 - ((k75 + 1 : Nat) : Int))) (ex_assign _) ?_
    refine wpList_nil ?_
    refine th_r ?_
    exact hK75.out _ _ ⟨_, _, _, _, _, _, _, _, _, _, _, _, _, _, _, _, _, _, _, _, _, _, _, _, _, _, _, rfl, A123, A124, A125, A126, A127, A128, HB129⟩
  · rintro _ w130 ⟨i130_28, i130_29, i130_30, i130_31, i130_32, i130_33, i130_34, i130_35, i130_36, i130_37, i130_38, i130_39, i130_40, i130_41, i130_42, i130_43, i130_44, i130_45, i130_46, i130_47, i130_48, i130_49, i130_50, i130_51, i130_52, i130_53, i130_54, rfl, A130_0, A130_1, A130_2, A130_3, A130_4, A130_5, HB130⟩ K130
    refine wp_seq ?_
    refine wp_seq (region_0 [28, 29] [.int .i64 ((p : Int) - 1 - ((p : Nat) : Int)), .bool false] ?_ ?_)
    · refine stpx (fun _ _ => ex_move _) ?_
      refine stpx (fun _ _ => ex_igeq rfl rfl false (by rw [eq_comm, decide_eq_false_iff_not]; omega)) ?_
      exact GSteps.nil
    intro w131 hb131
    refine th_r ?_
    have A132 := A130_0.keep hb131.out
    have A133 := A130_1.keep hb131.out
    have A134 := A130_2.keep hb131.out
    have A135 := A130_3.keep hb131.out
    have A136 := A130_4.keep hb131.out
    have A137 := A130_5.keep hb131.out
    have HB138 := below_then HB130 hb131.out
    refine wp_cond_false rfl ?_
    refine wp_exit (th_e (th_e (bk_e ?_)))
    refine th_r ?_
    refine wp_seq (region_s 1 ((γ1 1)) 0 (segs [.n 6 (ax (((suF S A m wd p p)).pt)), .n 6 (ay (((suF S A m wd p p)).pt)), .b (ai (((suF S A m wd p p)).pt))]) [55] [sv [.n 6 (ax (((suF S A m wd p p)).pt)), .n 6 (ay (((suF S A m wd p p)).pt)), .b (ai (((suF S A m wd p p)).pt))]] ?_ ?_)
    · refine latv (fun γ w h => ex_loads 0 3 (m := [.n 6 (ax (((suF S A m wd p p)).pt)), .n 6 (ay (((suF S A m wd p p)).pt)), .b (ai (((suF S A m wd p p)).pt))]) flG1 rfl rfl (A137.keep h.out) rfl rfl) ?_
      refine GSteps.cons (late_store rfl (fun _ => rfl) (fun γ w h => ex_stores 0 3 (l := [.n 6 0, .n 6 0, .b false]) (m := [.n 6 (ax (((suF S A m wd p p)).pt)), .n 6 (ay (((suF S A m wd p p)).pt)), .b (ai (((suF S A m wd p p)).pt))]) flG1.2 rfl rfl rfl rfl (A133.keep h.out) rfl rfl) rfl) ?_
      exact GSteps.nil
    intro w139 w139_ hb139 hs139
    refine th_r ?_
    have A140 := A132.keep hb139.out
    have A141 := A133.keep hb139.out
    have A142 := A134.keep hb139.out
    have A143 := A135.keep hb139.out
    have A144 := A136.keep hb139.out
    have A145 := A137.keep hb139.out
    have HB146 := below_then HB138 hb139.out
    have A147 := hs139.other (hn1 0 1 (by decide) (by decide) (by decide)) A140
    have A148 := hs139.here 0 3 (l' := [.n 6 (ax (((suF S A m wd p p)).pt)), .n 6 (ay (((suF S A m wd p p)).pt)), .b (ai (((suF S A m wd p p)).pt))]) A141 rfl rfl rfl
    have A149 := hs139.other (Ne.symm (Nat.ne_of_lt (Nat.lt_of_lt_of_le A9.lt le14))) A142
    have A150 := hs139.other (Ne.symm (Nat.ne_of_lt (Nat.lt_of_lt_of_le A16.lt le21))) A143
    have A151 := hs139.other (Ne.symm (Nat.ne_of_lt (Nat.lt_of_lt_of_le A23.lt le26))) A144
    have A152 := hs139.other (Ne.symm (Nat.ne_of_lt (Nat.lt_of_lt_of_le A43.lt le48))) A145
    have HB153 := hs139.below HB146 (Nat.le_trans (Nat.le_refl _) le3)
    exact wp_ret (bodyPost_ret (ret1 Try.results36 (res_sv rfl A148 flG1 rfl)) rfl ⟨rfl, HB153⟩)
theorem scBig1_p (m : Nat) (hm : m ≤ 4096) (hm0 : 0 < m) (S : Nat → E1) (A : Nat → Nat) (ap ak : Option Addr) (cp ck : Nat) (HA : ∀ i, i < m → A i < frB) (w : World) (HP : Row w ap 13 m (fun i => pt1 (S i))) (HK : Row w ak 4 m (fun i => [.n 4 (A i)])) :
    Calls Try.prog 36 #[sv [.v (.func (.func 6) #[] #[]), .v (.func (.func 10) #[] #[]), .v (.func (.func 12) #[] #[]), .v (.func (.func 11) #[] #[]), .i .i64 32], .slice ap m cp, .slice ak m ck] w (Is (sv [.n 6 (ax (((sumE1 S A m)).pt)), .n 6 (ay (((sumE1 S A m)).pt)), .b (ai (((sumE1 S A m)).pt))]) w) := by
  have hd := dwid_le hm
  obtain ⟨p, hpw, hA, hpl⟩ := sumplaces_q m hm A (dwid m) hd.1 hd.2 HA
  rw [← suF_all S A m (dwid m) p hA]
  exact suplc_v m hm hm0 S A ap ak cp ck HA (dwid m) p hd.2 (Nat.le_trans (Nat.le_mul_of_pos_right p hd.1) hpw) hpw (fun w => sumwidth_v m hm w) hpl w HP HK
end
end Go.Proofs.Ytkkmekdhejhapaa
