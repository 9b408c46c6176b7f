/- What is proved here: plain facts on bytes, the highest first, and the number that they are; rows of bytes that a call has made itself. -/
import Derived.Test.YtkkmekdhejhapaaGreatOwn
import Derived.Laws.IdiomStrings
import Derived.Laws.BytesString
namespace Go.Proofs.YtkkmekdhejhapaaGreat
open Go.RowKit
def be : Nat → Nat → List UInt8
  | 0, _ => []
  | n + 1, v => be n (v / 256) ++ [UInt8.ofNat (v % 256)]
theorem length_be (n v : Nat) : (be n v).length = n := by
  induction n generalizing v with
  | zero => rfl
  | succ n ih => simp [be, ih]
theorem be_append (n m u x : Nat) (hx : x < 256 ^ m) : be n u ++ be m x = be (n + m) (u * 256 ^ m + x) := by
  induction m generalizing x with
  | zero =>
    have : x = 0 := by simpa using hx
    subst this
    simp [be]
  | succ m ih =>
    rw [Nat.pow_succ] at hx
    have h1 : x / 256 < 256 ^ m := Nat.div_lt_of_lt_mul (by omega)
    have e1 : (u * 256 ^ (m + 1) + x) / 256 = u * 256 ^ m + x / 256 := by
      rw [Nat.pow_succ, ← Nat.mul_assoc, Nat.mul_comm _ 256, Nat.mul_add_div (by decide)]
    have e2 : (u * 256 ^ (m + 1) + x) % 256 = x % 256 := by
      rw [Nat.pow_succ, ← Nat.mul_assoc, Nat.mul_comm _ 256, Nat.mul_add_mod]
    show be n u ++ (be m (x / 256) ++ [UInt8.ofNat (x % 256)]) = be (n + m) ((u * 256 ^ (m + 1) + x) / 256) ++ [UInt8.ofNat ((u * 256 ^ (m + 1) + x) % 256)]
    rw [e1, e2, ← ih _ h1, List.append_assoc]
theorem be_step (V N k : Nat) (hk : k < N) : be k (V / 256 ^ (N - k)) ++ [UInt8.ofNat (V / 256 ^ (N - 1 - k) % 256)] = be (k + 1) (V / 256 ^ (N - (k + 1))) := by
  have e : V / 256 ^ (N - k) = V / 256 ^ (N - (k + 1)) / 256 := by
    rw [Nat.div_div_eq_div_mul, ← Nat.pow_succ]
    congr 2
    omega
  rw [e, show N - 1 - k = N - (k + 1) by omega]
  rfl
theorem pow256 (k : Nat) : 256 ^ k = 2 ^ (8 * k) := by
  rw [show 256 = 2 ^ 8 from rfl, ← Nat.pow_mul]
theorem be_limb (V m k : Nat) (hk : k < m) : be (8 * k) (V / 2 ^ (64 * (m - k))) ++ be 8 (V / 2 ^ (64 * (m - 1 - k)) % 2 ^ 64) = be (8 * (k + 1)) (V / 2 ^ (64 * (m - (k + 1)))) := by
  rw [be_append _ _ _ _ (by rw [pow256]; exact Nat.mod_lt _ (by decide)), show 8 * k + 8 = 8 * (k + 1) by omega]
  congr 1
  rw [pow256, show m - 1 - k = m - (k + 1) by omega]
  have e : V / 2 ^ (64 * (m - k)) = V / 2 ^ (64 * (m - (k + 1))) / 2 ^ 64 := by
    rw [Nat.div_div_eq_div_mul, ← Nat.pow_add]
    congr 2
    omega
  rw [e]
  generalize V / 2 ^ (64 * (m - (k + 1))) = q
  omega
def bval : List UInt8 → Nat
  | [] => 0
  | b :: l => b.toNat * 256 ^ l.length + bval l
theorem bval_append (l l' : List UInt8) : bval (l ++ l') = bval l * 256 ^ l'.length + bval l' := by
  induction l with
  | nil => simp [bval]
  | cons b l ih =>
    simp only [List.cons_append, bval, ih, List.length_append, Nat.pow_add, Nat.add_mul, Nat.mul_assoc]
    omega
theorem bval_lt (l : List UInt8) : bval l < 256 ^ l.length := by
  induction l with
  | nil => simp [bval]
  | cons b l ih =>
    have hb : b.toNat < 256 := UInt8.toNat_lt b
    simp only [bval, List.length_cons, Nat.pow_succ]
    have : (b.toNat + 1) * 256 ^ l.length ≤ 256 * 256 ^ l.length := Nat.mul_le_mul_right _ (by omega)
    rw [Nat.add_mul] at this
    omega
theorem bval_snoc (l : List UInt8) (b : UInt8) : bval (l ++ [b]) = bval l * 256 + b.toNat := by
  rw [bval_append]; simp [bval]
theorem bval_be (n v : Nat) : bval (be n v) = v % 256 ^ n := by
  induction n generalizing v with
  | zero => simp [be, bval, Nat.mod_one]
  | succ n ih =>
    simp only [be]
    rw [bval_snoc, ih, Nat.pow_succ, Nat.mul_comm (256 ^ n) 256, Nat.mod_mul]
    have : (UInt8.ofNat (v % 256)).toNat = v % 256 := by simp
    rw [this]
    omega
theorem be_bval (l : List UInt8) : be l.length (bval l) = l := by
  have h : ∀ n (l : List UInt8), l.length = n → be n (bval l) = l := by
    intro n
    induction n with
    | zero => intro l hl; rw [List.length_eq_zero_iff.1 hl]; rfl
    | succ n ih =>
      intro l hl
      rcases List.eq_nil_or_concat l with rfl | ⟨q, b, rfl⟩
      · simp at hl
      · simp only [List.concat_eq_append] at hl ⊢
        have hq : q.length = n := by simpa using hl
        have hb : b.toNat < 256 := UInt8.toNat_lt b
        rw [bval_snoc]
        simp only [be]
        rw [show (bval q * 256 + b.toNat) / 256 = bval q by omega, show (bval q * 256 + b.toNat) % 256 = b.toNat by omega, ih q hq]
        simp
  exact h _ l rfl
def bcells (l : List UInt8) : List Value := l.map fun b => Value.int .u8 (b.toNat : Int)
def OwnBS (w : World) (base : Nat) (v : Value) (l : List UInt8) : Prop := w.ownsRow base 5 1 v l.length (bcells l)
theorem Tryz.infoB : (Tryz.prog.info? 5).map (fun i => (i.zero, i.size, i.bytes)) = some (some (.int .u8 0), 1, 1) := by kernel_rfl
theorem wpList_append_byte (w : World) {ops : Array Oper} {rest : List Oper} {o : Oper} {a : Act} {Q : Exit → Act → World → Prop}
    (hgd : o.guard = none) (s x : Operand) (hop : o.op = .call { callee := .builtin .append, args := #[s, x], argTypes := #[114, 114] })
    (base : Nat) (v : Value) (l : List UInt8) (hs : a.eval s = v) (b : Int) (hown : OwnBS w base v l)
    (hx : a.eval x = .slice (some ⟨w.heap.size, 0, none⟩) 1 1) (hb : 0 ≤ b ∧ b < 256) (hl : l.length ≤ 1000) (hbase : base ≤ w.heap.size)
    (h : ∀ (v' : Value) (w' : World), OwnBS w' base v' (l ++ [UInt8.ofNat b.toNat]) → Below base w w' → wpList Tryz.prog ops Q rest (a.put o.dst v') w') :
    wpList Tryz.prog ops Q (o :: rest) a (w.alloc (.cells #[.int .u8 b] 5)) := by
  obtain ⟨i, hi, hz0, hz1, hz2⟩ := info_parts Tryz.infoB
  have hu : (UInt8.ofNat b.toNat).toNat = b.toNat := by simp; omega
  refine wpList_append_own (w.alloc (.cells #[.int .u8 b] 5)) hgd s x _ hop base 5 i (.int .u8 0) 1 1 Tryz.underlying114 hi hz0 hz1 hz2 rfl (by decide) v l.length (bcells l) hs (World.ownsRow.alloc hown _) ⟨w.heap.size, 0, none⟩ 1 1 [.int .u8 b] hx (by simp) ?_ ?_ (by unfold maxLen; omega) (by omega) (by simp; omega) ?_
  · intro j u hj
    match j, hj with
    | 0, hj => simp at hj; subst hj; simp [Addr.add]
  · intro u hu'; simp at hu'; subst hu'; rfl
  · intro v' w' hown' hgrow _
    refine h v' w' ?_ (((Below.refl _ _).alloc hbase _).grown hgrow (by simp; omega) ?_)
    · unfold OwnBS
      have e : bcells (l ++ [UInt8.ofNat b.toNat]) = bcells l ++ [.int .u8 b] := by
        simp only [bcells, List.map_append, List.map_cons, List.map_nil, hu]
        rw [Int.toNat_of_nonneg hb.1]
      rw [e, List.length_append]
      exact hown'
    · intro k hk
      rcases hown.2 with ⟨rfl, _⟩ | ⟨g, cap, cur, rfl, hg, _⟩
      · cases hk
      · simp only [Value.ownBlock, Option.some.injEq] at hk
        omega
theorem OwnBS.str {w : World} {base : Nat} {v : Value} {l : List UInt8} (h : OwnBS w base v l) :
    (convert 114 9 v).run Tryz.prog w = .ok (.string ⟨l.toArray⟩) w := by
  rcases h.2 with ⟨rfl, hn⟩ | ⟨g, cap, cur, rfl, hg, hh, hnc, hcm, hcs, htake⟩
  · rw [List.length_eq_zero_iff.1 hn, run_convert_bytes_string w 114 9 5 none 0 0 Tryz.underlying114 Tryz.underlying5 Tryz.underlying9]
    rfl
  · refine run_convert_bytes_back w 114 9 5 ⟨g, 0, none⟩ cap l Tryz.underlying114 Tryz.underlying5 Tryz.underlying9 fun j hj => ?_
    rw [Go.WideShapes.add_plain, Nat.zero_add, cell_of_row w g j cur _ (0, 0) hh]
    have e : (bcells l)[j]? = some (.int .u8 ((l[j]'hj).toNat : Int)) := by simp [bcells, hj]
    rw [← e, ← htake, List.getElem?_take, if_pos (by omega)]
    simp
end Go.Proofs.YtkkmekdhejhapaaGreat
