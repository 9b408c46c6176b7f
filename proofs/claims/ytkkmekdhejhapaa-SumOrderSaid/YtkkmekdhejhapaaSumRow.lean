/- What is proved here: slices of points and of numbers, in blocks and as arguments; lengths, elements, short literals. -/
import Derived.Test.YtkkmekdhejhapaaComp
import Derived.Test.YtkkmekdhejhapaaOneZ
import Derived.Test.YtkkmekdhejhapaaTyFr
namespace Go.Proofs.Ytkkmekdhejhapaa
open Go.RowKit Cv
def Row (w : World) (a : Option Addr) (n m : Nat) (S : Nat → List Seg) : Prop :=
  ∀ i, i < m → ∃ g o, a = some ⟨g, o, none⟩ ∧ g < w.heap.size ∧ w.rangeAt g (o + n * i) (segs (S i))
theorem range_keep {w w' : World} {g o : Nat} {vs : List Value} (hg : g < w.heap.size) (hb : Below w.heap.size w w') (h : w.rangeAt g o vs) : w'.rangeAt g o vs := fun j v hv => (hb.cell hg).trans (h j v hv)
theorem Row.keep {w w' : World} {a : Option Addr} {n m : Nat} {S : Nat → List Seg} (h : Row w a n m S) (hb : Below w.heap.size w w') : Row w' a n m S := fun i hi => by
  obtain ⟨g, o, e, hg, hr⟩ := h i hi
  exact ⟨g, o, e, Nat.lt_of_lt_of_le hg hb.size, range_keep hg hb hr⟩
theorem Row.none (w : World) (a : Option Addr) (n : Nat) (S : Nat → List Seg) : Row w a n 0 S := fun _ hi => absurd hi (Nat.not_lt_zero _)
theorem Row.less {w : World} {a : Option Addr} {n m k : Nat} {S : Nat → List Seg} (h : Row w a n m S) (hk : k ≤ m) : Row w a n k S := fun i hi => h i (Nat.lt_of_lt_of_le hi hk)
theorem Row.ext {w : World} {a : Option Addr} {n m : Nat} {S T : Nat → List Seg} (h : Row w a n m S) (e : ∀ i, i < m → S i = T i) : Row w a n m T := fun i hi => by
  rw [← e i hi]
  exact h i hi
def cat (S : Nat → List Seg) : Nat → List Seg
  | 0 => []
  | k + 1 => cat S k ++ S k
theorem cat_cut {S : Nat → List Seg} {n : Nat} (hn : ∀ i, ssize (S i) = n) : ∀ m i, i < m → ∃ x y, segs (cat S m) = x ++ (segs (S i) ++ y) ∧ x.length = n * i := by
  have hl : ∀ m, (segs (cat S m)).length = n * m := by
    intro m
    induction m with
    | zero => rfl
    | succ m ih => rw [cat, segs_app, List.length_append, ih, segs_len, hn, Nat.mul_succ]
  intro m
  induction m with
  | zero => intro i hi; exact absurd hi (Nat.not_lt_zero i)
  | succ m ih =>
    intro i hi
    rw [cat, segs_app]
    by_cases c : i = m
    · subst c
      exact ⟨_, [], by rw [List.append_nil], hl i⟩
    · obtain ⟨x, y, e, h⟩ := ih i (by omega)
      exact ⟨x, y ++ segs (S m), by rw [e]; simp, h⟩
theorem SB.row {t : TypeId} {w : World} {g n m : Nat} {S : Nat → List Seg} {l : List Seg} (h : SB t w g l) (e : l = cat S m) (hn : ∀ i, ssize (S i) = n) : Row w (some ⟨g, 0, none⟩) n m S := fun i hi => by
  refine ⟨g, 0, rfl, h.lt, ?_⟩
  subst e
  obtain ⟨x, y, e, hx⟩ := cat_cut hn m i hi
  have hb : Blk t w g (x ++ (segs (S i) ++ y)) := by rw [← e]; exact h
  intro j v hj
  have hlt := (List.getElem?_eq_some_iff.1 hj).1
  have h1 := hb.cell (i := n * i + j) (by rw [List.length_append, List.length_append, hx]; omega)
  rw [Nat.zero_add, h1]
  have h2 : (x ++ (segs (S i) ++ y))[n * i + j]? = some v := by
    rw [List.getElem?_append_right (by omega), hx, Nat.add_sub_cancel_left, List.getElem?_append_left hlt]
    exact hj
  rw [← h2, List.getElem?_eq_getElem]
structure SlS (st e : TypeId) (n : Nat) : Prop where
  und : Try.prog.underlying st = some (.slice e)
  flat : Flat e n
section
variable {ρ : Operand → Value} {d : Option Tmp} {ty0 : TypeId} {pos : String} {after : Array Edge} {guard : Option (Nat × Bool)} {w : World}
theorem ex_lenR {st e : TypeId} {n : Nat} (hs : SlS st e n) {x : Operand} {a : Option Addr} {m c : Nat} (hx : ρ x = .slice a m c) :
    (execOp ρ ⟨d, .call ⟨.builtin .len, #[x], #[st]⟩, ty0, pos, after, guard⟩).run Try.prog w = .ok (.value (.int .i64 (m : Int))) w := by
  simp [hx, go_sem, Builtin.len_, run_underlying hs.und w, Sem.run_bind]
theorem ex_idxR {st e : TypeId} {n : Nat} (hs : SlS st e n) {x ix : Operand} {a : Option Addr} {g o m c i : Nat} (hx : ρ x = .slice a m c) (ha : a = some ⟨g, o, none⟩) (hi : ρ ix = .int .i64 (i : Int)) (hlt : i < m) :
    (execOp ρ ⟨d, .indexAddr st x ix, ty0, pos, after, guard⟩).run Try.prog w = .ok (.value (.pointer (some ⟨g, o + n * i, none⟩))) w := by
  subst ha
  simp [execOp, Sem.run_bind, hx, hi, Instr.indexAt, asIntOf, run_underlying hs.und w, hs.flat.2 w, hlt, Addr.add_mid, Nat.mul_comm]
theorem ex_loadR {ty : TypeId} {n : Nat} (hf : Flat ty n) {x : Operand} {g o : Nat} {l : List Seg} (hx : ρ x = .pointer (some ⟨g, o, none⟩)) (hn : szB l n = true) (hr : w.rangeAt g o (segs l)) :
    (execOp ρ ⟨d, .load ty x, ty0, pos, after, guard⟩).run Try.prog w = .ok (.value (sv l)) w := by
  have hl : (segs l).length = n := by rw [segs_len, szB_eq hn]
  have hc : (loadCells ⟨g, o, none⟩ n).run Try.prog w = .ok (segs l).toArray w := by
    have := run_loadCells_list (P := Try.prog) w ⟨g, o, none⟩ (segs l) (fun j u hu => by rw [Addr.add_mid]; exact hr j u hu)
    rwa [hl] at this
  simp [execOp, hx, Instr.loadAt, Instr.sureAddr, loadVar, Sem.run_bind, hf.1 w, hf.2 w, hc, sv, cv]
theorem ex_loadRn {ty : TypeId} {K : Nat} (hf : Flat ty (K * 1)) {x : Operand} {g o v : Nat} (hx : ρ x = .pointer (some ⟨g, o, none⟩)) (hr : w.rangeAt g o (segs [.n K v])) :
    (execOp ρ ⟨d, .load ty x, ty0, pos, after, guard⟩).run Try.prog w = .ok (.value (nv K [v])) w := by
  rw [nv_sv]
  refine ex_loadR hf hx ?_ hr
  show szB [.n K v] (K * 1) = true
  simp [szB, Seg.size, Nat.ble_eq_true_of_le (Nat.le_refl K)]
theorem ex_bsl {st e : TypeId} {k n : Nat} (hs : SlS st e n) {zc : List Value} {z l : List Seg} {parts : List (Nat × Operand)} {vs : List (Nat × Value)} (hz : ∀ w, (zeroValue e).run Try.prog w = .ok (cv zc) w)
    (hr : (Array.range (k * n)).map (fun i => zc.toArray[i % zc.toArray.size]!) = (segs z).toArray) (hb : Nat.ble (k * n) 1000 = true) (h0 : Nat.ble 1 (k * n) = true)
    (hv : (parts.map fun (p : Nat × Operand) => (p.1, ρ p.2)) = vs) (hf : Instr.fill (fun i => some (i * n, n)) (segs z).toArray vs = some (segs l).toArray) :
    (execOp ρ ⟨d, .buildSlice st k parts.toArray, ty0, pos, after, guard⟩).run Try.prog w = .ok (.value (.slice (some ⟨w.heap.size, 0, none⟩) k k)) (w.alloc (.cells (segs l).toArray e)) := by
  have hv' : (parts.toArray.map fun (i, x) => (i, ρ x)) = vs.toArray := by rw [List.map_toArray]; exact congrArg List.toArray hv
  have hb' : ¬ (k * n > 2 ^ 24) := by have := Nat.le_of_ble_eq_true hb; omega
  have h0' : ¬ (k * n = 0) := by have := Nat.le_of_ble_eq_true h0; omega
  have hcells : (cv zc).cells = zc.toArray := rfl
  simp only [execOp, Instr.buildSlice, Sem.run_bind, hv', run_underlying hs.und w, Result.andThen_ok, hs.flat.2 w, hb', if_false, h0', hz w, hcells, Sem.run_pure, hr, hf]
  rfl
end
section
variable {ops : Array Oper} {F : (Nat → Nat) → Act} {W : World} {m : Nat} {T : Nat → TypeId} {al st : Nat → Nat} {zs xs : Nat → List Value} {k : Nat} {o : Oper} {d : Tmp} {v : Value}
end
end Go.Proofs.Ytkkmekdhejhapaa
