/- What is proved here: arrays, parts of structs, method values, arrays of written limbs; arguments that are structs of numbers, bools and whole numbers of the machine, read as segments. -/
import Derived.Test.YtkkmekdhejhapaaDuo1
import Derived.Test.YtkkmekdhejhapaaCells
namespace Go.Proofs.Ytkkmekdhejhapaa
open Go.RowKit
def Ary (ty : TypeId) (k m n : Nat) : Prop :=
  ∃ e : TypeId, Try.prog.underlying ty = some (.array k e) ∧ (∀ w, (zeroValue ty).run Try.prog w = .ok (lv (List.replicate n 0)) w) ∧ ∀ w, (Go.sizeOf e).run Try.prog w = .ok m w
theorem ex_six {ρ : Operand → Value} {d : Option Tmp} {ty0 : TypeId} {pos : String} {after : Array Edge} {guard : Option (Nat × Bool)} {w : World} {c0 c1 c2 c3 c4 c5 : Int} {G : Nat} (HL : nv 6 [G] = .agg #[.int .u64 c0, .int .u64 c1, .int .u64 c2, .int .u64 c3, .int .u64 c4, .int .u64 c5]) (HC : ∀ v, ρ (.const v) = v) :
    (execOp ρ ⟨d, .build 26 #[(0, .const (.int .u64 c0)), (1, .const (.int .u64 c1)), (2, .const (.int .u64 c2)), (3, .const (.int .u64 c3)), (4, .const (.int .u64 c4)), (5, .const (.int .u64 c5))], ty0, pos, after, guard⟩).run Try.prog w = .ok (.value (nv 6 [G])) w := by
  rw [HL]
  simp [execOp, Instr.build, Instr.fill, Sem.run_bind, Value.cells, go_sem, HC]
theorem limb_lit {e : Nat} (he : e < 2 ^ 64) : nv 6 [e] = .agg #[.int .u64 e, .int .u64 0, .int .u64 0, .int .u64 0, .int .u64 0, .int .u64 0] := by
  have h : ∀ i, lb e (i + 1) = 0 := fun i => by
    rw [lb, Nat.div_eq_of_lt (Nat.lt_of_lt_of_le he (Nat.pow_le_pow_right (by omega) (by omega))), Nat.zero_mod]
  have h0 : lb e 0 = e := by rw [lb, Nat.mul_zero, Nat.pow_zero, Nat.div_one, Nat.mod_eq_of_lt he]
  rw [nv6]
  show Value.agg #[.int .u64 ((lb e 0 : Nat) : Int), .int .u64 ((lb e 1 : Nat) : Int), .int .u64 ((lb e 2 : Nat) : Int), .int .u64 ((lb e 3 : Nat) : Int), .int .u64 ((lb e 4 : Nat) : Int), .int .u64 ((lb e 5 : Nat) : Int)] = _
  rw [h 0, h 1, h 2, h 3, h 4, h0]
  rfl
theorem ex_limb6 {ρ : Operand → Value} {d : Option Tmp} {ty0 : TypeId} {pos : String} {after : Array Edge} {guard : Option (Nat × Bool)} {w : World} {x : Operand} {e : Nat} (he : e < 2 ^ 64) (hx : ρ x = .int .u64 (e : Int)) :
    (execOp ρ ⟨d, .build 26 #[(0, x)], ty0, pos, after, guard⟩).run Try.prog w = .ok (.value (nv 6 [e])) w := by
  rw [limb_lit he]
  simp [execOp, Instr.build, Instr.fill, Sem.run_bind, Value.cells, go_sem, hx]
section
variable {ρ : Operand → Value} {d : Option Tmp} {ty0 : TypeId} {pos : String} {after : Array Edge} {guard : Option (Nat × Bool)} {w : World}
theorem ex_index {t : TypeId} {x ix : Operand} {k m n g o : Nat} (i : Nat) (hs : Ary t k m n) (hx : ρ x = .pointer (some ⟨g, o, none⟩)) (hi : ρ ix = .int .i64 (i : Int)) (hlt : i < k) :
    (execOp ρ ⟨d, .indexAddr t x ix, ty0, pos, after, guard⟩).run Try.prog w = .ok (.value (.pointer (some ⟨g, o + i * m, none⟩))) w := by
  obtain ⟨e, hu, hz, hm⟩ := hs
  have h1 : (0 : Int) ≤ (i : Int) ∧ (i : Int) < (k : Int) := ⟨by omega, by omega⟩
  simp [execOp, Sem.run_bind, hx, hi, Instr.indexAt, asIntOf, Instr.sureAddr, run_underlying hu w, hm w, hlt, Addr.add_mid]
end
def OpensS (ty : TypeId) (sh : List Seg → Prop) : Prop := ∀ {H : Type} {enc : TypeId × Value → H} {w : World} {base : Nat} {sp : Nat → Bool} {held : Bool} {fuel : Nat} {cs : List Value} {x : DataW H × List MemPlace},
  DataW.trod enc Try.prog w base sp held fuel ty cs = some x → ∃ m, sh m ∧ cs = segs m
theorem OpensS.nums {ty : TypeId} {K j n : Nat} (h : OpensN ty n) (hn : n = K * j) : OpensS ty (Nums K j) := fun ht => by
  obtain ⟨h1, h2⟩ := h ht
  obtain ⟨xs, h3, h4, h5⟩ := limbs_of h1 h2
  obtain ⟨l, h6, h7, h8⟩ := rows_of j xs (by rw [h3, hn]) h4
  exact ⟨l.map (Seg.n K), ⟨l, h6, h7, rfl⟩, by rw [segs_nums, h8, h5]⟩
theorem OpensS.bool {ty : TypeId} (hu : Try.prog.underlying ty = some .bool) : OpensS ty (fun m => ∃ r, m = [.b r]) := fun ht => by
  obtain ⟨r, rfl, _⟩ := DataW.trod_bool hu ht
  exact ⟨[.b r], ⟨r, rfl⟩, rfl⟩
theorem OpensS.int {ty : TypeId} {k : IntKind} (hu : Try.prog.underlying ty = some (.int k)) : OpensS ty (fun m => ∃ x, m = [.i k x] ∧ (Lit.int k x).wf = true) := fun ht => by
  obtain ⟨x, rfl, _, hw⟩ := DataW.trod_int hu ht
  exact ⟨[.i k x], ⟨x, rfl, hw⟩, rfl⟩
inductive FieldsO : List Field → Nat → Nat → (List Seg → Prop) → Prop
  | nil (o : Nat) : FieldsO [] o 0 (fun l => l = [])
  | cons {f : Field} {fs : List Field} {o n t : Nat} {sh sh' : List Seg → Prop} (ho : f.offset = o) (hc : Try.prog.cellsOf f.type = n) (hs : OpensS f.type sh) (h : FieldsO fs (o + n) t sh') :
      FieldsO (f :: fs) o (n + t) (fun l => ∃ a b, l = a ++ b ∧ sh a ∧ sh' b)
theorem fieldsO_read {H : Type} {enc : TypeId × Value → H} {w : World} {base : Nat} {sp : Nat → Bool} {held : Bool} {fuel : Nat} {cs : List Value} {fs : List Field} {o t : Nat} {sh : List Seg → Prop} (h : FieldsO fs o t sh) (hl : cs.length = o + t)
    (hx : ∀ (i : Nat) (f : Field), fs[i]? = some f → ∃ x, DataW.trod enc Try.prog w base sp held fuel f.type ((cs.drop f.offset).take (Try.prog.cellsOf f.type)) = some x) : ∃ m, sh m ∧ cs.drop o = segs m := by
  induction h with
  | nil o =>
    refine ⟨[], rfl, ?_⟩
    rw [List.drop_eq_nil_of_le (by omega)]
    rfl
  | @cons f fs o n t sh sh' ho hc hs h ih =>
    obtain ⟨x, h0⟩ := hx 0 f rfl
    rw [hc, ho] at h0
    obtain ⟨a, ha, he⟩ := hs h0
    obtain ⟨b, hb, hbe⟩ := ih (by omega) (fun i f' hf' => hx (i + 1) f' hf')
    refine ⟨a ++ b, ⟨a, b, rfl, ha, hb⟩, ?_⟩
    rw [segs_app, ← he, ← hbe, ← List.drop_drop, List.take_append_drop]
theorem OpensS.struct {ty : TypeId} {n : Nat} {fs : List Field} {sh : List Seg → Prop} (hu : Try.prog.underlying ty = some (.struct fs.toArray)) (hc : Try.prog.cellsOf ty = n) (hf : FieldsO fs 0 n sh) : OpensS ty sh := fun {H enc w base sp held fuel cs x} ht => by
  obtain ⟨xs, k, _, _, hl, hx, hi⟩ := DataW.trod_struct hu ht
  have := fieldsO_read (enc := enc) (w := w) (base := base) (sp := sp) (held := held) (fuel := k) (cs := cs) hf (by omega) (fun i f hif => by
    have h1 := hi i f (by simpa using hif)
    have hlt : i < xs.length := by
      rw [hx]
      have := (List.getElem?_eq_some_iff.1 hif).1
      simpa using this
    exact ⟨xs[i], by rw [h1, List.getElem?_eq_getElem hlt]⟩)
  exact this
theorem open_sv {ty : TypeId} {sh : List Seg → Prop} (ho : OpensS ty sh) {H : Type} {enc : TypeId × Value → H} {w : World} {base : Nat} {sp : Nat → Bool} {held : Bool} {cs : Array Value} {d : DataW H} {ps : List MemPlace}
    (hd : DataW.Trod enc Try.prog w base sp held ty (.agg cs) d ps) : ∃ m, sh m ∧ Value.agg cs = sv m := by
  obtain ⟨fuel, hf⟩ := hd
  obtain ⟨m, hm, he⟩ := ho hf
  refine ⟨m, hm, ?_⟩
  unfold sv cv
  rw [← he]
  show Value.agg cs = Value.agg cs.toList.toArray
  rw [Array.toArray_toList]
end Go.Proofs.Ytkkmekdhejhapaa
