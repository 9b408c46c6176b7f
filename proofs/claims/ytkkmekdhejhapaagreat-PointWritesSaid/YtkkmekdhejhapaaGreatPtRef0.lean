/- What is proved here: a slice of bytes that is made of a text, read, written and turned back into texts; a contract of the reference's Get: the number whose bytes, the highest first, a text is; contracts of the reference's Put and Get (layer 4); the reference on bytes of points: flags, a text with flags. -/
import Derived.Test.YtkkmekdhejhapaaGreatComp
import Derived.Laws.AppendOwn
import Derived.Test.YtkkmekdhejhapaaGreatGet
import Derived.Test.YtkkmekdhejhapaaGreatDuo1
import Derived.Test.YtkkmekdhejhapaaGreatFpInv1
import Derived.Test.YtkkmekdhejhapaaGreatPut
import Derived.Test.YtkkmekdhejhapaaGreatPtFlag
import Derived.Test.YtkkmekdhejhapaaGreatFpRoot
namespace Go.Proofs.YtkkmekdhejhapaaGreat
section
open Go.RowKit
def BY (w : World) (g : Nat) (l : List UInt8) : Prop := ∃ (cs : Array Value) (t : TypeId) (fr : Nat × Nat), w.heap[g]? = some (.cells cs t fr) ∧ l.length ≤ fr.1 ∧ ∀ (i : Nat) (b : UInt8), l[i]? = some b → cs[i]? = some (.int .u8 (b.toNat : Int))
theorem BY.lt {w : World} {g : Nat} {l : List UInt8} (h : BY w g l) : g < w.heap.size := by
  obtain ⟨cs, t, fr, h, _⟩ := h
  exact (Array.getElem?_eq_some_iff.1 h).1
theorem BY.below {w w' : World} {g B : Nat} {l : List UInt8} (h : BY w g l) (hB : g < B) (hb : Below B w w') : BY w' g l := by
  obtain ⟨cs, t, fr, h, k⟩ := h
  exact ⟨cs, t, fr, (hb.block g hB).trans h, k⟩
theorem BY.keep {w w' : World} {g : Nat} {l : List UInt8} (h : BY w g l) (hb : Below w.heap.size w w') : BY w' g l := h.below h.lt hb
theorem heap_setCells_other {b g : Nat} (hne : g ≠ b) : ∀ (vs : List Value) (w : World) (o : Nat), (w.setCells b o vs).heap[g]? = w.heap[g]?
  | [], _, _ => rfl
  | v :: vs, w, o => (heap_setCells_other hne vs _ (o + 1)).trans (Below.heap_setCell _ _ _ g hne)
theorem BY.other {w w' : World} {g g' o : Nat} {ys : List Value} {l : List UInt8} (h : BY w g l) (hs : St w w' g' o ys) (hne : g ≠ g') : BY w' g l := by
  obtain ⟨cs, t, fr, h, k⟩ := h
  refine ⟨cs, t, fr, ?_, k⟩
  rw [show w' = _ from hs, heap_setCells_other hne]
  exact h
theorem BY.cell {w : World} {g : Nat} {l : List UInt8} (h : BY w g l) {i : Nat} {b : UInt8} (hb : l[i]? = some b) : w.cell? ⟨g, i, none⟩ = some (.int .u8 (b.toNat : Int)) := by
  obtain ⟨cs, t, fr, h, _, k⟩ := h
  have := k i b hb
  unfold World.cell?
  rw [h]
  exact this
theorem BY.frozen {w : World} {g : Nat} {l : List UInt8} (h : BY w g l) {i : Nat} (hi : i < l.length) : w.frozen? ⟨g, i, none⟩ = false := by
  obtain ⟨cs, t, fr, h, hf, k⟩ := h
  unfold World.frozen?
  rw [h]
  obtain ⟨lo, hi'⟩ := fr
  have : ¬ lo ≤ i := by simp only at hf; omega
  simp [this]
theorem heap_setCellM {w : World} {b i : Nat} {cs : Array Value} {T : TypeId} {fr : Nat × Nat} (hb : w.heap[b]? = some (.cells cs T fr)) (v : Value) :
    (w.setCell ⟨b, i, none⟩ v).heap[b]? = some (.cells (cs.setIfInBounds i v) T fr) := by
  simp [World.setCell, Array.getElem?_modify, hb]
theorem BY.set {w : World} {g : Nat} {l : List UInt8} (h : BY w g l) (i : Nat) (b : UInt8) {l' : List UInt8} (hl : l.set i b = l') : BY (w.setCells g i [.int .u8 (b.toNat : Int)]) g l' := by
  subst hl
  obtain ⟨cs, t, fr, h, hf, k⟩ := h
  refine ⟨cs.setIfInBounds i (.int .u8 (b.toNat : Int)), t, fr, heap_setCellM h _, by simpa using hf, fun j c hj => ?_⟩
  rw [Array.getElem?_setIfInBounds]
  rw [List.getElem?_set] at hj
  by_cases hij : i = j
  · subst hij
    rw [if_pos rfl] at hj ⊢
    split at hj
    · next hlt =>
      obtain ⟨c0, hc0⟩ : ∃ c0, l[i]? = some c0 := ⟨l[i], List.getElem?_eq_getElem hlt⟩
      have := (Array.getElem?_eq_some_iff.1 (k i c0 hc0)).1
      rw [if_pos this]
      rw [← Option.some.inj hj]
    · cases hj
  · rw [if_neg hij] at hj ⊢
    exact k j c hj
section
variable {ρ : Operand → Value} {d : Option Tmp} {ty0 : TypeId} {pos : String} {after : Array Edge} {guard : Option (Nat × Bool)} {w : World}
theorem ex_sidx {x ix : Operand} {g o m c : Nat} (i : Nat) (hx : ρ x = .slice (some ⟨g, o, none⟩) m c) (hi : ρ ix = .int .i64 (i : Int)) (hlt : i < m) :
    (execOp ρ ⟨d, .indexAddr 114 x ix, ty0, pos, after, guard⟩).run Tryz.prog w = .ok (.value (.pointer (some ⟨g, o + i, none⟩))) w := by
  simp [execOp, Sem.run_bind, hx, hi, Instr.indexAt, asIntOf, run_underlying Tryz.underlying114 w, hlt, Addr.add_mid]
theorem ex_sidx0 {x ix : Operand} {g m c : Nat} (i : Nat) (hx : ρ x = .slice (some ⟨g, 0, none⟩) m c) (hi : ρ ix = .int .i64 (i : Int)) (hlt : i < m) :
    (execOp ρ ⟨d, .indexAddr 114 x ix, ty0, pos, after, guard⟩).run Tryz.prog w = .ok (.value (.pointer (some ⟨g, i, none⟩))) w := by
  have h := ex_sidx (d := d) (ty0 := ty0) (pos := pos) (after := after) (guard := guard) (w := w) i hx hi hlt
  rwa [Nat.zero_add] at h
theorem ex_loadB {x : Operand} {g i : Nat} {l : List UInt8} {b : UInt8} (hx : ρ x = .pointer (some ⟨g, i, none⟩)) (h : BY w g l) (hb : l[i]? = some b) :
    (execOp ρ ⟨d, .load 5 x, ty0, pos, after, guard⟩).run Tryz.prog w = .ok (.value (.int .u8 (b.toNat : Int))) w := by
  have hc := h.cell hb
  simp [execOp, hx, Instr.loadAt, Instr.sureAddr, loadVar, Sem.run_bind, Tryz.isAgg5 w, go_sem, hc]
theorem ex_storeB {x y : Operand} {g i : Nat} {l : List UInt8} {a : Int} (hx : ρ x = .pointer (some ⟨g, i, none⟩)) (hy : ρ y = .int .u8 a) (h : BY w g l) (hi : i < l.length) :
    (execOp ρ ⟨d, .store 5 x y, ty0, pos, after, guard⟩).run Tryz.prog w = .ok .skip (w.setCells g i [.int .u8 a]) := by
  have hc := run_storeCells_cells (P := Tryz.prog) g i [.int .u8 a] 0 w (fun j hj => by
      have hj0 : j = 0 := by simpa using hj
      subst hj0
      show (w.cell? ⟨g, i, none⟩).isSome = true
      rw [h.cell (List.getElem?_eq_getElem hi)]
      rfl) (fun j hj => by
      have hj0 : j = 0 := by simpa using hj
      subst hj0
      exact h.frozen hi) (fun v hv => by rw [List.mem_singleton.1 hv]; rfl)
  have hv : (Value.int .u8 a).cells = #[.int .u8 a] := rfl
  have hr : (Instr.storeAt 5 (.pointer (some ⟨g, i, none⟩)) (.int .u8 a)).run Tryz.prog w = .ok () (w.setCells g i [.int .u8 a]) := by
    simp only [Nat.add_zero] at hc
    simp [Instr.storeAt, Instr.sureAddr, storeVar, Sem.run_bind, Tryz.sizeOf5 w, hv, hc]
  simp [execOp, hx, hy, hr]
theorem ex_bstr {x : Operand} {g o n c : Nat} {l m : List UInt8} (hx : ρ x = .slice (some ⟨g, o, none⟩) n c) (h : BY w g l) (hm : (l.drop o).take n = m) (hn : o + n ≤ l.length) :
    (execOp ρ ⟨d, .convert 114 9 x, ty0, pos, after, guard⟩).run Tryz.prog w = .ok (.value (str m)) w := by
  subst hm
  have hl : ((l.drop o).take n).length = n := by simp; omega
  have e := run_convert_bytes_back (P := Tryz.prog) w 114 9 5 ⟨g, o, none⟩ c ((l.drop o).take n) Tryz.underlying114 Tryz.underlying5 Tryz.underlying9 (fun j hj => by
    rw [Addr.add_mid]
    refine h.cell ?_
    rw [← List.getElem?_eq_getElem hj, List.getElem?_take, List.getElem?_drop, if_pos (by omega)])
  rw [hl] at e
  simp [execOp, hx]
  exact (congrArg (fun r => Result.andThen r _) e).trans rfl
end
section
variable {ops : Array Oper} {rest : List Oper} {o : Oper} {a : Act} {w : World} {Q : Exit → Act → World → Prop}
theorem sq_tobytes {x : Operand} {l : List UInt8} {a' : Nat → Nat → Act} (hw : Region.wanted o (yielded ops a.tmps) = true) (ho : o.op = .convert 9 114 x) (hx : a.eval x = str l)
    (ha : ∀ g c, a.put o.dst (.slice (some ⟨g, 0, none⟩) l.length c) = a' g c)
    (hn : ∀ g c w', BY w' g l → w.heap.size ≤ g → l.length ≤ c → Below w.heap.size w w' → wpList Tryz.prog ops Q rest (a' g c) w') : wpList Tryz.prog ops Q (o :: rest) a w := by
  refine wpList_step fun K hK => ?_
  rw [if_pos hw]
  unfold Oper.wp
  have h := run_bytes_of_string (P := Tryz.prog) w 9 114 5 ⟨l.toArray⟩ Tryz.underlying9 Tryz.underlying114 Tryz.underlying5
  have he : (execOp a.eval o).run Tryz.prog w = .ok (.value (.slice (some ⟨w.heap.size, 0, none⟩) l.length (grownCap w l.length 0 5))) (w.drew.alloc (.cells (bytesRow ⟨l.toArray⟩ (grownCap w l.length 0 5)) 5 ((bytesRow ⟨l.toArray⟩ (grownCap w l.length 0 5)).size, (bytesRow ⟨l.toArray⟩ (grownCap w l.length 0 5)).size + 1))) := by
    rw [size_l] at h
    unfold execOp
    simp only [ho, hx, str, Sem.run_bind, h]
    rfl
  rw [he]
  refine hK _ _ ?_
  rw [ha]
  refine hn _ _ _ ⟨_, _, _, heap_alloc_new w.drew _, ?_, fun i b hb => ?_⟩ (Nat.le_refl _) (grownCap_ge _ _ _ _) (((Below.refl _ _).drew).alloc (Nat.le_refl _) _)
  · show l.length ≤ (bytesRow _ _).size
    simp [bytesRow]
  · obtain ⟨hi, hg⟩ := List.getElem?_eq_some_iff.1 hb
    have e := bytesRow_at ⟨l.toArray⟩ (grownCap w l.length 0 5) i (by simpa using hi)
    rw [e]
    simp [hg]
end
end

section
section
section
open Go.RowKit
structure GettingB (L : List UInt8) (m i : Nat) (zs : List Nat) : Prop where
  len : zs.length = m
  small : Small zs
  num : val zs = bval (L.take i) * 256 ^ (8 * m - i)
theorem GettingB.start (L : List UInt8) (m : Nat) : GettingB L m 0 (List.replicate m 0) :=
  ⟨by simp, fun x hx => by rw [(List.mem_replicate.1 hx).2]; decide, by rw [val_zeros]; simp [bval]⟩
theorem gap (B r b : Nat) (hr : r < 8) (hb : b < 256) : B * 2 ^ (8 * (r + 1)) % 2 ^ 64 + b * 2 ^ (8 * r) < 2 ^ 64 := by
  have e : (2 : Nat) ^ 64 = 2 ^ (8 * (r + 1)) * 2 ^ (64 - 8 * (r + 1)) := by rw [← Nat.pow_add]; congr 1; omega
  have e2 : (2 : Nat) ^ (8 * (r + 1)) = 256 * 2 ^ (8 * r) := by rw [show 8 * (r + 1) = 8 + 8 * r by omega, Nat.pow_add]
  rw [e, Nat.mul_comm B, Nat.mul_mod_mul_left]
  have h1 := Nat.mod_lt B (Nat.two_pow_pos (64 - 8 * (r + 1)))
  generalize B % 2 ^ (64 - 8 * (r + 1)) = q at *
  generalize 2 ^ (64 - 8 * (r + 1)) = M at *
  have h2 : 2 ^ (8 * (r + 1)) * (q + 1) ≤ 2 ^ (8 * (r + 1)) * M := Nat.mul_le_mul_left _ h1
  have h3 : (b + 1) * 2 ^ (8 * r) ≤ 256 * 2 ^ (8 * r) := Nat.mul_le_mul_right _ (by omega)
  have h4 := Nat.two_pow_pos (8 * r)
  rw [Nat.mul_add] at h2
  rw [Nat.add_mul] at h3
  rw [e2] at *
  omega
theorem GettingB.step {L : List UInt8} {m i p : Nat} {zs : List Nat} (h : GettingB L m i zs) (hp : p + 1 + i = 8 * m) (_hL : L.length = 8 * m) {b : UInt8} (hb : L.take (i + 1) = L.take i ++ [b]) :
    lm zs (p / 8) + b.toNat * 2 ^ (8 * (p % 8)) < 2 ^ 64 ∧ GettingB L m (i + 1) (zs.set (p / 8) (lm zs (p / 8) + b.toNat * 2 ^ (8 * (p % 8)))) := by
  have hbl : b.toNat < 256 := UInt8.toNat_lt b
  have hr : p % 8 < 8 := Nat.mod_lt _ (by decide)
  have hj : p / 8 < zs.length := by rw [h.len]; omega
  have e1 : 256 ^ (8 * m - i) = 2 ^ (8 * (p % 8 + 1)) * 2 ^ (64 * (p / 8)) := by
    rw [pow256, ← Nat.pow_add]; congr 1; omega
  have e2 : 256 ^ (8 * m - (i + 1)) = 2 ^ (8 * (p % 8)) * 2 ^ (64 * (p / 8)) := by
    rw [pow256, ← Nat.pow_add]; congr 1; omega
  have h0 : lm zs (p / 8) = bval (L.take i) * 2 ^ (8 * (p % 8 + 1)) % 2 ^ 64 := by
    rw [lm_val h.small, h.num, e1, ← Nat.mul_assoc, Nat.mul_div_cancel _ (Nat.two_pow_pos _)]
  have hlt : lm zs (p / 8) + b.toNat * 2 ^ (8 * (p % 8)) < 2 ^ 64 := by rw [h0]; exact gap _ _ _ hr hbl
  refine ⟨hlt, by simpa using h.len, h.small.set _ hlt, ?_⟩
  have hv := val_set zs (p / 8) (lm zs (p / 8) + b.toNat * 2 ^ (8 * (p % 8))) hj
  rw [hb, bval_snoc, e2]
  rw [h.num, e1, show 2 ^ (8 * (p % 8 + 1)) = 256 * 2 ^ (8 * (p % 8)) by rw [show 8 * (p % 8 + 1) = 8 + 8 * (p % 8) by omega, Nat.pow_add]] at hv
  rw [Nat.add_mul] at hv
  rw [Nat.add_mul, ← Nat.mul_assoc b.toNat]
  have e3 : bval (L.take i) * 256 * (2 ^ (8 * (p % 8)) * 2 ^ (64 * (p / 8))) = bval (L.take i) * (256 * 2 ^ (8 * (p % 8)) * 2 ^ (64 * (p / 8))) := by
    simp only [Nat.mul_assoc]
  rw [e3]
  omega
theorem GettingB.done {L : List UInt8} {m : Nat} {zs : List Nat} (h : GettingB L m (8 * m) zs) (hL : L.length = 8 * m) : zs = row m (bval L) := by
  have e := h.num
  rw [Nat.sub_self, Nat.pow_zero, Nat.mul_one, List.take_of_length_le (by omega)] at e
  rw [← e, ← h.len, row_val h.small]
end

section
open Go.RowKit
set_option maxRecDepth 20000 in
set_option maxHeartbeats 4000000 in
theorem r4Put_v (a : Nat) (w : World) (ha : a < fpB) :
    Calls Tryz.prog 45 #[fpV a] w (MakesT (be 48 a) w) := by
  obtain ⟨w1, hw1, a1, hb1, hs1⟩ := fp_lay_v 24 w a
  have HW := Lib.hid hw1
  have A1 := Lib.hid a1
  have HB1 := Lib.hid hb1
  have hbe : be 48 a = be 48 (val (row 6 a)) := by rw [fpval ha]
  rw [hbe]
  have hx := small_row 6 a
  have hln := length_row 6 a
  clear hw1 a1 hb1 ha hbe
  go_enter Tryz.func45, Tryz.ntmps45
  have HO0 := Lib.hid (ownBS_empty w1 w1.heap.size (Nat.le_refl _))
  have HB0 := Lib.hid (below_alloc w1 (.cells #[] 5))
  go_wp2
  simp only [HW.out]
  rw [← hs1]
  clear HW
  generalize row 6 a = zs at *
  have HX := Lib.hid hx
  have HLN := Lib.hid hln
  clear hx hln
  go_loopw [3, 4] (fun u i wr => ∃ k : Nat, k ≤ 48 ∧ i = .int .i64 ((k : Int) - 1) ∧ OwnBS wr w1.heap.size u (be (48 - k) (val zs / 256 ^ (48 - (48 - k)))) ∧ Below w1.heap.size w1 wr) (fun _ i _ => ((intOf i) + 1).toNat)
  case atStart => exact ⟨48, Nat.le_refl _, by go_num, by rw [Nat.sub_self]; exact HO0.out, HB0.out⟩
  case round =>
    clear HO0 HB0
    obtain ⟨k, hk, rfl, ho, hbl⟩ := hrel
    by_cases hlt : 1 ≤ k
    · obtain ⟨q, rfl⟩ : ∃ q, k = q + 1 := ⟨k - 1, by omega⟩
      have S := Lib.hid (be_step (val zs) 48 (48 - (q + 1)) (by omega))
      have a2 := A1.out.keep hbl
      have hc := a2.cell (i := q / 8) (by rw [HLN.out]; omega)
      have hx := lm_lt HX.out (q / 8)
      have X := Lib.hid (lm_val HX.out (q / 8))
      have hsz := hbl.size
      have hq4 : (q : Int) / 8 < 6 := by omega
      have HO := Lib.hid ho
      have HB := Lib.hid hbl
      have HH := Lib.hid hs1
      clear ho hbl a2 hs1
      have Y := Lib.hid (ref_byte (lm zs (q / 8)) (8 * (q % 8)))
      have HY : Hid (0 ≤ ((lm zs (q / 8) : Int) / 2 ^ (8 * (q % 8))).tmod 256 % 256 ∧ ((lm zs (q / 8) : Int) / 2 ^ (8 * (q % 8))).tmod 256 % 256 < 256) :=
        ⟨Int.emod_nonneg _ (by decide), Int.emod_lt_of_pos _ (by decide)⟩
      go_wp2_with (at_builtin; refine wpList_append_byte _ rfl (.tmp 10) (.tmp 22) rfl w1.heap.size _ _ rfl _ HO.out rfl HY.out (by rw [length_be]; omega) (by omega) ?_; intro v' w' ho' hb')
      have HO' : Hid (OwnBS w' w1.heap.size v' (be (48 - q) (val zs / 256 ^ (48 - (48 - q))))) := by
        have h := ho'
        have s1 := S.out
        rw [show 48 - 1 - (48 - (q + 1)) = q by omega, show 48 - (q + 1) + 1 = 48 - q by omega] at s1
        rw [Y.out, Int.toNat_natCast, X.out, byte_of_limb, s1] at h
        exact h
      have HB' := Lib.hid (HB.out.trans hb')
      clear ho' hb'
      go_roundw
      case rel => exact ⟨q, by omega, by go_num, HO'.out, HB'.out⟩
      case measure => simp [intOf]
    · obtain rfl : k = 0 := by omega
      have hconv : (convert 114 9 u3).run Tryz.prog wr = .ok (.string ⟨(be 48 (val zs)).toArray⟩) wr := by
        have h := ho
        rw [Nat.sub_zero, Nat.sub_self, Nat.pow_zero, Nat.div_one] at h
        exact h.str
      have HB := Lib.hid (below_then HB1.out hbl)
      clear ho hbl
      generalize be 48 (val zs) = t at *
      go_wp2
      go_ret
      exact ⟨rfl, HB.out⟩
end
end

section
open Go.RowKit Cv
theorem wrapU8 {a : Int} (h0 : 0 ≤ a) (h1 : a < 256) : IntKind.u8.wrap a = a := by
  rw [IntKind.wrap_u8]
  omega
set_option maxRecDepth 20000 in
set_option maxHeartbeats 4000000 in
theorem r10Flags_000 (w : World) :
    Calls Tryz.prog 47 #[.bool false, .bool false, .bool false] w (Is (.int .u8 0) w) := by
  go_enter Tryz.func47, Tryz.ntmps47
  refine wp_seq (region_0 [6] [.int .u8 0] ?_ ?_)
  · refine stpx (fun _ _ => ex_assign _) ?_
    exact GSteps.nil
  intro w1 hb1
  refine th_r ?_
  have HB2 := below_then (Below.refl w.heap.size w) hb1.out
  refine wp_seq (region_0 [7] [.int .u8 0] ?_ ?_)
  · refine stpx (fun _ _ => ex_assign _) ?_
    exact GSteps.nil
  intro w3 hb3
  refine th_r ?_
  have HB4 := below_then HB2 hb3.out
  refine wp_seq ?_
  refine wp_seq (region_0 [8] [.bool false] ?_ ?_)
  · refine stpx (fun _ _ => ex_move _) ?_
    exact GSteps.nil
  intro w5 hb5
  refine th_r ?_
  have HB6 := below_then HB4 hb5.out
  refine wp_cond_false rfl ?_
  refine wp_skip ?_
  refine th_r ?_
  refine wp_seq ?_
  refine wp_seq (region_0 [11] [.bool false] ?_ ?_)
  · refine stpx (fun _ _ => ex_move _) ?_
    exact GSteps.nil
  intro w7 hb7
  refine th_r ?_
  have HB8 := below_then HB6 hb7.out
  refine wp_cond_false rfl ?_
  refine wp_skip ?_
  refine th_r ?_
  refine wp_seq ?_
  refine wp_seq (region_0 [14, 15, 16, 17] [.bool false, .bool false, undef, .bool false] ?_ ?_)
  · refine stpx (fun _ _ => ex_move _) ?_
    refine stpx (fun _ _ => ex_move _) ?_
    refine stps ?_
    refine stpx (fun _ _ => ex_pick (r := false) rfl) ?_
    exact GSteps.nil
  intro w9 hb9
  refine th_r ?_
  have HB10 := below_then HB8 hb9.out
  refine wp_cond_false rfl ?_
  refine wp_skip ?_
  refine th_r ?_
  refine wp_seq (region_0 [20, 6] [.int .u8 0, .int .u8 0] ?_ ?_)
  · refine stpx (fun _ _ => ex_move _) ?_
    refine stpx (fun _ _ => ex_assign _) ?_
    exact GSteps.nil
  intro w11 hb11
  refine th_r ?_
  have HB12 := below_then HB10 hb11.out
  exact wp_ret (bodyPost_ret (ret1 Tryz.results47 (res_tmp rfl)) rfl ⟨rfl, HB12⟩)
set_option maxRecDepth 20000 in
set_option maxHeartbeats 4000000 in
theorem r10Flags_010 (w : World) :
    Calls Tryz.prog 47 #[.bool false, .bool true, .bool false] w (Is (.int .u8 0) w) := by
  go_enter Tryz.func47, Tryz.ntmps47
  refine wp_seq (region_0 [6] [.int .u8 0] ?_ ?_)
  · refine stpx (fun _ _ => ex_assign _) ?_
    exact GSteps.nil
  intro w1 hb1
  refine th_r ?_
  have HB2 := below_then (Below.refl w.heap.size w) hb1.out
  refine wp_seq (region_0 [7] [.int .u8 0] ?_ ?_)
  · refine stpx (fun _ _ => ex_assign _) ?_
    exact GSteps.nil
  intro w3 hb3
  refine th_r ?_
  have HB4 := below_then HB2 hb3.out
  refine wp_seq ?_
  refine wp_seq (region_0 [8] [.bool false] ?_ ?_)
  · refine stpx (fun _ _ => ex_move _) ?_
    exact GSteps.nil
  intro w5 hb5
  refine th_r ?_
  have HB6 := below_then HB4 hb5.out
  refine wp_cond_false rfl ?_
  refine wp_skip ?_
  refine th_r ?_
  refine wp_seq ?_
  refine wp_seq (region_0 [11] [.bool false] ?_ ?_)
  · refine stpx (fun _ _ => ex_move _) ?_
    exact GSteps.nil
  intro w7 hb7
  refine th_r ?_
  have HB8 := below_then HB6 hb7.out
  refine wp_cond_false rfl ?_
  refine wp_skip ?_
  refine th_r ?_
  refine wp_seq ?_
  refine wp_seq (region_0 [14, 15, 16, 17] [.bool false, .bool false, undef, .bool false] ?_ ?_)
  · refine stpx (fun _ _ => ex_move _) ?_
    refine stpx (fun _ _ => ex_move _) ?_
    refine stps ?_
    refine stpx (fun _ _ => ex_pick (r := false) rfl) ?_
    exact GSteps.nil
  intro w9 hb9
  refine th_r ?_
  have HB10 := below_then HB8 hb9.out
  refine wp_cond_false rfl ?_
  refine wp_skip ?_
  refine th_r ?_
  refine wp_seq (region_0 [20, 6] [.int .u8 0, .int .u8 0] ?_ ?_)
  · refine stpx (fun _ _ => ex_move _) ?_
    refine stpx (fun _ _ => ex_assign _) ?_
    exact GSteps.nil
  intro w11 hb11
  refine th_r ?_
  have HB12 := below_then HB10 hb11.out
  exact wp_ret (bodyPost_ret (ret1 Tryz.results47 (res_tmp rfl)) rfl ⟨rfl, HB12⟩)
set_option maxRecDepth 20000 in
set_option maxHeartbeats 4000000 in
theorem r10Flags_100 (w : World) :
    Calls Tryz.prog 47 #[.bool true, .bool false, .bool false] w (Is (.int .u8 64) w) := by
  go_enter Tryz.func47, Tryz.ntmps47
  refine wp_seq (region_0 [6] [.int .u8 0] ?_ ?_)
  · refine stpx (fun _ _ => ex_assign _) ?_
    exact GSteps.nil
  intro w1 hb1
  refine th_r ?_
  have HB2 := below_then (Below.refl w.heap.size w) hb1.out
  refine wp_seq (region_0 [7] [.int .u8 0] ?_ ?_)
  · refine stpx (fun _ _ => ex_assign _) ?_
    exact GSteps.nil
  intro w3 hb3
  refine th_r ?_
  have HB4 := below_then HB2 hb3.out
  refine wp_seq ?_
  refine wp_seq (region_0 [8] [.bool false] ?_ ?_)
  · refine stpx (fun _ _ => ex_move _) ?_
    exact GSteps.nil
  intro w5 hb5
  refine th_r ?_
  have HB6 := below_then HB4 hb5.out
  refine wp_cond_false rfl ?_
  refine wp_skip ?_
  refine th_r ?_
  refine wp_seq ?_
  refine wp_seq (region_0 [11] [.bool true] ?_ ?_)
  · refine stpx (fun _ _ => ex_move _) ?_
    exact GSteps.nil
  intro w7 hb7
  refine th_r ?_
  have HB8 := below_then HB6 hb7.out
  refine wp_cond_true rfl ?_
  refine wp_region_lit ?_
  refine sv1 (.int .u8 0) (ex_move _) ?_
  refine sv1 (.int .u8 64) (ex_iadd rfl rfl 64 rfl) ?_
  refine sv1 (.int .u8 64) (ex_assign _) ?_
  refine wpList_nil ?_
  refine th_r ?_
  refine wp_seq ?_
  refine wp_seq (region_0 [14, 15, 16, 17] [.bool false, .bool false, undef, .bool false] ?_ ?_)
  · refine stpx (fun _ _ => ex_move _) ?_
    refine stpx (fun _ _ => ex_move _) ?_
    refine stps ?_
    refine stpx (fun _ _ => ex_pick (r := false) rfl) ?_
    exact GSteps.nil
  intro w9 hb9
  refine th_r ?_
  have HB10 := below_then HB8 hb9.out
  refine wp_cond_false rfl ?_
  refine wp_skip ?_
  refine th_r ?_
  refine wp_seq (region_0 [20, 6] [.int .u8 64, .int .u8 64] ?_ ?_)
  · refine stpx (fun _ _ => ex_move _) ?_
    refine stpx (fun _ _ => ex_assign _) ?_
    exact GSteps.nil
  intro w11 hb11
  refine th_r ?_
  have HB12 := below_then HB10 hb11.out
  exact wp_ret (bodyPost_ret (ret1 Tryz.results47 (res_tmp rfl)) rfl ⟨rfl, HB12⟩)
set_option maxRecDepth 20000 in
set_option maxHeartbeats 4000000 in
theorem r10Flags_110 (w : World) :
    Calls Tryz.prog 47 #[.bool true, .bool true, .bool false] w (Is (.int .u8 64) w) := by
  go_enter Tryz.func47, Tryz.ntmps47
  refine wp_seq (region_0 [6] [.int .u8 0] ?_ ?_)
  · refine stpx (fun _ _ => ex_assign _) ?_
    exact GSteps.nil
  intro w1 hb1
  refine th_r ?_
  have HB2 := below_then (Below.refl w.heap.size w) hb1.out
  refine wp_seq (region_0 [7] [.int .u8 0] ?_ ?_)
  · refine stpx (fun _ _ => ex_assign _) ?_
    exact GSteps.nil
  intro w3 hb3
  refine th_r ?_
  have HB4 := below_then HB2 hb3.out
  refine wp_seq ?_
  refine wp_seq (region_0 [8] [.bool false] ?_ ?_)
  · refine stpx (fun _ _ => ex_move _) ?_
    exact GSteps.nil
  intro w5 hb5
  refine th_r ?_
  have HB6 := below_then HB4 hb5.out
  refine wp_cond_false rfl ?_
  refine wp_skip ?_
  refine th_r ?_
  refine wp_seq ?_
  refine wp_seq (region_0 [11] [.bool true] ?_ ?_)
  · refine stpx (fun _ _ => ex_move _) ?_
    exact GSteps.nil
  intro w7 hb7
  refine th_r ?_
  have HB8 := below_then HB6 hb7.out
  refine wp_cond_true rfl ?_
  refine wp_region_lit ?_
  refine sv1 (.int .u8 0) (ex_move _) ?_
  refine sv1 (.int .u8 64) (ex_iadd rfl rfl 64 rfl) ?_
  refine sv1 (.int .u8 64) (ex_assign _) ?_
  refine wpList_nil ?_
  refine th_r ?_
  refine wp_seq ?_
  refine wp_seq (region_0 [14, 15, 16, 17] [.bool false, .bool false, undef, .bool false] ?_ ?_)
  · refine stpx (fun _ _ => ex_move _) ?_
    refine stpx (fun _ _ => ex_move _) ?_
    refine stps ?_
    refine stpx (fun _ _ => ex_pick (r := false) rfl) ?_
    exact GSteps.nil
  intro w9 hb9
  refine th_r ?_
  have HB10 := below_then HB8 hb9.out
  refine wp_cond_false rfl ?_
  refine wp_skip ?_
  refine th_r ?_
  refine wp_seq (region_0 [20, 6] [.int .u8 64, .int .u8 64] ?_ ?_)
  · refine stpx (fun _ _ => ex_move _) ?_
    refine stpx (fun _ _ => ex_assign _) ?_
    exact GSteps.nil
  intro w11 hb11
  refine th_r ?_
  have HB12 := below_then HB10 hb11.out
  exact wp_ret (bodyPost_ret (ret1 Tryz.results47 (res_tmp rfl)) rfl ⟨rfl, HB12⟩)
set_option maxRecDepth 20000 in
set_option maxHeartbeats 4000000 in
theorem r10Flags_001 (w : World) :
    Calls Tryz.prog 47 #[.bool false, .bool false, .bool true] w (Is (.int .u8 128) w) := by
  go_enter Tryz.func47, Tryz.ntmps47
  refine wp_seq (region_0 [6] [.int .u8 0] ?_ ?_)
  · refine stpx (fun _ _ => ex_assign _) ?_
    exact GSteps.nil
  intro w1 hb1
  refine th_r ?_
  have HB2 := below_then (Below.refl w.heap.size w) hb1.out
  refine wp_seq (region_0 [7] [.int .u8 0] ?_ ?_)
  · refine stpx (fun _ _ => ex_assign _) ?_
    exact GSteps.nil
  intro w3 hb3
  refine th_r ?_
  have HB4 := below_then HB2 hb3.out
  refine wp_seq ?_
  refine wp_seq (region_0 [8] [.bool true] ?_ ?_)
  · refine stpx (fun _ _ => ex_move _) ?_
    exact GSteps.nil
  intro w5 hb5
  refine th_r ?_
  have HB6 := below_then HB4 hb5.out
  refine wp_cond_true rfl ?_
  refine wp_region_lit ?_
  refine sv1 (.int .u8 0) (ex_move _) ?_
  refine sv1 (.int .u8 128) (ex_iadd rfl rfl 128 rfl) ?_
  refine sv1 (.int .u8 128) (ex_assign _) ?_
  refine wpList_nil ?_
  refine th_r ?_
  refine wp_seq ?_
  refine wp_seq (region_0 [11] [.bool false] ?_ ?_)
  · refine stpx (fun _ _ => ex_move _) ?_
    exact GSteps.nil
  intro w7 hb7
  refine th_r ?_
  have HB8 := below_then HB6 hb7.out
  refine wp_cond_false rfl ?_
  refine wp_skip ?_
  refine th_r ?_
  refine wp_seq ?_
  refine wp_seq (region_0 [14, 15, 16, 17] [.bool true, .bool true, .bool false, .bool false] ?_ ?_)
  · refine stpx (fun _ _ => ex_move _) ?_
    refine stpx (fun _ _ => ex_move _) ?_
    refine stpx (fun _ _ => ex_move _) ?_
    refine stpx (fun _ _ => ex_pick (r := true) rfl) ?_
    exact GSteps.nil
  intro w9 hb9
  refine th_r ?_
  have HB10 := below_then HB8 hb9.out
  refine wp_cond_false rfl ?_
  refine wp_skip ?_
  refine th_r ?_
  refine wp_seq (region_0 [20, 6] [.int .u8 128, .int .u8 128] ?_ ?_)
  · refine stpx (fun _ _ => ex_move _) ?_
    refine stpx (fun _ _ => ex_assign _) ?_
    exact GSteps.nil
  intro w11 hb11
  refine th_r ?_
  have HB12 := below_then HB10 hb11.out
  exact wp_ret (bodyPost_ret (ret1 Tryz.results47 (res_tmp rfl)) rfl ⟨rfl, HB12⟩)
set_option maxRecDepth 20000 in
set_option maxHeartbeats 4000000 in
theorem r10Flags_011 (w : World) :
    Calls Tryz.prog 47 #[.bool false, .bool true, .bool true] w (Is (.int .u8 160) w) := by
  go_enter Tryz.func47, Tryz.ntmps47
  refine wp_seq (region_0 [6] [.int .u8 0] ?_ ?_)
  · refine stpx (fun _ _ => ex_assign _) ?_
    exact GSteps.nil
  intro w1 hb1
  refine th_r ?_
  have HB2 := below_then (Below.refl w.heap.size w) hb1.out
  refine wp_seq (region_0 [7] [.int .u8 0] ?_ ?_)
  · refine stpx (fun _ _ => ex_assign _) ?_
    exact GSteps.nil
  intro w3 hb3
  refine th_r ?_
  have HB4 := below_then HB2 hb3.out
  refine wp_seq ?_
  refine wp_seq (region_0 [8] [.bool true] ?_ ?_)
  · refine stpx (fun _ _ => ex_move _) ?_
    exact GSteps.nil
  intro w5 hb5
  refine th_r ?_
  have HB6 := below_then HB4 hb5.out
  refine wp_cond_true rfl ?_
  refine wp_region_lit ?_
  refine sv1 (.int .u8 0) (ex_move _) ?_
  refine sv1 (.int .u8 128) (ex_iadd rfl rfl 128 rfl) ?_
  refine sv1 (.int .u8 128) (ex_assign _) ?_
  refine wpList_nil ?_
  refine th_r ?_
  refine wp_seq ?_
  refine wp_seq (region_0 [11] [.bool false] ?_ ?_)
  · refine stpx (fun _ _ => ex_move _) ?_
    exact GSteps.nil
  intro w7 hb7
  refine th_r ?_
  have HB8 := below_then HB6 hb7.out
  refine wp_cond_false rfl ?_
  refine wp_skip ?_
  refine th_r ?_
  refine wp_seq ?_
  refine wp_seq (region_0 [14, 15, 16, 17] [.bool true, .bool true, .bool true, .bool true] ?_ ?_)
  · refine stpx (fun _ _ => ex_move _) ?_
    refine stpx (fun _ _ => ex_move _) ?_
    refine stpx (fun _ _ => ex_move _) ?_
    refine stpx (fun _ _ => ex_pick (r := true) rfl) ?_
    exact GSteps.nil
  intro w9 hb9
  refine th_r ?_
  have HB10 := below_then HB8 hb9.out
  refine wp_cond_true rfl ?_
  refine wp_region_lit ?_
  refine sv1 (.int .u8 128) (ex_move _) ?_
  refine sv1 (.int .u8 160) (ex_iadd rfl rfl 160 rfl) ?_
  refine sv1 (.int .u8 160) (ex_assign _) ?_
  refine wpList_nil ?_
  refine th_r ?_
  refine wp_seq (region_0 [20, 6] [.int .u8 160, .int .u8 160] ?_ ?_)
  · refine stpx (fun _ _ => ex_move _) ?_
    refine stpx (fun _ _ => ex_assign _) ?_
    exact GSteps.nil
  intro w11 hb11
  refine th_r ?_
  have HB12 := below_then HB10 hb11.out
  exact wp_ret (bodyPost_ret (ret1 Tryz.results47 (res_tmp rfl)) rfl ⟨rfl, HB12⟩)
set_option maxRecDepth 20000 in
set_option maxHeartbeats 4000000 in
theorem r10Flags_101 (w : World) :
    Calls Tryz.prog 47 #[.bool true, .bool false, .bool true] w (Is (.int .u8 192) w) := by
  go_enter Tryz.func47, Tryz.ntmps47
  refine wp_seq (region_0 [6] [.int .u8 0] ?_ ?_)
  · refine stpx (fun _ _ => ex_assign _) ?_
    exact GSteps.nil
  intro w1 hb1
  refine th_r ?_
  have HB2 := below_then (Below.refl w.heap.size w) hb1.out
  refine wp_seq (region_0 [7] [.int .u8 0] ?_ ?_)
  · refine stpx (fun _ _ => ex_assign _) ?_
    exact GSteps.nil
  intro w3 hb3
  refine th_r ?_
  have HB4 := below_then HB2 hb3.out
  refine wp_seq ?_
  refine wp_seq (region_0 [8] [.bool true] ?_ ?_)
  · refine stpx (fun _ _ => ex_move _) ?_
    exact GSteps.nil
  intro w5 hb5
  refine th_r ?_
  have HB6 := below_then HB4 hb5.out
  refine wp_cond_true rfl ?_
  refine wp_region_lit ?_
  refine sv1 (.int .u8 0) (ex_move _) ?_
  refine sv1 (.int .u8 128) (ex_iadd rfl rfl 128 rfl) ?_
  refine sv1 (.int .u8 128) (ex_assign _) ?_
  refine wpList_nil ?_
  refine th_r ?_
  refine wp_seq ?_
  refine wp_seq (region_0 [11] [.bool true] ?_ ?_)
  · refine stpx (fun _ _ => ex_move _) ?_
    exact GSteps.nil
  intro w7 hb7
  refine th_r ?_
  have HB8 := below_then HB6 hb7.out
  refine wp_cond_true rfl ?_
  refine wp_region_lit ?_
  refine sv1 (.int .u8 128) (ex_move _) ?_
  refine sv1 (.int .u8 192) (ex_iadd rfl rfl 192 rfl) ?_
  refine sv1 (.int .u8 192) (ex_assign _) ?_
  refine wpList_nil ?_
  refine th_r ?_
  refine wp_seq ?_
  refine wp_seq (region_0 [14, 15, 16, 17] [.bool true, .bool true, .bool false, .bool false] ?_ ?_)
  · refine stpx (fun _ _ => ex_move _) ?_
    refine stpx (fun _ _ => ex_move _) ?_
    refine stpx (fun _ _ => ex_move _) ?_
    refine stpx (fun _ _ => ex_pick (r := true) rfl) ?_
    exact GSteps.nil
  intro w9 hb9
  refine th_r ?_
  have HB10 := below_then HB8 hb9.out
  refine wp_cond_false rfl ?_
  refine wp_skip ?_
  refine th_r ?_
  refine wp_seq (region_0 [20, 6] [.int .u8 192, .int .u8 192] ?_ ?_)
  · refine stpx (fun _ _ => ex_move _) ?_
    refine stpx (fun _ _ => ex_assign _) ?_
    exact GSteps.nil
  intro w11 hb11
  refine th_r ?_
  have HB12 := below_then HB10 hb11.out
  exact wp_ret (bodyPost_ret (ret1 Tryz.results47 (res_tmp rfl)) rfl ⟨rfl, HB12⟩)
set_option maxRecDepth 20000 in
set_option maxHeartbeats 4000000 in
theorem r10Flags_111 (w : World) :
    Calls Tryz.prog 47 #[.bool true, .bool true, .bool true] w (Is (.int .u8 224) w) := by
  go_enter Tryz.func47, Tryz.ntmps47
  refine wp_seq (region_0 [6] [.int .u8 0] ?_ ?_)
  · refine stpx (fun _ _ => ex_assign _) ?_
    exact GSteps.nil
  intro w1 hb1
  refine th_r ?_
  have HB2 := below_then (Below.refl w.heap.size w) hb1.out
  refine wp_seq (region_0 [7] [.int .u8 0] ?_ ?_)
  · refine stpx (fun _ _ => ex_assign _) ?_
    exact GSteps.nil
  intro w3 hb3
  refine th_r ?_
  have HB4 := below_then HB2 hb3.out
  refine wp_seq ?_
  refine wp_seq (region_0 [8] [.bool true] ?_ ?_)
  · refine stpx (fun _ _ => ex_move _) ?_
    exact GSteps.nil
  intro w5 hb5
  refine th_r ?_
  have HB6 := below_then HB4 hb5.out
  refine wp_cond_true rfl ?_
  refine wp_region_lit ?_
  refine sv1 (.int .u8 0) (ex_move _) ?_
  refine sv1 (.int .u8 128) (ex_iadd rfl rfl 128 rfl) ?_
  refine sv1 (.int .u8 128) (ex_assign _) ?_
  refine wpList_nil ?_
  refine th_r ?_
  refine wp_seq ?_
  refine wp_seq (region_0 [11] [.bool true] ?_ ?_)
  · refine stpx (fun _ _ => ex_move _) ?_
    exact GSteps.nil
  intro w7 hb7
  refine th_r ?_
  have HB8 := below_then HB6 hb7.out
  refine wp_cond_true rfl ?_
  refine wp_region_lit ?_
  refine sv1 (.int .u8 128) (ex_move _) ?_
  refine sv1 (.int .u8 192) (ex_iadd rfl rfl 192 rfl) ?_
  refine sv1 (.int .u8 192) (ex_assign _) ?_
  refine wpList_nil ?_
  refine th_r ?_
  refine wp_seq ?_
  refine wp_seq (region_0 [14, 15, 16, 17] [.bool true, .bool true, .bool true, .bool true] ?_ ?_)
  · refine stpx (fun _ _ => ex_move _) ?_
    refine stpx (fun _ _ => ex_move _) ?_
    refine stpx (fun _ _ => ex_move _) ?_
    refine stpx (fun _ _ => ex_pick (r := true) rfl) ?_
    exact GSteps.nil
  intro w9 hb9
  refine th_r ?_
  have HB10 := below_then HB8 hb9.out
  refine wp_cond_true rfl ?_
  refine wp_region_lit ?_
  refine sv1 (.int .u8 192) (ex_move _) ?_
  refine sv1 (.int .u8 224) (ex_iadd rfl rfl 224 rfl) ?_
  refine sv1 (.int .u8 224) (ex_assign _) ?_
  refine wpList_nil ?_
  refine th_r ?_
  refine wp_seq (region_0 [20, 6] [.int .u8 224, .int .u8 224] ?_ ?_)
  · refine stpx (fun _ _ => ex_move _) ?_
    refine stpx (fun _ _ => ex_assign _) ?_
    exact GSteps.nil
  intro w11 hb11
  refine th_r ?_
  have HB12 := below_then HB10 hb11.out
  exact wp_ret (bodyPost_ret (ret1 Tryz.results47 (res_tmp rfl)) rfl ⟨rfl, HB12⟩)
theorem r10Flags_q (i h s : Bool) (w : World) : Calls Tryz.prog 47 #[.bool i, .bool h, .bool s] w (Is (.int .u8 ((32 * fk s i (s && h) : Nat) : Int)) w) := by
  cases i <;> cases h <;> cases s
  · exact r10Flags_000 w
  · exact r10Flags_001 w
  · exact r10Flags_010 w
  · exact r10Flags_011 w
  · exact r10Flags_100 w
  · exact r10Flags_101 w
  · exact r10Flags_110 w
  · exact r10Flags_111 w
set_option maxRecDepth 20000 in
set_option maxHeartbeats 4000000 in
theorem r10with_v (b : UInt8) (t : List UInt8) (k : Nat) (hb : b.toNat < 32) (hk : k < 8) (w : World) :
    Calls Tryz.prog 46 #[str ((b :: t)), .int .u8 ((32 * k : Nat) : Int)] w (Is (str ((UInt8.ofNat (b.toNat + 32 * k) :: t))) w) := by
  have with_add : IntKind.u8.wrap ((b.toNat : Int) + ((32 * k : Nat) : Int)) = (((UInt8.ofNat (b.toNat + 32 * k)).toNat : Nat) : Int) := by
    rw [toNat_ofNat (by omega), wrapU8 (by omega) (by omega)]
    omega
  go_enter Tryz.func46, Tryz.ntmps46
  refine seq_lit ?_
  refine sv1 (str []) (ex_assign _) ?_
  refine seq_nil ?_
  refine seq_lit ?_
  refine sv1 (str ((b :: t))) (ex_move _) ?_
  refine sq_tobytes (l := b :: t) (a' := fun g3 c3 => ⟨#[str ((b :: t)), .int .u8 ((32 * k : Nat) : Int), undef, undef, str [], undef, str ((b :: t)), .slice (some ⟨g3, 0, none⟩) (b :: t).length c3, undef, undef, undef, undef, undef, undef, undef, undef, undef], []⟩) rfl rfl rfl (fun _ _ => rfl) ?_
  intro g3 c3 w3 B3 le3 hc3 hb3
  have HB4 := below_then (Below.refl w.heap.size w) hb3
  refine sv1 (.slice (some ⟨g3, 0, none⟩) (b :: t).length c3) (ex_assign _) ?_
  refine seq_nil ?_
  refine seq_lit ?_
  refine sv1 (.slice (some ⟨g3, 0, none⟩) (b :: t).length c3) (ex_move _) ?_
  refine sv1 (.slice (some ⟨g3, 0, none⟩) (b :: t).length c3) (ex_move _) ?_
  refine sv1 (.pointer (some ⟨g3, 0, none⟩)) (ex_sidx0 0 rfl rfl (by simp)) ?_
  refine sv1 (.int .u8 (b.toNat : Int)) (ex_loadB rfl B3 rfl) ?_
  refine sv1 (.int .u8 ((32 * k : Nat) : Int)) (ex_move _) ?_
  refine sv1 (.int .u8 (((UInt8.ofNat (b.toNat + 32 * k)).toNat : Nat) : Int)) (ex_iadd rfl rfl _ with_add) ?_
  refine sv1 (.pointer (some ⟨g3, 0, none⟩)) (ex_sidx0 0 rfl rfl (by simp)) ?_
  refine ss1 (g := g3) (p := 0) (m := [.i .u8 (((UInt8.ofNat (b.toNat + 32 * k)).toNat : Nat) : Int)]) (ex_storeB rfl rfl B3 (by simp)) ?_
  intro w13 hs13
  have B13 : BY w13 g3 (UInt8.ofNat (b.toNat + 32 * k) :: t) := by rw [show w13 = _ from hs13]; exact B3.set 0 _ rfl
  have HB14 := hs13.below HB4 (Nat.le_trans (Nat.le_refl _) le3)
  refine seq_nil ?_
  refine seq_lit ?_
  refine sv1 (.slice (some ⟨g3, 0, none⟩) (b :: t).length c3) (ex_move _) ?_
  refine sv1 (str ((UInt8.ofNat (b.toNat + 32 * k) :: t))) (ex_bstr rfl B13 (by simp) (by simp)) ?_
  refine sv1 (str ((UInt8.ofNat (b.toNat + 32 * k) :: t))) (ex_assign _) ?_
  refine seq_nil ?_
  exact wp_ret (bodyPost_ret (ret1 Tryz.results46 (res_tmp rfl)) rfl ⟨rfl, HB14⟩)
theorem r10with_q (l : List UInt8) (h : Led l) (k : Nat) (hk : k < 8) (w : World) : Calls Tryz.prog 46 #[str l, .int .u8 ((32 * k : Nat) : Int)] w (Is (str ((mark k l))) w) := by
  obtain ⟨b, t, rfl, hb⟩ := h
  exact r10with_v b t k hb hk w
theorem r4Put_l (a : Nat) (ha : a < fpB) (w : World) : Calls Tryz.prog 45 #[nv 6 [a]] w (Is (str ((be 48 a))) w) := by
  rw [nv6]
  exact r4Put_v a w ha
end
end
end Go.Proofs.YtkkmekdhejhapaaGreat
