/- What is proved here: slices that are made: their zeros, a store into one of their elements; slices that a call answers; a late store of a value that names a block which the region makes; functions without an answer; slices of whole numbers: read, written, cleared; package sum: buckets: made, emptied, filled, added up. -/
import Derived.Test.YtkkmekdhejhapaaGreatSum1
import Derived.Test.YtkkmekdhejhapaaGreatSum2
import Derived.Test.YtkkmekdhejhapaaGreatSumNum
namespace Go.Proofs.YtkkmekdhejhapaaGreat
section
open Go.RowKit Cv
theorem cat_len {S : Nat → List Seg} {n : Nat} (hn : ∀ i, ssize (S i) = n) : ∀ m, (segs (cat S m)).length = n * m := by
  intro m
  induction m with
  | zero => rfl
  | succ m ih => rw [cat, segs_app, List.length_append, ih, segs_len, hn, Nat.mul_succ]
theorem cat_at {S : Nat → List Seg} {n : Nat} (hn : ∀ i, ssize (S i) = n) : ∀ m i j, i < m → j < n → (segs (cat S m))[n * i + j]? = (segs (S i))[j]? := by
  intro m i j hi hj
  obtain ⟨x, y, e, hx⟩ := cat_cut hn m i hi
  rw [e, List.getElem?_append_right (by omega), hx, Nat.add_sub_cancel_left, List.getElem?_append_left (by rw [segs_len, hn]; exact hj)]
theorem szB_ok : ∀ (l : List Seg) (n : Nat), ssize l = n → szB l n = true
  | [], n, h => by
    subst h
    rfl
  | s :: l, n, h => by
    have h' : s.size + ssize l = n := h
    unfold szB
    rw [Nat.ble_eq_true_of_le (show s.size ≤ n by omega)]
    exact szB_ok l _ (by omega)
theorem cat_ext {S S' : Nat → List Seg} : ∀ {m : Nat}, (∀ i, i < m → S i = S' i) → cat S m = cat S' m
  | 0, _ => rfl
  | m + 1, h => by rw [cat, cat, cat_ext (fun i hi => h i (by omega)), h m (by omega)]
theorem made_row {n : Nat} {z : List Seg} (hz : ssize z = n) (h0 : 0 < n) (m : Nat) : (Array.range (m * n)).map (fun i => (segs z).toArray[i % (segs z).toArray.size]!) = (segs (cat (fun _ => z) m)).toArray := by
  have hl : (segs z).length = n := by rw [segs_len, hz]
  have hc := cat_len (S := fun _ => z) (fun _ => hz) m
  refine Array.ext (by simp [hc, Nat.mul_comm]) fun i h1 h2 => ?_
  have hi : i < n * m := by simpa [hc] using h2
  have hq : i / n < m := by rwa [Nat.div_lt_iff_lt_mul h0, Nat.mul_comm]
  have hr := Nat.mod_lt i h0
  have e := cat_at (S := fun _ => z) (fun _ => hz) m (i / n) (i % n) hq hr
  rw [Nat.div_add_mod] at e
  rw [List.getElem?_eq_getElem (by rw [hc]; exact hi), List.getElem?_eq_getElem (by rw [hl]; exact hr)] at e
  injection e with e
  simp only [Array.getElem_map, Array.getElem_range, List.size_toArray, hl]
  rw [List.getElem_toArray, e]
  simp [hl, hr]
section
variable {ρ : Operand → Value} {d : Option Tmp} {ty0 : TypeId} {pos : String} {after : Array Edge} {guard : Option (Nat × Bool)} {w : World}
theorem run_inf {e : TypeId} {i : TypeInfo} (h : Tryz.prog.info? e = some i) (w : World) : (typeInfo e).run Tryz.prog w = .ok i w := by
  simp [typeInfo, h, go_sem]
theorem ex_mkR {st e : TypeId} {n b : Nat} (hs : SlS st e n) {z : List Seg} (hzn : ssize z = n) (h0n : 0 < n) (hz : ∀ w, (zeroValue e).run Tryz.prog w = .ok (cv (segs z)) w) (hi : ∃ i, Tryz.prog.info? e = some i ∧ i.bytes = b) (hb1 : b ≤ 1000)
    {x y : Operand} {m : Nat} (hx : ρ x = .int .i64 (m : Int)) (hy : ρ y = .int .i64 (m : Int)) (hm : m ≤ 5000) :
    (execOp ρ ⟨d, .makeSlice st x y, ty0, pos, after, guard⟩).run Tryz.prog w = .ok (.value (.slice (some ⟨w.heap.size, 0, none⟩) m m)) (w.alloc (.cells (segs (cat (fun _ => z) m)).toArray e)) := by
  obtain ⟨i, hi, hb⟩ := hi
  have hmb : m * b ≤ 5000 * 1000 := Nat.mul_le_mul hm hb1
  have hmbI : (b : Int) * (m : Int) = ((m * b : Nat) : Int) := by rw [Int.natCast_mul, Int.mul_comm]
  have w1 : IntKind.i64.wrap (m : Int) = (m : Int) := by rw [IntKind.wrap_i64]; omega
  have t1 : ¬ ((m : Int) < 0) := by omega
  have t2 : ¬ ((b : Int) * (m : Int) > 2 ^ 48) := by rw [hmbI]; omega
  have t4 : ¬ ((m : Int) > (m : Int)) := by omega
  have hroom : (askRoom (m * b)).run Tryz.prog w = .ok () w := by
    have : ¬ (m * b > roomBytes) := by unfold roomBytes; omega
    simp [askRoom, this]
  by_cases h0 : m * n = 0
  · have hm0 : m = 0 := by rcases Nat.mul_eq_zero.1 h0 with h | h <;> omega
    have hrow : (Array.range 0).map ((#[] : Array Value)[· % (#[] : Array Value).size]!) = (segs (cat (fun _ => z) m)).toArray := by
      subst hm0
      simp [cat, segs]
    simp only [execOp, Instr.makeSlice, Sem.run_bind, hx, hy, run_underlying hs.und w, Result.andThen_ok, asInt, asIntOf, Sem.run_pure, run_inf hi w, hb, w1, decide_eq_false t1, decide_eq_false t4, decide_eq_false t2, Bool.or_false, Bool.false_eq_true, if_false, Int.toNat_natCast, hroom, hs.flat.2 w, h0, if_true, hrow]
    rfl
  · have hrow := made_row hzn h0n m
    have hcells : (cv (segs z)).cells = (segs z).toArray := rfl
    simp only [execOp, Instr.makeSlice, Sem.run_bind, hx, hy, run_underlying hs.und w, Result.andThen_ok, asInt, asIntOf, Sem.run_pure, run_inf hi w, hb, w1, decide_eq_false t1, decide_eq_false t4, decide_eq_false t2, Bool.or_false, Bool.false_eq_true, if_false, Int.toNat_natCast, hroom, hs.flat.2 w, h0, if_false, hz w, hcells, hrow]
    rfl
theorem ex_storeR {ty : TypeId} {n : Nat} (hf : Flat ty n) {x y : Operand} {t : TypeId} {g i m : Nat} {S : Nat → List Seg} {l : List Seg} {v : Value} (hn : ∀ i, ssize (S i) = n) (hl : ssize l = n) (h : SB t w g (cat S m)) (hi : i < m) (hx : ρ x = .pointer (some ⟨g, n * i, none⟩)) (hy : ρ y = v) (hv : v.cells = (segs l).toArray) :
    (execOp ρ ⟨d, .store ty x y, ty0, pos, after, guard⟩).run Tryz.prog w = .ok .skip (w.setCells g (n * i) (segs l)) := by
  have hle : n * i + (segs l).length ≤ (segs (cat S m)).length := by
    rw [segs_len, hl, cat_len hn]
    have : n * (i + 1) ≤ n * m := Nat.mul_le_mul_left n hi
    rwa [Nat.mul_succ] at this
  have := run_store_cv (ty := ty) h hv (fun w => by rw [segs_len, hl]; exact hf.2 w) hle (segs_ones l)
  simp [execOp, hx, hy, this]
theorem ex_ownR {st e : TypeId} {n : Nat} (hs : SlS st e n) {x ix : Operand} {g m c i : Nat} (hx : ρ x = .slice (some ⟨g, 0, none⟩) m c) (hi : ρ ix = .int .i64 (i : Int)) (hlt : i < m) :
    (execOp ρ ⟨d, .indexAddr st x ix, ty0, pos, after, guard⟩).run Tryz.prog w = .ok (.value (.pointer (some ⟨g, n * i, none⟩))) w := by
  have := ex_idxR (d := d) (ty0 := ty0) (pos := pos) (after := after) (guard := guard) (w := w) hs hx rfl hi hlt
  rwa [Nat.zero_add] at this
theorem ex_loadO {ty t : TypeId} {n : Nat} (hf : Flat ty n) {x : Operand} {g i m : Nat} {S : Nat → List Seg} {l : List Seg} (hn : ∀ i, ssize (S i) = n) (h : SB t w g (cat S m)) (hi : i < m) (hx : ρ x = .pointer (some ⟨g, n * i, none⟩)) (hl : S i = l) :
    (execOp ρ ⟨d, .load ty x, ty0, pos, after, guard⟩).run Tryz.prog w = .ok (.value (sv l)) w := by
  obtain ⟨g', o', e, _, hr⟩ := h.row rfl hn i hi
  injection e with e
  injection e with e1 e2 _
  subst e1 e2
  rw [Nat.zero_add, hl] at hr
  refine ex_loadR hf hx ?_ hr
  rw [← hl]
  exact szB_ok _ _ (hn i)
end
theorem St.elem {w w' : World} {g i m n : Nat} {t : TypeId} {S S' : Nat → List Seg} {l : List Seg} (h : St w w' g (n * i) (segs l)) (hn : ∀ i, ssize (S i) = n) (hl : ssize l = n) (hA : SB t w g (cat S m)) (hi : i < m) (h1 : S' i = l) (h2 : ∀ j, j < m → j ≠ i → S j = S' j) : SB t w' g (cat S' m) := by
  have hn' : ∀ j, j < m → ssize (S' j) = n := fun j hj => by
    by_cases c : j = i
    · rw [c, h1]; exact hl
    · rw [← h2 j hj c]; exact hn j
  obtain ⟨T, hT⟩ : ∃ T : Nat → List Seg, T = fun j => if j < m then S' j else l := ⟨_, rfl⟩
  have hTn : ∀ j, ssize (T j) = n := fun j => by
    rw [hT]
    show ssize (if j < m then S' j else l) = n
    split
    · exact hn' j (by assumption)
    · exact hl
  have hTe : cat S' m = cat T m := cat_ext fun j hj => by rw [hT]; exact (if_pos hj).symm
  rw [hTe]
  have hle : n * i + (segs l).length ≤ (segs (cat S m)).length := by
    rw [segs_len, hl, cat_len hn]
    have : n * (i + 1) ≤ n * m := Nat.mul_le_mul_left n hi
    rwa [Nat.mul_succ] at this
  have h3 := Blk.setCells (segs l) (n * i) hle hA
  rw [show w' = _ from h]
  have e : (segs (cat S m)).take (n * i) ++ (segs l ++ (segs (cat S m)).drop (n * i + (segs l).length)) = segs (cat T m) := by
    have hll : (segs l).length = n := by rw [segs_len, hl]
    have hcl := cat_len hn m
    have hcT := cat_len hTn m
    rw [hll] at hle ⊢
    apply List.ext_getElem?
    intro p
    by_cases c1 : p < n * i
    · rw [List.getElem?_append_left (by rw [List.length_take]; omega), List.getElem?_take_of_lt c1]
      have hn0 : 0 < n := by
        rcases Nat.eq_zero_or_pos n with z | z
        · rw [z, Nat.zero_mul] at c1; omega
        · exact z
      have hq : p / n < i := by rwa [Nat.div_lt_iff_lt_mul hn0, Nat.mul_comm]
      have a1 := cat_at hn m (p / n) (p % n) (by omega) (Nat.mod_lt p hn0)
      have a2 := cat_at hTn m (p / n) (p % n) (by omega) (Nat.mod_lt p hn0)
      rw [Nat.div_add_mod] at a1 a2
      rw [a1, a2, h2 _ (by omega) (by omega), hT]
      simp only [if_pos (show p / n < m by omega)]
    · rw [List.getElem?_append_right (by rw [List.length_take]; omega), List.length_take, Nat.min_eq_left (by omega)]
      by_cases c2 : p < n * i + n
      · rw [List.getElem?_append_left (by omega)]
        have a2 := cat_at hTn m i (p - n * i) hi (by omega)
        rw [show n * i + (p - n * i) = p by omega] at a2
        rw [a2, hT]
        simp only [if_pos hi, h1]
      · rw [List.getElem?_append_right (by omega), hll, List.getElem?_drop, show n * i + n + (p - n * i - n) = p by omega]
        by_cases c3 : p < n * m
        · have hn0 : 0 < n := by
            rcases Nat.eq_zero_or_pos n with z | z
            · rw [z, Nat.zero_mul] at c3; omega
            · exact z
          have hq : p / n < m := by rwa [Nat.div_lt_iff_lt_mul hn0, Nat.mul_comm]
          have hq2 : i + 1 ≤ p / n := by rw [Nat.le_div_iff_mul_le hn0, Nat.mul_comm, Nat.mul_succ]; omega
          have a1 := cat_at hn m (p / n) (p % n) hq (Nat.mod_lt p hn0)
          have a2 := cat_at hTn m (p / n) (p % n) hq (Nat.mod_lt p hn0)
          rw [Nat.div_add_mod] at a1 a2
          rw [a1, a2, h2 _ hq (by omega), hT]
          simp only [if_pos hq]
        · rw [List.getElem?_eq_none (by omega), List.getElem?_eq_none (by omega)]
  unfold SB
  rw [← e]
  exact h3
section
variable {ops : Array Oper} {rest : List Oper} {o : Oper} {a : Act} {w : World} {Q : Exit → Act → World → Prop}
theorem sq_newR {ty : TypeId} {l : List Seg} {val : Nat → Value} {a' : Nat → Act} (hw : Region.wanted o (yielded ops a.tmps) = true) (ha : ∀ g, a.put o.dst (val g) = a' g) (h : (execOp a.eval o).run Tryz.prog w = .ok (.value (val w.heap.size)) (w.alloc (.cells (segs l).toArray ty)))
    (hn : ∀ g w', SB ty w' g l → w.heap.size ≤ g → Below w.heap.size w w' → wpList Tryz.prog ops Q rest (a' g) w') : wpList Tryz.prog ops Q (o :: rest) a w := by
  refine wpList_step fun K hK => ?_
  rw [if_pos hw]
  unfold Oper.wp
  rw [h]
  refine hK _ _ ?_
  rw [ha]
  exact hn _ _ (Blk.boxed ty (segs l) w) (Nat.le_refl _) ((Below.refl _ _).alloc (Nat.le_refl _) _)
end
end

section
section
open Go.RowKit Cv
def LateG {Γ : Type} (J : Γ → (Nat → Bool) → World → Prop) (s : Nat) (g o : Nat) (ys : Γ → List Value) (γ : Γ) (L : Nat → Bool) (w : World) : Prop :=
  (L s = false → J γ L w) ∧ (L s = true → ∃ w0, J γ L w0 ∧ w = w0.setCells g o (ys γ))
theorem lateg_step {P : Program} {ops : Array Oper} {Γ : Type} {F : Γ → Act} {J : Γ → (Nat → Bool) → World → Prop} {s g p : Nat} {ys : Γ → List Value} {k : Nat} {o : Oper} (h : GStep P ops F J k o) (hw : waitsFor ops s k = true) (hne : (s == k) = false) : GStep P ops F (LateG J s g p ys) k o := fun γ L w Kk hJ hcl hL hdep hK => by
  have ls : L s = false := by
    cases hq : L s with
    | false => rfl
    | true => rw [waitsFor_on hcl hw hq] at hL; cases hL
  refine h γ L w Kk (hJ.1 ls) hcl hL hdep (fun γ' v w' hF hJ' => hK.out γ' v w' hF ⟨fun _ => hJ', fun h1 => ?_⟩)
  simp [ls, hne] at h1
def GhJ (J : (Nat → Nat) → (Nat → Bool) → World → Prop) (k i j : Nat) (γ : Nat → Nat) (L : Nat → Bool) (w : World) : Prop := J γ L w ∧ (L k = true → γ j = γ i)
theorem gh_step {P : Program} {ops : Array Oper} {F : (Nat → Nat) → Act} {J : (Nat → Nat) → (Nat → Bool) → World → Prop} {k i j q : Nat} {o : Oper} (ms : List Nat) (h : GStep P ops F J q o) (hw : chainW ops k ms q = true) (hne : (k == q) = false) : GStep P ops F (GhJ J k i j) q o := fun γ L w Kk hJ hcl hL hdep hK => by
  have lk : L k = false := by
    cases hq : L k with
    | false => rfl
    | true => rw [chainW_on hcl ms k hw hq] at hL; cases hL
  refine h γ L w Kk hJ.1 hcl hL hdep (fun γ' v w' hF hJ' => hK.out γ' v w' hF ⟨hJ', fun h1 => ?_⟩)
  simp [lk, hne] at h1
section
variable {ops : Array Oper} {F : (Nat → Nat) → Act} {W : World} {m : Nat} {T : Nat → TypeId} {al st : Nat → Nat} {zs xs : Nat → List Value} {o : Oper}
theorem gh_make {k i j : Nat} (vg : Nat → Value) (him : i < m) (hjm : m ≤ j) (hw : ∀ γ, Region.wanted o (yielded ops (F γ).tmps) = true) (hF : ∀ γ n, F (upd γ j n) = (F γ).put o.dst (vg n)) (h : ∀ (γ : Nat → Nat) w, Bel W w → (execOp (F γ).eval o).run Tryz.prog w = .ok (.value (vg (γ i))) w) (hk : noneAt m al st k = true) :
    GStep Tryz.prog ops F (GhJ (ManyJ W m T al st zs xs) k i j) k o := fun γ L w Kk hJ hcl hL hdep hK => by
  rw [if_pos (hw γ)]
  unfold Oper.wp
  rw [h γ w hJ.1.bel]
  have hu : ∀ q, q < m → upd γ j (γ i) q = γ q := fun q hq => upd_other γ _ (by omega)
  have hon := hJ.1.on (Below.refl _ _) hk
  refine hK.out (upd γ j (γ i)) (vg (γ i)) w (hF γ (γ i)) ⟨⟨hon.bel, fun q hq hl => ?_, fun q q' hq hq' hn h1 h2 => ?_⟩, fun _ => ?_⟩
  · rw [hu q hq]; exact hon.one q hq hl
  · rw [hu q hq, hu q' hq']; exact hon.ne q q' hq hq' hn h1 h2
  · rw [upd_same, hu i him]
theorem gh_store {k s i j g p : Nat} {ys : (Nat → Nat) → List Value} (hd : o.dst = none) (hw : ∀ γ, Region.wanted o (yielded ops (F γ).tmps) = true)
    (h : ∀ γ w, Bel W w → (execOp (F γ).eval o).run Tryz.prog w = .ok .skip (w.setCells g p (ys γ))) (hk : noneAt m al st s = true) (hne : (k == s) = false) :
    GStep Tryz.prog ops F (LateG (GhJ (ManyJ W m T al st zs xs) k i j) s g p ys) s o := fun γ L w Kk hJ hcl hL hdep hK => by
  have hJ' := hJ.1 hL
  rw [if_pos (hw γ)]
  unfold Oper.wp
  rw [h γ w hJ'.1.bel]
  refine hK.out γ undef _ (by rw [hd]; rfl) ⟨fun h1 => ?_, fun _ => ⟨w, ⟨hJ'.1.on (Below.refl _ _) hk, fun h2 => hJ'.2 ?_⟩, rfl⟩⟩
  · simp at h1
  · simpa [hne] using h2
theorem region_gh {id : Nat} {l : List Oper} {draw : Bool} {a : Act} {Q : Exit → Act → World → Prop} (k i j s g p : Nat) (ys : (Nat → Nat) → List Value) (m : Nat) (T : Nat → TypeId) (al st : Nat → Nat) (zs xs : Nat → List Value) (ds : List Tmp)
    (hm : (draw = true ∧ Tryz.prog.follows .mixedOrders = true) ∨ (draw = false ∧ Region.linearise .any l.toArray 0 = List.range l.toArray.size))
    (hp : (planOk l.toArray && Region.noSelect l.toArray && (ds.all fun d => l.toArray.any fun o => o.dst == some d) && ((List.range m).all fun i => Nat.blt (al i) l.length && Nat.blt (st i) l.length) && Nat.blt s l.length && Nat.blt k l.length) = true)
    (hd : a.defers = (F fun _ => 0).defers) (hsz : Nat.beq a.tmps.size (F fun _ => 0).tmps.size = true) (hF : merge ds 0 a.tmps.toList (F fun _ => 0).tmps.toList = (F fun _ => 0).tmps.toList)
    (hsteps : GSteps Tryz.prog l.toArray F (LateG (GhJ (ManyJ W m T al st zs xs) k i j) s g p ys) 0 l)
    (hQ : ∀ (γ : Nat → Nat) (w' w'' : World), Bel W w' → (∀ i, i < m → W.heap.size ≤ γ i ∧ Blk (T i) w' (γ i) (xs i)) → γ j = γ i → St w' w'' g p (ys γ) → Q .normal (F γ) w'') : (Code.region id l.toArray draw).wp Tryz.prog Q a W := by
  simp only [Bool.and_eq_true] at hp
  obtain ⟨⟨⟨⟨⟨h1, h2⟩, h3⟩, hb⟩, hbs⟩, hbk⟩ := hp
  have lt : ∀ i, i < m → al i < l.length ∧ st i < l.length := fun i hi => by
    have := List.all_eq_true.1 hb i (List.mem_range.2 hi)
    simp only [Bool.and_eq_true] at this
    exact ⟨Nat.le_of_ble_eq_true this.1, Nat.le_of_ble_eq_true this.2⟩
  have hsl : s < l.length := Nat.le_of_ble_eq_true hbs
  have hkl : k < l.length := Nat.le_of_ble_eq_true hbk
  refine wp_region_d (J := LateG (GhJ (ManyJ W m T al st zs xs) k i j) s g p ys) (fun _ => 0) _ hm h1 h2 (by simpa [takes] using h3) hd (put_merge hsz hF) ?_ hsteps ?_
  · have fa : ∀ i, i < m → decide (l.toArray.size ≤ al i) = false := fun i hi => decide_eq_false (by have := (lt i hi).1; simp; omega)
    have fs : decide (l.toArray.size ≤ s) = false := decide_eq_false (by simp; omega)
    refine fun w' hw' => ⟨fun _ => ⟨⟨by rcases hw' with rfl | rfl; exact Below.refl _ _; exact Bel.start W, fun i hi ha => ?_, fun i j hi hj hij ha _ => ?_⟩, fun _ => rfl⟩, fun h => ?_⟩
    · rw [fa i hi] at ha; cases ha
    · rw [fa i hi] at ha; cases ha
    · have h' : decide (l.toArray.size ≤ s) = true := h
      rw [fs] at h'
      cases h'
  · rintro γ L w' hall ⟨_, hJ⟩
    obtain ⟨w0, ⟨⟨hB, h1, h2⟩, hg⟩, rfl⟩ := hJ (hall s (by simpa using hsl))
    have la : ∀ i, i < m → L (al i) = true := fun i hi => hall _ (by simpa using (lt i hi).1)
    have ls : ∀ i, i < m → L (st i) = true := fun i hi => hall _ (by simpa using (lt i hi).2)
    refine hQ γ w0 _ hB (fun i hi => ?_) (hg (hall k (by simpa using hkl))) rfl
    obtain ⟨a1, a2⟩ := h1 i hi (la i hi)
    rw [ls i hi, if_pos rfl] at a2
    exact ⟨a1, a2⟩
end
theorem ret0 {fn : Func} {tmps : Array Value} {w : World} (hr : fn.results = #[]) : (results fn tmps).run Tryz.prog w = .ok (.tuple #[]) w := by
  simp [results_g, hr]
section
variable {ρ : Operand → Value} {d : Option Tmp} {ty0 : TypeId} {pos : String} {after : Array Edge} {guard : Option (Nat × Bool)} {w : World}
theorem ex_lenI {x : Operand} {a : Option Addr} {m c : Nat} (hx : ρ x = .slice a m c) :
    (execOp ρ ⟨d, .call ⟨.builtin .len, #[x], #[156]⟩, ty0, pos, after, guard⟩).run Tryz.prog w = .ok (.value (.int .i64 (m : Int))) w := by
  simp [hx, go_sem, Builtin.len_, run_underlying Tryz.underlying156 w, Sem.run_bind]
theorem ex_idxI {x ix : Operand} {g m c i : Nat} (hx : ρ x = .slice (some ⟨g, 0, none⟩) m c) (hi : ρ ix = .int .i64 (i : Int)) (hlt : i < m) :
    (execOp ρ ⟨d, .indexAddr 156 x ix, ty0, pos, after, guard⟩).run Tryz.prog w = .ok (.value (.pointer (some ⟨g, i, none⟩))) w := by
  simp [execOp, Sem.run_bind, hx, hi, Instr.indexAt, asIntOf, run_underlying Tryz.underlying156 w, Tryz.sizeOf3 w, hlt, Addr.add_mid]
abbrev ints (D : Nat → Nat) (m : Nat) : List Seg := cat (fun i => [.i .i64 ((D i : Nat) : Int)]) m
theorem ints_at (D : Nat → Nat) {m i : Nat} (h : i < m) : (segs (ints D m))[i]? = some (.int .i64 ((D i : Nat) : Int)) := by
  have := cat_at (S := fun i => [.i .i64 ((D i : Nat) : Int)]) (n := 1) (fun _ => rfl) m i 0 h (by decide)
  rw [Nat.one_mul] at this
  exact this
theorem ints_len (D : Nat → Nat) (m : Nat) : (segs (ints D m)).length = m := by
  rw [cat_len (n := 1) (fun _ => rfl), Nat.one_mul]
theorem ex_loadI {x : Operand} {t : TypeId} {g i m : Nat} {D : Nat → Nat} (h : SB t w g (ints D m)) (hi : i < m) (hx : ρ x = .pointer (some ⟨g, i, none⟩)) :
    (execOp ρ ⟨d, .load 3 x, ty0, pos, after, guard⟩).run Tryz.prog w = .ok (.value (.int .i64 ((D i : Nat) : Int))) w := by
  simp [execOp, hx, run_load_one h sgInt (ints_at D hi)]
theorem ex_storeI {x y : Operand} {t : TypeId} {g i m : Nat} {D : Nat → Nat} {v : Int} (h : SB t w g (ints D m)) (hi : i < m) (hx : ρ x = .pointer (some ⟨g, i, none⟩)) (hy : ρ y = .int .i64 v) :
    (execOp ρ ⟨d, .store 3 x y, ty0, pos, after, guard⟩).run Tryz.prog w = .ok .skip (w.setCells g i (segs [.i .i64 v])) := by
  have := run_store_cv (ys := [.int .i64 v]) h (ty := 3) (o := i) (v := .int .i64 v) rfl sgInt.2 (by rw [ints_len]; exact hi) (segs_ones [.i .i64 v])
  have e : segs [.i .i64 v] = [.int .i64 v] := rfl
  rw [e]
  simp [execOp, hx, hy, this]
theorem run_clearI {t ty : TypeId} {g m c : Nat} {D : Nat → Nat} (h : SB t w g (ints D m)) (hm : 0 < m) :
    (Builtin.clear_ #[156] ty #[.slice (some ⟨g, 0, none⟩) m c]).run Tryz.prog w = .ok (.tuple #[]) (w.setCells g 0 (segs (ints (fun _ => 0) m))) := by
  have hz : (Builtin.zeroCells #[Value.int .i64 0] m).toList = segs (ints (fun _ => 0) m) :=
    congrArg Array.toList (made_row (z := [.i .i64 0]) (n := 1) rfl (by decide) m)
  have hs := run_storeCells_cells (P := Tryz.prog) g 0 (segs (ints (fun _ => 0) m)) 0 w (fun j hj => by
      rw [ints_len] at hj
      rw [Nat.zero_add, Blk.cell h (i := j) (by rw [ints_len]; exact hj)]
      rfl) (fun j _ => Blk.frozen h _) (segs_ones _)
  obtain ⟨k, rfl⟩ : ∃ k, m = k + 1 := ⟨m - 1, by omega⟩
  simp only [Nat.add_zero] at hs
  have hzv := Tryz.zeroValue3 w
  have hc : (Value.int .i64 0).cells = #[.int .i64 0] := rfl
  simp [Builtin.clear_, run_underlying Tryz.underlying156 w, Sem.run_bind, hzv, hc, hz, hs]
end
end

section
open Go.RowKit Cv
theorem bu_fieldsT : Tryz.prog.underlying 158 = some (.struct (List.toArray [⟨"curve", 87, 0, false, "", "chirograph/sum", 0⟩, ⟨"sums", 41, 5, false, "", "chirograph/sum", 40⟩])) := Tryz.underlying158
theorem flBuT : Flat 158 6 := ⟨Tryz.isAgg158, Tryz.sizeOf158⟩
theorem faBu_0T : FieldAt 158 0 0 := ⟨_, _, 4, bu_fieldsT, rfl, rfl, Tryz.sizeOf87⟩
theorem faBu_1T : FieldAt 158 1 5 := ⟨_, _, 0, bu_fieldsT, rfl, rfl, Tryz.sizeOf41⟩
theorem zBuT (w : World) : (zeroValue 158).run Tryz.prog w = .ok (sv [.v .nilFunc, .v .nilFunc, .v .nilFunc, .v .nilFunc, .i .i64 0, .v (.slice none 0 0)]) w := Tryz.zeroValue158 w
theorem stBuT : StructS 158 [.v .nilFunc, .v .nilFunc, .v .nilFunc, .v .nilFunc, .i .i64 0, .v (.slice none 0 0)] [(0, 5), (5, 1)] := by
  refine ⟨_, bu_fieldsT, zBuT, fun w => ?_⟩
  simp [Sem.run_bind, Tryz.sizeOf87, Tryz.sizeOf41]
theorem sgSPT : Single 41 := ⟨Tryz.isAgg41, Tryz.sizeOf41⟩
theorem inf_ofT {e : TypeId} {b : Nat} (h : (Tryz.prog.info? e).map (·.bytes) = some b) : ∃ i, Tryz.prog.info? e = some i ∧ i.bytes = b := by
  cases hi : Tryz.prog.info? e with
  | none => rw [hi] at h; cases h
  | some i => rw [hi] at h; exact ⟨i, rfl, Option.some.inj h⟩
theorem info_g2T : ∃ i, Tryz.prog.info? 30 = some i ∧ i.bytes = 200 := inf_ofT (by kernel_rfl)
theorem shl_oneT {d : Nat} (h : d ≤ 9) : IntKind.i64.wrap (1 * 2 ^ d) = ((2 ^ d : Nat) : Int) := by
  have : 2 ^ d ≤ 2 ^ 9 := Nat.pow_le_pow_right (by decide) h
  have e : (1 : Int) * 2 ^ d = ((2 ^ d : Nat) : Int) := by rw [Int.one_mul, Int.natCast_pow]; rfl
  rw [e]
  generalize 2 ^ d = q at *
  exact wrapI64 (by omega) (by omega)
theorem ex_shlIT {ρ : Operand → Value} {d : Option Tmp} {ty0 : TypeId} {pos : String} {after : Array Edge} {guard : Option (Nat × Bool)} {w : World} {t t2 : TypeId} {x y : Operand} {a : Int} {s : Nat} (hx : ρ x = .int .i64 a) (hy : ρ y = .int .i64 (s : Int)) (hs : s ≤ 64) (r : Int) (hr : IntKind.i64.wrap (a * 2 ^ s) = r) :
    (execOp ρ ⟨d, .binOp .shl t x y t2, ty0, pos, after, guard⟩).run Tryz.prog w = .ok (.value (.int .i64 r)) w := by
  have h1 : ¬ ((s : Int) < 0) := by omega
  have h2 : min (s : Int).toNat IntKind.i64.bits = s := by
    rw [Int.toNat_natCast]
    exact Nat.min_eq_left hs
  simp only [execOp, hx, hy, eqGuard, binOp, Op.shift, Sem.run_bind]
  rw [if_neg h1, h2, hr]
  simp
set_option maxRecDepth 20000 in
set_option maxHeartbeats 4000000 in
theorem sunew_vT (wd : Nat) (h9 : wd ≤ 9) (w : World) :
    Calls Tryz.prog 148 #[sv [.v (.func (.func 17) #[] #[]), .v (.func (.func 21) #[] #[]), .v (.func (.func 23) #[] #[]), .v (.func (.func 22) #[] #[]), .i .i64 12], .int .i64 ((wd : Nat) : Int)] w (fun e w' => ∃ g, e = .returned (sv [.v (.func (.func 17) #[] #[]), .v (.func (.func 21) #[] #[]), .v (.func (.func 23) #[] #[]), .v (.func (.func 22) #[] #[]), .i .i64 12, .v (.slice (some ⟨g, 0, none⟩) ((2 ^ wd - 1)) ((2 ^ wd - 1)))]) ∧ SB 30 w' g (cat (fun _ => [.n 6 0, .n 6 0, .n 6 0, .n 6 0, .b false]) (2 ^ wd - 1)) ∧ w.heap.size ≤ g ∧ Below w.heap.size w w') := by
  have hp9 : 2 ^ wd ≤ 2 ^ 9 := Nat.pow_le_pow_right (by decide) h9
  have hp1 : 0 < 2 ^ wd := Nat.two_pow_pos wd
  go_enter Tryz.func148, Tryz.ntmps148
  refine wp_seq (region_c 2 (fun j_ => match j_ with | 0 => 87 | _ => 158) (fun j_ => match j_ with | 0 => 0 | _ => 1) (fun j_ => match j_ with | 0 => 0 | _ => 1) (fun j_ => match j_ with | 0 => segs [.v (.func (.func 17) #[] #[]), .v (.func (.func 21) #[] #[]), .v (.func (.func 23) #[] #[]), .v (.func (.func 22) #[] #[]), .i .i64 12] | _ => segs [.v (.nilFunc), .v (.nilFunc), .v (.nilFunc), .v (.nilFunc), .i .i64 0, .v (.slice none 0 0)]) (fun j_ => match j_ with | 0 => segs [.v (.func (.func 17) #[] #[]), .v (.func (.func 21) #[] #[]), .v (.func (.func 23) #[] #[]), .v (.func (.func 22) #[] #[]), .i .i64 12] | _ => segs [.v (.nilFunc), .v (.nilFunc), .v (.nilFunc), .v (.nilFunc), .i .i64 0, .v (.slice none 0 0)]) [2, 4] (fun γ => [.pointer (some ⟨γ 0, 0, none⟩), .pointer (some ⟨γ 1, 0, none⟩)]) ?_ ?_)
  · refine GSteps.cons (gm_box 0 rfl (fun _ => rfl) (fun _ _ => rfl) (fun γ w h => ex_boxs (l := [.v (.func (.func 17) #[] #[]), .v (.func (.func 21) #[] #[]), .v (.func (.func 23) #[] #[]), .v (.func (.func 22) #[] #[]), .i .i64 12]) rfl) rfl rfl rfl) ?_
    refine GSteps.cons (gm_box 1 rfl (fun _ => rfl) (fun _ _ => rfl) (fun γ w h => ex_allocs (l := [.v (.nilFunc), .v (.nilFunc), .v (.nilFunc), .v (.nilFunc), .i .i64 0, .v (.slice none 0 0)]) zBuT) rfl rfl rfl) ?_
    exact GSteps.nil
  intro γ1 w1 hb1 hB1 hn1
  refine th_r ?_
  have A2 : SB 87 w1 (γ1 0) [.v (.func (.func 17) #[] #[]), .v (.func (.func 21) #[] #[]), .v (.func (.func 23) #[] #[]), .v (.func (.func 22) #[] #[]), .i .i64 12] := (hB1 0 (by decide)).2
  have le2 := (hB1 0 (by decide)).1
  have A3 : SB 158 w1 (γ1 1) [.v (.nilFunc), .v (.nilFunc), .v (.nilFunc), .v (.nilFunc), .i .i64 0, .v (.slice none 0 0)] := (hB1 1 (by decide)).2
  have le3 := (hB1 1 (by decide)).1
  have HB4 := below_then (Below.refl w.heap.size w) hb1.out
  skip
  · refine wp_seq (region_gh (F := fun γ => ⟨#[sv [.v (.func (.func 17) #[] #[]), .v (.func (.func 21) #[] #[]), .v (.func (.func 23) #[] #[]), .v (.func (.func 22) #[] #[]), .i .i64 12], .int .i64 ((wd : Nat) : Int), .pointer (some ⟨(γ1 0), 0, none⟩), undef, .pointer (some ⟨(γ1 1), 0, none⟩), sv [.v (.func (.func 17) #[] #[]), .v (.func (.func 21) #[] #[]), .v (.func (.func 23) #[] #[]), .v (.func (.func 22) #[] #[]), .i .i64 12], .int .i64 ((wd : Nat) : Int), .int .i64 ((2 ^ wd : Nat) : Int), .int .i64 ((2 ^ wd - 1 : Nat) : Int), .slice (some ⟨γ 0, 0, none⟩) (2 ^ wd - 1) (2 ^ wd - 1), sv [.v (.func (.func 17) #[] #[]), .v (.func (.func 21) #[] #[]), .v (.func (.func 23) #[] #[]), .v (.func (.func 22) #[] #[]), .i .i64 12, .v (.slice (some ⟨γ 1, 0, none⟩) (2 ^ wd - 1) (2 ^ wd - 1))]], []⟩) 5 0 1 6 ((γ1 1)) 0 (fun γ => segs [.v (.func (.func 17) #[] #[]), .v (.func (.func 21) #[] #[]), .v (.func (.func 23) #[] #[]), .v (.func (.func 22) #[] #[]), .i .i64 12, .v (.slice (some ⟨γ 1, 0, none⟩) (2 ^ wd - 1) (2 ^ wd - 1))]) 1 (fun _ => 30) (fun _ => 4) (fun _ => 4) (fun _ => segs (cat (fun _ => [.n 6 0, .n 6 0, .n 6 0, .n 6 0, .b false]) (2 ^ wd - 1))) (fun _ => segs (cat (fun _ => [.n 6 0, .n 6 0, .n 6 0, .n 6 0, .b false]) (2 ^ wd - 1))) [5, 6, 7, 8, 9, 10] (.inl ⟨rfl, by kernel_rfl⟩) (by kernel_rfl) rfl rfl rfl ?_ ?_)
    · refine GSteps.cons (lateg_step (gh_step [] (gm_val (v := sv [.v (.func (.func 17) #[] #[]), .v (.func (.func 21) #[] #[]), .v (.func (.func 23) #[] #[]), .v (.func (.func 22) #[] #[]), .i .i64 12]) rfl (fun _ => rfl) (fun _ => rfl) (fun γ w h => ex_loads 0 5 (m := [.v (.func (.func 17) #[] #[]), .v (.func (.func 21) #[] #[]), .v (.func (.func 23) #[] #[]), .v (.func (.func 22) #[] #[]), .i .i64 12]) flSc2 rfl rfl (A2.keep h.out) rfl rfl) rfl) (by kernel_rfl) rfl) (by kernel_rfl) rfl) ?_
      refine GSteps.cons (lateg_step (gh_step [4, 3, 2] (gm_val (v := .int .i64 ((wd : Nat) : Int)) rfl (fun _ => rfl) (fun _ => rfl) (fun γ w h => ex_move _) rfl) (by kernel_rfl) rfl) (by kernel_rfl) rfl) ?_
      refine GSteps.cons (lateg_step (gh_step [4, 3] (gm_val (v := .int .i64 ((2 ^ wd : Nat) : Int)) rfl (fun _ => rfl) (fun _ => rfl) (fun γ w h => ex_shlIT rfl rfl (by omega) ((2 ^ wd : Nat) : Int) (shl_oneT h9)) rfl) (by kernel_rfl) rfl) (by kernel_rfl) rfl) ?_
      refine GSteps.cons (lateg_step (gh_step [4] (gm_val (v := .int .i64 ((2 ^ wd - 1 : Nat) : Int)) rfl (fun _ => rfl) (fun _ => rfl) (fun γ w h => ex_isub rfl rfl ((2 ^ wd - 1 : Nat) : Int) (by rw [wrapI64 (by omega) (by omega)]; omega)) rfl) (by kernel_rfl) rfl) (by kernel_rfl) rfl) ?_
      refine GSteps.cons (lateg_step (gh_step [] (gm_lit 0 rfl (fun n => .slice (some ⟨n, 0, none⟩) (2 ^ wd - 1) (2 ^ wd - 1)) (fun _ => rfl) (fun _ _ => rfl) (fun γ w h => ex_mkR slP2 (z := [.n 6 0, .n 6 0, .n 6 0, .n 6 0, .b false]) (b := 200) rfl (by decide) zG2 info_g2T (by decide) rfl rfl (by omega)) rfl rfl rfl) (by kernel_rfl) rfl) (by kernel_rfl) rfl) ?_
      refine GSteps.cons (lateg_step (gh_make (fun n => sv [.v (.func (.func 17) #[] #[]), .v (.func (.func 21) #[] #[]), .v (.func (.func 23) #[] #[]), .v (.func (.func 22) #[] #[]), .i .i64 12, .v (.slice (some ⟨n, 0, none⟩) (2 ^ wd - 1) (2 ^ wd - 1))]) (by decide) (by decide) (fun _ => rfl) (fun _ _ => rfl) (fun γ w h => ex_builds stBuT (l := [.v (.func (.func 17) #[] #[]), .v (.func (.func 21) #[] #[]), .v (.func (.func 23) #[] #[]), .v (.func (.func 22) #[] #[]), .i .i64 12, .v (.slice (some ⟨γ 0, 0, none⟩) (2 ^ wd - 1) (2 ^ wd - 1))]) (vs := [(0, sv [.v (.func (.func 17) #[] #[]), .v (.func (.func 21) #[] #[]), .v (.func (.func 23) #[] #[]), .v (.func (.func 22) #[] #[]), .i .i64 12]), (1, .slice (some ⟨γ 0, 0, none⟩) (2 ^ wd - 1) (2 ^ wd - 1))]) rfl ((fills_cons 0 5 (m := [.v (.func (.func 17) #[] #[]), .v (.func (.func 21) #[] #[]), .v (.func (.func 23) #[] #[]), .v (.func (.func 22) #[] #[]), .i .i64 12]) (z' := [.v (.func (.func 17) #[] #[]), .v (.func (.func 21) #[] #[]), .v (.func (.func 23) #[] #[]), .v (.func (.func 22) #[] #[]), .i .i64 12, .v (.slice none 0 0)]) rfl rfl rfl rfl rfl rfl).trans ((fills_cons 5 1 (m := [.v (.slice (some ⟨γ 0, 0, none⟩) (2 ^ wd - 1) (2 ^ wd - 1))]) (z' := [.v (.func (.func 17) #[] #[]), .v (.func (.func 21) #[] #[]), .v (.func (.func 23) #[] #[]), .v (.func (.func 22) #[] #[]), .i .i64 12, .v (.slice (some ⟨γ 0, 0, none⟩) (2 ^ wd - 1) (2 ^ wd - 1))]) rfl rfl rfl rfl rfl rfl).trans rfl))) rfl) (by kernel_rfl) rfl) ?_
      refine GSteps.cons (gh_store rfl (fun _ => rfl) (fun γ w h => ex_stores 0 6 (l := [.v (.nilFunc), .v (.nilFunc), .v (.nilFunc), .v (.nilFunc), .i .i64 0, .v (.slice none 0 0)]) (m := [.v (.func (.func 17) #[] #[]), .v (.func (.func 21) #[] #[]), .v (.func (.func 23) #[] #[]), .v (.func (.func 22) #[] #[]), .i .i64 12, .v (.slice (some ⟨γ 1, 0, none⟩) (2 ^ wd - 1) (2 ^ wd - 1))]) flBuT.2 rfl rfl rfl rfl (A3.keep h.out) rfl rfl) rfl rfl) ?_
      exact GSteps.nil
    intro γ5 w5 w5_ hb5 hB5 he5 hs5
    refine th_r ?_
    have A6 := A2.keep hb5.out
    have A7 := A3.keep hb5.out
    have A8 : SB 30 w5 (γ5 0) (cat (fun _ => [.n 6 0, .n 6 0, .n 6 0, .n 6 0, .b false]) (2 ^ wd - 1)) := (hB5 0 (by decide)).2
    have le8 := (hB5 0 (by decide)).1
    have HB9 := below_then HB4 hb5.out
    have A10 := hs5.other (hn1 0 1 (by decide) (by decide) (by decide)) A6
    have A11 := hs5.here 0 6 (l' := [.v (.func (.func 17) #[] #[]), .v (.func (.func 21) #[] #[]), .v (.func (.func 23) #[] #[]), .v (.func (.func 22) #[] #[]), .i .i64 12, .v (.slice (some ⟨(γ5 1), 0, none⟩) (2 ^ wd - 1) (2 ^ wd - 1))]) A7 rfl rfl rfl
    have A12 := hs5.other (Ne.symm (Nat.ne_of_lt (Nat.lt_of_lt_of_le A3.lt le8))) A8
    have HB13 := hs5.below HB9 (Nat.le_trans (Nat.le_refl _) le3)
    exact wp_ret (bodyPost_ret (ret1 Tryz.results148 (res_sv rfl A11 flBuT rfl)) rfl ⟨(γ5 0), by rw [he5], A12, (Nat.le_trans HB4.size le8), HB13⟩)
def emFT (F : Nat → List Seg) (q : Nat) : Nat → List Seg := fun i => if i < q then pt2 Z2 else F i
theorem emF_sizeT {F : Nat → List Seg} (hF : ∀ i, ssize (F i) = 25) (q i : Nat) : ssize (emFT F q i) = 25 := by
  unfold emFT
  split
  · rfl
  · exact hF i
theorem emF_hereT (F : Nat → List Seg) (q : Nat) : emFT F (q + 1) q = pt2 Z2 := if_pos (by omega)
theorem emF_otherT (F : Nat → List Seg) (q j : Nat) (h : j ≠ q) : emFT F q j = emFT F (q + 1) j := by
  unfold emFT
  by_cases c : j < q
  · rw [if_pos c, if_pos (by omega)]
  · rw [if_neg c, if_neg (by omega)]
theorem emF_endT (F : Nat → List Seg) (n : Nat) : cat (emFT F n) n = cat (fun _ => pt2 Z2) n := cat_ext fun i h => if_pos h
set_option maxRecDepth 20000 in
set_option maxHeartbeats 4000000 in
theorem suempty_vT (F : Nat → List Seg) (hF : ∀ i, ssize (F i) = 25) (n gb : Nat) (hn : n < 1000) (w : World) (A : SB 30 w gb (cat F n)) :
    Calls Tryz.prog 151 #[sv [.v (.func (.func 17) #[] #[]), .v (.func (.func 21) #[] #[]), .v (.func (.func 23) #[] #[]), .v (.func (.func 22) #[] #[]), .i .i64 12, .v (.slice (some ⟨gb, 0, none⟩) n n)]] w (fun e w' => e = .returned (.tuple #[]) ∧ (Chg gb gb w w' ∧ SB 30 w' gb (cat (fun _ => pt2 Z2) n))) := by
  go_enter Tryz.func151, Tryz.ntmps151
  refine wp_seq (region_c 1 (fun _ => 158) (fun _ => 0) (fun _ => 0) (fun _ => segs [.v (.func (.func 17) #[] #[]), .v (.func (.func 21) #[] #[]), .v (.func (.func 23) #[] #[]), .v (.func (.func 22) #[] #[]), .i .i64 12, .v (.slice (some ⟨gb, 0, none⟩) n n)]) (fun _ => segs [.v (.func (.func 17) #[] #[]), .v (.func (.func 21) #[] #[]), .v (.func (.func 23) #[] #[]), .v (.func (.func 22) #[] #[]), .i .i64 12, .v (.slice (some ⟨gb, 0, none⟩) n n)]) [1] (fun γ => [.pointer (some ⟨γ 0, 0, none⟩)]) ?_ ?_)
  · refine GSteps.cons (gm_box 0 rfl (fun _ => rfl) (fun _ _ => rfl) (fun γ w h => ex_boxs (l := [.v (.func (.func 17) #[] #[]), .v (.func (.func 21) #[] #[]), .v (.func (.func 23) #[] #[]), .v (.func (.func 22) #[] #[]), .i .i64 12, .v (.slice (some ⟨gb, 0, none⟩) n n)]) rfl) rfl rfl rfl) ?_
    exact GSteps.nil
  intro γ1 w1 hb1 hB1 _
  refine th_r ?_
  have A2 := A.keep hb1.out
  have A3 : SB 158 w1 (γ1 0) [.v (.func (.func 17) #[] #[]), .v (.func (.func 21) #[] #[]), .v (.func (.func 23) #[] #[]), .v (.func (.func 22) #[] #[]), .i .i64 12, .v (.slice (some ⟨gb, 0, none⟩) n n)] := (hB1 0 (by decide)).2
  have le3 := (hB1 0 (by decide)).1
  have HB4 := (Chg.refl gb gb w).then hb1.out
  refine wp_seq (region_0 [3, 4, 5, 6] [.pointer (some ⟨(γ1 0), 5, none⟩), .slice (some ⟨gb, 0, none⟩) n n, .int .i64 ((n : Nat) : Int), .int .i64 0] ?_ ?_)
  · refine stpx (fun _ _ => ex_field faBu_1T rfl) ?_
    refine stpv (fun γ w h => ex_load1 5 (s := .v (.slice (some ⟨gb, 0, none⟩) n n)) (v := .slice (some ⟨gb, 0, none⟩) n n) sgSPT rfl (A3.keep h.out) rfl rfl rfl) ?_
    refine stpx (fun _ _ => ex_lenR slP2 (m := n) rfl) ?_
    refine stpx (fun _ _ => ex_move _) ?_
    exact GSteps.nil
  intro w5 hb5
  refine th_r ?_
  have A6 := A2.keep hb5.out
  have A7 := A3.keep hb5.out
  have HB8 := HB4.then hb5.out
  refine wp_block ?_
  refine wp_loop_by (n) (fun q_ a_ v_ => ∃ j2 j7 j8 j9 j10 j11 j12 j13 j14 j15 j16 j17 : Value, a_ = ⟨#[sv [.v (.func (.func 17) #[] #[]), .v (.func (.func 21) #[] #[]), .v (.func (.func 23) #[] #[]), .v (.func (.func 22) #[] #[]), .i .i64 12, .v (.slice (some ⟨gb, 0, none⟩) n n)], .pointer (some ⟨(γ1 0), 0, none⟩), j2, .pointer (some ⟨(γ1 0), 5, none⟩), .slice (some ⟨gb, 0, none⟩) n n, .int .i64 ((n : Nat) : Int), .int .i64 ((q_ : Nat) : Int), j7, j8, j9, j10, j11, j12, j13, j14, j15, j16, j17], []⟩ ∧ SB 30 v_ (gb) (cat (emFT F q_) n) ∧ SB 158 v_ (γ1 0) [.v (.func (.func 17) #[] #[]), .v (.func (.func 21) #[] #[]), .v (.func (.func 23) #[] #[]), .v (.func (.func 22) #[] #[]), .i .i64 12, .v (.slice (some ⟨gb, 0, none⟩) n n)] ∧ Chg (gb) (gb) w v_) ⟨_, _, _, _, _, _, _, _, _, _, _, _, rfl, A6, A7, HB8⟩ ?_ ?_
  · intro k9 hk9
    rintro _ w9 ⟨i9_2, i9_7, i9_8, i9_9, i9_10, i9_11, i9_12, i9_13, i9_14, i9_15, i9_16, i9_17, rfl, A9_0, A9_1, HB9⟩ K9 hK9
    refine wp_seq (region_0 [7] [.bool true] ?_ ?_)
    · refine stpx (fun _ _ => ex_ilss rfl rfl true (by rw [eq_comm, decide_eq_true_eq]; omega)) ?_
      exact GSteps.nil
    intro w10 hb10
    refine th_r ?_
    have A11 := A9_0.keep hb10.out
    have A12 := A9_1.keep hb10.out
    have HB13 := HB9.then hb10.out
    refine wp_seq ?_
    refine wp_cond_true rfl ?_
    refine wp_skip ?_
    refine th_r ?_
    refine wp_seq ?_
    refine wp_block ?_
    refine wp_seq (region_0 [8, 2] [.int .i64 ((k9 : Nat) : Int), .int .i64 ((k9 : Nat) : Int)] ?_ ?_)
    · refine stpx (fun _ _ => ex_move _) ?_
      refine stpx (fun _ _ => ex_assign _) ?_
      exact GSteps.nil
    intro w14 hb14
    refine th_r ?_
    have A15 := A11.keep hb14.out
    have A16 := A12.keep hb14.out
    have HB17 := HB13.then hb14.out
    refine region_s 8 (gb) (25 * k9) (segs [.n 6 (bx0 Z2.pt), .n 6 (bx1 Z2.pt), .n 6 (by0 Z2.pt), .n 6 (by1 Z2.pt), .b (bi Z2.pt)]) [9, 10, 11, 12, 13, 14, 15, 16] [.pointer (some ⟨(γ1 0), 5, none⟩), .slice (some ⟨gb, 0, none⟩) n n, .int .i64 ((k9 : Nat) : Int), .pointer (some ⟨(γ1 0), 0, none⟩), .pointer (some ⟨(γ1 0), 1, none⟩), .func (.func 21) #[] #[], sv [.n 6 (bx0 Z2.pt), .n 6 (bx1 Z2.pt), .n 6 (by0 Z2.pt), .n 6 (by1 Z2.pt), .b (bi Z2.pt)], .pointer (some ⟨gb, 25 * k9, none⟩)] ?_ ?_
    · refine latv (fun γ w h => ex_field faBu_1T rfl) ?_
      refine latv (fun γ w h => ex_load1 5 (s := .v (.slice (some ⟨gb, 0, none⟩) n n)) (v := .slice (some ⟨gb, 0, none⟩) n n) sgSPT rfl (A16.keep h.out) rfl rfl rfl) ?_
      refine latv (fun γ w h => ex_move _) ?_
      refine latv (fun γ w h => ex_field faBu_0T rfl) ?_
      refine latv (fun γ w h => ex_field faSc2_1 rfl) ?_
      refine latv (fun γ w h => ex_load1 1 (s := .v (.func (.func 21) #[] #[])) (v := .func (.func 21) #[] #[]) sgF2_1 rfl (A16.keep h.out) rfl rfl rfl) ?_
      refine latc (sv [.n 6 (bx0 Z2.pt), .n 6 (bx1 Z2.pt), .n 6 (by0 Z2.pt), .n 6 (by1 Z2.pt), .b (bi Z2.pt)]) (fun γ w => ex_call (vs := []) rfl Tryz.call21 rfl) (fun w h => twoZero_p _) ?_
      refine latv (fun γ w h => ex_ownR slP2 (g := gb) (m := n) (c := n) (i := k9) rfl rfl hk9) ?_
      refine GSteps.cons (late_store rfl (fun _ => rfl) (fun γ w h => ex_storeR (i := k9) (S := emFT F k9) (l := [.n 6 (bx0 Z2.pt), .n 6 (bx1 Z2.pt), .n 6 (by0 Z2.pt), .n 6 (by1 Z2.pt), .b (bi Z2.pt)]) flG2 (emF_sizeT hF k9) rfl (A15.keep h.out) hk9 rfl rfl rfl) rfl) ?_
      exact GSteps.nil
    intro w18 w18_ hb18 hs18
    have A19 := A15.keep hb18.out
    have A20 := A16.keep hb18.out
    have HB21 := HB17.then hb18.out
    have A22 : SB 30 w18_ gb (cat (emFT F (k9 + 1)) n) := hs18.elem (S := emFT F k9) (emF_sizeT hF k9) rfl A19 hk9 (emF_hereT F k9) (fun j _ hj => emF_otherT F k9 j hj)
    have A23 := hs18.other (Ne.symm (Nat.ne_of_lt (Nat.lt_of_lt_of_le A.lt le3))) A20
    have HB24 := HB21.old hs18 (.inl rfl)
    refine bk_n ?_
    refine th_r ?_
    refine wp_region_lit ?_
    refine sv1 (.int .i64 ((k9 + 1 : Nat) : Int)) (ex_iadd rfl rfl ((k9 + 1 : Nat) : Int) (cnt_up (by omega))) ?_
    refine sv1 (.int .i64 ((k9 + 1 : Nat) : Int)) (ex_move _) ?_
    refine wpList_nil ?_
    refine th_r ?_
    exact hK9.out _ _ ⟨_, _, _, _, _, _, _, _, _, _, _, _, rfl, A22, A23, HB24⟩
  · rintro _ w25 ⟨i25_2, i25_7, i25_8, i25_9, i25_10, i25_11, i25_12, i25_13, i25_14, i25_15, i25_16, i25_17, rfl, A25_0, A25_1, HB25⟩ K25
    refine wp_seq (region_0 [7] [.bool false] ?_ ?_)
    · refine stpx (fun _ _ => ex_ilss rfl rfl false (by rw [eq_comm, decide_eq_false_iff_not]; omega)) ?_
      exact GSteps.nil
    intro w26 hb26
    refine th_r ?_
    have A27 := A25_0.keep hb26.out
    have A28 := A25_1.keep hb26.out
    have HB29 := HB25.then hb26.out
    refine wp_seq ?_
    refine wp_cond_false rfl ?_
    refine wp_exit (th_e (th_e (bk_e ?_)))
    exact bodyPost_end (ret0 Tryz.results151) rfl ⟨rfl, HB29, by rw [← emF_endT F n]; exact A27⟩
def bkFT (S : Nat → E2) (D : Nat → Nat) (B : Nat → E2) : Nat → Nat → E2
  | 0 => B
  | q + 1 => fun d => if 0 < D q ∧ d = D q - 1 then (bkFT S D B q d).add C2 (S q) else bkFT S D B q d
theorem bkF_hereT (S : Nat → E2) (D : Nat → Nat) (B : Nat → E2) (q : Nat) (h : 0 < D q) : bkFT S D B (q + 1) (D q - 1) = (bkFT S D B q (D q - 1)).add C2 (S q) := if_pos ⟨h, rfl⟩
theorem bkF_otherT (S : Nat → E2) (D : Nat → Nat) (B : Nat → E2) (q j : Nat) (h : j ≠ D q - 1) : bkFT S D B q j = bkFT S D B (q + 1) j := (if_neg (fun c => h c.2)).symm
theorem bkF_noneT (S : Nat → E2) (D : Nat → Nat) (B : Nat → E2) (q : Nat) (h : D q = 0) : bkFT S D B (q + 1) = bkFT S D B q := funext fun d => if_neg (fun c => by omega)
set_option maxRecDepth 20000 in
set_option maxHeartbeats 4000000 in
theorem sufill_vT (S : Nat → E2) (D : Nat → Nat) (B : Nat → E2) (m n gb gd : Nat) (hm : m ≤ 4096) (hn : n < 1000) (hD : ∀ i, i < m → D i ≤ n) (ap : Option Addr) (cp : Nat) (hne : gb ≠ gd) (w : World) (A : SB 30 w gb (cat (fun i => pt2 (B i)) n)) (AD : SB 3 w gd (ints D m)) (HP : ∀ w', Chg gb gb w w' → Row w' ap 25 m (fun i => pt2 (S i))) :
    Calls Tryz.prog 152 #[sv [.v (.func (.func 17) #[] #[]), .v (.func (.func 21) #[] #[]), .v (.func (.func 23) #[] #[]), .v (.func (.func 22) #[] #[]), .i .i64 12, .v (.slice (some ⟨gb, 0, none⟩) n n)], .slice ap m cp, .slice (some ⟨gd, 0, none⟩) m m] w (fun e w' => e = .returned (.tuple #[]) ∧ (Chg gb gb w w' ∧ SB 30 w' gb (cat (fun i => pt2 (bkFT S D B m i)) n))) := by
  go_enter Tryz.func152, Tryz.ntmps152
  refine wp_seq (region_c 1 (fun _ => 158) (fun _ => 0) (fun _ => 0) (fun _ => segs [.v (.func (.func 17) #[] #[]), .v (.func (.func 21) #[] #[]), .v (.func (.func 23) #[] #[]), .v (.func (.func 22) #[] #[]), .i .i64 12, .v (.slice (some ⟨gb, 0, none⟩) n n)]) (fun _ => segs [.v (.func (.func 17) #[] #[]), .v (.func (.func 21) #[] #[]), .v (.func (.func 23) #[] #[]), .v (.func (.func 22) #[] #[]), .i .i64 12, .v (.slice (some ⟨gb, 0, none⟩) n n)]) [3] (fun γ => [.pointer (some ⟨γ 0, 0, none⟩)]) ?_ ?_)
  · refine GSteps.cons (gm_box 0 rfl (fun _ => rfl) (fun _ _ => rfl) (fun γ w h => ex_boxs (l := [.v (.func (.func 17) #[] #[]), .v (.func (.func 21) #[] #[]), .v (.func (.func 23) #[] #[]), .v (.func (.func 22) #[] #[]), .i .i64 12, .v (.slice (some ⟨gb, 0, none⟩) n n)]) rfl) rfl rfl rfl) ?_
    exact GSteps.nil
  intro γ1 w1 hb1 hB1 _
  refine th_r ?_
  have A2 := A.keep hb1.out
  have A3 := AD.keep hb1.out
  have A4 : SB 158 w1 (γ1 0) [.v (.func (.func 17) #[] #[]), .v (.func (.func 21) #[] #[]), .v (.func (.func 23) #[] #[]), .v (.func (.func 22) #[] #[]), .i .i64 12, .v (.slice (some ⟨gb, 0, none⟩) n n)] := (hB1 0 (by decide)).2
  have le4 := (hB1 0 (by decide)).1
  have HB5 := (Chg.refl gb gb w).then hb1.out
  refine wp_seq (region_0 [8, 9, 10] [.slice (some ⟨gd, 0, none⟩) m m, .int .i64 ((m : Nat) : Int), .int .i64 0] ?_ ?_)
  · refine stpx (fun _ _ => ex_move _) ?_
    refine stpx (fun _ _ => ex_lenI (m := m) rfl) ?_
    refine stpx (fun _ _ => ex_move _) ?_
    exact GSteps.nil
  intro w6 hb6
  refine th_r ?_
  have A7 := A2.keep hb6.out
  have A8 := A3.keep hb6.out
  have A9 := A4.keep hb6.out
  have HB10 := HB5.then hb6.out
  refine wp_block ?_
  refine wp_loop_by (m) (fun q_ a_ v_ => ∃ j6 j7 j11 j12 j13 j14 j15 j16 j17 j18 j19 j20 j21 j22 j23 j24 j25 j26 j27 j28 j29 j30 j31 j32 j33 j34 j35 : Value, a_ = ⟨List.toArray ((sv [.v (.func (.func 17) #[] #[]), .v (.func (.func 21) #[] #[]), .v (.func (.func 23) #[] #[]), .v (.func (.func 22) #[] #[]), .i .i64 12, .v (.slice (some ⟨gb, 0, none⟩) n n)]) :: (.slice ap m cp) :: (.slice (some ⟨gd, 0, none⟩) m m) :: (.pointer (some ⟨(γ1 0), 0, none⟩)) :: undef :: undef :: j6 :: j7 :: (.slice (some ⟨gd, 0, none⟩) m m) :: (.int .i64 ((m : Nat) : Int)) :: (.int .i64 ((q_ : Nat) : Int)) :: j11 :: j12 :: j13 :: j14 :: j15 :: j16 :: j17 :: j18 :: j19 :: j20 :: j21 :: j22 :: j23 :: j24 :: j25 :: j26 :: j27 :: j28 :: j29 :: j30 :: j31 :: j32 :: j33 :: j34 :: j35 :: []), []⟩ ∧ SB 30 v_ (gb) (cat (fun i => pt2 (bkFT S D B q_ i)) n) ∧ SB 3 v_ (gd) (ints D m) ∧ SB 158 v_ (γ1 0) [.v (.func (.func 17) #[] #[]), .v (.func (.func 21) #[] #[]), .v (.func (.func 23) #[] #[]), .v (.func (.func 22) #[] #[]), .i .i64 12, .v (.slice (some ⟨gb, 0, none⟩) n n)] ∧ Chg (gb) (gb) w v_) ⟨_, _, _, _, _, _, _, _, _, _, _, _, _, _, _, _, _, _, _, _, _, _, _, _, _, _, _, rfl, A7, A8, A9, HB10⟩ ?_ ?_
  · intro k11 hk11
    rintro _ w11 ⟨i11_6, i11_7, i11_11, i11_12, i11_13, i11_14, i11_15, i11_16, i11_17, i11_18, i11_19, i11_20, i11_21, i11_22, i11_23, i11_24, i11_25, i11_26, i11_27, i11_28, i11_29, i11_30, i11_31, i11_32, i11_33, i11_34, i11_35, rfl, A11_0, A11_1, A11_2, HB11⟩ K11 hK11
    have hq := hk11
    refine wp_seq (region_0 [11] [.bool true] ?_ ?_)
    · refine stpx (fun _ _ => ex_ilss rfl rfl true (by rw [eq_comm, decide_eq_true_eq]; omega)) ?_
      exact GSteps.nil
    intro w12 hb12
    refine th_r ?_
    have A13 := A11_0.keep hb12.out
    have A14 := A11_1.keep hb12.out
    have A15 := A11_2.keep hb12.out
    have HB16 := HB11.then hb12.out
    refine wp_seq ?_
    refine wp_cond_true rfl ?_
    refine wp_skip ?_
    refine th_r ?_
    refine wp_seq ?_
    refine wp_block ?_
    refine wp_seq (region_0 [12, 13, 14, 6, 7] [.int .i64 ((k11 : Nat) : Int), .pointer (some ⟨gd, k11, none⟩), .int .i64 ((D k11 : Nat) : Int), .int .i64 ((k11 : Nat) : Int), .int .i64 ((D k11 : Nat) : Int)] ?_ ?_)
    · refine stpx (fun _ _ => ex_move _) ?_
      refine stpx (fun _ _ => ex_idxI (g := gd) (m := m) (c := m) (i := k11) rfl rfl hk11) ?_
      refine stpv (fun γ w h => ex_loadI (D := D) (A14.keep h.out) hk11 rfl) ?_
      refine stpx (fun _ _ => ex_assign _) ?_
      refine stpx (fun _ _ => ex_assign _) ?_
      exact GSteps.nil
    intro w17 hb17
    refine th_r ?_
    have A18 := A13.keep hb17.out
    have A19 := A14.keep hb17.out
    have A20 := A15.keep hb17.out
    have HB21 := HB16.then hb17.out
    rcases Nat.eq_zero_or_pos (D k11) with hd | hd
    · refine wp_seq (region_0 [15, 16] [.int .i64 ((D k11 : Nat) : Int), .bool false] ?_ ?_)
      · refine stpx (fun _ _ => ex_move _) ?_
        refine stpx (fun _ _ => ex_igtr rfl rfl false (by rw [eq_comm, decide_eq_false_iff_not]; omega)) ?_
        exact GSteps.nil
      intro w22 hb22
      refine th_r ?_
      have A23 := A18.keep hb22.out
      have A24 := A19.keep hb22.out
      have A25 := A20.keep hb22.out
      have HB26 := HB21.then hb22.out
      refine wp_cond_false rfl ?_
      refine wp_skip ?_
      refine bk_n ?_
      refine th_r ?_
      refine wp_region_lit ?_
      refine sv1 (.int .i64 ((k11 + 1 : Nat) : Int)) (ex_iadd rfl rfl ((k11 + 1 : Nat) : Int) (cnt_up (by omega))) ?_
      refine sv1 (.int .i64 ((k11 + 1 : Nat) : Int)) (ex_move _) ?_
      refine wpList_nil ?_
      refine th_r ?_
      exact hK11.out _ _ ⟨_, _, _, _, _, _, _, _, _, _, _, _, _, _, _, _, _, _, _, _, _, _, _, _, _, _, _, rfl, (by first | exact A23 | (rw [bkF_noneT S D B _ hd]; exact A23)), (by first | exact A24 | (rw [bkF_noneT S D B _ hd]; exact A24)), A25, HB26⟩
    · have hdn : D k11 - 1 < n := by have := hD k11 hq; omega
      refine wp_seq (region_0 [15, 16] [.int .i64 ((D k11 : Nat) : Int), .bool true] ?_ ?_)
      · refine stpx (fun _ _ => ex_move _) ?_
        refine stpx (fun _ _ => ex_igtr rfl rfl true (by rw [eq_comm, decide_eq_true_eq]; omega)) ?_
        exact GSteps.nil
      intro w27 hb27
      refine th_r ?_
      have A28 := A18.keep hb27.out
      have A29 := A19.keep hb27.out
      have A30 := A20.keep hb27.out
      have HB31 := HB21.then hb27.out
      refine wp_cond_true rfl ?_
      obtain ⟨g32, o32, ha32, lg32, hr32⟩ := HP _ HB31 k11 hq
      skip
      · refine region_s 18 (gb) (25 * (D k11 - 1)) (segs [.n 6 (bx0 (((bkFT S D B (k11 + 1) (D k11 - 1))).pt)), .n 6 (bx1 (((bkFT S D B (k11 + 1) (D k11 - 1))).pt)), .n 6 (by0 (((bkFT S D B (k11 + 1) (D k11 - 1))).pt)), .n 6 (by1 (((bkFT S D B (k11 + 1) (D k11 - 1))).pt)), .b (bi (((bkFT S D B (k11 + 1) (D k11 - 1))).pt))]) [17, 18, 19, 20, 21, 22, 23, 24, 25, 26, 27, 28, 29, 30, 31, 32, 33, 34] [.pointer (some ⟨(γ1 0), 5, none⟩), .slice (some ⟨gb, 0, none⟩) n n, .int .i64 ((D k11 : Nat) : Int), .int .i64 ((D k11 - 1 : Nat) : Int), .pointer (some ⟨(γ1 0), 0, none⟩), sv [.v (.func (.func 17) #[] #[]), .v (.func (.func 21) #[] #[]), .v (.func (.func 23) #[] #[]), .v (.func (.func 22) #[] #[]), .i .i64 12], .pointer (some ⟨(γ1 0), 5, none⟩), .slice (some ⟨gb, 0, none⟩) n n, .int .i64 ((D k11 : Nat) : Int), .int .i64 ((D k11 - 1 : Nat) : Int), .pointer (some ⟨gb, 25 * (D k11 - 1), none⟩), sv [.n 6 (bx0 (((bkFT S D B k11 (D k11 - 1))).pt)), .n 6 (bx1 (((bkFT S D B k11 (D k11 - 1))).pt)), .n 6 (by0 (((bkFT S D B k11 (D k11 - 1))).pt)), .n 6 (by1 (((bkFT S D B k11 (D k11 - 1))).pt)), .b (bi (((bkFT S D B k11 (D k11 - 1))).pt))], .slice ap m cp, .int .i64 ((k11 : Nat) : Int), .pointer (some ⟨g32, o32 + 25 * k11, none⟩), sv [.n 6 (bx0 ((S k11).pt)), .n 6 (bx1 ((S k11).pt)), .n 6 (by0 ((S k11).pt)), .n 6 (by1 ((S k11).pt)), .b (bi ((S k11).pt))], sv [.n 6 (bx0 (((bkFT S D B (k11 + 1) (D k11 - 1))).pt)), .n 6 (bx1 (((bkFT S D B (k11 + 1) (D k11 - 1))).pt)), .n 6 (by0 (((bkFT S D B (k11 + 1) (D k11 - 1))).pt)), .n 6 (by1 (((bkFT S D B (k11 + 1) (D k11 - 1))).pt)), .b (bi (((bkFT S D B (k11 + 1) (D k11 - 1))).pt))], .pointer (some ⟨gb, 25 * (D k11 - 1), none⟩)] ?_ ?_
        · refine latv (fun γ w h => ex_field faBu_1T rfl) ?_
          refine latv (fun γ w h => ex_load1 5 (s := .v (.slice (some ⟨gb, 0, none⟩) n n)) (v := .slice (some ⟨gb, 0, none⟩) n n) sgSPT rfl (A30.keep h.out) rfl rfl rfl) ?_
          refine latv (fun γ w h => ex_move _) ?_
          refine latv (fun γ w h => ex_isub rfl rfl ((D k11 - 1 : Nat) : Int) (by have := hD k11 hk11; rw [wrapI64 (by omega) (by omega)]; omega)) ?_
          refine latv (fun γ w h => ex_field faBu_0T rfl) ?_
          refine latv (fun γ w h => ex_loads 0 5 (m := [.v (.func (.func 17) #[] #[]), .v (.func (.func 21) #[] #[]), .v (.func (.func 23) #[] #[]), .v (.func (.func 22) #[] #[]), .i .i64 12]) flSc2 rfl rfl (A30.keep h.out) rfl rfl) ?_
          refine latv (fun γ w h => ex_field faBu_1T rfl) ?_
          refine latv (fun γ w h => ex_load1 5 (s := .v (.slice (some ⟨gb, 0, none⟩) n n)) (v := .slice (some ⟨gb, 0, none⟩) n n) sgSPT rfl (A30.keep h.out) rfl rfl rfl) ?_
          refine latv (fun γ w h => ex_move _) ?_
          refine latv (fun γ w h => ex_isub rfl rfl ((D k11 - 1 : Nat) : Int) (by have := hD k11 hk11; rw [wrapI64 (by omega) (by omega)]; omega)) ?_
          refine latv (fun γ w h => ex_ownR slP2 (g := gb) (m := n) (c := n) (i := D k11 - 1) rfl rfl hdn) ?_
          refine latv (fun γ w h => ex_loadO (S := fun i => pt2 ((bkFT S D B k11) i)) flG2 (fun _ => rfl) (A28.keep h.out) hdn rfl rfl) ?_
          refine latv (fun γ w h => ex_move _) ?_
          refine latv (fun γ w h => ex_move _) ?_
          refine latv (fun γ w h => ex_idxR slP2 (a := ap) (m := m) (c := cp) (i := k11) rfl ha32 rfl hq) ?_
          refine latv (fun γ w h => ex_loadR (l := [.n 6 (bx0 ((S k11).pt)), .n 6 (bx1 ((S k11).pt)), .n 6 (by0 ((S k11).pt)), .n 6 (by1 ((S k11).pt)), .b (bi ((S k11).pt))]) flG2 rfl rfl (range_keep lg32 h.out hr32)) ?_
          refine latc (sv [.n 6 (bx0 (((bkFT S D B (k11 + 1) (D k11 - 1))).pt)), .n 6 (bx1 (((bkFT S D B (k11 + 1) (D k11 - 1))).pt)), .n 6 (by0 (((bkFT S D B (k11 + 1) (D k11 - 1))).pt)), .n 6 (by1 (((bkFT S D B (k11 + 1) (D k11 - 1))).pt)), .b (bi (((bkFT S D B (k11 + 1) (D k11 - 1))).pt))]) (fun γ w => ex_call (vs := [sv [.v (.func (.func 17) #[] #[]), .v (.func (.func 21) #[] #[]), .v (.func (.func 23) #[] #[]), .v (.func (.func 22) #[] #[]), .i .i64 12], sv [.n 6 (bx0 (((bkFT S D B k11 (D k11 - 1))).pt)), .n 6 (bx1 (((bkFT S D B k11 (D k11 - 1))).pt)), .n 6 (by0 (((bkFT S D B k11 (D k11 - 1))).pt)), .n 6 (by1 (((bkFT S D B k11 (D k11 - 1))).pt)), .b (bi (((bkFT S D B k11 (D k11 - 1))).pt))], sv [.n 6 (bx0 ((S k11).pt)), .n 6 (bx1 ((S k11).pt)), .n 6 (by0 ((S k11).pt)), .n 6 (by1 ((S k11).pt)), .b (bi ((S k11).pt))]]) rfl Tryz.call145 rfl) (fun w h => scPlus2_p (bkFT S D B k11 (D k11 - 1)) (S k11) _ (bkF_hereT S D B k11 hd).symm _) ?_
          refine latv (fun γ w h => ex_ownR slP2 (g := gb) (m := n) (c := n) (i := D k11 - 1) rfl rfl hdn) ?_
          refine GSteps.cons (late_store rfl (fun _ => rfl) (fun γ w h => ex_storeR (i := D k11 - 1) (S := fun i => pt2 (bkFT S D B k11 i)) (l := [.n 6 (bx0 (((bkFT S D B (k11 + 1) (D k11 - 1))).pt)), .n 6 (bx1 (((bkFT S D B (k11 + 1) (D k11 - 1))).pt)), .n 6 (by0 (((bkFT S D B (k11 + 1) (D k11 - 1))).pt)), .n 6 (by1 (((bkFT S D B (k11 + 1) (D k11 - 1))).pt)), .b (bi (((bkFT S D B (k11 + 1) (D k11 - 1))).pt))]) flG2 (fun _ => rfl) rfl (A28.keep h.out) hdn rfl rfl rfl) rfl) ?_
          exact GSteps.nil
        intro w33 w33_ hb33 hs33
        have A34 := A28.keep hb33.out
        have A35 := A29.keep hb33.out
        have A36 := A30.keep hb33.out
        have HB37 := HB31.then hb33.out
        have A38 : SB 30 w33_ gb (cat (fun i => pt2 (bkFT S D B (k11 + 1) i)) n) := hs33.elem (S := fun i => pt2 (bkFT S D B k11 i)) (fun _ => rfl) rfl A34 hdn rfl (fun j _ hj => by rw [bkF_otherT S D B k11 j hj])
        have A39 := hs33.other hne.symm A35
        have A40 := hs33.other (Ne.symm (Nat.ne_of_lt (Nat.lt_of_lt_of_le A.lt le4))) A36
        have HB41 := HB37.old hs33 (.inl rfl)
        refine bk_n ?_
        refine th_r ?_
        refine wp_region_lit ?_
        refine sv1 (.int .i64 ((k11 + 1 : Nat) : Int)) (ex_iadd rfl rfl ((k11 + 1 : Nat) : Int) (cnt_up (by omega))) ?_
        refine sv1 (.int .i64 ((k11 + 1 : Nat) : Int)) (ex_move _) ?_
        refine wpList_nil ?_
        refine th_r ?_
        exact hK11.out _ _ ⟨_, _, _, _, _, _, _, _, _, _, _, _, _, _, _, _, _, _, _, _, _, _, _, _, _, _, _, rfl, (by first | exact A38 | (rw [bkF_noneT S D B _ hd]; exact A38)), (by first | exact A39 | (rw [bkF_noneT S D B _ hd]; exact A39)), A40, HB41⟩
  · rintro _ w42 ⟨i42_6, i42_7, i42_11, i42_12, i42_13, i42_14, i42_15, i42_16, i42_17, i42_18, i42_19, i42_20, i42_21, i42_22, i42_23, i42_24, i42_25, i42_26, i42_27, i42_28, i42_29, i42_30, i42_31, i42_32, i42_33, i42_34, i42_35, rfl, A42_0, A42_1, A42_2, HB42⟩ K42
    refine wp_seq (region_0 [11] [.bool false] ?_ ?_)
    · refine stpx (fun _ _ => ex_ilss rfl rfl false (by rw [eq_comm, decide_eq_false_iff_not]; omega)) ?_
      exact GSteps.nil
    intro w43 hb43
    refine th_r ?_
    have A44 := A42_0.keep hb43.out
    have A45 := A42_1.keep hb43.out
    have A46 := A42_2.keep hb43.out
    have HB47 := HB42.then hb43.out
    refine wp_seq ?_
    refine wp_cond_false rfl ?_
    refine wp_exit (th_e (th_e (bk_e ?_)))
    exact bodyPost_end (ret0 Tryz.results152) rfl ⟨rfl, HB47, A44⟩
def abFT (B : Nat → E2) (n : Nat) : Nat → E2
  | 0 => Z2
  | q + 1 => (abFT B n q).add C2 (B (n - 1 - q))
def smFT (B : Nat → E2) (n : Nat) : Nat → E2
  | 0 => Z2
  | q + 1 => (smFT B n q).add C2 (abFT B n (q + 1))
set_option maxRecDepth 20000 in
set_option maxHeartbeats 4000000 in
theorem sutotal_vT (B : Nat → E2) (n gb : Nat) (hn : n < 1000) (w : World) (A : SB 30 w gb (cat (fun i => pt2 (B i)) n)) :
    Calls Tryz.prog 153 #[sv [.v (.func (.func 17) #[] #[]), .v (.func (.func 21) #[] #[]), .v (.func (.func 23) #[] #[]), .v (.func (.func 22) #[] #[]), .i .i64 12, .v (.slice (some ⟨gb, 0, none⟩) n n)]] w (Is (sv [.n 6 (bx0 (((smFT B n n)).pt)), .n 6 (bx1 (((smFT B n n)).pt)), .n 6 (by0 (((smFT B n n)).pt)), .n 6 (by1 (((smFT B n n)).pt)), .b (bi (((smFT B n n)).pt))]) w) := by
  go_enter Tryz.func153, Tryz.ntmps153
  refine wp_seq (region_c 2 (fun j_ => match j_ with | 0 => 158 | _ => 30) (fun j_ => match j_ with | 0 => 0 | _ => 1) (fun j_ => match j_ with | 0 => 0 | _ => 1) (fun j_ => match j_ with | 0 => segs [.v (.func (.func 17) #[] #[]), .v (.func (.func 21) #[] #[]), .v (.func (.func 23) #[] #[]), .v (.func (.func 22) #[] #[]), .i .i64 12, .v (.slice (some ⟨gb, 0, none⟩) n n)] | _ => segs [.n 6 0, .n 6 0, .n 6 0, .n 6 0, .b false]) (fun j_ => match j_ with | 0 => segs [.v (.func (.func 17) #[] #[]), .v (.func (.func 21) #[] #[]), .v (.func (.func 23) #[] #[]), .v (.func (.func 22) #[] #[]), .i .i64 12, .v (.slice (some ⟨gb, 0, none⟩) n n)] | _ => segs [.n 6 0, .n 6 0, .n 6 0, .n 6 0, .b false]) [1, 2] (fun γ => [.pointer (some ⟨γ 0, 0, none⟩), .pointer (some ⟨γ 1, 0, none⟩)]) ?_ ?_)
  · refine GSteps.cons (gm_box 0 rfl (fun _ => rfl) (fun _ _ => rfl) (fun γ w h => ex_boxs (l := [.v (.func (.func 17) #[] #[]), .v (.func (.func 21) #[] #[]), .v (.func (.func 23) #[] #[]), .v (.func (.func 22) #[] #[]), .i .i64 12, .v (.slice (some ⟨gb, 0, none⟩) n n)]) rfl) rfl rfl rfl) ?_
    refine GSteps.cons (gm_box 1 rfl (fun _ => rfl) (fun _ _ => rfl) (fun γ w h => ex_allocs (l := [.n 6 0, .n 6 0, .n 6 0, .n 6 0, .b false]) zG2) rfl rfl rfl) ?_
    exact GSteps.nil
  intro γ1 w1 hb1 hB1 hn1
  refine th_r ?_
  have A2 := A.keep hb1.out
  have A3 : SB 158 w1 (γ1 0) [.v (.func (.func 17) #[] #[]), .v (.func (.func 21) #[] #[]), .v (.func (.func 23) #[] #[]), .v (.func (.func 22) #[] #[]), .i .i64 12, .v (.slice (some ⟨gb, 0, none⟩) n n)] := (hB1 0 (by decide)).2
  have le3 := (hB1 0 (by decide)).1
  have A4 : SB 30 w1 (γ1 1) [.n 6 0, .n 6 0, .n 6 0, .n 6 0, .b false] := (hB1 1 (by decide)).2
  have le4 := (hB1 1 (by decide)).1
  have HB5 := below_then (Below.refl w.heap.size w) hb1.out
  refine wp_seq (region_c 2 (fun j_ => match j_ with | 0 => 30 | _ => 30) (fun j_ => match j_ with | 0 => 8 | _ => 9) (fun j_ => match j_ with | 0 => 10 | _ => 11) (fun j_ => match j_ with | 0 => segs [.n 6 0, .n 6 0, .n 6 0, .n 6 0, .b false] | _ => segs [.n 6 0, .n 6 0, .n 6 0, .n 6 0, .b false]) (fun j_ => match j_ with | 0 => segs [.n 6 (bx0 Z2.pt), .n 6 (bx1 Z2.pt), .n 6 (by0 Z2.pt), .n 6 (by1 Z2.pt), .b (bi Z2.pt)] | _ => segs [.n 6 (bx0 Z2.pt), .n 6 (bx1 Z2.pt), .n 6 (by0 Z2.pt), .n 6 (by1 Z2.pt), .b (bi Z2.pt)]) [6, 7, 8, 9, 10, 11, 12, 13, 3, 4] (fun γ => [.pointer (some ⟨(γ1 0), 0, none⟩), .pointer (some ⟨(γ1 0), 1, none⟩), .func (.func 21) #[] #[], sv [.n 6 (bx0 Z2.pt), .n 6 (bx1 Z2.pt), .n 6 (by0 Z2.pt), .n 6 (by1 Z2.pt), .b (bi Z2.pt)], .pointer (some ⟨(γ1 0), 0, none⟩), .pointer (some ⟨(γ1 0), 1, none⟩), .func (.func 21) #[] #[], sv [.n 6 (bx0 Z2.pt), .n 6 (bx1 Z2.pt), .n 6 (by0 Z2.pt), .n 6 (by1 Z2.pt), .b (bi Z2.pt)], .pointer (some ⟨γ 0, 0, none⟩), .pointer (some ⟨γ 1, 0, none⟩)]) ?_ ?_)
  · refine stpx (fun _ _ => ex_field faBu_0T rfl) ?_
    refine stpx (fun _ _ => ex_field faSc2_1 rfl) ?_
    refine stpv (fun γ w h => ex_load1 1 (s := .v (.func (.func 21) #[] #[])) (v := .func (.func 21) #[] #[]) sgF2_1 rfl (A3.keep h.out) rfl rfl rfl) ?_
    refine stpc (sv [.n 6 (bx0 Z2.pt), .n 6 (bx1 Z2.pt), .n 6 (by0 Z2.pt), .n 6 (by1 Z2.pt), .b (bi Z2.pt)]) (fun γ w => ex_call (vs := []) rfl Tryz.call21 rfl) (fun w h => twoZero_p _) ?_
    refine stpx (fun _ _ => ex_field faBu_0T rfl) ?_
    refine stpx (fun _ _ => ex_field faSc2_1 rfl) ?_
    refine stpv (fun γ w h => ex_load1 1 (s := .v (.func (.func 21) #[] #[])) (v := .func (.func 21) #[] #[]) sgF2_1 rfl (A3.keep h.out) rfl rfl rfl) ?_
    refine stpc (sv [.n 6 (bx0 Z2.pt), .n 6 (bx1 Z2.pt), .n 6 (by0 Z2.pt), .n 6 (by1 Z2.pt), .b (bi Z2.pt)]) (fun γ w => ex_call (vs := []) rfl Tryz.call21 rfl) (fun w h => twoZero_p _) ?_
    refine GSteps.cons (gm_new 0 rfl (fun _ => rfl) (fun _ _ => rfl) (fun γ w => ex_allocs (l := [.n 6 0, .n 6 0, .n 6 0, .n 6 0, .b false]) zG2) rfl (by kernel_rfl)) ?_
    refine GSteps.cons (gm_new 1 rfl (fun _ => rfl) (fun _ _ => rfl) (fun γ w => ex_allocs (l := [.n 6 0, .n 6 0, .n 6 0, .n 6 0, .b false]) zG2) rfl (by kernel_rfl)) ?_
    refine GSteps.cons (gm_store 0 rfl rfl (fun _ => rfl) (len_segs (l := [.n 6 (bx0 Z2.pt), .n 6 (bx1 Z2.pt), .n 6 (by0 Z2.pt), .n 6 (by1 Z2.pt), .b (bi Z2.pt)]) (l' := [.n 6 0, .n 6 0, .n 6 0, .n 6 0, .b false]) rfl) (fun γ w h => ex_stores 0 5 (l := [.n 6 0, .n 6 0, .n 6 0, .n 6 0, .b false]) (m := [.n 6 (bx0 Z2.pt), .n 6 (bx1 Z2.pt), .n 6 (by0 Z2.pt), .n 6 (by1 Z2.pt), .b (bi Z2.pt)]) flG2.2 rfl rfl rfl rfl h rfl rfl) rfl rfl (by kernel_rfl)) ?_
    refine GSteps.cons (gm_store 1 rfl rfl (fun _ => rfl) (len_segs (l := [.n 6 (bx0 Z2.pt), .n 6 (bx1 Z2.pt), .n 6 (by0 Z2.pt), .n 6 (by1 Z2.pt), .b (bi Z2.pt)]) (l' := [.n 6 0, .n 6 0, .n 6 0, .n 6 0, .b false]) rfl) (fun γ w h => ex_stores 0 5 (l := [.n 6 0, .n 6 0, .n 6 0, .n 6 0, .b false]) (m := [.n 6 (bx0 Z2.pt), .n 6 (bx1 Z2.pt), .n 6 (by0 Z2.pt), .n 6 (by1 Z2.pt), .b (bi Z2.pt)]) flG2.2 rfl rfl rfl rfl h rfl rfl) rfl rfl (by kernel_rfl)) ?_
    exact GSteps.nil
  intro γ6 w6 hb6 hB6 hn6
  refine th_r ?_
  have A7 := A2.keep hb6.out
  have A8 := A3.keep hb6.out
  have A9 := A4.keep hb6.out
  have A10 : SB 30 w6 (γ6 0) [.n 6 (bx0 Z2.pt), .n 6 (bx1 Z2.pt), .n 6 (by0 Z2.pt), .n 6 (by1 Z2.pt), .b (bi Z2.pt)] := (hB6 0 (by decide)).2
  have le10 := (hB6 0 (by decide)).1
  have A11 : SB 30 w6 (γ6 1) [.n 6 (bx0 Z2.pt), .n 6 (bx1 Z2.pt), .n 6 (by0 Z2.pt), .n 6 (by1 Z2.pt), .b (bi Z2.pt)] := (hB6 1 (by decide)).2
  have le11 := (hB6 1 (by decide)).1
  have HB12 := below_then HB5 hb6.out
  refine wp_seq ?_
  refine wp_seq (region_0 [14, 15, 16, 17, 5] [.pointer (some ⟨(γ1 0), 5, none⟩), .slice (some ⟨gb, 0, none⟩) n n, .int .i64 ((n : Nat) : Int), .int .i64 ((n : Int) - 1 - ((0 : Nat) : Int)), .int .i64 ((n : Int) - 1 - ((0 : Nat) : Int))] ?_ ?_)
  · refine stpx (fun _ _ => ex_field faBu_1T rfl) ?_
    refine stpv (fun γ w h => ex_load1 5 (s := .v (.slice (some ⟨gb, 0, none⟩) n n)) (v := .slice (some ⟨gb, 0, none⟩) n n) sgSPT rfl (A8.keep h.out) rfl rfl rfl) ?_
    refine stpx (fun _ _ => ex_lenR slP2 (m := n) rfl) ?_
    refine stpx (fun _ _ => ex_isub rfl rfl ((n : Int) - 1 - ((0 : Nat) : Int)) (by rw [wrapI64 (by omega) (by omega)]; omega)) ?_
    refine stpx (fun _ _ => ex_assign _) ?_
    exact GSteps.nil
  intro w13 hb13
  refine th_r ?_
  have A14 := A7.keep hb13.out
  have A15 := A8.keep hb13.out
  have A16 := A9.keep hb13.out
  have A17 := A10.keep hb13.out
  have A18 := A11.keep hb13.out
  have HB19 := below_then HB12 hb13.out
  refine wp_block ?_
  refine wp_loop_by (n) (fun q_ a_ v_ => ∃ j18 j19 j20 j21 j22 j23 j24 j25 j26 j27 j28 j29 j30 j31 j32 j33 j34 j35 : Value, a_ = ⟨List.toArray ((sv [.v (.func (.func 17) #[] #[]), .v (.func (.func 21) #[] #[]), .v (.func (.func 23) #[] #[]), .v (.func (.func 22) #[] #[]), .i .i64 12, .v (.slice (some ⟨gb, 0, none⟩) n n)]) :: (.pointer (some ⟨(γ1 0), 0, none⟩)) :: (.pointer (some ⟨(γ1 1), 0, none⟩)) :: (.pointer (some ⟨(γ6 0), 0, none⟩)) :: (.pointer (some ⟨(γ6 1), 0, none⟩)) :: (.int .i64 ((n : Int) - 1 - ((q_ : Nat) : Int))) :: (.pointer (some ⟨(γ1 0), 0, none⟩)) :: (.pointer (some ⟨(γ1 0), 1, none⟩)) :: (.func (.func 21) #[] #[]) :: (sv [.n 6 (bx0 Z2.pt), .n 6 (bx1 Z2.pt), .n 6 (by0 Z2.pt), .n 6 (by1 Z2.pt), .b (bi Z2.pt)]) :: (.pointer (some ⟨(γ1 0), 0, none⟩)) :: (.pointer (some ⟨(γ1 0), 1, none⟩)) :: (.func (.func 21) #[] #[]) :: (sv [.n 6 (bx0 Z2.pt), .n 6 (bx1 Z2.pt), .n 6 (by0 Z2.pt), .n 6 (by1 Z2.pt), .b (bi Z2.pt)]) :: (.pointer (some ⟨(γ1 0), 5, none⟩)) :: (.slice (some ⟨gb, 0, none⟩) n n) :: (.int .i64 ((n : Nat) : Int)) :: (.int .i64 ((n : Int) - 1 - ((0 : Nat) : Int))) :: j18 :: j19 :: j20 :: j21 :: j22 :: j23 :: j24 :: j25 :: j26 :: j27 :: j28 :: j29 :: j30 :: j31 :: j32 :: j33 :: j34 :: j35 :: undef :: []), []⟩ ∧ SB 30 v_ (gb) (cat (fun i => pt2 (B i)) n) ∧ SB 158 v_ (γ1 0) [.v (.func (.func 17) #[] #[]), .v (.func (.func 21) #[] #[]), .v (.func (.func 23) #[] #[]), .v (.func (.func 22) #[] #[]), .i .i64 12, .v (.slice (some ⟨gb, 0, none⟩) n n)] ∧ SB 30 v_ (γ1 1) [.n 6 0, .n 6 0, .n 6 0, .n 6 0, .b false] ∧ SB 30 v_ (γ6 0) [.n 6 (bx0 (((abFT B n q_)).pt)), .n 6 (bx1 (((abFT B n q_)).pt)), .n 6 (by0 (((abFT B n q_)).pt)), .n 6 (by1 (((abFT B n q_)).pt)), .b (bi (((abFT B n q_)).pt))] ∧ SB 30 v_ (γ6 1) [.n 6 (bx0 (((smFT B n q_)).pt)), .n 6 (bx1 (((smFT B n q_)).pt)), .n 6 (by0 (((smFT B n q_)).pt)), .n 6 (by1 (((smFT B n q_)).pt)), .b (bi (((smFT B n q_)).pt))] ∧ Below w.heap.size w v_) ⟨_, _, _, _, _, _, _, _, _, _, _, _, _, _, _, _, _, _, rfl, A14, A15, A16, A17, A18, HB19⟩ ?_ ?_
  · intro k20 hk20
    rintro _ w20 ⟨i20_18, i20_19, i20_20, i20_21, i20_22, i20_23, i20_24, i20_25, i20_26, i20_27, i20_28, i20_29, i20_30, i20_31, i20_32, i20_33, i20_34, i20_35, rfl, A20_0, A20_1, A20_2, A20_3, A20_4, HB20⟩ K20 hK20
    have en : (n : Int) - 1 - ((k20 : Nat) : Int) = ((n - 1 - k20 : Nat) : Int) := by omega
    rw [en]
    refine wp_seq ?_
    refine wp_seq (region_0 [18, 19] [.int .i64 ((n - 1 - k20 : Nat) : Int), .bool true] ?_ ?_)
    · refine stpx (fun _ _ => ex_move _) ?_
      refine stpx (fun _ _ => ex_igeq rfl rfl true (by rw [eq_comm, decide_eq_true_eq]; omega)) ?_
      exact GSteps.nil
    intro w21 hb21
    refine th_r ?_
    have A22 := A20_0.keep hb21.out
    have A23 := A20_1.keep hb21.out
    have A24 := A20_2.keep hb21.out
    have A25 := A20_3.keep hb21.out
    have A26 := A20_4.keep hb21.out
    have HB27 := below_then HB20 hb21.out
    refine wp_cond_true rfl ?_
    refine wp_skip ?_
    refine th_r ?_
    refine wp_seq ?_
    refine wp_block ?_
    refine wp_seq (region_s 9 ((γ6 0)) 0 (segs [.n 6 (bx0 (((abFT B n (k20 + 1))).pt)), .n 6 (bx1 (((abFT B n (k20 + 1))).pt)), .n 6 (by0 (((abFT B n (k20 + 1))).pt)), .n 6 (by1 (((abFT B n (k20 + 1))).pt)), .b (bi (((abFT B n (k20 + 1))).pt))]) [22, 23, 24, 25, 26, 27, 28, 29, 30] [.pointer (some ⟨(γ1 0), 0, none⟩), sv [.v (.func (.func 17) #[] #[]), .v (.func (.func 21) #[] #[]), .v (.func (.func 23) #[] #[]), .v (.func (.func 22) #[] #[]), .i .i64 12], sv [.n 6 (bx0 (((abFT B n k20)).pt)), .n 6 (bx1 (((abFT B n k20)).pt)), .n 6 (by0 (((abFT B n k20)).pt)), .n 6 (by1 (((abFT B n k20)).pt)), .b (bi (((abFT B n k20)).pt))], .pointer (some ⟨(γ1 0), 5, none⟩), .slice (some ⟨gb, 0, none⟩) n n, .int .i64 ((n - 1 - k20 : Nat) : Int), .pointer (some ⟨gb, 25 * (n - 1 - k20), none⟩), sv [.n 6 (bx0 (((B (n - 1 - k20))).pt)), .n 6 (bx1 (((B (n - 1 - k20))).pt)), .n 6 (by0 (((B (n - 1 - k20))).pt)), .n 6 (by1 (((B (n - 1 - k20))).pt)), .b (bi (((B (n - 1 - k20))).pt))], sv [.n 6 (bx0 (((abFT B n (k20 + 1))).pt)), .n 6 (bx1 (((abFT B n (k20 + 1))).pt)), .n 6 (by0 (((abFT B n (k20 + 1))).pt)), .n 6 (by1 (((abFT B n (k20 + 1))).pt)), .b (bi (((abFT B n (k20 + 1))).pt))]] ?_ ?_)
    · refine latv (fun γ w h => ex_field faBu_0T rfl) ?_
      refine latv (fun γ w h => ex_loads 0 5 (m := [.v (.func (.func 17) #[] #[]), .v (.func (.func 21) #[] #[]), .v (.func (.func 23) #[] #[]), .v (.func (.func 22) #[] #[]), .i .i64 12]) flSc2 rfl rfl (A23.keep h.out) rfl rfl) ?_
      refine latv (fun γ w h => ex_loads 0 5 (m := [.n 6 (bx0 (((abFT B n k20)).pt)), .n 6 (bx1 (((abFT B n k20)).pt)), .n 6 (by0 (((abFT B n k20)).pt)), .n 6 (by1 (((abFT B n k20)).pt)), .b (bi (((abFT B n k20)).pt))]) flG2 rfl rfl (A25.keep h.out) rfl rfl) ?_
      refine latv (fun γ w h => ex_field faBu_1T rfl) ?_
      refine latv (fun γ w h => ex_load1 5 (s := .v (.slice (some ⟨gb, 0, none⟩) n n)) (v := .slice (some ⟨gb, 0, none⟩) n n) sgSPT rfl (A23.keep h.out) rfl rfl rfl) ?_
      refine latv (fun γ w h => ex_move _) ?_
      refine latv (fun γ w h => ex_ownR slP2 (g := gb) (m := n) (c := n) (i := n - 1 - k20) rfl rfl (by omega)) ?_
      refine latv (fun γ w h => ex_loadO (S := fun i => pt2 (B i)) flG2 (fun _ => rfl) (A22.keep h.out) (by omega) rfl rfl) ?_
      refine latc (sv [.n 6 (bx0 (((abFT B n (k20 + 1))).pt)), .n 6 (bx1 (((abFT B n (k20 + 1))).pt)), .n 6 (by0 (((abFT B n (k20 + 1))).pt)), .n 6 (by1 (((abFT B n (k20 + 1))).pt)), .b (bi (((abFT B n (k20 + 1))).pt))]) (fun γ w => ex_call (vs := [sv [.v (.func (.func 17) #[] #[]), .v (.func (.func 21) #[] #[]), .v (.func (.func 23) #[] #[]), .v (.func (.func 22) #[] #[]), .i .i64 12], sv [.n 6 (bx0 (((abFT B n k20)).pt)), .n 6 (bx1 (((abFT B n k20)).pt)), .n 6 (by0 (((abFT B n k20)).pt)), .n 6 (by1 (((abFT B n k20)).pt)), .b (bi (((abFT B n k20)).pt))], sv [.n 6 (bx0 (((B (n - 1 - k20))).pt)), .n 6 (bx1 (((B (n - 1 - k20))).pt)), .n 6 (by0 (((B (n - 1 - k20))).pt)), .n 6 (by1 (((B (n - 1 - k20))).pt)), .b (bi (((B (n - 1 - k20))).pt))]]) rfl Tryz.call145 rfl) (fun w h => scPlus2_p (abFT B n k20) (B (n - 1 - k20)) _ rfl _) ?_
      refine GSteps.cons (late_store rfl (fun _ => rfl) (fun γ w h => ex_stores 0 5 (l := [.n 6 (bx0 (((abFT B n k20)).pt)), .n 6 (bx1 (((abFT B n k20)).pt)), .n 6 (by0 (((abFT B n k20)).pt)), .n 6 (by1 (((abFT B n k20)).pt)), .b (bi (((abFT B n k20)).pt))]) (m := [.n 6 (bx0 (((abFT B n (k20 + 1))).pt)), .n 6 (bx1 (((abFT B n (k20 + 1))).pt)), .n 6 (by0 (((abFT B n (k20 + 1))).pt)), .n 6 (by1 (((abFT B n (k20 + 1))).pt)), .b (bi (((abFT B n (k20 + 1))).pt))]) flG2.2 rfl rfl rfl rfl (A25.keep h.out) rfl rfl) rfl) ?_
      exact GSteps.nil
    intro w28 w28_ hb28 hs28
    refine th_r ?_
    have A29 := A22.keep hb28.out
    have A30 := A23.keep hb28.out
    have A31 := A24.keep hb28.out
    have A32 := A25.keep hb28.out
    have A33 := A26.keep hb28.out
    have HB34 := below_then HB27 hb28.out
    have A35 := hs28.other (Nat.ne_of_lt (Nat.lt_of_lt_of_le A2.lt le10)) A29
    have A36 := hs28.other (Nat.ne_of_lt (Nat.lt_of_lt_of_le A3.lt le10)) A30
    have A37 := hs28.other (Nat.ne_of_lt (Nat.lt_of_lt_of_le A4.lt le10)) A31
    have A38 := hs28.here 0 5 (l' := [.n 6 (bx0 (((abFT B n (k20 + 1))).pt)), .n 6 (bx1 (((abFT B n (k20 + 1))).pt)), .n 6 (by0 (((abFT B n (k20 + 1))).pt)), .n 6 (by1 (((abFT B n (k20 + 1))).pt)), .b (bi (((abFT B n (k20 + 1))).pt))]) A32 rfl rfl rfl
    have A39 := hs28.other (Ne.symm (hn6 0 1 (by decide) (by decide) (by decide))) A33
    have HB40 := hs28.below HB34 (Nat.le_trans HB5.size le10)
    refine region_s 5 ((γ6 1)) 0 (segs [.n 6 (bx0 (((smFT B n (k20 + 1))).pt)), .n 6 (bx1 (((smFT B n (k20 + 1))).pt)), .n 6 (by0 (((smFT B n (k20 + 1))).pt)), .n 6 (by1 (((smFT B n (k20 + 1))).pt)), .b (bi (((smFT B n (k20 + 1))).pt))]) [31, 32, 33, 34, 35] [.pointer (some ⟨(γ1 0), 0, none⟩), sv [.v (.func (.func 17) #[] #[]), .v (.func (.func 21) #[] #[]), .v (.func (.func 23) #[] #[]), .v (.func (.func 22) #[] #[]), .i .i64 12], sv [.n 6 (bx0 (((smFT B n k20)).pt)), .n 6 (bx1 (((smFT B n k20)).pt)), .n 6 (by0 (((smFT B n k20)).pt)), .n 6 (by1 (((smFT B n k20)).pt)), .b (bi (((smFT B n k20)).pt))], sv [.n 6 (bx0 (((abFT B n (k20 + 1))).pt)), .n 6 (bx1 (((abFT B n (k20 + 1))).pt)), .n 6 (by0 (((abFT B n (k20 + 1))).pt)), .n 6 (by1 (((abFT B n (k20 + 1))).pt)), .b (bi (((abFT B n (k20 + 1))).pt))], sv [.n 6 (bx0 (((smFT B n (k20 + 1))).pt)), .n 6 (bx1 (((smFT B n (k20 + 1))).pt)), .n 6 (by0 (((smFT B n (k20 + 1))).pt)), .n 6 (by1 (((smFT B n (k20 + 1))).pt)), .b (bi (((smFT B n (k20 + 1))).pt))]] ?_ ?_
    · refine latv (fun γ w h => ex_field faBu_0T rfl) ?_
      refine latv (fun γ w h => ex_loads 0 5 (m := [.v (.func (.func 17) #[] #[]), .v (.func (.func 21) #[] #[]), .v (.func (.func 23) #[] #[]), .v (.func (.func 22) #[] #[]), .i .i64 12]) flSc2 rfl rfl (A36.keep h.out) rfl rfl) ?_
      refine latv (fun γ w h => ex_loads 0 5 (m := [.n 6 (bx0 (((smFT B n k20)).pt)), .n 6 (bx1 (((smFT B n k20)).pt)), .n 6 (by0 (((smFT B n k20)).pt)), .n 6 (by1 (((smFT B n k20)).pt)), .b (bi (((smFT B n k20)).pt))]) flG2 rfl rfl (A39.keep h.out) rfl rfl) ?_
      refine latv (fun γ w h => ex_loads 0 5 (m := [.n 6 (bx0 (((abFT B n (k20 + 1))).pt)), .n 6 (bx1 (((abFT B n (k20 + 1))).pt)), .n 6 (by0 (((abFT B n (k20 + 1))).pt)), .n 6 (by1 (((abFT B n (k20 + 1))).pt)), .b (bi (((abFT B n (k20 + 1))).pt))]) flG2 rfl rfl (A38.keep h.out) rfl rfl) ?_
      refine latc (sv [.n 6 (bx0 (((smFT B n (k20 + 1))).pt)), .n 6 (bx1 (((smFT B n (k20 + 1))).pt)), .n 6 (by0 (((smFT B n (k20 + 1))).pt)), .n 6 (by1 (((smFT B n (k20 + 1))).pt)), .b (bi (((smFT B n (k20 + 1))).pt))]) (fun γ w => ex_call (vs := [sv [.v (.func (.func 17) #[] #[]), .v (.func (.func 21) #[] #[]), .v (.func (.func 23) #[] #[]), .v (.func (.func 22) #[] #[]), .i .i64 12], sv [.n 6 (bx0 (((smFT B n k20)).pt)), .n 6 (bx1 (((smFT B n k20)).pt)), .n 6 (by0 (((smFT B n k20)).pt)), .n 6 (by1 (((smFT B n k20)).pt)), .b (bi (((smFT B n k20)).pt))], sv [.n 6 (bx0 (((abFT B n (k20 + 1))).pt)), .n 6 (bx1 (((abFT B n (k20 + 1))).pt)), .n 6 (by0 (((abFT B n (k20 + 1))).pt)), .n 6 (by1 (((abFT B n (k20 + 1))).pt)), .b (bi (((abFT B n (k20 + 1))).pt))]]) rfl Tryz.call145 rfl) (fun w h => scPlus2_p (smFT B n k20) (abFT B n (k20 + 1)) _ rfl _) ?_
      refine GSteps.cons (late_store rfl (fun _ => rfl) (fun γ w h => ex_stores 0 5 (l := [.n 6 (bx0 (((smFT B n k20)).pt)), .n 6 (bx1 (((smFT B n k20)).pt)), .n 6 (by0 (((smFT B n k20)).pt)), .n 6 (by1 (((smFT B n k20)).pt)), .b (bi (((smFT B n k20)).pt))]) (m := [.n 6 (bx0 (((smFT B n (k20 + 1))).pt)), .n 6 (bx1 (((smFT B n (k20 + 1))).pt)), .n 6 (by0 (((smFT B n (k20 + 1))).pt)), .n 6 (by1 (((smFT B n (k20 + 1))).pt)), .b (bi (((smFT B n (k20 + 1))).pt))]) flG2.2 rfl rfl rfl rfl (A39.keep h.out) rfl rfl) rfl) ?_
      exact GSteps.nil
    intro w41 w41_ hb41 hs41
    have A42 := A35.keep hb41.out
    have A43 := A36.keep hb41.out
    have A44 := A37.keep hb41.out
    have A45 := A38.keep hb41.out
    have A46 := A39.keep hb41.out
    have HB47 := below_then HB40 hb41.out
    have A48 := hs41.other (Nat.ne_of_lt (Nat.lt_of_lt_of_le A2.lt le11)) A42
    have A49 := hs41.other (Nat.ne_of_lt (Nat.lt_of_lt_of_le A3.lt le11)) A43
    have A50 := hs41.other (Nat.ne_of_lt (Nat.lt_of_lt_of_le A4.lt le11)) A44
    have A51 := hs41.other (hn6 0 1 (by decide) (by decide) (by decide)) A45
    have A52 := hs41.here 0 5 (l' := [.n 6 (bx0 (((smFT B n (k20 + 1))).pt)), .n 6 (bx1 (((smFT B n (k20 + 1))).pt)), .n 6 (by0 (((smFT B n (k20 + 1))).pt)), .n 6 (by1 (((smFT B n (k20 + 1))).pt)), .b (bi (((smFT B n (k20 + 1))).pt))]) A46 rfl rfl rfl
    have HB53 := hs41.below HB47 (Nat.le_trans HB5.size le11)
    refine bk_n ?_
    refine th_r ?_
    refine wp_region_lit ?_
    refine sv1 (.int .i64 ((n - 1 - k20 : Nat) : Int)) (ex_move _) ?_
    refine sv1 (.int .i64 ((n : Int) - 1 - ((k20 + 1 : Nat) : Int))) (ex_isub rfl rfl ((n : Int) - 1 - ((k20 + 1 : Nat) : Int)) (by rw [wrapI64 (by omega) (by omega)]; omega)) ?_
    refine sv1 (.int .i64 ((n : Int) - 1 - ((k20 + 1 : Nat) : Int))) (ex_assign _) ?_
    refine wpList_nil ?_
    refine th_r ?_
    exact hK20.out _ _ ⟨_, _, _, _, _, _, _, _, _, _, _, _, _, _, _, _, _, _, rfl, A48, A49, A50, A51, A52, HB53⟩
  · rintro _ w54 ⟨i54_18, i54_19, i54_20, i54_21, i54_22, i54_23, i54_24, i54_25, i54_26, i54_27, i54_28, i54_29, i54_30, i54_31, i54_32, i54_33, i54_34, i54_35, rfl, A54_0, A54_1, A54_2, A54_3, A54_4, HB54⟩ K54
    refine wp_seq ?_
    refine wp_seq (region_0 [18, 19] [.int .i64 ((n : Int) - 1 - ((n : Nat) : Int)), .bool false] ?_ ?_)
    · refine stpx (fun _ _ => ex_move _) ?_
      refine stpx (fun _ _ => ex_igeq rfl rfl false (by rw [eq_comm, decide_eq_false_iff_not]; omega)) ?_
      exact GSteps.nil
    intro w55 hb55
    refine th_r ?_
    have A56 := A54_0.keep hb55.out
    have A57 := A54_1.keep hb55.out
    have A58 := A54_2.keep hb55.out
    have A59 := A54_3.keep hb55.out
    have A60 := A54_4.keep hb55.out
    have HB61 := below_then HB54 hb55.out
    refine wp_cond_false rfl ?_
    refine wp_exit (th_e (th_e (bk_e ?_)))
    refine th_r ?_
    refine wp_seq (region_s 1 ((γ1 1)) 0 (segs [.n 6 (bx0 (((smFT B n n)).pt)), .n 6 (bx1 (((smFT B n n)).pt)), .n 6 (by0 (((smFT B n n)).pt)), .n 6 (by1 (((smFT B n n)).pt)), .b (bi (((smFT B n n)).pt))]) [36] [sv [.n 6 (bx0 (((smFT B n n)).pt)), .n 6 (bx1 (((smFT B n n)).pt)), .n 6 (by0 (((smFT B n n)).pt)), .n 6 (by1 (((smFT B n n)).pt)), .b (bi (((smFT B n n)).pt))]] ?_ ?_)
    · refine latv (fun γ w h => ex_loads 0 5 (m := [.n 6 (bx0 (((smFT B n n)).pt)), .n 6 (bx1 (((smFT B n n)).pt)), .n 6 (by0 (((smFT B n n)).pt)), .n 6 (by1 (((smFT B n n)).pt)), .b (bi (((smFT B n n)).pt))]) flG2 rfl rfl (A60.keep h.out) rfl rfl) ?_
      refine GSteps.cons (late_store rfl (fun _ => rfl) (fun γ w h => ex_stores 0 5 (l := [.n 6 0, .n 6 0, .n 6 0, .n 6 0, .b false]) (m := [.n 6 (bx0 (((smFT B n n)).pt)), .n 6 (bx1 (((smFT B n n)).pt)), .n 6 (by0 (((smFT B n n)).pt)), .n 6 (by1 (((smFT B n n)).pt)), .b (bi (((smFT B n n)).pt))]) flG2.2 rfl rfl rfl rfl (A58.keep h.out) rfl rfl) rfl) ?_
      exact GSteps.nil
    intro w62 w62_ hb62 hs62
    refine th_r ?_
    have A63 := A56.keep hb62.out
    have A64 := A57.keep hb62.out
    have A65 := A58.keep hb62.out
    have A66 := A59.keep hb62.out
    have A67 := A60.keep hb62.out
    have HB68 := below_then HB61 hb62.out
    have A69 := hs62.other (Nat.ne_of_lt (Nat.lt_of_lt_of_le A.lt le4)) A63
    have A70 := hs62.other (hn1 0 1 (by decide) (by decide) (by decide)) A64
    have A71 := hs62.here 0 5 (l' := [.n 6 (bx0 (((smFT B n n)).pt)), .n 6 (bx1 (((smFT B n n)).pt)), .n 6 (by0 (((smFT B n n)).pt)), .n 6 (by1 (((smFT B n n)).pt)), .b (bi (((smFT B n n)).pt))]) A65 rfl rfl rfl
    have A72 := hs62.other (Ne.symm (Nat.ne_of_lt (Nat.lt_of_lt_of_le A4.lt le10))) A66
    have A73 := hs62.other (Ne.symm (Nat.ne_of_lt (Nat.lt_of_lt_of_le A4.lt le11))) A67
    have HB74 := hs62.below HB68 (Nat.le_trans (Nat.le_refl _) le4)
    exact wp_ret (bodyPost_ret (ret1 Tryz.results153 (res_sv rfl A71 flG2 rfl)) rfl ⟨rfl, HB74⟩)
end
end
end Go.Proofs.YtkkmekdhejhapaaGreat
