/- What is proved here: slices that are made: their zeros, a store into one of their elements; slices that a call answers; a late store of a value that names a block which the region makes; functions without an answer; slices of whole numbers: read, written, cleared. -/
import Derived.Test.YtkkmekdhejhapaaSumRow
namespace Go.Proofs.Ytkkmekdhejhapaa
section
open Go.RowKit Cv
theorem cat_len {S : Nat → List Seg} {n : Nat} (hn : ∀ i, ssize (S i) = n) : ∀ m, (segs (cat S m)).length = n * m := by
  intro m
  induction m with
  | zero => rfl
  | succ m ih => rw [cat, segs_app, List.length_append, ih, segs_len, hn, Nat.mul_succ]
theorem cat_at {S : Nat → List Seg} {n : Nat} (hn : ∀ i, ssize (S i) = n) : ∀ m i j, i < m → j < n → (segs (cat S m))[n * i + j]? = (segs (S i))[j]? := by
  intro m i j hi hj
  obtain ⟨x, y, e, hx⟩ := cat_cut hn m i hi
  rw [e, List.getElem?_append_right (by omega), hx, Nat.add_sub_cancel_left, List.getElem?_append_left (by rw [segs_len, hn]; exact hj)]
theorem szB_ok : ∀ (l : List Seg) (n : Nat), ssize l = n → szB l n = true
  | [], n, h => by
    subst h
    rfl
  | s :: l, n, h => by
    have h' : s.size + ssize l = n := h
    unfold szB
    rw [Nat.ble_eq_true_of_le (show s.size ≤ n by omega)]
    exact szB_ok l _ (by omega)
theorem cat_ext {S S' : Nat → List Seg} : ∀ {m : Nat}, (∀ i, i < m → S i = S' i) → cat S m = cat S' m
  | 0, _ => rfl
  | m + 1, h => by rw [cat, cat, cat_ext (fun i hi => h i (by omega)), h m (by omega)]
theorem made_row {n : Nat} {z : List Seg} (hz : ssize z = n) (h0 : 0 < n) (m : Nat) : (Array.range (m * n)).map (fun i => (segs z).toArray[i % (segs z).toArray.size]!) = (segs (cat (fun _ => z) m)).toArray := by
  have hl : (segs z).length = n := by rw [segs_len, hz]
  have hc := cat_len (S := fun _ => z) (fun _ => hz) m
  refine Array.ext (by simp [hc, Nat.mul_comm]) fun i h1 h2 => ?_
  have hi : i < n * m := by simpa [hc] using h2
  have hq : i / n < m := by rwa [Nat.div_lt_iff_lt_mul h0, Nat.mul_comm]
  have hr := Nat.mod_lt i h0
  have e := cat_at (S := fun _ => z) (fun _ => hz) m (i / n) (i % n) hq hr
  rw [Nat.div_add_mod] at e
  rw [List.getElem?_eq_getElem (by rw [hc]; exact hi), List.getElem?_eq_getElem (by rw [hl]; exact hr)] at e
  injection e with e
  simp only [Array.getElem_map, Array.getElem_range, List.size_toArray, hl]
  rw [List.getElem_toArray, e]
  simp [hl, hr]
section
variable {ρ : Operand → Value} {d : Option Tmp} {ty0 : TypeId} {pos : String} {after : Array Edge} {guard : Option (Nat × Bool)} {w : World}
theorem run_inf {e : TypeId} {i : TypeInfo} (h : Try.prog.info? e = some i) (w : World) : (typeInfo e).run Try.prog w = .ok i w := by
  simp [typeInfo, h, go_sem]
theorem ex_mkR {st e : TypeId} {n b : Nat} (hs : SlS st e n) {z : List Seg} (hzn : ssize z = n) (h0n : 0 < n) (hz : ∀ w, (zeroValue e).run Try.prog w = .ok (cv (segs z)) w) (hi : ∃ i, Try.prog.info? e = some i ∧ i.bytes = b) (hb1 : b ≤ 1000)
    {x y : Operand} {m : Nat} (hx : ρ x = .int .i64 (m : Int)) (hy : ρ y = .int .i64 (m : Int)) (hm : m ≤ 5000) :
    (execOp ρ ⟨d, .makeSlice st x y, ty0, pos, after, guard⟩).run Try.prog w = .ok (.value (.slice (some ⟨w.heap.size, 0, none⟩) m m)) (w.alloc (.cells (segs (cat (fun _ => z) m)).toArray e)) := by
  obtain ⟨i, hi, hb⟩ := hi
  have hmb : m * b ≤ 5000 * 1000 := Nat.mul_le_mul hm hb1
  have hmbI : (b : Int) * (m : Int) = ((m * b : Nat) : Int) := by rw [Int.natCast_mul, Int.mul_comm]
  have w1 : IntKind.i64.wrap (m : Int) = (m : Int) := by rw [IntKind.wrap_i64]; omega
  have t1 : ¬ ((m : Int) < 0) := by omega
  have t2 : ¬ ((b : Int) * (m : Int) > 2 ^ 48) := by rw [hmbI]; omega
  have t4 : ¬ ((m : Int) > (m : Int)) := by omega
  have hroom : (askRoom (m * b)).run Try.prog w = .ok () w := by
    have : ¬ (m * b > roomBytes) := by unfold roomBytes; omega
    simp [askRoom, this]
  by_cases h0 : m * n = 0
  · have hm0 : m = 0 := by rcases Nat.mul_eq_zero.1 h0 with h | h <;> omega
    have hrow : (Array.range 0).map ((#[] : Array Value)[· % (#[] : Array Value).size]!) = (segs (cat (fun _ => z) m)).toArray := by
      subst hm0
      simp [cat, segs]
    simp only [execOp, Instr.makeSlice, Sem.run_bind, hx, hy, run_underlying hs.und w, Result.andThen_ok, asInt, asIntOf, Sem.run_pure, run_inf hi w, hb, w1, decide_eq_false t1, decide_eq_false t4, decide_eq_false t2, Bool.or_false, Bool.false_eq_true, if_false, Int.toNat_natCast, hroom, hs.flat.2 w, h0, if_true, hrow]
    rfl
  · have hrow := made_row hzn h0n m
    have hcells : (cv (segs z)).cells = (segs z).toArray := rfl
    simp only [execOp, Instr.makeSlice, Sem.run_bind, hx, hy, run_underlying hs.und w, Result.andThen_ok, asInt, asIntOf, Sem.run_pure, run_inf hi w, hb, w1, decide_eq_false t1, decide_eq_false t4, decide_eq_false t2, Bool.or_false, Bool.false_eq_true, if_false, Int.toNat_natCast, hroom, hs.flat.2 w, h0, if_false, hz w, hcells, hrow]
    rfl
theorem ex_storeR {ty : TypeId} {n : Nat} (hf : Flat ty n) {x y : Operand} {t : TypeId} {g i m : Nat} {S : Nat → List Seg} {l : List Seg} {v : Value} (hn : ∀ i, ssize (S i) = n) (hl : ssize l = n) (h : SB t w g (cat S m)) (hi : i < m) (hx : ρ x = .pointer (some ⟨g, n * i, none⟩)) (hy : ρ y = v) (hv : v.cells = (segs l).toArray) :
    (execOp ρ ⟨d, .store ty x y, ty0, pos, after, guard⟩).run Try.prog w = .ok .skip (w.setCells g (n * i) (segs l)) := by
  have hle : n * i + (segs l).length ≤ (segs (cat S m)).length := by
    rw [segs_len, hl, cat_len hn]
    have : n * (i + 1) ≤ n * m := Nat.mul_le_mul_left n hi
    rwa [Nat.mul_succ] at this
  have := run_store_cv (ty := ty) h hv (fun w => by rw [segs_len, hl]; exact hf.2 w) hle (segs_ones l)
  simp [execOp, hx, hy, this]
theorem ex_ownR {st e : TypeId} {n : Nat} (hs : SlS st e n) {x ix : Operand} {g m c i : Nat} (hx : ρ x = .slice (some ⟨g, 0, none⟩) m c) (hi : ρ ix = .int .i64 (i : Int)) (hlt : i < m) :
    (execOp ρ ⟨d, .indexAddr st x ix, ty0, pos, after, guard⟩).run Try.prog w = .ok (.value (.pointer (some ⟨g, n * i, none⟩))) w := by
  have := ex_idxR (d := d) (ty0 := ty0) (pos := pos) (after := after) (guard := guard) (w := w) hs hx rfl hi hlt
  rwa [Nat.zero_add] at this
theorem ex_loadO {ty t : TypeId} {n : Nat} (hf : Flat ty n) {x : Operand} {g i m : Nat} {S : Nat → List Seg} {l : List Seg} (hn : ∀ i, ssize (S i) = n) (h : SB t w g (cat S m)) (hi : i < m) (hx : ρ x = .pointer (some ⟨g, n * i, none⟩)) (hl : S i = l) :
    (execOp ρ ⟨d, .load ty x, ty0, pos, after, guard⟩).run Try.prog w = .ok (.value (sv l)) w := by
  obtain ⟨g', o', e, _, hr⟩ := h.row rfl hn i hi
  injection e with e
  injection e with e1 e2 _
  subst e1 e2
  rw [Nat.zero_add, hl] at hr
  refine ex_loadR hf hx ?_ hr
  rw [← hl]
  exact szB_ok _ _ (hn i)
end
theorem St.elem {w w' : World} {g i m n : Nat} {t : TypeId} {S S' : Nat → List Seg} {l : List Seg} (h : St w w' g (n * i) (segs l)) (hn : ∀ i, ssize (S i) = n) (hl : ssize l = n) (hA : SB t w g (cat S m)) (hi : i < m) (h1 : S' i = l) (h2 : ∀ j, j < m → j ≠ i → S j = S' j) : SB t w' g (cat S' m) := by
  have hn' : ∀ j, j < m → ssize (S' j) = n := fun j hj => by
    by_cases c : j = i
    · rw [c, h1]; exact hl
    · rw [← h2 j hj c]; exact hn j
  obtain ⟨T, hT⟩ : ∃ T : Nat → List Seg, T = fun j => if j < m then S' j else l := ⟨_, rfl⟩
  have hTn : ∀ j, ssize (T j) = n := fun j => by
    rw [hT]
    show ssize (if j < m then S' j else l) = n
    split
    · exact hn' j (by assumption)
    · exact hl
  have hTe : cat S' m = cat T m := cat_ext fun j hj => by rw [hT]; exact (if_pos hj).symm
  rw [hTe]
  have hle : n * i + (segs l).length ≤ (segs (cat S m)).length := by
    rw [segs_len, hl, cat_len hn]
    have : n * (i + 1) ≤ n * m := Nat.mul_le_mul_left n hi
    rwa [Nat.mul_succ] at this
  have h3 := Blk.setCells (segs l) (n * i) hle hA
  rw [show w' = _ from h]
  have e : (segs (cat S m)).take (n * i) ++ (segs l ++ (segs (cat S m)).drop (n * i + (segs l).length)) = segs (cat T m) := by
    have hll : (segs l).length = n := by rw [segs_len, hl]
    have hcl := cat_len hn m
    have hcT := cat_len hTn m
    rw [hll] at hle ⊢
    apply List.ext_getElem?
    intro p
    by_cases c1 : p < n * i
    · rw [List.getElem?_append_left (by rw [List.length_take]; omega), List.getElem?_take_of_lt c1]
      have hn0 : 0 < n := by
        rcases Nat.eq_zero_or_pos n with z | z
        · rw [z, Nat.zero_mul] at c1; omega
        · exact z
      have hq : p / n < i := by rwa [Nat.div_lt_iff_lt_mul hn0, Nat.mul_comm]
      have a1 := cat_at hn m (p / n) (p % n) (by omega) (Nat.mod_lt p hn0)
      have a2 := cat_at hTn m (p / n) (p % n) (by omega) (Nat.mod_lt p hn0)
      rw [Nat.div_add_mod] at a1 a2
      rw [a1, a2, h2 _ (by omega) (by omega), hT]
      simp only [if_pos (show p / n < m by omega)]
    · rw [List.getElem?_append_right (by rw [List.length_take]; omega), List.length_take, Nat.min_eq_left (by omega)]
      by_cases c2 : p < n * i + n
      · rw [List.getElem?_append_left (by omega)]
        have a2 := cat_at hTn m i (p - n * i) hi (by omega)
        rw [show n * i + (p - n * i) = p by omega] at a2
        rw [a2, hT]
        simp only [if_pos hi, h1]
      · rw [List.getElem?_append_right (by omega), hll, List.getElem?_drop, show n * i + n + (p - n * i - n) = p by omega]
        by_cases c3 : p < n * m
        · have hn0 : 0 < n := by
            rcases Nat.eq_zero_or_pos n with z | z
            · rw [z, Nat.zero_mul] at c3; omega
            · exact z
          have hq : p / n < m := by rwa [Nat.div_lt_iff_lt_mul hn0, Nat.mul_comm]
          have hq2 : i + 1 ≤ p / n := by rw [Nat.le_div_iff_mul_le hn0, Nat.mul_comm, Nat.mul_succ]; omega
          have a1 := cat_at hn m (p / n) (p % n) hq (Nat.mod_lt p hn0)
          have a2 := cat_at hTn m (p / n) (p % n) hq (Nat.mod_lt p hn0)
          rw [Nat.div_add_mod] at a1 a2
          rw [a1, a2, h2 _ hq (by omega), hT]
          simp only [if_pos hq]
        · rw [List.getElem?_eq_none (by omega), List.getElem?_eq_none (by omega)]
  unfold SB
  rw [← e]
  exact h3
section
variable {ops : Array Oper} {rest : List Oper} {o : Oper} {a : Act} {w : World} {Q : Exit → Act → World → Prop}
theorem sq_newR {ty : TypeId} {l : List Seg} {val : Nat → Value} {a' : Nat → Act} (hw : Region.wanted o (yielded ops a.tmps) = true) (ha : ∀ g, a.put o.dst (val g) = a' g) (h : (execOp a.eval o).run Try.prog w = .ok (.value (val w.heap.size)) (w.alloc (.cells (segs l).toArray ty)))
    (hn : ∀ g w', SB ty w' g l → w.heap.size ≤ g → Below w.heap.size w w' → wpList Try.prog ops Q rest (a' g) w') : wpList Try.prog ops Q (o :: rest) a w := by
  refine wpList_step fun K hK => ?_
  rw [if_pos hw]
  unfold Oper.wp
  rw [h]
  refine hK _ _ ?_
  rw [ha]
  exact hn _ _ (Blk.boxed ty (segs l) w) (Nat.le_refl _) ((Below.refl _ _).alloc (Nat.le_refl _) _)
end
end

section
open Go.RowKit Cv
def LateG {Γ : Type} (J : Γ → (Nat → Bool) → World → Prop) (s : Nat) (g o : Nat) (ys : Γ → List Value) (γ : Γ) (L : Nat → Bool) (w : World) : Prop :=
  (L s = false → J γ L w) ∧ (L s = true → ∃ w0, J γ L w0 ∧ w = w0.setCells g o (ys γ))
theorem lateg_step {P : Program} {ops : Array Oper} {Γ : Type} {F : Γ → Act} {J : Γ → (Nat → Bool) → World → Prop} {s g p : Nat} {ys : Γ → List Value} {k : Nat} {o : Oper} (h : GStep P ops F J k o) (hw : waitsFor ops s k = true) (hne : (s == k) = false) : GStep P ops F (LateG J s g p ys) k o := fun γ L w Kk hJ hcl hL hdep hK => by
  have ls : L s = false := by
    cases hq : L s with
    | false => rfl
    | true => rw [waitsFor_on hcl hw hq] at hL; cases hL
  refine h γ L w Kk (hJ.1 ls) hcl hL hdep (fun γ' v w' hF hJ' => hK.out γ' v w' hF ⟨fun _ => hJ', fun h1 => ?_⟩)
  simp [ls, hne] at h1
def GhJ (J : (Nat → Nat) → (Nat → Bool) → World → Prop) (k i j : Nat) (γ : Nat → Nat) (L : Nat → Bool) (w : World) : Prop := J γ L w ∧ (L k = true → γ j = γ i)
theorem gh_step {P : Program} {ops : Array Oper} {F : (Nat → Nat) → Act} {J : (Nat → Nat) → (Nat → Bool) → World → Prop} {k i j q : Nat} {o : Oper} (ms : List Nat) (h : GStep P ops F J q o) (hw : chainW ops k ms q = true) (hne : (k == q) = false) : GStep P ops F (GhJ J k i j) q o := fun γ L w Kk hJ hcl hL hdep hK => by
  have lk : L k = false := by
    cases hq : L k with
    | false => rfl
    | true => rw [chainW_on hcl ms k hw hq] at hL; cases hL
  refine h γ L w Kk hJ.1 hcl hL hdep (fun γ' v w' hF hJ' => hK.out γ' v w' hF ⟨hJ', fun h1 => ?_⟩)
  simp [lk, hne] at h1
section
variable {ops : Array Oper} {F : (Nat → Nat) → Act} {W : World} {m : Nat} {T : Nat → TypeId} {al st : Nat → Nat} {zs xs : Nat → List Value} {o : Oper}
theorem gh_make {k i j : Nat} (vg : Nat → Value) (him : i < m) (hjm : m ≤ j) (hw : ∀ γ, Region.wanted o (yielded ops (F γ).tmps) = true) (hF : ∀ γ n, F (upd γ j n) = (F γ).put o.dst (vg n)) (h : ∀ (γ : Nat → Nat) w, Bel W w → (execOp (F γ).eval o).run Try.prog w = .ok (.value (vg (γ i))) w) (hk : noneAt m al st k = true) :
    GStep Try.prog ops F (GhJ (ManyJ W m T al st zs xs) k i j) k o := fun γ L w Kk hJ hcl hL hdep hK => by
  rw [if_pos (hw γ)]
  unfold Oper.wp
  rw [h γ w hJ.1.bel]
  have hu : ∀ q, q < m → upd γ j (γ i) q = γ q := fun q hq => upd_other γ _ (by omega)
  have hon := hJ.1.on (Below.refl _ _) hk
  refine hK.out (upd γ j (γ i)) (vg (γ i)) w (hF γ (γ i)) ⟨⟨hon.bel, fun q hq hl => ?_, fun q q' hq hq' hn h1 h2 => ?_⟩, fun _ => ?_⟩
  · rw [hu q hq]; exact hon.one q hq hl
  · rw [hu q hq, hu q' hq']; exact hon.ne q q' hq hq' hn h1 h2
  · rw [upd_same, hu i him]
theorem gh_store {k s i j g p : Nat} {ys : (Nat → Nat) → List Value} (hd : o.dst = none) (hw : ∀ γ, Region.wanted o (yielded ops (F γ).tmps) = true)
    (h : ∀ γ w, Bel W w → (execOp (F γ).eval o).run Try.prog w = .ok .skip (w.setCells g p (ys γ))) (hk : noneAt m al st s = true) (hne : (k == s) = false) :
    GStep Try.prog ops F (LateG (GhJ (ManyJ W m T al st zs xs) k i j) s g p ys) s o := fun γ L w Kk hJ hcl hL hdep hK => by
  have hJ' := hJ.1 hL
  rw [if_pos (hw γ)]
  unfold Oper.wp
  rw [h γ w hJ'.1.bel]
  refine hK.out γ undef _ (by rw [hd]; rfl) ⟨fun h1 => ?_, fun _ => ⟨w, ⟨hJ'.1.on (Below.refl _ _) hk, fun h2 => hJ'.2 ?_⟩, rfl⟩⟩
  · simp at h1
  · simpa [hne] using h2
theorem region_gh {id : Nat} {l : List Oper} {draw : Bool} {a : Act} {Q : Exit → Act → World → Prop} (k i j s g p : Nat) (ys : (Nat → Nat) → List Value) (m : Nat) (T : Nat → TypeId) (al st : Nat → Nat) (zs xs : Nat → List Value) (ds : List Tmp)
    (hm : (draw = true ∧ Try.prog.follows .mixedOrders = true) ∨ (draw = false ∧ Region.linearise .any l.toArray 0 = List.range l.toArray.size))
    (hp : (planOk l.toArray && Region.noSelect l.toArray && (ds.all fun d => l.toArray.any fun o => o.dst == some d) && ((List.range m).all fun i => Nat.blt (al i) l.length && Nat.blt (st i) l.length) && Nat.blt s l.length && Nat.blt k l.length) = true)
    (hd : a.defers = (F fun _ => 0).defers) (hsz : Nat.beq a.tmps.size (F fun _ => 0).tmps.size = true) (hF : merge ds 0 a.tmps.toList (F fun _ => 0).tmps.toList = (F fun _ => 0).tmps.toList)
    (hsteps : GSteps Try.prog l.toArray F (LateG (GhJ (ManyJ W m T al st zs xs) k i j) s g p ys) 0 l)
    (hQ : ∀ (γ : Nat → Nat) (w' w'' : World), Bel W w' → (∀ i, i < m → W.heap.size ≤ γ i ∧ Blk (T i) w' (γ i) (xs i)) → γ j = γ i → St w' w'' g p (ys γ) → Q .normal (F γ) w'') : (Code.region id l.toArray draw).wp Try.prog Q a W := by
  simp only [Bool.and_eq_true] at hp
  obtain ⟨⟨⟨⟨⟨h1, h2⟩, h3⟩, hb⟩, hbs⟩, hbk⟩ := hp
  have lt : ∀ i, i < m → al i < l.length ∧ st i < l.length := fun i hi => by
    have := List.all_eq_true.1 hb i (List.mem_range.2 hi)
    simp only [Bool.and_eq_true] at this
    exact ⟨Nat.le_of_ble_eq_true this.1, Nat.le_of_ble_eq_true this.2⟩
  have hsl : s < l.length := Nat.le_of_ble_eq_true hbs
  have hkl : k < l.length := Nat.le_of_ble_eq_true hbk
  refine wp_region_d (J := LateG (GhJ (ManyJ W m T al st zs xs) k i j) s g p ys) (fun _ => 0) _ hm h1 h2 (by simpa [takes] using h3) hd (put_merge hsz hF) ?_ hsteps ?_
  · have fa : ∀ i, i < m → decide (l.toArray.size ≤ al i) = false := fun i hi => decide_eq_false (by have := (lt i hi).1; simp; omega)
    have fs : decide (l.toArray.size ≤ s) = false := decide_eq_false (by simp; omega)
    refine fun w' hw' => ⟨fun _ => ⟨⟨by rcases hw' with rfl | rfl; exact Below.refl _ _; exact Bel.start W, fun i hi ha => ?_, fun i j hi hj hij ha _ => ?_⟩, fun _ => rfl⟩, fun h => ?_⟩
    · rw [fa i hi] at ha; cases ha
    · rw [fa i hi] at ha; cases ha
    · have h' : decide (l.toArray.size ≤ s) = true := h
      rw [fs] at h'
      cases h'
  · rintro γ L w' hall ⟨_, hJ⟩
    obtain ⟨w0, ⟨⟨hB, h1, h2⟩, hg⟩, rfl⟩ := hJ (hall s (by simpa using hsl))
    have la : ∀ i, i < m → L (al i) = true := fun i hi => hall _ (by simpa using (lt i hi).1)
    have ls : ∀ i, i < m → L (st i) = true := fun i hi => hall _ (by simpa using (lt i hi).2)
    refine hQ γ w0 _ hB (fun i hi => ?_) (hg (hall k (by simpa using hkl))) rfl
    obtain ⟨a1, a2⟩ := h1 i hi (la i hi)
    rw [ls i hi, if_pos rfl] at a2
    exact ⟨a1, a2⟩
end
theorem ret0 {fn : Func} {tmps : Array Value} {w : World} (hr : fn.results = #[]) : (results fn tmps).run Try.prog w = .ok (.tuple #[]) w := by
  simp [results_g, hr]
section
variable {ρ : Operand → Value} {d : Option Tmp} {ty0 : TypeId} {pos : String} {after : Array Edge} {guard : Option (Nat × Bool)} {w : World}
theorem ex_lenI {x : Operand} {a : Option Addr} {m c : Nat} (hx : ρ x = .slice a m c) :
    (execOp ρ ⟨d, .call ⟨.builtin .len, #[x], #[89]⟩, ty0, pos, after, guard⟩).run Try.prog w = .ok (.value (.int .i64 (m : Int))) w := by
  simp [hx, go_sem, Builtin.len_, run_underlying Try.underlying89 w, Sem.run_bind]
theorem ex_idxI {x ix : Operand} {g m c i : Nat} (hx : ρ x = .slice (some ⟨g, 0, none⟩) m c) (hi : ρ ix = .int .i64 (i : Int)) (hlt : i < m) :
    (execOp ρ ⟨d, .indexAddr 89 x ix, ty0, pos, after, guard⟩).run Try.prog w = .ok (.value (.pointer (some ⟨g, i, none⟩))) w := by
  simp [execOp, Sem.run_bind, hx, hi, Instr.indexAt, asIntOf, run_underlying Try.underlying89 w, Try.sizeOf3 w, hlt, Addr.add_mid]
abbrev ints (D : Nat → Nat) (m : Nat) : List Seg := cat (fun i => [.i .i64 ((D i : Nat) : Int)]) m
theorem ints_at (D : Nat → Nat) {m i : Nat} (h : i < m) : (segs (ints D m))[i]? = some (.int .i64 ((D i : Nat) : Int)) := by
  have := cat_at (S := fun i => [.i .i64 ((D i : Nat) : Int)]) (n := 1) (fun _ => rfl) m i 0 h (by decide)
  rw [Nat.one_mul] at this
  exact this
theorem ints_len (D : Nat → Nat) (m : Nat) : (segs (ints D m)).length = m := by
  rw [cat_len (n := 1) (fun _ => rfl), Nat.one_mul]
theorem ex_loadI {x : Operand} {t : TypeId} {g i m : Nat} {D : Nat → Nat} (h : SB t w g (ints D m)) (hi : i < m) (hx : ρ x = .pointer (some ⟨g, i, none⟩)) :
    (execOp ρ ⟨d, .load 3 x, ty0, pos, after, guard⟩).run Try.prog w = .ok (.value (.int .i64 ((D i : Nat) : Int))) w := by
  simp [execOp, hx, run_load_one h sgInt (ints_at D hi)]
theorem ex_storeI {x y : Operand} {t : TypeId} {g i m : Nat} {D : Nat → Nat} {v : Int} (h : SB t w g (ints D m)) (hi : i < m) (hx : ρ x = .pointer (some ⟨g, i, none⟩)) (hy : ρ y = .int .i64 v) :
    (execOp ρ ⟨d, .store 3 x y, ty0, pos, after, guard⟩).run Try.prog w = .ok .skip (w.setCells g i (segs [.i .i64 v])) := by
  have := run_store_cv (ys := [.int .i64 v]) h (ty := 3) (o := i) (v := .int .i64 v) rfl sgInt.2 (by rw [ints_len]; exact hi) (segs_ones [.i .i64 v])
  have e : segs [.i .i64 v] = [.int .i64 v] := rfl
  rw [e]
  simp [execOp, hx, hy, this]
theorem run_clearI {t ty : TypeId} {g m c : Nat} {D : Nat → Nat} (h : SB t w g (ints D m)) (hm : 0 < m) :
    (Builtin.clear_ #[89] ty #[.slice (some ⟨g, 0, none⟩) m c]).run Try.prog w = .ok (.tuple #[]) (w.setCells g 0 (segs (ints (fun _ => 0) m))) := by
  have hz : (Builtin.zeroCells #[Value.int .i64 0] m).toList = segs (ints (fun _ => 0) m) :=
    congrArg Array.toList (made_row (z := [.i .i64 0]) (n := 1) rfl (by decide) m)
  have hs := run_storeCells_cells (P := Try.prog) g 0 (segs (ints (fun _ => 0) m)) 0 w (fun j hj => by
      rw [ints_len] at hj
      rw [Nat.zero_add, Blk.cell h (i := j) (by rw [ints_len]; exact hj)]
      rfl) (fun j _ => Blk.frozen h _) (segs_ones _)
  obtain ⟨k, rfl⟩ : ∃ k, m = k + 1 := ⟨m - 1, by omega⟩
  simp only [Nat.add_zero] at hs
  have hzv := Try.zeroValue3 w
  have hc : (Value.int .i64 0).cells = #[.int .i64 0] := rfl
  simp [Builtin.clear_, run_underlying Try.underlying89 w, Sem.run_bind, hzv, hc, hz, hs]
end
end
end Go.Proofs.Ytkkmekdhejhapaa
