/- What is proved here: texts as rows of bytes, and what operations on them and on single bytes yield; closures and their calls; operations that come one behind the other over blocks of any cells, with calls that change blocks that were there; a region with two late stores; operations one behind the other in a short form: the frame that each leads to is reckoned from what it sets; the laws of walks by plans in a short form: what an operation yields is read off the frame that it leads to, and the frame is reckoned from what is set. -/
import Derived.Test.YtkkmekdhejhapaaCells
import Derived.Test.YtkkmekdhejhapaaBytes
import Derived.Test.YtkkmekdhejhapaaAgg
namespace Go.Proofs.Ytkkmekdhejhapaa
section
open Go.RowKit
section
variable {ρ : Operand → Value} {d : Option Tmp} {ty0 : TypeId} {pos : String} {after : Array Edge} {guard : Option (Nat × Bool)} {w : World}
theorem ex_igtr {t t2 : TypeId} {x y : Operand} {k : IntKind} {a b : Int} (hx : ρ x = .int k a) (hy : ρ y = .int k b) (r : Bool) (hr : r = decide (b < a)) :
    (execOp ρ ⟨d, .binOp .gtr t x y t2, ty0, pos, after, guard⟩).run Try.prog w = .ok (.value (.bool r)) w := by
  subst hr
  simp [execOp, hx, hy, eqGuard, binOp, Op.intCmp]
theorem ex_bitsor {t t2 : TypeId} {x y : Operand} {k : IntKind} {a b : Int} (hx : ρ x = .int k a) (hy : ρ y = .int k b) (r : Int) (hr : bits .or k a b = r) :
    (execOp ρ ⟨d, .binOp .or t x y t2, ty0, pos, after, guard⟩).run Try.prog w = .ok (.value (.int k r)) w := by
  subst hr
  simp [execOp, hx, hy, go_sem]
end
structure Chg (g1 g2 : Nat) (w w' : World) : Prop where
  kept : ∀ (t : TypeId) (g : Nat) (l : List Seg), g ≠ g1 → g ≠ g2 → SB t w g l → SB t w' g l
  under : ∀ (B : Nat) (w0 : World), B ≤ g1 → B ≤ g2 → B ≤ w.heap.size → Below B w0 w → Below B w0 w'
  size : w.heap.size ≤ w'.heap.size
theorem Chg.refl (g1 g2 : Nat) (w : World) : Chg g1 g2 w w := ⟨fun _ _ _ _ _ h => h, fun _ _ _ _ _ h => h, Nat.le_refl _⟩
theorem below_put {B : Nat} {w0 w w' : World} (h : Below B w0 w) (hB : B ≤ w.heap.size) (hb : Below w.heap.size w w') : Below B w0 w' := h.trans (hb.mono hB)
theorem Chg.then {g1 g2 : Nat} {w w1 w2 : World} (h : Chg g1 g2 w w1) (hb : Below w1.heap.size w1 w2) : Chg g1 g2 w w2 :=
  ⟨fun t g l a b k => (h.kept t g l a b k).keep hb, fun B w0 a b c k => below_put (h.under B w0 a b c k) (Nat.le_trans c h.size) hb, Nat.le_trans h.size hb.size⟩
theorem Chg.trans {g1 g2 : Nat} {w w1 w2 : World} (h : Chg g1 g2 w w1) (h' : Chg g1 g2 w1 w2) : Chg g1 g2 w w2 :=
  ⟨fun t g l a b k => h'.kept t g l a b (h.kept t g l a b k), fun B w0 a b c k => h'.under B w0 a b (Nat.le_trans c h.size) (h.under B w0 a b c k), Nat.le_trans h.size h'.size⟩
theorem Chg.more {g1 g2 g3 g4 : Nat} {w w1 : World} (h : Chg g1 g2 w w1) (e1 : g1 = g3 ∨ g1 = g4) (e2 : g2 = g3 ∨ g2 = g4) : Chg g3 g4 w w1 :=
  ⟨fun t g l a b k => h.kept t g l (by rcases e1 with rfl | rfl <;> assumption) (by rcases e2 with rfl | rfl <;> assumption) k,
    fun B w0 a b c k => h.under B w0 (by rcases e1 with rfl | rfl <;> assumption) (by rcases e2 with rfl | rfl <;> assumption) c k, h.size⟩
theorem size_setCells (g : Nat) : ∀ (ys : List Value) (w : World) (o : Nat), (w.setCells g o ys).heap.size = w.heap.size
  | [], _, _ => rfl
  | y :: ys, w, o => by
    show ((w.setCell ⟨g, o, none⟩ y).setCells g (o + 1) ys).heap.size = _
    rw [size_setCells g ys]
    simp [World.setCell]
theorem St.chg {w w' : World} {g o : Nat} {ys : List Value} (h : St w w' g o ys) : Chg g g w w' :=
  ⟨fun _ _ _ a _ k => h.other a k, fun _ _ a _ _ k => h.below k a, by rw [show w' = _ from h, size_setCells]; exact Nat.le_refl _⟩
theorem Chg.old {g1 g2 g o : Nat} {w w1 w2 : World} {ys : List Value} (h : Chg g1 g2 w w1) (hs : St w1 w2 g o ys) (e : g = g1 ∨ g = g2) : Chg g1 g2 w w2 := h.trans (hs.chg.more e e)
theorem Chg.below {g1 g2 B : Nat} {w0 w w' : World} (h : Chg g1 g2 w w') (hb : Below B w0 w) (h1 : B ≤ g1) (h2 : B ≤ g2) (hB : B = w0.heap.size) : Below B w0 w' := h.under B w0 h1 h2 (by rw [hB]; exact hb.size) hb
section
variable {ops : Array Oper} {rest : List Oper} {o : Oper} {a : Act} {w : World} {Q : Exit → Act → World → Prop}
theorem sq_block {ty : TypeId} {l : List Seg} {a' : Nat → Act} (hw : Region.wanted o (yielded ops a.tmps) = true) (ha : ∀ g, a.put o.dst (.pointer (some ⟨g, 0, none⟩)) = a' g) (h : (execOp a.eval o).run Try.prog w = .ok (.value (.pointer (some ⟨w.heap.size, 0, none⟩))) (w.alloc (.cells (segs l).toArray ty)))
    (hn : ∀ g w', SB ty w' g l → w.heap.size ≤ g → Below w.heap.size w w' → wpList Try.prog ops Q rest (a' g) w') : wpList Try.prog ops Q (o :: rest) a w := by
  refine wpList_step fun K hK => ?_
  rw [if_pos hw]
  unfold Oper.wp
  rw [h]
  refine hK _ _ ?_
  rw [ha]
  exact hn _ _ (Blk.boxed ty (segs l) w) (Nat.le_refl _) ((Below.refl _ _).alloc (Nat.le_refl _) _)
theorem sq_stored {g p : Nat} {m : List Seg} {a' : Act} (hw : Region.wanted o (yielded ops a.tmps) = true) (ha : a.put o.dst undef = a') (h : (execOp a.eval o).run Try.prog w = .ok .skip (w.setCells g p (segs m)))
    (hn : ∀ w', St w w' g p (segs m) → wpList Try.prog ops Q rest a' w') : wpList Try.prog ops Q (o :: rest) a w := by
  subst ha
  refine wpList_step fun K hK => ?_
  rw [if_pos hw]
  unfold Oper.wp
  rw [h]
  exact hK _ _ (hn _ rfl)
theorem sq_calls {f : FuncId} {vs : Array Value} {v : Value} {R : World → Prop} {a' : Act} (ha : a.put o.dst v = a') (hw : Region.wanted o (yielded ops a.tmps) = true) (he : (execOp a.eval o).run Try.prog w = .ok (.enter f vs) w) (hC : Calls Try.prog f vs w fun e w' => e = .returned v ∧ R w')
    (hn : ∀ w', R w' → wpList Try.prog ops Q rest a' w') : wpList Try.prog ops Q (o :: rest) a w := by
  subst ha
  refine wpList_step fun K hK => ?_
  rw [if_pos hw]
  unfold Oper.wp
  rw [he]
  show Calls _ _ _ _ _
  refine hC.mono ?_
  rintro e w' ⟨rfl, hb⟩
  exact hK _ _ (hn w' hb)
theorem sq_makes {f : FuncId} {vs : Array Value} {val : Nat → Value} {T : TypeId} {l : List Seg} {a' : Nat → Act} (ha : ∀ g, a.put o.dst (val g) = a' g) (hw : Region.wanted o (yielded ops a.tmps) = true) (he : (execOp a.eval o).run Try.prog w = .ok (.enter f vs) w) (hC : Calls Try.prog f vs w fun e w' => ∃ g, e = .returned (val g) ∧ SB T w' g l ∧ w.heap.size ≤ g ∧ Below w.heap.size w w')
    (hn : ∀ g w', SB T w' g l → w.heap.size ≤ g → Below w.heap.size w w' → wpList Try.prog ops Q rest (a' g) w') : wpList Try.prog ops Q (o :: rest) a w := by
  refine wpList_step fun K hK => ?_
  rw [if_pos hw]
  unfold Oper.wp
  rw [he]
  show Calls _ _ _ _ _
  refine hC.mono ?_
  rintro e w' ⟨g, rfl, h1, h2, h3⟩
  refine hK _ _ ?_
  rw [ha]
  exact hn g w' h1 h2 h3
end
section
variable {ops : Array Oper} {F : (Nat → Nat) → Act} {W : World} {m : Nat} {T : Nat → TypeId} {al st : Nat → Nat} {zs xs : Nat → List Value} {k : Nat} {o : Oper} {d : Tmp} {v : Value}
theorem gm_lit (i : Nat) (him : Nat.blt i m = true) (val : Nat → Value) (hw : ∀ γ, Region.wanted o (yielded ops (F γ).tmps) = true) (hF : ∀ γ n, F (upd γ i n) = (F γ).put o.dst (val n))
    (h : ∀ γ w, Bel W w → (execOp (F γ).eval o).run Try.prog w = .ok (.value (val w.heap.size)) (w.alloc (.cells (xs i).toArray (T i))))
    (hal : al i = k) (hst : st i = k) (hk : ((List.range m).all fun j => j == i || (!(al j == k) && !(st j == k))) = true) : GStep Try.prog ops F (ManyJ W m T al st zs xs) k o := fun γ L w Kk hJ hcl hL hdep hK => by
  have him' : i < m := Nat.le_of_ble_eq_true him
  have ho : ∀ j, j < m → j ≠ i → (al j == k) = false ∧ (st j == k) = false := fun j hj hne => by
    have := List.all_eq_true.1 hk j (List.mem_range.2 hj)
    simpa [hne] using this
  rw [if_pos (hw γ)]
  unfold Oper.wp
  rw [h γ w hJ.bel]
  obtain ⟨hB, h1, h2⟩ := hJ
  have hb : Below w.heap.size w (w.alloc (.cells (xs i).toArray (T i))) := (Below.refl _ _).alloc (Nat.le_refl _) _
  refine hK.out (upd γ i w.heap.size) _ _ (hF γ w.heap.size) ⟨below_then hB hb, fun j hj ha => ?_, fun j j' hj hj' hne ha ha' => ?_⟩
  · by_cases hji : j = i
    · subst hji
      rw [upd_same]
      simp only [hst, beq_self_eq_true, Bool.or_true, if_true]
      exact ⟨hB.out.size, Blk.boxed _ _ w⟩
    · rw [upd_other _ _ hji]
      obtain ⟨ea, es⟩ := ho j hj hji
      simp only [ea, Bool.or_false] at ha
      simp only [es, Bool.or_false]
      exact ⟨(h1 j hj ha).1, (h1 j hj ha).2.keep hb⟩
  · by_cases hji : j = i
    · subst hji
      have hn : j' ≠ j := fun e => hne e.symm
      rw [upd_same, upd_other _ _ hn]
      simp only [(ho j' hj' hn).1, Bool.or_false] at ha'
      exact Ne.symm (Nat.ne_of_lt (h1 j' hj' ha').2.lt)
    · by_cases hji' : j' = i
      · subst hji'
        rw [upd_same, upd_other _ _ hji]
        simp only [(ho j hj hji).1, Bool.or_false] at ha
        exact Nat.ne_of_lt (h1 j hj ha).2.lt
      · rw [upd_other _ _ hji, upd_other _ _ hji']
        simp only [(ho j hj hji).1, Bool.or_false] at ha
        simp only [(ho j' hj' hji').1, Bool.or_false] at ha'
        exact h2 j j' hj hj' hne ha ha'
theorem late_store2 {s g1 p1 : Nat} {ys1 : List Value} {g p : Nat} {ys : List Value} (hd : o.dst = none) (hw : ∀ γ, Region.wanted o (yielded ops (F γ).tmps) = true)
    (h : ∀ γ w w1, Bel W w → St w w1 g1 p1 ys1 → (execOp (F γ).eval o).run Try.prog w1 = .ok .skip (w1.setCells g p ys)) (hk : noneAt m al st k = true) (_hne : (s == k) = false) (ho : ops[k]? = some o) (w4 : waitsFor ops k s = true) :
    GStep Try.prog ops F (LateJ (LateJ (ManyJ W m T al st zs xs) s g1 p1 ys1) k g p ys) k o := fun γ L w Kk hJ hcl hL hdep hK => by
  have hJ' := hJ.1 hL
  have l4 : L s = true := by
    unfold waitsFor at w4
    simp only [ho] at w4
    obtain ⟨q, hq, hb⟩ := Array.any_eq_true.1 w4
    simp only [Bool.and_eq_true, beq_iff_eq] at hb
    rw [← hb.1]
    exact hdep _ (Array.getElem_mem hq) hb.2
  obtain ⟨w0, hj, rfl⟩ := hJ'.2 l4
  rw [if_pos (hw γ)]
  unfold Oper.wp
  rw [h γ w0 _ hj.bel rfl]
  refine hK.out γ undef _ (by rw [hd]; rfl) ⟨fun h1 => ?_, fun _ => ⟨_, ⟨fun h1 => ?_, fun _ => ⟨w0, hj.on (Below.refl _ _) hk, rfl⟩⟩, rfl⟩⟩
  · simp at h1
  · simp [l4] at h1
theorem late_any {s g p : Nat} {ys : List Value} (hd : o.dst = some d) (hw : ∀ γ, Region.wanted o (yielded ops (F γ).tmps) = true)
    (hv : ∀ γ, (F γ).tmps[d]? = some v) (h : ∀ γ (w : World), (∀ (t : TypeId) (g' : Nat) (l : List Seg), g' ≠ g → SB t W g' l → SB t w g' l) → (execOp (F γ).eval o).run Try.prog w = .ok (.value v) w) (hk : noneAt m al st k = true) (hne : (s == k) = false) :
    GStep Try.prog ops F (LateJ (ManyJ W m T al st zs xs) s g p ys) k o := fun γ L w Kk hJ hcl hL hdep hK => by
  have kept : ∀ (t : TypeId) (g' : Nat) (l : List Seg), g' ≠ g → SB t W g' l → SB t w g' l := fun t g' l n1 hS => by
    cases hs : L s with
    | false => exact hS.keep (hJ.1 hs).bel.out
    | true =>
      obtain ⟨w0, hj, rfl⟩ := hJ.2 hs
      exact St.other rfl n1 (hS.keep hj.bel.out)
  rw [if_pos (hw γ)]
  unfold Oper.wp
  rw [h γ w kept]
  refine hK.out γ v w ?_ ⟨fun h1 => ?_, fun h1 => ?_⟩
  · rw [hd, put_same (hv γ)]
  · simp only [hne, Bool.or_false] at h1
    exact (hJ.1 h1).on (Below.refl _ _) hk
  · simp only [hne, Bool.or_false] at h1
    obtain ⟨w0, hj, rfl⟩ := hJ.2 h1
    exact ⟨w0, hj.on (Below.refl _ _) hk, rfl⟩
theorem region_m2 {id : Nat} {l : List Oper} {draw : Bool} {F : (Nat → Nat) → Act} {a : Act} {W : World} {Q : Exit → Act → World → Prop} (s g p : Nat) (ys : List Value) (s2 g2 p2 : Nat) (ys2 : List Value) (m : Nat) (T : Nat → TypeId) (al st : Nat → Nat) (zs xs : Nat → List Value) (ds : List Tmp)
    (hm : (draw = true ∧ Try.prog.follows .mixedOrders = true) ∨ (draw = false ∧ Region.linearise .any l.toArray 0 = List.range l.toArray.size))
    (hp : (planOk l.toArray && Region.noSelect l.toArray && (ds.all fun d => l.toArray.any fun o => o.dst == some d) && ((List.range m).all fun i => Nat.blt (al i) l.length && Nat.blt (st i) l.length) && Nat.blt s l.length && Nat.blt s2 l.length) = true)
    (hd : a.defers = (F fun _ => 0).defers) (hsz : Nat.beq a.tmps.size (F fun _ => 0).tmps.size = true) (hF : merge ds 0 a.tmps.toList (F fun _ => 0).tmps.toList = (F fun _ => 0).tmps.toList)
    (hsteps : GSteps Try.prog l.toArray F (LateJ (LateJ (ManyJ W m T al st zs xs) s g p ys) s2 g2 p2 ys2) 0 l)
    (hQ : ∀ (γ : Nat → Nat) (w' w'' w3 : World), Bel W w' → (∀ i, i < m → W.heap.size ≤ γ i ∧ Blk (T i) w' (γ i) (xs i)) → (∀ i j, i < m → j < m → i ≠ j → γ i ≠ γ j) → St w' w'' g p ys → St w'' w3 g2 p2 ys2 → Q .normal (F γ) w3) : (Code.region id l.toArray draw).wp Try.prog Q a W := by
  simp only [Bool.and_eq_true] at hp
  obtain ⟨⟨⟨⟨⟨h1, h2⟩, h3⟩, hb⟩, hbs⟩, hbs2⟩ := hp
  have lt : ∀ i, i < m → al i < l.length ∧ st i < l.length := fun i hi => by
    have := List.all_eq_true.1 hb i (List.mem_range.2 hi)
    simp only [Bool.and_eq_true] at this
    exact ⟨Nat.le_of_ble_eq_true this.1, Nat.le_of_ble_eq_true this.2⟩
  have hsl : s < l.length := Nat.le_of_ble_eq_true hbs
  have hsl2 : s2 < l.length := Nat.le_of_ble_eq_true hbs2
  refine wp_region_d (J := LateJ (LateJ (ManyJ W m T al st zs xs) s g p ys) s2 g2 p2 ys2) (fun _ => 0) _ hm h1 h2 (by simpa [takes] using h3) hd (put_merge hsz hF) ?_ hsteps ?_
  · have fa : ∀ i, i < m → decide (l.toArray.size ≤ al i) = false := fun i hi => decide_eq_false (by have := (lt i hi).1; simp; omega)
    have fs : decide (l.toArray.size ≤ s) = false := decide_eq_false (by simp; omega)
    have fs2 : decide (l.toArray.size ≤ s2) = false := decide_eq_false (by simp; omega)
    refine fun w' hw' => ⟨fun _ => ⟨fun _ => ⟨by rcases hw' with rfl | rfl; exact Below.refl _ _; exact Bel.start W, fun i hi ha => ?_, fun i j hi hj hij ha _ => ?_⟩, fun h => ?_⟩, fun h => ?_⟩
    · rw [fa i hi] at ha; cases ha
    · rw [fa i hi] at ha; cases ha
    · have h' : decide (l.toArray.size ≤ s) = true := h
      rw [fs] at h'
      cases h'
    · have h' : decide (l.toArray.size ≤ s2) = true := h
      rw [fs2] at h'
      cases h'
  · rintro γ L w' hall ⟨_, hJ2⟩
    obtain ⟨w1, ⟨_, hJ⟩, rfl⟩ := hJ2 (hall s2 (by simpa using hsl2))
    obtain ⟨w0, ⟨hB, h1, h2⟩, rfl⟩ := hJ (hall s (by simpa using hsl))
    have la : ∀ i, i < m → L (al i) = true := fun i hi => hall _ (by simpa using (lt i hi).1)
    have ls : ∀ i, i < m → L (st i) = true := fun i hi => hall _ (by simpa using (lt i hi).2)
    refine hQ γ w0 _ _ hB (fun i hi => ?_) (fun i j hi hj hij => h2 i j hi hj hij (la i hi) (la j hj)) rfl rfl
    obtain ⟨a1, a2⟩ := h1 i hi (la i hi)
    rw [ls i hi, if_pos rfl] at a2
    exact ⟨a1, a2⟩
end
end

section
section
open Go.RowKit
abbrev ac (l : List Value) : Act := ⟨l.toArray, []⟩
abbrev pz (g : Nat) : Value := .pointer (some ⟨g, 0, none⟩)
abbrev pq (g o : Nat) : Value := .pointer (some ⟨g, o, none⟩)
abbrev CI (f : FuncId) (vs : Array Value) (v : Value) : Prop := ∀ w, Calls Try.prog f vs w (Is v w)
section
variable {ops : Array Oper} {rest : List Oper} {o : Oper} {l l' : List Value} {w : World} {Q : Exit → Act → World → Prop} {d : Tmp}
theorem put_ac {d : Tmp} {o : Option Tmp} {l l' : List Value} {v : Value} (hd : o = some d) (hl : l.set d v = l') : (ac l).put o v = ac l' := by
  rw [hd, ← hl]
  simp [Act.put]
theorem sv1 (v : Value) (h : (execOp (ac l).eval o).run Try.prog w = .ok (.value v) w) (hn : wpList Try.prog ops Q rest (ac l') w) (hd : o.dst = some d := by rfl) (hl : l.set d v = l' := by dsimp only [List.set_cons_zero, List.set_cons_succ] <;> rfl) (hw : Region.wanted o (yielded ops (ac l).tmps) = true := by rfl) : wpList Try.prog ops Q (o :: rest) (ac l) w :=
  sq_val (put_ac hd hl) hw h hn
theorem sc1 {f : FuncId} {vs : Array Value} (v : Value) (he : (execOp (ac l).eval o).run Try.prog w = .ok (.enter f vs) w) (hC : Calls Try.prog f vs w (Is v w)) (hn : ∀ w', Below w.heap.size w w' → wpList Try.prog ops Q rest (ac l') w') (hd : o.dst = some d := by rfl) (hl : l.set d v = l' := by dsimp only [List.set_cons_zero, List.set_cons_succ] <;> rfl) (hw : Region.wanted o (yielded ops (ac l).tmps) = true := by rfl) : wpList Try.prog ops Q (o :: rest) (ac l) w :=
  sq_call (put_ac hd hl) hw he hC hn
theorem sn1 {ty : TypeId} {xs : List Nat} (h : (execOp (ac l).eval o).run Try.prog w = .ok (.value (.pointer (some ⟨w.heap.size, 0, none⟩))) (w.alloc (.cells (cellsOf xs).toArray ty)))
    (hn : ∀ w', Arr ty w' w.heap.size xs → Below w.heap.size w w' → wpList Try.prog ops Q rest (ac l') w') (hd : o.dst = some d := by rfl) (hl : l.set d (.pointer (some ⟨w.heap.size, 0, none⟩)) = l' := by dsimp only [List.set_cons_zero, List.set_cons_succ] <;> rfl) (hw : Region.wanted o (yielded ops (ac l).tmps) = true := by rfl) : wpList Try.prog ops Q (o :: rest) (ac l) w :=
  sq_new (put_ac hd hl) hw h hn
theorem st1 {t : TypeId} {g : Nat} {xs ys : List Nat} (h : Arr t w g xs) (hl : ys.length = xs.length) (he : (execOp (ac l).eval o).run Try.prog w = .ok .skip (w.setCells g 0 (cellsOf ys)))
    (hn : ∀ w', Arr t w' g ys → (∀ (B : Nat) (w0 : World), Below B w0 w → B ≤ g → Below B w0 w') → (∀ (t' : TypeId) (g' : Nat) (zs : List Nat), g' ≠ g → Arr t' w g' zs → Arr t' w' g' zs) → wpList Try.prog ops Q rest (ac l) w') (hd : o.dst = none := by rfl) (hw : Region.wanted o (yielded ops (ac l).tmps) = true := by rfl) : wpList Try.prog ops Q (o :: rest) (ac l) w :=
  sq_store (by rw [hd]; rfl) hw h hl he hn
theorem sck {w0 : World} {f : FuncId} {x : Operand} {q : List Operand} {tys : Array TypeId} {vs : List Value} {v : Value} {ty : TypeId} {pos : String} {after : Array Edge} {gd : Option (Nat × Bool)} (HB : Below w0.heap.size w0 w) (hc : ∀ (args : Array Value) (w : World), (callFunc f args).run Try.prog w = .ok (.enter f args) w) (hC : Calls Try.prog f vs.toArray w (Is v w))
    (hn : ∀ w', Below w.heap.size w w' → Below w0.heap.size w0 w' → wpList Try.prog ops Q rest (ac l') w') (hx : (ac l).eval x = .func (.func f) #[] #[] := by rfl) (hq : q.map (ac l).eval = vs := by rfl) (hl : l.set d v = l' := by dsimp only [List.set_cons_zero, List.set_cons_succ] <;> rfl) (hw : Region.wanted ⟨some d, .call ⟨.value x, q.toArray, tys⟩, ty, pos, after, gd⟩ (yielded ops (ac l).tmps) = true := by rfl) : wpList Try.prog ops Q (⟨some d, .call ⟨.value x, q.toArray, tys⟩, ty, pos, after, gd⟩ :: rest) (ac l) w :=
  sc1 v (ex_call hx hc hq) hC (fun w' h => hn w' h (below_then HB h)) rfl hl hw
theorem svm {x : Operand} {ty : TypeId} {pos : String} {after : Array Edge} {gd : Option (Nat × Bool)} (v : Value) (hn : wpList Try.prog ops Q rest (ac l') w) (hv : (ac l).eval x = v := by rfl) (hl : l.set d v = l' := by dsimp only [List.set_cons_zero, List.set_cons_succ] <;> rfl) (hw : Region.wanted ⟨some d, .move x, ty, pos, after, gd⟩ (yielded ops (ac l).tmps) = true := by rfl) : wpList Try.prog ops Q (⟨some d, .move x, ty, pos, after, gd⟩ :: rest) (ac l) w :=
  sv1 v (by rw [← hv]; exact ex_move _) hn rfl hl hw
theorem sva {x : Operand} {ty : TypeId} {pos : String} {after : Array Edge} {gd : Option (Nat × Bool)} (v : Value) (hn : wpList Try.prog ops Q rest (ac l') w) (hv : (ac l).eval x = v := by rfl) (hl : l.set d v = l' := by dsimp only [List.set_cons_zero, List.set_cons_succ] <;> rfl) (hw : Region.wanted ⟨some d, .assign x, ty, pos, after, gd⟩ (yielded ops (ac l).tmps) = true := by rfl) : wpList Try.prog ops Q (⟨some d, .assign x, ty, pos, after, gd⟩ :: rest) (ac l) w :=
  sv1 v (by rw [← hv]; exact ex_assign _) hn rfl hl hw
theorem nm {α : Type} (a : α) : ∃ q, q = a := ⟨a, rfl⟩
theorem ltle {a b c : Nat} (h : a < b) (k : b ≤ c) : a < c := Nat.lt_of_lt_of_le h k
theorem nelt {a b : Nat} (h : a < b) : a ≠ b := Nat.ne_of_lt h
theorem wpr {fn : Func} {a : Act} {w0 w : World} {v : Value} (h : (results fn a.tmps).run Try.prog w = .ok v w) (hb : Below w0.heap.size w0 w) (hd : a.defers = [] := by rfl) : Code.ret.wp Try.prog (bodyPost Try.prog fn (Is v w0)) a w := wp_ret (bodyPost_ret h hd ⟨rfl, hb⟩)
theorem wprt {fn : Func} {a : Act} {w0 w : World} {v : Value} {K : Act → World → Prop} (h : (results fn a.tmps).run Try.prog w = .ok v w) (hb : Below w0.heap.size w0 w) (hd : a.defers = [] := by rfl) : Code.ret.wp Try.prog (Exit.then K (bodyPost Try.prog fn (Is v w0))) a w := wp_ret (show Exit.then K (bodyPost Try.prog fn (Is v w0)) .ret a w from bodyPost_ret h hd ⟨rfl, hb⟩)
theorem brf (w : World) : Below w.heap.size w w := Below.refl _ w
end
end

section
open Go.RowKit
def setL : List Value → List Nat → List Value → List Value
  | l, d :: ds, v :: vs => setL (l.set d v) ds vs
  | l, _, _ => l
def got (a : Act) : Option Tmp → Value
  | some d => a.tmps.getD d undef
  | none => undef
def okD (a : Act) : Option Tmp → Bool
  | some d => Nat.blt d a.tmps.size
  | none => false
theorem got_put {a : Act} {o : Option Tmp} (h : okD a o = true) : a.put o (got a o) = a := by
  cases o with
  | none => cases h
  | some d =>
    refine put_same ?_
    have hd : d < a.tmps.size := Nat.le_of_ble_eq_true h
    show a.tmps[d]? = some (a.tmps.getD d undef)
    rw [Array.getD_eq_getD_getElem?, Array.getElem?_eq_getElem hd]
    rfl
section
variable {ops : Array Oper} {F : (Nat → Nat) → Act} {W : World} {m : Nat} {T : Nat → TypeId} {al st : Nat → Nat} {zs xs : Nat → List Value} {k : Nat} {o : Oper} {rest : List Oper} {v : Value}
def stepOk (ops : Array Oper) (a : Act) (o : Oper) (m : Nat) (al st : Nat → Nat) (k : Nat) : Bool := Region.wanted o (yielded ops a.tmps) && okD a o.dst && noneAt m al st k
theorem stepOk_on {a : Act} (h : stepOk ops a o m al st k = true) : Region.wanted o (yielded ops a.tmps) = true ∧ okD a o.dst = true ∧ noneAt m al st k = true := by
  unfold stepOk at h
  simp only [Bool.and_eq_true] at h
  exact ⟨h.1.1, h.1.2, h.2⟩
theorem GStep.val (h : ∀ γ w, Bel W w → (execOp (F γ).eval o).run Try.prog w = .ok (.value (got (F γ) o.dst)) w) (hok : ∀ γ, stepOk ops (F γ) o m al st k = true) : GStep Try.prog ops F (ManyJ W m T al st zs xs) k o := fun γ L w Kk hJ hcl hL hdep hK => by
  obtain ⟨h1, h2, h3⟩ := stepOk_on (hok γ)
  rw [if_pos h1]
  unfold Oper.wp
  rw [h γ w hJ.bel]
  exact hK.out γ _ w (got_put h2).symm (hJ.on (Below.refl _ _) h3)
theorem stpv (h : ∀ γ w, Bel W w → (execOp (F γ).eval o).run Try.prog w = .ok (.value (got (F γ) o.dst)) w) (hr : GSteps Try.prog ops F (ManyJ W m T al st zs xs) (k + 1) rest) (hok : ∀ γ, stepOk ops (F γ) o m al st k = true := by exact fun _ => rfl) : GSteps Try.prog ops F (ManyJ W m T al st zs xs) k (o :: rest) := GSteps.cons (GStep.val h hok) hr
theorem stpx (h : ∀ γ w, (execOp (F γ).eval o).run Try.prog w = .ok (.value (got (F γ) o.dst)) w) (hr : GSteps Try.prog ops F (ManyJ W m T al st zs xs) (k + 1) rest) (hok : ∀ γ, stepOk ops (F γ) o m al st k = true := by exact fun _ => rfl) : GSteps Try.prog ops F (ManyJ W m T al st zs xs) k (o :: rest) := GSteps.cons (GStep.val (fun γ w _ => h γ w) hok) hr
theorem GStep.cal {f : FuncId} {vs : Array Value} (he : ∀ γ w, (execOp (F γ).eval o).run Try.prog w = .ok (.enter f vs) w) (hC : ∀ w, Bel W w → Calls Try.prog f vs w (Is v w)) (hv : ∀ γ, got (F γ) o.dst = v) (hok : ∀ γ, stepOk ops (F γ) o m al st k = true) : GStep Try.prog ops F (ManyJ W m T al st zs xs) k o := fun γ L w Kk hJ hcl hL hdep hK => by
  obtain ⟨h1, h2, h3⟩ := stepOk_on (hok γ)
  rw [if_pos h1]
  unfold Oper.wp
  rw [he γ w]
  show Calls _ _ _ _ _
  refine (hC w hJ.bel).mono ?_
  rintro e w' ⟨rfl, hb⟩
  refine hK.out γ v w' ?_ (hJ.on hb h3)
  rw [← hv γ]
  exact (got_put h2).symm
theorem stpc {f : FuncId} {vs : Array Value} (v : Value) (he : ∀ γ w, (execOp (F γ).eval o).run Try.prog w = .ok (.enter f vs) w) (hC : ∀ w, Bel W w → Calls Try.prog f vs w (Is v w)) (hr : GSteps Try.prog ops F (ManyJ W m T al st zs xs) (k + 1) rest)
    (hv : ∀ γ, got (F γ) o.dst = v := by exact fun _ => rfl) (hok : ∀ γ, stepOk ops (F γ) o m al st k = true := by exact fun _ => rfl) : GSteps Try.prog ops F (ManyJ W m T al st zs xs) k (o :: rest) := GSteps.cons (GStep.cal he hC hv hok) hr
theorem stps (hr : GSteps Try.prog ops F (ManyJ W m T al st zs xs) (k + 1) rest) (hok : ∀ γ, (!Region.wanted o (yielded ops (F γ).tmps) && okD (F γ) o.dst && noneAt m al st k) = true := by exact fun _ => rfl) (hu : ∀ γ, got (F γ) o.dst = undef := by exact fun _ => rfl) : GSteps Try.prog ops F (ManyJ W m T al st zs xs) k (o :: rest) := by
  refine GSteps.cons (fun γ L w Kk hJ hcl hL hdep hK => ?_) hr
  have h := hok γ
  simp only [Bool.and_eq_true, Bool.not_eq_true'] at h
  rw [if_neg (by rw [h.1.1]; exact Bool.false_ne_true)]
  refine hK.out γ undef w ?_ (hJ.on (Below.refl _ _) h.2)
  rw [← hu γ]
  exact (got_put h.1.2).symm
theorem stpm {x : Operand} {d : Option Tmp} {ty : TypeId} {pos : String} {after : Array Edge} {gd : Option (Nat × Bool)} (hr : GSteps Try.prog ops F (ManyJ W m T al st zs xs) (k + 1) rest) (he : ∀ γ, (F γ).eval x = got (F γ) d := by exact fun _ => rfl) (hok : ∀ γ, stepOk ops (F γ) ⟨d, .move x, ty, pos, after, gd⟩ m al st k = true := by exact fun _ => rfl) : GSteps Try.prog ops F (ManyJ W m T al st zs xs) k (⟨d, .move x, ty, pos, after, gd⟩ :: rest) :=
  stpx (fun γ w => by rw [← he γ]; exact ex_move _) hr hok
theorem stpa {x : Operand} {d : Option Tmp} {ty : TypeId} {pos : String} {after : Array Edge} {gd : Option (Nat × Bool)} (hr : GSteps Try.prog ops F (ManyJ W m T al st zs xs) (k + 1) rest) (he : ∀ γ, (F γ).eval x = got (F γ) d := by exact fun _ => rfl) (hok : ∀ γ, stepOk ops (F γ) ⟨d, .assign x, ty, pos, after, gd⟩ m al st k = true := by exact fun _ => rfl) : GSteps Try.prog ops F (ManyJ W m T al st zs xs) k (⟨d, .assign x, ty, pos, after, gd⟩ :: rest) :=
  stpx (fun γ w => by rw [← he γ]; exact ex_assign _) hr hok
theorem stpb (i : Nat) (h : ∀ γ w, Bel W w → (execOp (F γ).eval o).run Try.prog w = .ok (.value (.pointer (some ⟨w.heap.size, 0, none⟩))) (w.alloc (.cells (xs i).toArray (T i)))) (hr : GSteps Try.prog ops F (ManyJ W m T al st zs xs) (k + 1) rest)
    (him : Nat.blt i m = true := by rfl) (hw : ∀ γ, Region.wanted o (yielded ops (F γ).tmps) = true := by exact fun _ => rfl) (hF : ∀ γ n, F (upd γ i n) = (F γ).put o.dst (.pointer (some ⟨n, 0, none⟩)) := by exact fun _ _ => rfl)
    (hal : al i = k := by rfl) (hst : st i = k := by rfl) (hk : ((List.range m).all fun j => j == i || (!(al j == k) && !(st j == k))) = true := by rfl) : GSteps Try.prog ops F (ManyJ W m T al st zs xs) k (o :: rest) := GSteps.cons (gm_box i him hw hF h hal hst hk) hr
theorem stpn (i : Nat) (h : ∀ γ w, (execOp (F γ).eval o).run Try.prog w = .ok (.value (.pointer (some ⟨w.heap.size, 0, none⟩))) (w.alloc (.cells (zs i).toArray (T i)))) (hr : GSteps Try.prog ops F (ManyJ W m T al st zs xs) (k + 1) rest)
    (him : Nat.blt i m = true := by rfl) (hw : ∀ γ, Region.wanted o (yielded ops (F γ).tmps) = true := by exact fun _ => rfl) (hF : ∀ γ n, F (upd γ i n) = (F γ).put o.dst (.pointer (some ⟨n, 0, none⟩)) := by exact fun _ _ => rfl)
    (hk : onlyAt m al st i k = true := by rfl) (hwait : waitsFor ops (st i) (al i) = true := by kernel_rfl) : GSteps Try.prog ops F (ManyJ W m T al st zs xs) k (o :: rest) := GSteps.cons (gm_new i him hw hF h hk hwait) hr
theorem stpw (i : Nat) (hlen : (xs i).length = (zs i).length) (h : ∀ (γ : Nat → Nat) w, Blk (T i) w (γ i) (zs i) → (execOp (F γ).eval o).run Try.prog w = .ok .skip (w.setCells (γ i) 0 (xs i))) (hr : GSteps Try.prog ops F (ManyJ W m T al st zs xs) (k + 1) rest)
    (him : Nat.blt i m = true := by rfl) (hd : o.dst = none := by rfl) (hw : ∀ γ, Region.wanted o (yielded ops (F γ).tmps) = true := by exact fun _ => rfl) (hk : writeAt m al st i k = true := by rfl) (ho : ops[k]? = some o := by rfl) (w4 : waitsFor ops k (al i) = true := by kernel_rfl) : GSteps Try.prog ops F (ManyJ W m T al st zs xs) k (o :: rest) := GSteps.cons (gm_store i him hd hw hlen h hk ho w4) hr
variable {s g p : Nat} {ys : List Value}
def lateOk (ops : Array Oper) (s k : Nat) : Bool := waitsFor ops s k && !(s == k)
theorem lateOk_on (h : lateOk ops s k = true) : waitsFor ops s k = true ∧ (s == k) = false := by
  unfold lateOk at h
  simpa using h
theorem latv (h : ∀ γ w, Bel W w → (execOp (F γ).eval o).run Try.prog w = .ok (.value (got (F γ) o.dst)) w) (hr : GSteps Try.prog ops F (LateJ (ManyJ W m T al st zs xs) s g p ys) (k + 1) rest) (hok : ∀ γ, stepOk ops (F γ) o m al st k = true := by exact fun _ => rfl) (hl : lateOk ops s k = true := by kernel_rfl) : GSteps Try.prog ops F (LateJ (ManyJ W m T al st zs xs) s g p ys) k (o :: rest) :=
  GSteps.cons (late_step (GStep.val h hok) (lateOk_on hl).1 (lateOk_on hl).2) hr
theorem latc {f : FuncId} {vs : Array Value} (v : Value) (he : ∀ γ w, (execOp (F γ).eval o).run Try.prog w = .ok (.enter f vs) w) (hC : ∀ w, Bel W w → Calls Try.prog f vs w (Is v w)) (hr : GSteps Try.prog ops F (LateJ (ManyJ W m T al st zs xs) s g p ys) (k + 1) rest)
    (hv : ∀ γ, got (F γ) o.dst = v := by exact fun _ => rfl) (hok : ∀ γ, stepOk ops (F γ) o m al st k = true := by exact fun _ => rfl) (hl : lateOk ops s k = true := by kernel_rfl) : GSteps Try.prog ops F (LateJ (ManyJ W m T al st zs xs) s g p ys) k (o :: rest) :=
  GSteps.cons (late_step (GStep.cal he hC hv hok) (lateOk_on hl).1 (lateOk_on hl).2) hr
theorem latm {x : Operand} {d : Option Tmp} {ty : TypeId} {pos : String} {after : Array Edge} {gd : Option (Nat × Bool)} (hr : GSteps Try.prog ops F (LateJ (ManyJ W m T al st zs xs) s g p ys) (k + 1) rest) (he : ∀ γ, (F γ).eval x = got (F γ) d := by exact fun _ => rfl) (hok : ∀ γ, stepOk ops (F γ) ⟨d, .move x, ty, pos, after, gd⟩ m al st k = true := by exact fun _ => rfl) (hl : lateOk ops s k = true := by kernel_rfl) : GSteps Try.prog ops F (LateJ (ManyJ W m T al st zs xs) s g p ys) k (⟨d, .move x, ty, pos, after, gd⟩ :: rest) :=
  latv (fun γ w _ => by rw [← he γ]; exact ex_move _) hr hok hl
theorem latw (h : ∀ γ w, Bel W w → (execOp (F γ).eval o).run Try.prog w = .ok .skip (w.setCells g p ys)) (hr : GSteps Try.prog ops F (LateJ (ManyJ W m T al st zs xs) k g p ys) (k + 1) rest) (hd : o.dst = none := by rfl) (hw : ∀ γ, Region.wanted o (yielded ops (F γ).tmps) = true := by exact fun _ => rfl) (hk : noneAt m al st k = true := by rfl) : GSteps Try.prog ops F (LateJ (ManyJ W m T al st zs xs) k g p ys) k (o :: rest) := GSteps.cons (late_store hd hw h hk) hr
theorem latf (h : ∀ γ w, (execOp (F γ).eval o).run Try.prog w = .ok (.value (got (F γ) o.dst)) w) (hr : GSteps Try.prog ops F (LateJ (ManyJ W m T al st zs xs) s g p ys) (k + 1) rest) (hok : ∀ γ, stepOk ops (F γ) o m al st k = true := by exact fun _ => rfl) (hne : (s == k) = false := by rfl) : GSteps Try.prog ops F (LateJ (ManyJ W m T al st zs xs) s g p ys) k (o :: rest) := by
  refine GSteps.cons (fun γ L w Kk hJ hcl hL hdep hK => ?_) hr
  obtain ⟨h1, h2, h3⟩ := stepOk_on (hok γ)
  rw [if_pos h1]
  unfold Oper.wp
  rw [h γ w]
  refine hK.out γ _ w (got_put h2).symm ⟨fun h1 => ?_, fun h1 => ?_⟩
  · simp only [hne, Bool.or_false] at h1
    exact (hJ.1 h1).on (Below.refl _ _) h3
  · simp only [hne, Bool.or_false] at h1
    obtain ⟨w0, hj, rfl⟩ := hJ.2 h1
    exact ⟨w0, hj.on (Below.refl _ _) h3, rfl⟩
theorem lata (h : ∀ γ (w : World), (∀ (t : TypeId) (g' : Nat) (l : List Seg), g' ≠ g → SB t W g' l → SB t w g' l) → (execOp (F γ).eval o).run Try.prog w = .ok (.value (got (F γ) o.dst)) w) (hr : GSteps Try.prog ops F (LateJ (ManyJ W m T al st zs xs) s g p ys) (k + 1) rest) (hok : ∀ γ, stepOk ops (F γ) o m al st k = true := by exact fun _ => rfl) (hne : (s == k) = false := by rfl) : GSteps Try.prog ops F (LateJ (ManyJ W m T al st zs xs) s g p ys) k (o :: rest) := by
  refine GSteps.cons (fun γ L w Kk hJ hcl hL hdep hK => ?_) hr
  have kept : ∀ (t : TypeId) (g' : Nat) (l : List Seg), g' ≠ g → SB t W g' l → SB t w g' l := fun t g' l n1 hS => by
    cases hs : L s with
    | false => exact hS.keep (hJ.1 hs).bel.out
    | true =>
      obtain ⟨w0, hj, rfl⟩ := hJ.2 hs
      exact St.other rfl n1 (hS.keep hj.bel.out)
  obtain ⟨h1, h2, h3⟩ := stepOk_on (hok γ)
  rw [if_pos h1]
  unfold Oper.wp
  rw [h γ w kept]
  refine hK.out γ _ w (got_put h2).symm ⟨fun h1 => ?_, fun h1 => ?_⟩
  · simp only [hne, Bool.or_false] at h1
    exact (hJ.1 h1).on (Below.refl _ _) h3
  · simp only [hne, Bool.or_false] at h1
    obtain ⟨w0, hj, rfl⟩ := hJ.2 h1
    exact ⟨w0, hj.on (Below.refl _ _) h3, rfl⟩
theorem region_c {id : Nat} {L : List Oper} {draw : Bool} {l : List Value} {l' : (Nat → Nat) → List Value} {W : World} {Q : Exit → Act → World → Prop} (m : Nat) (T : Nat → TypeId) (al st : Nat → Nat) (zs xs : Nat → List Value) (ds : List Tmp) (vs : (Nat → Nat) → List Value)
    (hsteps : GSteps Try.prog L.toArray (fun γ => ac (l' γ)) (ManyJ W m T al st zs xs) 0 L)
    (hQ : ∀ (γ : Nat → Nat) (w' : World), Bel W w' → (∀ i, i < m → W.heap.size ≤ γ i ∧ Blk (T i) w' (γ i) (xs i)) → (∀ i j, i < m → j < m → i ≠ j → γ i ≠ γ j) → Q .normal (ac (l' γ)) w')
    (_hl : ∀ γ, setL l ds (vs γ) = l' γ := by intro γ; dsimp only [setL, List.set_cons_zero, List.set_cons_succ] <;> rfl)
    (hm : (draw = true ∧ Try.prog.follows .mixedOrders = true) ∨ (draw = false ∧ Region.linearise .any L.toArray 0 = List.range L.toArray.size) := by first | exact .inr ⟨rfl, by kernel_rfl⟩ | exact .inl ⟨rfl, by kernel_rfl⟩)
    (hp : (planOk L.toArray && Region.noSelect L.toArray && (ds.all fun d => L.toArray.any fun o => o.dst == some d) && ((List.range m).all fun i => Nat.blt (al i) L.length && Nat.blt (st i) L.length)) = true := by kernel_rfl)
    (hsz : Nat.beq l.length (l' fun _ => 0).length = true := by rfl) (hF : merge ds 0 l (l' fun _ => 0) = (l' fun _ => 0) := by rfl) :
    (Code.region id L.toArray draw).wp Try.prog Q (ac l) W :=
  region_m m T al st zs xs ds hm hp rfl (by simpa using hsz) (by simpa using hF) hsteps hQ
theorem region_0 {id : Nat} {L : List Oper} {draw : Bool} {l l' : List Value} {W : World} {Q : Exit → Act → World → Prop} (ds : List Tmp) (vs : List Value)
    (hsteps : GSteps Try.prog L.toArray (fun _ => ac l') (ManyJ W 0 (fun _ => 0) (fun _ => 0) (fun _ => 0) (fun _ => []) (fun _ => [])) 0 L)
    (hQ : ∀ (w' : World), Bel W w' → Q .normal (ac l') w')
    (_hl : setL l ds vs = l' := by dsimp only [setL, List.set_cons_zero, List.set_cons_succ] <;> rfl)
    (hm : (draw = true ∧ Try.prog.follows .mixedOrders = true) ∨ (draw = false ∧ Region.linearise .any L.toArray 0 = List.range L.toArray.size) := by first | exact .inr ⟨rfl, by kernel_rfl⟩ | exact .inl ⟨rfl, by kernel_rfl⟩)
    (hp : (planOk L.toArray && Region.noSelect L.toArray && (ds.all fun d => L.toArray.any fun o => o.dst == some d) && ((List.range 0).all fun i => Nat.blt ((fun _ => 0) i) L.length && Nat.blt ((fun _ => 0) i) L.length)) = true := by kernel_rfl)
    (hsz : Nat.beq l.length l'.length = true := by rfl) (hF : merge ds 0 l l' = l' := by rfl) :
    (Code.region id L.toArray draw).wp Try.prog Q (ac l) W :=
  region_m (F := fun _ => ac l') 0 _ _ _ _ _ ds hm hp rfl (by simpa using hsz) (by simpa using hF) hsteps (fun _ w' h _ _ => hQ w' h)
theorem region_s {id : Nat} {L : List Oper} {draw : Bool} {l l' : List Value} {W : World} {Q : Exit → Act → World → Prop} (s g p : Nat) (ys : List Value) (ds : List Tmp) (vs : List Value)
    (hsteps : GSteps Try.prog L.toArray (fun _ => ac l') (LateJ (ManyJ W 0 (fun _ => 0) (fun _ => 0) (fun _ => 0) (fun _ => []) (fun _ => [])) s g p ys) 0 L)
    (hQ : ∀ (w' w'' : World), Bel W w' → St w' w'' g p ys → Q .normal (ac l') w'')
    (_hl : setL l ds vs = l' := by dsimp only [setL, List.set_cons_zero, List.set_cons_succ] <;> rfl)
    (hm : (draw = true ∧ Try.prog.follows .mixedOrders = true) ∨ (draw = false ∧ Region.linearise .any L.toArray 0 = List.range L.toArray.size) := by first | exact .inr ⟨rfl, by kernel_rfl⟩ | exact .inl ⟨rfl, by kernel_rfl⟩)
    (hp : (planOk L.toArray && Region.noSelect L.toArray && (ds.all fun d => L.toArray.any fun o => o.dst == some d) && ((List.range 0).all fun i => Nat.blt ((fun _ => 0) i) L.length && Nat.blt ((fun _ => 0) i) L.length) && Nat.blt s L.length) = true := by kernel_rfl)
    (hsz : Nat.beq l.length l'.length = true := by rfl) (hF : merge ds 0 l l' = l' := by rfl) :
    (Code.region id L.toArray draw).wp Try.prog Q (ac l) W :=
  region_ms (F := fun _ => ac l') s g p ys 0 _ _ _ _ _ ds hm hp rfl (by simpa using hsz) (by simpa using hF) hsteps (fun _ w' w'' h _ _ k => hQ w' w'' h k)
theorem rqc {id : Nat} {L : List Oper} {draw : Bool} {l : List Value} {l' : (Nat → Nat) → List Value} {W : World} {Q : Exit → Act → World → Prop} {y : Code} (m : Nat) (T : Nat → TypeId) (al st : Nat → Nat) (zs xs : Nat → List Value) (ds : List Tmp) (vs : (Nat → Nat) → List Value)
    (hsteps : GSteps Try.prog L.toArray (fun γ => ac (l' γ)) (ManyJ W m T al st zs xs) 0 L)
    (hQ : ∀ (γ : Nat → Nat) (w' : World), Bel W w' → (∀ i, i < m → W.heap.size ≤ γ i ∧ Blk (T i) w' (γ i) (xs i)) → (∀ i j, i < m → j < m → i ≠ j → γ i ≠ γ j) → y.wp Try.prog Q (ac (l' γ)) w')
    (_hl : ∀ γ, setL l ds (vs γ) = l' γ := by intro γ; dsimp only [setL, List.set_cons_zero, List.set_cons_succ] <;> rfl)
    (hm : (draw = true ∧ Try.prog.follows .mixedOrders = true) ∨ (draw = false ∧ Region.linearise .any L.toArray 0 = List.range L.toArray.size) := by first | exact .inr ⟨rfl, by kernel_rfl⟩ | exact .inl ⟨rfl, by kernel_rfl⟩)
    (hp : (planOk L.toArray && Region.noSelect L.toArray && (ds.all fun d => L.toArray.any fun o => o.dst == some d) && ((List.range m).all fun i => Nat.blt (al i) L.length && Nat.blt (st i) L.length)) = true := by kernel_rfl)
    (hsz : Nat.beq l.length (l' fun _ => 0).length = true := by rfl) (hF : merge ds 0 l (l' fun _ => 0) = (l' fun _ => 0) := by rfl) :
    (Code.seq (Code.region id L.toArray draw) y).wp Try.prog Q (ac l) W :=
  wp_seq (region_c m T al st zs xs ds vs hsteps (fun γ w' h1 h2 h3 => th_r (hQ γ w' h1 h2 h3)) _hl hm hp hsz hF)
theorem rq0 {id : Nat} {L : List Oper} {draw : Bool} {l l' : List Value} {W : World} {Q : Exit → Act → World → Prop} {y : Code} (ds : List Tmp) (vs : List Value)
    (hsteps : GSteps Try.prog L.toArray (fun _ => ac l') (ManyJ W 0 (fun _ => 0) (fun _ => 0) (fun _ => 0) (fun _ => []) (fun _ => [])) 0 L)
    (hQ : ∀ (w' : World), Bel W w' → y.wp Try.prog Q (ac l') w')
    (_hl : setL l ds vs = l' := by dsimp only [setL, List.set_cons_zero, List.set_cons_succ] <;> rfl)
    (hm : (draw = true ∧ Try.prog.follows .mixedOrders = true) ∨ (draw = false ∧ Region.linearise .any L.toArray 0 = List.range L.toArray.size) := by first | exact .inr ⟨rfl, by kernel_rfl⟩ | exact .inl ⟨rfl, by kernel_rfl⟩)
    (hp : (planOk L.toArray && Region.noSelect L.toArray && (ds.all fun d => L.toArray.any fun o => o.dst == some d) && ((List.range 0).all fun i => Nat.blt ((fun _ => 0) i) L.length && Nat.blt ((fun _ => 0) i) L.length)) = true := by kernel_rfl)
    (hsz : Nat.beq l.length l'.length = true := by rfl) (hF : merge ds 0 l l' = l' := by rfl) :
    (Code.seq (Code.region id L.toArray draw) y).wp Try.prog Q (ac l) W :=
  wp_seq (region_0 ds vs hsteps (fun w' h => th_r (hQ w' h)) _hl hm hp hsz hF)
theorem rqs {id : Nat} {L : List Oper} {draw : Bool} {l l' : List Value} {W : World} {Q : Exit → Act → World → Prop} {y : Code} (s g p : Nat) (ys : List Value) (ds : List Tmp) (vs : List Value)
    (hsteps : GSteps Try.prog L.toArray (fun _ => ac l') (LateJ (ManyJ W 0 (fun _ => 0) (fun _ => 0) (fun _ => 0) (fun _ => []) (fun _ => [])) s g p ys) 0 L)
    (hQ : ∀ (w' w'' : World), Bel W w' → St w' w'' g p ys → y.wp Try.prog Q (ac l') w'')
    (_hl : setL l ds vs = l' := by dsimp only [setL, List.set_cons_zero, List.set_cons_succ] <;> rfl)
    (hm : (draw = true ∧ Try.prog.follows .mixedOrders = true) ∨ (draw = false ∧ Region.linearise .any L.toArray 0 = List.range L.toArray.size) := by first | exact .inr ⟨rfl, by kernel_rfl⟩ | exact .inl ⟨rfl, by kernel_rfl⟩)
    (hp : (planOk L.toArray && Region.noSelect L.toArray && (ds.all fun d => L.toArray.any fun o => o.dst == some d) && ((List.range 0).all fun i => Nat.blt ((fun _ => 0) i) L.length && Nat.blt ((fun _ => 0) i) L.length) && Nat.blt s L.length) = true := by kernel_rfl)
    (hsz : Nat.beq l.length l'.length = true := by rfl) (hF : merge ds 0 l l' = l' := by rfl) :
    (Code.seq (Code.region id L.toArray draw) y).wp Try.prog Q (ac l) W :=
  wp_seq (region_s s g p ys ds vs hsteps (fun w' w'' h k => th_r (hQ w' w'' h k)) _hl hm hp hsz hF)
variable {w0 : World} {id : Nat} {draw : Bool} {y : Code} {Q : Exit → Act → World → Prop}
theorem rh0 {L : List Oper} {l l' : List Value} (HB : Below w0.heap.size w0 W) (ds : List Tmp) (vs : List Value)
    (hsteps : GSteps Try.prog L.toArray (fun _ => ac l') (ManyJ W 0 (fun _ => 0) (fun _ => 0) (fun _ => 0) (fun _ => []) (fun _ => [])) 0 L)
    (hQ : ∀ (w' : World), Bel W w' → Below w0.heap.size w0 w' → y.wp Try.prog Q (ac l') w')
    (_hl : setL l ds vs = l' := by dsimp only [setL, List.set_cons_zero, List.set_cons_succ] <;> rfl)
    (hm : (draw = true ∧ Try.prog.follows .mixedOrders = true) ∨ (draw = false ∧ Region.linearise .any L.toArray 0 = List.range L.toArray.size) := by first | exact .inr ⟨rfl, by kernel_rfl⟩ | exact .inl ⟨rfl, by kernel_rfl⟩)
    (hp : (planOk L.toArray && Region.noSelect L.toArray && (ds.all fun d => L.toArray.any fun o => o.dst == some d) && ((List.range 0).all fun i => Nat.blt ((fun _ => 0) i) L.length && Nat.blt ((fun _ => 0) i) L.length)) = true := by kernel_rfl)
    (hsz : Nat.beq l.length l'.length = true := by rfl) (hF : merge ds 0 l l' = l' := by rfl) :
    (Code.seq (Code.region id L.toArray draw) y).wp Try.prog Q (ac l) W :=
  rq0 ds vs hsteps (fun w' h => hQ w' h (below_then HB h.out)) _hl hm hp hsz hF
theorem rhs {L : List Oper} {l l' : List Value} (HB : Below w0.heap.size w0 W) (hg : w0.heap.size ≤ g) (s p : Nat) (M : List Seg) (ds : List Tmp) (vs : List Value)
    (hsteps : GSteps Try.prog L.toArray (fun _ => ac l') (LateJ (ManyJ W 0 (fun _ => 0) (fun _ => 0) (fun _ => 0) (fun _ => []) (fun _ => [])) s g p (segs M)) 0 L)
    (hQ : ∀ (w' w'' : World), Bel W w' → St w' w'' g p (segs M) → Below w0.heap.size w0 w'' → y.wp Try.prog Q (ac l') w'')
    (_hl : setL l ds vs = l' := by dsimp only [setL, List.set_cons_zero, List.set_cons_succ] <;> rfl)
    (hm : (draw = true ∧ Try.prog.follows .mixedOrders = true) ∨ (draw = false ∧ Region.linearise .any L.toArray 0 = List.range L.toArray.size) := by first | exact .inr ⟨rfl, by kernel_rfl⟩ | exact .inl ⟨rfl, by kernel_rfl⟩)
    (hp : (planOk L.toArray && Region.noSelect L.toArray && (ds.all fun d => L.toArray.any fun o => o.dst == some d) && ((List.range 0).all fun i => Nat.blt ((fun _ => 0) i) L.length && Nat.blt ((fun _ => 0) i) L.length) && Nat.blt s L.length) = true := by kernel_rfl)
    (hsz : Nat.beq l.length l'.length = true := by rfl) (hF : merge ds 0 l l' = l' := by rfl) :
    (Code.seq (Code.region id L.toArray draw) y).wp Try.prog Q (ac l) W :=
  rqs s g p (segs M) ds vs hsteps (fun w' w'' h k => hQ w' w'' h k (k.below (below_then HB h.out) hg)) _hl hm hp hsz hF
abbrev BK := Nat × Nat × Nat × List Seg × List Seg
def bk (b : List BK) (i : Nat) : BK := b.getD i (0, 0, 0, [], [])
theorem rhc {L : List Oper} {l : List Value} {l' : (Nat → Nat) → List Value} (HB : Below w0.heap.size w0 W) (b : List BK) (ds : List Tmp) (vs : (Nat → Nat) → List Value)
    (hsteps : GSteps Try.prog L.toArray (fun γ => ac (l' γ)) (ManyJ W b.length (fun i => (bk b i).1) (fun i => (bk b i).2.1) (fun i => (bk b i).2.2.1) (fun i => segs (bk b i).2.2.2.1) (fun i => segs (bk b i).2.2.2.2)) 0 L)
    (hQ : ∀ (γ : Nat → Nat) (w' : World), Bel W w' → (∀ i, Nat.blt i b.length = true → W.heap.size ≤ γ i ∧ SB (bk b i).1 w' (γ i) (bk b i).2.2.2.2) → (∀ i j, Nat.blt i b.length = true → Nat.blt j b.length = true → i ≠ j → γ i ≠ γ j) → Below w0.heap.size w0 w' → y.wp Try.prog Q (ac (l' γ)) w')
    (_hl : ∀ γ, setL l ds (vs γ) = l' γ := by intro γ; dsimp only [setL, List.set_cons_zero, List.set_cons_succ] <;> rfl)
    (hm : (draw = true ∧ Try.prog.follows .mixedOrders = true) ∨ (draw = false ∧ Region.linearise .any L.toArray 0 = List.range L.toArray.size) := by first | exact .inr ⟨rfl, by kernel_rfl⟩ | exact .inl ⟨rfl, by kernel_rfl⟩)
    (hp : (planOk L.toArray && Region.noSelect L.toArray && (ds.all fun d => L.toArray.any fun o => o.dst == some d) && ((List.range b.length).all fun i => Nat.blt (bk b i).2.1 L.length && Nat.blt (bk b i).2.2.1 L.length)) = true := by kernel_rfl)
    (hsz : Nat.beq l.length (l' fun _ => 0).length = true := by rfl) (hF : merge ds 0 l (l' fun _ => 0) = (l' fun _ => 0) := by rfl) :
    (Code.seq (Code.region id L.toArray draw) y).wp Try.prog Q (ac l) W :=
  rqc b.length _ _ _ _ _ ds vs hsteps (fun γ w' h1 h2 h3 => hQ γ w' h1 (fun i h => h2 i (Nat.le_of_ble_eq_true h)) (fun i j h h' => h3 i j (Nat.le_of_ble_eq_true h) (Nat.le_of_ble_eq_true h')) (below_then HB h1.out)) _hl hm hp hsz hF
theorem rh1 {L : List Oper} {l : List Value} {l' : (Nat → Nat) → List Value} (HB : Below w0.heap.size w0 W) (T0 a0 : Nat) (X0 : List Seg) (ds : List Tmp) (vs : (Nat → Nat) → List Value)
    (hsteps : GSteps Try.prog L.toArray (fun γ => ac (l' γ)) (ManyJ W 1 (fun _ => T0) (fun _ => a0) (fun _ => a0) (fun _ => segs X0) (fun _ => segs X0)) 0 L)
    (hQ : ∀ (γ : Nat → Nat) (w' : World), Bel W w' → SB T0 w' (γ 0) X0 → W.heap.size ≤ γ 0 → Below w0.heap.size w0 w' → y.wp Try.prog Q (ac (l' γ)) w')
    (_hl : ∀ γ, setL l ds (vs γ) = l' γ := by intro γ; dsimp only [setL, List.set_cons_zero, List.set_cons_succ] <;> rfl)
    (hm : (draw = true ∧ Try.prog.follows .mixedOrders = true) ∨ (draw = false ∧ Region.linearise .any L.toArray 0 = List.range L.toArray.size) := by first | exact .inr ⟨rfl, by kernel_rfl⟩ | exact .inl ⟨rfl, by kernel_rfl⟩)
    (hp : (planOk L.toArray && Region.noSelect L.toArray && (ds.all fun d => L.toArray.any fun o => o.dst == some d) && ((List.range 1).all fun i => Nat.blt ((fun _ => a0) i) L.length && Nat.blt ((fun _ => a0) i) L.length)) = true := by kernel_rfl)
    (hsz : Nat.beq l.length (l' fun _ => 0).length = true := by rfl) (hF : merge ds 0 l (l' fun _ => 0) = (l' fun _ => 0) := by rfl) :
    (Code.seq (Code.region id L.toArray draw) y).wp Try.prog Q (ac l) W :=
  rqc 1 _ _ _ _ _ ds vs hsteps (fun γ w' h1 h2 _ => hQ γ w' h1 (h2 0 (by decide)).2 (h2 0 (by decide)).1 (below_then HB h1.out)) _hl hm hp hsz hF
theorem rh2 {L : List Oper} {l : List Value} {l' : (Nat → Nat) → List Value} (HB : Below w0.heap.size w0 W) (T0 a0 : Nat) (X0 : List Seg) (T1 a1 : Nat) (X1 : List Seg) (ds : List Tmp) (vs : (Nat → Nat) → List Value)
    (hsteps : GSteps Try.prog L.toArray (fun γ => ac (l' γ)) (ManyJ W 2 (fun j_ => match j_ with | 0 => T0 | _ => T1) (fun j_ => match j_ with | 0 => a0 | _ => a1) (fun j_ => match j_ with | 0 => a0 | _ => a1) (fun j_ => match j_ with | 0 => segs X0 | _ => segs X1) (fun j_ => match j_ with | 0 => segs X0 | _ => segs X1)) 0 L)
    (hQ : ∀ (γ : Nat → Nat) (w' : World), Bel W w' → SB T0 w' (γ 0) X0 → SB T1 w' (γ 1) X1 → W.heap.size ≤ γ 0 → W.heap.size ≤ γ 1 → (∀ i j, i < 2 → j < 2 → i ≠ j → γ i ≠ γ j) → Below w0.heap.size w0 w' → y.wp Try.prog Q (ac (l' γ)) w')
    (_hl : ∀ γ, setL l ds (vs γ) = l' γ := by intro γ; dsimp only [setL, List.set_cons_zero, List.set_cons_succ] <;> rfl)
    (hm : (draw = true ∧ Try.prog.follows .mixedOrders = true) ∨ (draw = false ∧ Region.linearise .any L.toArray 0 = List.range L.toArray.size) := by first | exact .inr ⟨rfl, by kernel_rfl⟩ | exact .inl ⟨rfl, by kernel_rfl⟩)
    (hp : (planOk L.toArray && Region.noSelect L.toArray && (ds.all fun d => L.toArray.any fun o => o.dst == some d) && ((List.range 2).all fun i => Nat.blt ((fun j_ => match j_ with | 0 => a0 | _ => a1) i) L.length && Nat.blt ((fun j_ => match j_ with | 0 => a0 | _ => a1) i) L.length)) = true := by kernel_rfl)
    (hsz : Nat.beq l.length (l' fun _ => 0).length = true := by rfl) (hF : merge ds 0 l (l' fun _ => 0) = (l' fun _ => 0) := by rfl) :
    (Code.seq (Code.region id L.toArray draw) y).wp Try.prog Q (ac l) W :=
  rqc 2 _ _ _ _ _ ds vs hsteps (fun γ w' h1 h2 h3 => hQ γ w' h1 (h2 0 (by decide)).2 (h2 1 (by decide)).2 (h2 0 (by decide)).1 (h2 1 (by decide)).1 h3 (below_then HB h1.out)) _hl hm hp hsz hF
theorem rh3 {L : List Oper} {l : List Value} {l' : (Nat → Nat) → List Value} (HB : Below w0.heap.size w0 W) (T0 a0 : Nat) (X0 : List Seg) (T1 a1 : Nat) (X1 : List Seg) (T2 a2 : Nat) (X2 : List Seg) (ds : List Tmp) (vs : (Nat → Nat) → List Value)
    (hsteps : GSteps Try.prog L.toArray (fun γ => ac (l' γ)) (ManyJ W 3 (fun j_ => match j_ with | 0 => T0 | 1 => T1 | _ => T2) (fun j_ => match j_ with | 0 => a0 | 1 => a1 | _ => a2) (fun j_ => match j_ with | 0 => a0 | 1 => a1 | _ => a2) (fun j_ => match j_ with | 0 => segs X0 | 1 => segs X1 | _ => segs X2) (fun j_ => match j_ with | 0 => segs X0 | 1 => segs X1 | _ => segs X2)) 0 L)
    (hQ : ∀ (γ : Nat → Nat) (w' : World), Bel W w' → SB T0 w' (γ 0) X0 → SB T1 w' (γ 1) X1 → SB T2 w' (γ 2) X2 → W.heap.size ≤ γ 0 → W.heap.size ≤ γ 1 → W.heap.size ≤ γ 2 → (∀ i j, i < 3 → j < 3 → i ≠ j → γ i ≠ γ j) → Below w0.heap.size w0 w' → y.wp Try.prog Q (ac (l' γ)) w')
    (_hl : ∀ γ, setL l ds (vs γ) = l' γ := by intro γ; dsimp only [setL, List.set_cons_zero, List.set_cons_succ] <;> rfl)
    (hm : (draw = true ∧ Try.prog.follows .mixedOrders = true) ∨ (draw = false ∧ Region.linearise .any L.toArray 0 = List.range L.toArray.size) := by first | exact .inr ⟨rfl, by kernel_rfl⟩ | exact .inl ⟨rfl, by kernel_rfl⟩)
    (hp : (planOk L.toArray && Region.noSelect L.toArray && (ds.all fun d => L.toArray.any fun o => o.dst == some d) && ((List.range 3).all fun i => Nat.blt ((fun j_ => match j_ with | 0 => a0 | 1 => a1 | _ => a2) i) L.length && Nat.blt ((fun j_ => match j_ with | 0 => a0 | 1 => a1 | _ => a2) i) L.length)) = true := by kernel_rfl)
    (hsz : Nat.beq l.length (l' fun _ => 0).length = true := by rfl) (hF : merge ds 0 l (l' fun _ => 0) = (l' fun _ => 0) := by rfl) :
    (Code.seq (Code.region id L.toArray draw) y).wp Try.prog Q (ac l) W :=
  rqc 3 _ _ _ _ _ ds vs hsteps (fun γ w' h1 h2 h3 => hQ γ w' h1 (h2 0 (by decide)).2 (h2 1 (by decide)).2 (h2 2 (by decide)).2 (h2 0 (by decide)).1 (h2 1 (by decide)).1 (h2 2 (by decide)).1 h3 (below_then HB h1.out)) _hl hm hp hsz hF
abbrev bs (T a : Nat) (X : List Seg) : BK := (T, a, a, X, X)
variable {d : Option Tmp} {x yy : Operand} {ty : TypeId} {pos : String} {after : Array Edge} {gd : Option (Nat × Bool)} {tt ty2 : TypeId}
theorem stpk {f : FuncId} {q : List Operand} {tys : Array TypeId} {vs : List Value} (hc : ∀ (args : Array Value) (w : World), (callFunc f args).run Try.prog w = .ok (.enter f args) w) (hC : ∀ w, Bel W w → Calls Try.prog f vs.toArray w (Is v w)) (hr : GSteps Try.prog ops F (ManyJ W m T al st zs xs) (k + 1) rest)
    (hx : ∀ γ, (F γ).eval x = .func (.func f) #[] #[] := by exact fun _ => rfl) (hq : ∀ γ, q.map (F γ).eval = vs := by exact fun _ => rfl)
    (hv : ∀ γ, got (F γ) d = v := by exact fun _ => rfl) (hok : ∀ γ, stepOk ops (F γ) ⟨d, .call ⟨.value x, q.toArray, tys⟩, ty, pos, after, gd⟩ m al st k = true := by exact fun _ => rfl) : GSteps Try.prog ops F (ManyJ W m T al st zs xs) k (⟨d, .call ⟨.value x, q.toArray, tys⟩, ty, pos, after, gd⟩ :: rest) :=
  stpc v (fun γ _ => ex_call (hx γ) hc (hq γ)) hC hr hv hok
theorem latk {f : FuncId} {q : List Operand} {tys : Array TypeId} {vs : List Value} (hc : ∀ (args : Array Value) (w : World), (callFunc f args).run Try.prog w = .ok (.enter f args) w) (hC : ∀ w, Bel W w → Calls Try.prog f vs.toArray w (Is v w)) (hr : GSteps Try.prog ops F (LateJ (ManyJ W m T al st zs xs) s g p ys) (k + 1) rest)
    (hx : ∀ γ, (F γ).eval x = .func (.func f) #[] #[] := by exact fun _ => rfl) (hq : ∀ γ, q.map (F γ).eval = vs := by exact fun _ => rfl)
    (hv : ∀ γ, got (F γ) d = v := by exact fun _ => rfl) (hok : ∀ γ, stepOk ops (F γ) ⟨d, .call ⟨.value x, q.toArray, tys⟩, ty, pos, after, gd⟩ m al st k = true := by exact fun _ => rfl) (hl : lateOk ops s k = true := by kernel_rfl) : GSteps Try.prog ops F (LateJ (ManyJ W m T al st zs xs) s g p ys) k (⟨d, .call ⟨.value x, q.toArray, tys⟩, ty, pos, after, gd⟩ :: rest) :=
  latc v (fun γ _ => ex_call (hx γ) hc (hq γ)) hC hr hv hok hl
theorem stpl {g o n : Nat} {l : List Seg} {mm : List Nat} (i j : Nat) (hf : Flat tt n) (h : SB ty2 W g l) (hr : GSteps Try.prog ops F (ManyJ W m T al st zs xs) (k + 1) rest)
    (hx : ∀ γ, (F γ).eval x = .pointer (some ⟨g, o, none⟩) := by exact fun _ => rfl) (hv : ∀ γ, got (F γ) d = nv 6 mm := by exact fun _ => rfl) (hn : Nat.beq (6 * mm.length) n = true := by rfl) (ho : szB (l.take i) o = true := by rfl) (hm : (l.drop i).take j = mm.map (Seg.n 6) := by rfl)
    (hok : ∀ γ, stepOk ops (F γ) ⟨d, .load tt x, ty, pos, after, gd⟩ m al st k = true := by exact fun _ => rfl) : GSteps Try.prog ops F (ManyJ W m T al st zs xs) k (⟨d, .load tt x, ty, pos, after, gd⟩ :: rest) :=
  stpv (fun γ _ hb => by rw [hv γ]; exact ex_loadsn i j hf hn (hx γ) (h.keep hb.out) ho hm) hr hok
theorem latl {g' o n : Nat} {l : List Seg} {mm : List Nat} (i j : Nat) (hf : Flat tt n) (h : SB ty2 W g' l) (hr : GSteps Try.prog ops F (LateJ (ManyJ W m T al st zs xs) s g p ys) (k + 1) rest)
    (hx : ∀ γ, (F γ).eval x = .pointer (some ⟨g', o, none⟩) := by exact fun _ => rfl) (hv : ∀ γ, got (F γ) d = nv 6 mm := by exact fun _ => rfl) (hn : Nat.beq (6 * mm.length) n = true := by rfl) (ho : szB (l.take i) o = true := by rfl) (hm : (l.drop i).take j = mm.map (Seg.n 6) := by rfl)
    (hok : ∀ γ, stepOk ops (F γ) ⟨d, .load tt x, ty, pos, after, gd⟩ m al st k = true := by exact fun _ => rfl) (hl : lateOk ops s k = true := by kernel_rfl) : GSteps Try.prog ops F (LateJ (ManyJ W m T al st zs xs) s g p ys) k (⟨d, .load tt x, ty, pos, after, gd⟩ :: rest) :=
  latv (fun γ _ hb => by rw [hv γ]; exact ex_loadsn i j hf hn (hx γ) (h.keep hb.out) ho hm) hr hok hl
theorem lato {o n : Nat} {l M : List Seg} {vv : Value} (i j : Nat) (hz : ∀ w, (Go.sizeOf tt).run Try.prog w = .ok n w) (hc : vv.cells = (segs M).toArray) (h : SB ty2 W g l) (hr : GSteps Try.prog ops F (LateJ (ManyJ W m T al st zs xs) k g o (segs M)) (k + 1) rest)
    (hx : ∀ γ, (F γ).eval x = .pointer (some ⟨g, o, none⟩) := by exact fun _ => rfl) (hy : ∀ γ, (F γ).eval yy = vv := by exact fun _ => rfl) (hn : szB M n = true := by rfl) (ho : szB (l.take i) o = true := by rfl) (hm : szS ((l.drop i).take j) M = true := by rfl)
    (hd : d = none := by rfl) (hw : ∀ γ, Region.wanted ⟨d, .store tt x yy, ty, pos, after, gd⟩ (yielded ops (F γ).tmps) = true := by exact fun _ => rfl) (hk : noneAt m al st k = true := by rfl) : GSteps Try.prog ops F (LateJ (ManyJ W m T al st zs xs) k g o (segs M)) k (⟨d, .store tt x yy, ty, pos, after, gd⟩ :: rest) :=
  latw (fun γ _ hb => ex_stores i j hz hn (hx γ) (hy γ) hc (h.keep hb.out) ho hm) hr hd hw hk
theorem stpo {n : Nat} {l M : List Seg} {vv : Value} (b i j : Nat) (hz : ∀ w, (Go.sizeOf tt).run Try.prog w = .ok n w) (hc : vv.cells = (segs M).toArray) (hr : GSteps Try.prog ops F (ManyJ W m T al st zs xs) (k + 1) rest)
    (hzs : zs b = segs l := by rfl) (hxs : xs b = segs M := by rfl) (hle : szS M l = true := by rfl) (hx : ∀ γ, (F γ).eval x = .pointer (some ⟨γ b, 0, none⟩) := by exact fun _ => rfl) (hy : ∀ γ, (F γ).eval yy = vv := by exact fun _ => rfl) (hn : szB M n = true := by rfl) (ho : szB (l.take i) 0 = true := by rfl) (hm : szS ((l.drop i).take j) M = true := by rfl)
    (him : Nat.blt b m = true := by rfl) (hd : d = none := by rfl) (hw : ∀ γ, Region.wanted ⟨d, .store tt x yy, ty, pos, after, gd⟩ (yielded ops (F γ).tmps) = true := by exact fun _ => rfl) (hk : writeAt m al st b k = true := by rfl) (hq : ops[k]? = some ⟨d, .store tt x yy, ty, pos, after, gd⟩ := by rfl) (w4 : waitsFor ops k (al b) = true := by kernel_rfl) : GSteps Try.prog ops F (ManyJ W m T al st zs xs) k (⟨d, .store tt x yy, ty, pos, after, gd⟩ :: rest) :=
  stpw b (by rw [hzs, hxs]; exact len_segs hle) (fun γ w h => by rw [hxs]; rw [hzs] at h; exact ex_stores i j hz hn (hx γ) (hy γ) hc h ho hm) hr him hd hw hk hq w4
theorem latq {o n : Nat} {l M : List Seg} {vv : Value} (i j : Nat) (hz : ∀ w, (Go.sizeOf tt).run Try.prog w = .ok n w) (h : SB ty2 W g l) (hr : GSteps Try.prog ops F (LateJ (ManyJ W m T al st zs xs) k g o (segs M)) (k + 1) rest)
    (hx : ∀ γ, (F γ).eval x = .pointer (some ⟨g, o, none⟩) := by exact fun _ => rfl) (hy : ∀ γ, (F γ).eval yy = vv := by exact fun _ => rfl) (hc : vv.cells = (segs M).toArray := by rfl) (hn : szB M n = true := by rfl) (ho : szB (l.take i) o = true := by rfl) (hm : szS ((l.drop i).take j) M = true := by rfl)
    (hd : d = none := by rfl) (hw : ∀ γ, Region.wanted ⟨d, .store tt x yy, ty, pos, after, gd⟩ (yielded ops (F γ).tmps) = true := by exact fun _ => rfl) (hk : noneAt m al st k = true := by rfl) : GSteps Try.prog ops F (LateJ (ManyJ W m T al st zs xs) k g o (segs M)) k (⟨d, .store tt x yy, ty, pos, after, gd⟩ :: rest) :=
  latw (fun γ _ hb => ex_stores i j hz hn (hx γ) (hy γ) hc (h.keep hb.out) ho hm) hr hd hw hk
theorem stpq {n : Nat} {l M : List Seg} {vv : Value} (b i j : Nat) (hz : ∀ w, (Go.sizeOf tt).run Try.prog w = .ok n w) (hr : GSteps Try.prog ops F (ManyJ W m T al st zs xs) (k + 1) rest)
    (hzs : zs b = segs l := by rfl) (hxs : xs b = segs M := by rfl) (hle : szS M l = true := by rfl) (hx : ∀ γ, (F γ).eval x = .pointer (some ⟨γ b, 0, none⟩) := by exact fun _ => rfl) (hy : ∀ γ, (F γ).eval yy = vv := by exact fun _ => rfl) (hc : vv.cells = (segs M).toArray := by rfl) (hn : szB M n = true := by rfl) (ho : szB (l.take i) 0 = true := by rfl) (hm : szS ((l.drop i).take j) M = true := by rfl)
    (him : Nat.blt b m = true := by rfl) (hd : d = none := by rfl) (hw : ∀ γ, Region.wanted ⟨d, .store tt x yy, ty, pos, after, gd⟩ (yielded ops (F γ).tmps) = true := by exact fun _ => rfl) (hk : writeAt m al st b k = true := by rfl) (hq : ops[k]? = some ⟨d, .store tt x yy, ty, pos, after, gd⟩ := by rfl) (w4 : waitsFor ops k (al b) = true := by kernel_rfl) : GSteps Try.prog ops F (ManyJ W m T al st zs xs) k (⟨d, .store tt x yy, ty, pos, after, gd⟩ :: rest) :=
  stpw b (by rw [hzs, hxs]; exact len_segs hle) (fun γ w h => by rw [hxs]; rw [hzs] at h; exact ex_stores i j hz hn (hx γ) (hy γ) hc h ho hm) hr him hd hw hk hq w4
end
section
variable {ops : Array Oper} {rest : List Oper} {o : Oper} {l l' : List Value} {w : World} {Q : Exit → Act → World → Prop} {d : Tmp}
theorem sk1 {f : FuncId} {vs : Array Value} {R : World → Prop} (v : Value) (he : (execOp (ac l).eval o).run Try.prog w = .ok (.enter f vs) w) (hC : Calls Try.prog f vs w fun e w' => e = .returned v ∧ R w') (hn : ∀ w', R w' → wpList Try.prog ops Q rest (ac l') w') (hd : o.dst = some d := by rfl) (hl : l.set d v = l' := by dsimp only [List.set_cons_zero, List.set_cons_succ] <;> rfl) (hw : Region.wanted o (yielded ops (ac l).tmps) = true := by rfl) : wpList Try.prog ops Q (o :: rest) (ac l) w := by
  refine sq_calls (a' := ac l') ?_ hw he hC hn
  rw [hd, ← hl]
  simp [Act.put]
theorem ss1 {g p : Nat} {m : List Seg} (h : (execOp (ac l).eval o).run Try.prog w = .ok .skip (w.setCells g p (segs m))) (hn : ∀ w', St w w' g p (segs m) → wpList Try.prog ops Q rest (ac l) w') (hd : o.dst = none := by rfl) (hw : Region.wanted o (yielded ops (ac l).tmps) = true := by rfl) : wpList Try.prog ops Q (o :: rest) (ac l) w := by
  refine sq_stored (a' := ac l) hw ?_ h hn
  rw [hd]
  rfl
end
end
end
end Go.Proofs.Ytkkmekdhejhapaa
