/- What is proved here: full.Pow answers the power: twelve numbers that stand for S12.pow of what the argument stands for. -/
import Derived.Test.YtodabjelnllkgaaFullBits
import Derived.Test.YtodabjelnllkgaaFull2
import Derived.Test.YtodabjelnllkgaaPow
namespace Go.Proofs.Ytodabjelnllkgaa
open Go.RowKit Go.Shelf

attribute [local go_sem] Oper.semAt_some

/-! ### steps of a region inside a round of a range over a function -/
section
variable {ops : Array Oper} {rest : List Oper} {Q : Exit → Act → World → Prop} {a a' : Act} {w : World} {o : Oper} {v : Value} {l n : Nat}

theorem si_val (ha : a.put o.dst v = a') (hw : Region.wanted o (yielded ops a.tmps) = true) (ho : ∀ c, o.op ≠ .defer c) (h : (execOp a.eval o).run Try.prog w = .ok (.value v) w)
    (hn : wpListIn (Fence.wide.inRound l) n Try.prog ops Q rest a' w) : wpListIn (Fence.wide.inRound l) n Try.prog ops Q (o :: rest) a w := by
  subst ha
  refine wpListIn_step fun K hK => ?_
  rw [if_pos hw]
  refine ⟨fun _ _ => trivial, ?_⟩
  rw [show Oper.semAt (Fence.wide.inRound l).round a.eval o = execOp a.eval o from Oper.semAt_some l _ _ ho, h]
  exact hK _ _ hn

theorem si_call {f : FuncId} {vs : Array Value} (ha : a.put o.dst v = a') (hw : Region.wanted o (yielded ops a.tmps) = true) (ho : ∀ c, o.op ≠ .defer c) (he : (execOp a.eval o).run Try.prog w = .ok (.enter f vs) w) (hC : Calls Try.prog f vs w (Is v w))
    (hn : ∀ w', Below w.heap.size w w' → wpListIn (Fence.wide.inRound l) n Try.prog ops Q rest a' w') : wpListIn (Fence.wide.inRound l) n Try.prog ops Q (o :: rest) a w := by
  subst ha
  refine wpListIn_step fun K hK => ?_
  rw [if_pos hw]
  refine ⟨fun _ _ => trivial, ?_⟩
  rw [show Oper.semAt (Fence.wide.inRound l).round a.eval o = execOp a.eval o from Oper.semAt_some l _ _ ho, he]
  refine ⟨fun h => absurd h (by simp [Fence.wide]), (CallsIn.inRound l (callsIn_wide.2 hC)).mono ?_⟩
  rintro e w' ⟨rfl, hb⟩
  exact hK _ _ (hn w' hb)

theorem but_setCells {b : Nat} : ∀ (vs : List Value) {w w0 : World} (o : Nat), w0.grownBy w (some b) → w0.grownBy (w.setCells b o vs) (some b)
  | [], _, _, _, h => h
  | v :: vs, w, _, o, h => but_setCells vs (o + 1) (but_same h ⟨rfl, rfl, rfl, (KeepsWalks.setCell w _ v).size, fun k _ hk => Below.heap_setCell _ _ _ k (fun e => hk (by rw [e]))⟩)

theorem but_of {W W' : World} {r : Option Nat} (h : Below W.heap.size W W') : W.grownBy W' r := ⟨h.os, h.tape, h.output, h.size, fun k hk _ => h.block k hk⟩

theorem si_store {t : TypeId} {g : Nat} {xs ys : List Nat} (ha : a.put o.dst undef = a') (hw : Region.wanted o (yielded ops a.tmps) = true) (ho : ∀ c, o.op ≠ .defer c) (h : Arr t w g xs) (hl : ys.length = xs.length) (he : (execOp a.eval o).run Try.prog w = .ok .skip (w.setCells g 0 (cellsOf ys)))
    (hn : ∀ w', Arr t w' g ys → w.grownBy w' (some g) → wpListIn (Fence.wide.inRound l) n Try.prog ops Q rest a' w') : wpListIn (Fence.wide.inRound l) n Try.prog ops Q (o :: rest) a w := by
  subst ha
  refine wpListIn_step fun K hK => ?_
  rw [if_pos hw]
  refine ⟨fun _ _ => trivial, ?_⟩
  rw [show Oper.semAt (Fence.wide.inRound l).round a.eval o = execOp a.eval o from Oper.semAt_some l _ _ ho, he]
  exact hK _ _ (hn _ (h.stored hl) (but_setCells _ 0 (but_refl w _)))

theorem sq_storeG {t : TypeId} {g : Nat} {xs ys : List Nat} (ha : a.put o.dst undef = a') (hw : Region.wanted o (yielded ops a.tmps) = true) (h : Arr t w g xs) (hl : ys.length = xs.length) (he : (execOp a.eval o).run Try.prog w = .ok .skip (w.setCells g 0 (cellsOf ys)))
    (hn : ∀ w', Arr t w' g ys → w.grownBy w' (some g) → wpList Try.prog ops Q rest a' w') : wpList Try.prog ops Q (o :: rest) a w := by
  subst ha
  refine wpList_step fun K hK => ?_
  rw [if_pos hw]
  unfold Oper.wp
  rw [he]
  exact hK _ _ (hn _ (h.stored hl) (but_setCells _ 0 (but_refl w _)))

theorem sq_callP {f : FuncId} {vs : Array Value} {R : Value → World → Prop} (hw : Region.wanted o (yielded ops a.tmps) = true) (he : (execOp a.eval o).run Try.prog w = .ok (.enter f vs) w) (hC : Calls Try.prog f vs w fun e w' => ∃ v, e = .returned v ∧ R v w')
    (hn : ∀ v w', R v w' → wpList Try.prog ops Q rest (a.put o.dst v) w') : wpList Try.prog ops Q (o :: rest) a w := by
  refine wpList_step fun K hK => ?_
  rw [if_pos hw]
  unfold Oper.wp
  rw [he]
  show Calls _ _ _ _ _
  refine hC.mono ?_
  rintro e w' ⟨v, rfl, hb⟩
  exact hK _ _ (hn v w' hb)
end

theorem Arr.but {t : TypeId} {w w' : World} {g : Nat} {r : Option Nat} {xs : List Nat} (h : Arr t w g xs) (k : w.grownBy w' r) (hne : some g ≠ r) : Arr t w' g xs := (k.block g h.lt hne).trans h

theorem others_of {W W' : World} {g : Nat} (h : W.grownBy W' (some g)) {t : TypeId} {xs : List Nat} (hg : Arr t W g xs) : KeepsOthers W W' :=
  KeepsOthers.of_grownBy h (fun j o e ho => by cases e; rw [show W.heap[g]? = _ from hg] at ho; cases ho; rfl)

theorem numq_one {X : E12} {x : Nat} {pre : List Nat} (h : x = 1) : S12.pow X (numOf (pre ++ [x])) = E12.mul (E12.mul (S12.pow X (numOf pre)) (S12.pow X (numOf pre))) X := by
  rw [numOf_snoc, if_pos h, Nat.two_mul]
  show S12.mul (S12.pow X (numOf pre + numOf pre)) X = _
  rw [Semi.pow_add]
  rfl
theorem numq_none {X : E12} {x : Nat} {pre : List Nat} (h : ¬ x = 1) : S12.pow X (numOf (pre ++ [x])) = E12.mul (S12.pow X (numOf pre)) (S12.pow X (numOf pre)) := by
  rw [numOf_snoc, if_neg h, Nat.add_zero, Nat.two_mul, Semi.pow_add]
  rfl

theorem fullBits_any (v : Nat) (w : World) :
    Calls Try.prog 36 #[nv 6 [v]] w fun e w' => ∃ u, e = .returned u ∧ ∃ g, u = .func (.func 57) #[] #[.pointer (some ⟨g, 0, none⟩)] ∧ Arr 24 w' g (rows 6 [v]) ∧ w.heap.size ≤ g ∧ Below w.heap.size w w' := by
  go_enter Try.func36, Try.ntmps36
  refine seq_lit ?_
  refine sq_new (a' := ⟨#[nv 6 [v], .pointer (some ⟨w.heap.size, 0, none⟩), undef, undef], []⟩) (xs := rows 6 [v]) rfl rfl (ex_boxn (K := 6) (l := [v]) rfl) ?_
  intro w1 N1 hb1
  refine sq_val (a' := ⟨#[nv 6 [v], .pointer (some ⟨w.heap.size, 0, none⟩), .nilFunc, undef], []⟩) (v := .nilFunc) rfl rfl (ex_assign _) ?_
  refine seq_nil ?_
  refine seq_lit ?_
  refine sq_val (a' := ⟨#[nv 6 [v], .pointer (some ⟨w.heap.size, 0, none⟩), .nilFunc, .func (.func 57) #[] #[.pointer (some ⟨w.heap.size, 0, none⟩)]], []⟩) (v := .func (.func 57) #[] #[.pointer (some ⟨w.heap.size, 0, none⟩)]) rfl rfl (by simp [execOp, Instr.makeFunc, Act.eval]) ?_
  refine sq_val (a' := ⟨#[nv 6 [v], .pointer (some ⟨w.heap.size, 0, none⟩), .func (.func 57) #[] #[.pointer (some ⟨w.heap.size, 0, none⟩)], .func (.func 57) #[] #[.pointer (some ⟨w.heap.size, 0, none⟩)]], []⟩) (v := .func (.func 57) #[] #[.pointer (some ⟨w.heap.size, 0, none⟩)]) rfl rfl (ex_assign _) ?_
  refine seq_nil ?_
  exact wp_ret (bodyPost_ret (ret_tmp Try.results36 rfl) rfl ⟨_, rfl, _, rfl, N1, Nat.le_refl _, hb1⟩)

theorem inblock_n' {id : Nat} {Q : Exit → Act → World → Prop} {a : Act} {w : World} (h : Q .normal a w) : Exit.inBlock id Q .normal a w := h

theorem rep12_uniq {a b : N12} {X : E12} (h : QP a X) (k : QP b X) : a = b := by
  obtain ⟨a0, a1, a2, a3, a4, a5, a6, a7, a8, a9, a10, a11⟩ := a
  obtain ⟨b0, b1, b2, b3, b4, b5, b6, b7, b8, b9, b10, b11⟩ := b
  have e (i j : Nat) (z : Int) (hi : i < pN) (hj : j < pN) (ri : Rep i z) (rj : Rep j z) : i = j := rep_uniq hi hj ri rj rfl
  rw [N12.mk.injEq]
  exact ⟨e _ _ _ h.b0 k.b0 h.r0 k.r0, e _ _ _ h.b1 k.b1 h.r1 k.r1, e _ _ _ h.b2 k.b2 h.r2 k.r2, e _ _ _ h.b3 k.b3 h.r3 k.r3, e _ _ _ h.b4 k.b4 h.r4 k.r4, e _ _ _ h.b5 k.b5 h.r5 k.r5, e _ _ _ h.b6 k.b6 h.r6 k.r6, e _ _ _ h.b7 k.b7 h.r7 k.r7, e _ _ _ h.b8 k.b8 h.r8 k.r8, e _ _ _ h.b9 k.b9 h.r9 k.r9, e _ _ _ h.b10 k.b10 h.r10 k.r10, e _ _ _ h.b11 k.b11 h.r11 k.r11⟩

set_option maxRecDepth 20000 in
set_option maxHeartbeats 4000000 in
theorem fullPow_q {a u : N12} {X : E12} {v : Nat} (ha : QB a X) (hv : v < fpB) (hu : QP u (S12.pow X v)) (w : World) :
    Calls Try.prog 19 #[nv 6 a.l, nv 6 [v]] w (Is (nv 6 u.l) w) := by
  have hone : QP ⟨1, 0, 0, 0, 0, 0, 0, 0, 0, 0, 0, 0⟩ (S12.pow X (numOf [])) := qp_one
  refine (callsIn_wide (n := 8)).1 (callsIn_of_wp_marks Try.func19 rfl trivial (wpIn_wide.2 ?_) rfl)
  simp only [Try.ntmps19, List.size_toArray, List.length_cons, List.length_nil, Nat.reduceAdd, Nat.reduceSub, Array.replicate_succ, Array.replicate_zero, List.push_toArray, List.append_toArray, List.nil_append, List.cons_append]
  refine seq_lit ?_
  refine sq_new (a' := ⟨#[nv 6 a.l, nv 6 [v], .pointer (some ⟨w.heap.size, 0, none⟩), undef, undef, undef, undef, undef, undef, undef, undef, undef, undef, undef, undef, undef, undef, undef, undef, undef], []⟩) (xs := rows 6 a.l) rfl rfl (ex_boxn (K := 6) (l := a.l) rfl) ?_
  intro w1 N1 hb1
  refine sq_new (a' := ⟨#[nv 6 a.l, nv 6 [v], .pointer (some ⟨w.heap.size, 0, none⟩), .pointer (some ⟨w1.heap.size, 0, none⟩), undef, undef, undef, undef, undef, undef, undef, undef, undef, undef, undef, undef, undef, undef, undef, undef], []⟩) (xs := rows 6 [v]) rfl rfl (ex_boxn (K := 6) (l := [v]) rfl) ?_
  intro w2 N2 hb2
  refine sq_new (a' := ⟨#[nv 6 a.l, nv 6 [v], .pointer (some ⟨w.heap.size, 0, none⟩), .pointer (some ⟨w1.heap.size, 0, none⟩), .pointer (some ⟨w2.heap.size, 0, none⟩), undef, undef, undef, undef, undef, undef, undef, undef, undef, undef, undef, undef, undef, undef, undef], []⟩) (xs := rows 6 [0, 0, 0, 0, 0, 0, 0, 0, 0, 0, 0, 0]) rfl rfl (ex_alloc zFp12) ?_
  intro w3 N3 hb3
  refine seq_nil ?_
  refine seq_lit ?_
  refine sq_call (a' := ⟨#[nv 6 a.l, nv 6 [v], .pointer (some ⟨w.heap.size, 0, none⟩), .pointer (some ⟨w1.heap.size, 0, none⟩), .pointer (some ⟨w2.heap.size, 0, none⟩), undef, undef, nv 6 [1, 0, 0, 0, 0, 0, 0, 0, 0, 0, 0, 0], undef, undef, undef, undef, undef, undef, undef, undef, undef, undef, undef, undef], []⟩) (v := nv 6 [1, 0, 0, 0, 0, 0, 0, 0, 0, 0, 0, 0]) rfl rfl (ex_call (vs := []) rfl Try.call16 rfl) (fullOne_w _) ?_
  intro w4 hb4
  refine sq_new (a' := ⟨#[nv 6 a.l, nv 6 [v], .pointer (some ⟨w.heap.size, 0, none⟩), .pointer (some ⟨w1.heap.size, 0, none⟩), .pointer (some ⟨w2.heap.size, 0, none⟩), .pointer (some ⟨w4.heap.size, 0, none⟩), undef, nv 6 [1, 0, 0, 0, 0, 0, 0, 0, 0, 0, 0, 0], undef, undef, undef, undef, undef, undef, undef, undef, undef, undef, undef, undef], []⟩) (xs := rows 6 [0, 0, 0, 0, 0, 0, 0, 0, 0, 0, 0, 0]) rfl rfl (ex_alloc zFp12) ?_
  intro w5 N5 hb5
  refine sq_store (a' := ⟨#[nv 6 a.l, nv 6 [v], .pointer (some ⟨w.heap.size, 0, none⟩), .pointer (some ⟨w1.heap.size, 0, none⟩), .pointer (some ⟨w2.heap.size, 0, none⟩), .pointer (some ⟨w4.heap.size, 0, none⟩), undef, nv 6 [1, 0, 0, 0, 0, 0, 0, 0, 0, 0, 0, 0], undef, undef, undef, undef, undef, undef, undef, undef, undef, undef, undef, undef], []⟩) (t := 30) (xs := rows 6 [0, 0, 0, 0, 0, 0, 0, 0, 0, 0, 0, 0]) (ys := rows 6 [1, 0, 0, 0, 0, 0, 0, 0, 0, 0, 0, 0]) rfl rfl N5 (len_rows rfl) (ex_storen (K := 6) (l := [0, 0, 0, 0, 0, 0, 0, 0, 0, 0, 0, 0]) (m := [1, 0, 0, 0, 0, 0, 0, 0, 0, 0, 0, 0]) flFp12 rfl rfl N5 rfl) ?_
  intro w6 N6 hst6 hoth6
  have HB4 := below_then (below_then (below_then hb1 hb2) hb3) hb4
  have HB6 := hst6 _ _ (below_then HB4 hb5) HB4.size
  have A1 := hoth6 _ _ _ (Nat.ne_of_lt (((N1.keep hb2).keep hb3).keep hb4).lt) ((((N1.keep hb2).keep hb3).keep hb4).keep hb5)
  have A2 := hoth6 _ _ _ (Nat.ne_of_lt ((N2.keep hb3).keep hb4).lt) (((N2.keep hb3).keep hb4).keep hb5)
  have A3 := hoth6 _ _ _ (Nat.ne_of_lt (N3.keep hb4).lt) ((N3.keep hb4).keep hb5)
  have n1 : w.heap.size ≠ w4.heap.size := Nat.ne_of_lt (((N1.keep hb2).keep hb3).keep hb4).lt
  have n3 : w2.heap.size ≠ w4.heap.size := Nat.ne_of_lt (N3.keep hb4).lt
  have le4 : w.heap.size ≤ w4.heap.size := HB4.size
  have le2 : w.heap.size ≤ w2.heap.size := (below_then hb1 hb2).size
  clear hst6 hoth6 N1 N2 N3 N5 hb1 hb2 hb3 hb4 hb5 HB4
  refine seq_nil ?_
  refine wp_seq ?_
  refine seq_lit ?_
  refine sq_val (a' := ⟨#[nv 6 a.l, nv 6 [v], .pointer (some ⟨w.heap.size, 0, none⟩), .pointer (some ⟨w1.heap.size, 0, none⟩), .pointer (some ⟨w2.heap.size, 0, none⟩), .pointer (some ⟨w4.heap.size, 0, none⟩), undef, nv 6 [1, 0, 0, 0, 0, 0, 0, 0, 0, 0, 0, 0], nv 6 [v], undef, undef, undef, undef, undef, undef, undef, undef, undef, undef, undef], []⟩) (v := nv 6 [v]) rfl rfl (ex_loadn (K := 6) (k := 0) (j := 1) (l := [v]) flFp rfl A2 rfl _ rfl) ?_
  refine sq_callP rfl (ex_call (vs := [nv 6 [v]]) rfl Try.call36 rfl) (fullBits_any v w6) ?_
  rintro _ w7 ⟨gE, rfl, AE, leE, hb7⟩
  refine seq_nil ?_
  refine wp_block ?_
  have B1 := A1.keep hb7
  have B3 := A3.keep hb7
  have B5 := N6.keep hb7
  have HB7 := below_then HB6 hb7
  have n5 : w4.heap.size ≠ gE := Nat.ne_of_lt (Nat.lt_of_lt_of_le N6.lt leE)
  clear A1 A2 A3 N6 HB6 hb7
  refine (wpIn_wide (n := 8)).1 ?_
  show Code.wpIn Fence.wide 8 Try.prog _ _ ⟨#[nv 6 a.l, nv 6 [v], .pointer (some ⟨w.heap.size, 0, none⟩), .pointer (some ⟨w1.heap.size, 0, none⟩), .pointer (some ⟨w2.heap.size, 0, none⟩), .pointer (some ⟨w4.heap.size, 0, none⟩), undef, nv 6 [1, 0, 0, 0, 0, 0, 0, 0, 0, 0, 0, 0], nv 6 [v], .func (.func 57) #[] #[.pointer (some ⟨gE, 0, none⟩)], undef, undef, undef, undef, undef, undef, undef, undef, undef, undef], []⟩ w7
  have HVE : Arr 24 w7 gE (row 6 v) := by rw [← rows_one]; exact AE
  refine wpIn_rangeFunc_ownF (F := Fence.wide) (n := 8) rfl (by omega) (gf := 57) (lb := #[.pointer (some ⟨gE, 0, none⟩)]) rfl trivial (enters_of Try.func57 (by kernel_rfl) rfl)
    (fullBits1_stops 7 (by omega) gE w.heap.size v w7 hv HVE.lt HB7.size HVE) keepsE_t (keepsE_b HB7.size HVE.lt) (Below.refl _ _) (fun _ => rfl)
    (fun pre W => (∃ z : N12, QP z (S12.pow X (numOf pre)) ∧ Arr 30 W w4.heap.size (rows 6 z.l)) ∧ Arr 30 W w.heap.size (rows 6 a.l) ∧ Arr 30 W w2.heap.size (rows 6 [0, 0, 0, 0, 0, 0, 0, 0, 0, 0, 0, 0]) ∧ w7.grownBy W (some w4.heap.size))
    (fun _ _ _ => False)
    (fun pre A B r hs hg hr => ?_)
    (fun _ _ _ _ _ hs _ _ => hs)
    ⟨⟨_, hone, B5⟩, B1, B3, but_refl _ _⟩
    (fun x => ⟨#[nv 6 a.l, nv 6 [v], .pointer (some ⟨w.heap.size, 0, none⟩), .pointer (some ⟨w1.heap.size, 0, none⟩), .pointer (some ⟨w2.heap.size, 0, none⟩), .pointer (some ⟨w4.heap.size, 0, none⟩), .int .u64 (x : Int), nv 6 [1, 0, 0, 0, 0, 0, 0, 0, 0, 0, 0, 0], nv 6 [v], .func (.func 57) #[] #[.pointer (some ⟨gE, 0, none⟩)], .int .u64 (x : Int), undef, undef, undef, undef, undef, undef, undef, undef, undef], []⟩) ?_ ?_ ?_ ?_
  · obtain ⟨⟨z, hz, h1⟩, h2, h3, h4⟩ := hs
    have far : ∀ g, g < w7.heap.size → some g ≠ r := fun g hg e => by have := (hr g e.symm).1; omega
    exact ⟨⟨z, hz, h1.but hg (far _ B5.lt)⟩, h2.but hg (far _ B1.lt), h3.but hg (far _ B3.lt), but_then h4 hg far⟩
  · intro l x W K hK
    gi_wp2
    exact hK
  · rintro l pre x W ⟨⟨z, hz, h1⟩, h2, h3, h4⟩ _
    refine wpIn_block ?_
    refine wpIn_seq (wpIn_region_lit ?_)
    refine si_val (a' := ⟨#[nv 6 a.l, nv 6 [v], .pointer (some ⟨w.heap.size, 0, none⟩), .pointer (some ⟨w1.heap.size, 0, none⟩), .pointer (some ⟨w2.heap.size, 0, none⟩), .pointer (some ⟨w4.heap.size, 0, none⟩), .int .u64 (x : Int), nv 6 [1, 0, 0, 0, 0, 0, 0, 0, 0, 0, 0, 0], nv 6 [v], .func (.func 57) #[] #[.pointer (some ⟨gE, 0, none⟩)], .int .u64 (x : Int), nv 6 z.l, undef, undef, undef, undef, undef, undef, undef, undef], []⟩) (v := nv 6 z.l) rfl rfl nofun (ex_loadn (K := 6) (k := 0) (j := 12) (l := z.l) flFp12 rfl h1 rfl _ rfl) ?_
    refine si_val (a' := ⟨#[nv 6 a.l, nv 6 [v], .pointer (some ⟨w.heap.size, 0, none⟩), .pointer (some ⟨w1.heap.size, 0, none⟩), .pointer (some ⟨w2.heap.size, 0, none⟩), .pointer (some ⟨w4.heap.size, 0, none⟩), .int .u64 (x : Int), nv 6 [1, 0, 0, 0, 0, 0, 0, 0, 0, 0, 0, 0], nv 6 [v], .func (.func 57) #[] #[.pointer (some ⟨gE, 0, none⟩)], .int .u64 (x : Int), nv 6 z.l, nv 6 z.l, undef, undef, undef, undef, undef, undef, undef], []⟩) (v := nv 6 z.l) rfl rfl nofun (ex_loadn (K := 6) (k := 0) (j := 12) (l := z.l) flFp12 rfl h1 rfl _ rfl) ?_
    obtain ⟨y, hy⟩ := qp_of (E12.mul (S12.pow X (numOf pre)) (S12.pow X (numOf pre)))
    refine si_call (a' := ⟨#[nv 6 a.l, nv 6 [v], .pointer (some ⟨w.heap.size, 0, none⟩), .pointer (some ⟨w1.heap.size, 0, none⟩), .pointer (some ⟨w2.heap.size, 0, none⟩), .pointer (some ⟨w4.heap.size, 0, none⟩), .int .u64 (x : Int), nv 6 [1, 0, 0, 0, 0, 0, 0, 0, 0, 0, 0, 0], nv 6 [v], .func (.func 57) #[] #[.pointer (some ⟨gE, 0, none⟩)], .int .u64 (x : Int), nv 6 z.l, nv 6 z.l, nv 6 y.l, undef, undef, undef, undef, undef, undef], []⟩) (v := nv 6 y.l) rfl rfl nofun (ex_call (vs := [nv 6 z.l, nv 6 z.l]) rfl Try.call15 rfl) (fullMul_q hz.toB hz.toB hy _) ?_
    intro W1 hc1
    have k1 := h1.keep hc1
    have k2 := h2.keep hc1
    have k3 := h3.keep hc1
    refine si_store (a' := ⟨#[nv 6 a.l, nv 6 [v], .pointer (some ⟨w.heap.size, 0, none⟩), .pointer (some ⟨w1.heap.size, 0, none⟩), .pointer (some ⟨w2.heap.size, 0, none⟩), .pointer (some ⟨w4.heap.size, 0, none⟩), .int .u64 (x : Int), nv 6 [1, 0, 0, 0, 0, 0, 0, 0, 0, 0, 0, 0], nv 6 [v], .func (.func 57) #[] #[.pointer (some ⟨gE, 0, none⟩)], .int .u64 (x : Int), nv 6 z.l, nv 6 z.l, nv 6 y.l, undef, undef, undef, undef, undef, undef], []⟩) (t := 30) (xs := rows 6 z.l) (ys := rows 6 y.l) rfl rfl nofun k1 (len_rows rfl) (ex_storen (K := 6) (l := z.l) (m := y.l) flFp12 rfl rfl k1 rfl) ?_
    intro W2 m1 hc2
    have m2 := k2.but hc2 (by simpa using n1)
    have m3 := k3.but hc2 (by simpa using n3)
    have g2 : W.grownBy W2 (some w4.heap.size) := but_same (but_of hc1) hc2
    refine wpListIn_nil ?_
    refine wpIn_seq (wpIn_region_lit ?_)
    refine si_val (a' := ⟨#[nv 6 a.l, nv 6 [v], .pointer (some ⟨w.heap.size, 0, none⟩), .pointer (some ⟨w1.heap.size, 0, none⟩), .pointer (some ⟨w2.heap.size, 0, none⟩), .pointer (some ⟨w4.heap.size, 0, none⟩), .int .u64 (x : Int), nv 6 [1, 0, 0, 0, 0, 0, 0, 0, 0, 0, 0, 0], nv 6 [v], .func (.func 57) #[] #[.pointer (some ⟨gE, 0, none⟩)], .int .u64 (x : Int), nv 6 z.l, nv 6 z.l, nv 6 y.l, .int .u64 (x : Int), undef, undef, undef, undef, undef], []⟩) (v := .int .u64 (x : Int)) rfl rfl nofun (ex_move _) ?_
    by_cases hx : x = 1
    · refine si_val (a' := ⟨#[nv 6 a.l, nv 6 [v], .pointer (some ⟨w.heap.size, 0, none⟩), .pointer (some ⟨w1.heap.size, 0, none⟩), .pointer (some ⟨w2.heap.size, 0, none⟩), .pointer (some ⟨w4.heap.size, 0, none⟩), .int .u64 (x : Int), nv 6 [1, 0, 0, 0, 0, 0, 0, 0, 0, 0, 0, 0], nv 6 [v], .func (.func 57) #[] #[.pointer (some ⟨gE, 0, none⟩)], .int .u64 (x : Int), nv 6 z.l, nv 6 z.l, nv 6 y.l, .int .u64 (x : Int), .bool true, undef, undef, undef, undef], []⟩) (v := .bool true) rfl rfl nofun (ex_eqi rfl rfl true (by simp; omega)) ?_
      refine wpListIn_nil ?_
      refine wpIn_cond_true rfl ?_
      refine wpIn_region_lit ?_
      refine si_val (a' := ⟨#[nv 6 a.l, nv 6 [v], .pointer (some ⟨w.heap.size, 0, none⟩), .pointer (some ⟨w1.heap.size, 0, none⟩), .pointer (some ⟨w2.heap.size, 0, none⟩), .pointer (some ⟨w4.heap.size, 0, none⟩), .int .u64 (x : Int), nv 6 [1, 0, 0, 0, 0, 0, 0, 0, 0, 0, 0, 0], nv 6 [v], .func (.func 57) #[] #[.pointer (some ⟨gE, 0, none⟩)], .int .u64 (x : Int), nv 6 z.l, nv 6 z.l, nv 6 y.l, .int .u64 (x : Int), .bool true, nv 6 y.l, undef, undef, undef], []⟩) (v := nv 6 y.l) rfl rfl nofun (ex_loadn (K := 6) (k := 0) (j := 12) (l := y.l) flFp12 rfl m1 rfl _ rfl) ?_
      refine si_val (a' := ⟨#[nv 6 a.l, nv 6 [v], .pointer (some ⟨w.heap.size, 0, none⟩), .pointer (some ⟨w1.heap.size, 0, none⟩), .pointer (some ⟨w2.heap.size, 0, none⟩), .pointer (some ⟨w4.heap.size, 0, none⟩), .int .u64 (x : Int), nv 6 [1, 0, 0, 0, 0, 0, 0, 0, 0, 0, 0, 0], nv 6 [v], .func (.func 57) #[] #[.pointer (some ⟨gE, 0, none⟩)], .int .u64 (x : Int), nv 6 z.l, nv 6 z.l, nv 6 y.l, .int .u64 (x : Int), .bool true, nv 6 y.l, nv 6 a.l, undef, undef], []⟩) (v := nv 6 a.l) rfl rfl nofun (ex_loadn (K := 6) (k := 0) (j := 12) (l := a.l) flFp12 rfl m2 rfl _ rfl) ?_
      obtain ⟨u, hu⟩ := qp_of (E12.mul (E12.mul (S12.pow X (numOf pre)) (S12.pow X (numOf pre))) X)
      refine si_call (a' := ⟨#[nv 6 a.l, nv 6 [v], .pointer (some ⟨w.heap.size, 0, none⟩), .pointer (some ⟨w1.heap.size, 0, none⟩), .pointer (some ⟨w2.heap.size, 0, none⟩), .pointer (some ⟨w4.heap.size, 0, none⟩), .int .u64 (x : Int), nv 6 [1, 0, 0, 0, 0, 0, 0, 0, 0, 0, 0, 0], nv 6 [v], .func (.func 57) #[] #[.pointer (some ⟨gE, 0, none⟩)], .int .u64 (x : Int), nv 6 z.l, nv 6 z.l, nv 6 y.l, .int .u64 (x : Int), .bool true, nv 6 y.l, nv 6 a.l, nv 6 u.l, undef], []⟩) (v := nv 6 u.l) rfl rfl nofun (ex_call (vs := [nv 6 y.l, nv 6 a.l]) rfl Try.call15 rfl) (fullMul_q hy.toB ha hu _) ?_
      intro W3 hc3
      have p1 := m1.keep hc3
      have p2 := m2.keep hc3
      have p3 := m3.keep hc3
      refine si_store (a' := ⟨#[nv 6 a.l, nv 6 [v], .pointer (some ⟨w.heap.size, 0, none⟩), .pointer (some ⟨w1.heap.size, 0, none⟩), .pointer (some ⟨w2.heap.size, 0, none⟩), .pointer (some ⟨w4.heap.size, 0, none⟩), .int .u64 (x : Int), nv 6 [1, 0, 0, 0, 0, 0, 0, 0, 0, 0, 0, 0], nv 6 [v], .func (.func 57) #[] #[.pointer (some ⟨gE, 0, none⟩)], .int .u64 (x : Int), nv 6 z.l, nv 6 z.l, nv 6 y.l, .int .u64 (x : Int), .bool true, nv 6 y.l, nv 6 a.l, nv 6 u.l, undef], []⟩) (t := 30) (xs := rows 6 y.l) (ys := rows 6 u.l) rfl rfl nofun p1 (len_rows rfl) (ex_storen (K := 6) (l := y.l) (m := u.l) flFp12 rfl rfl p1 rfl) ?_
      intro W4 q1 hc4
      have q2 := p2.but hc4 (by simpa using n1)
      have q3 := p3.but hc4 (by simpa using n3)
      have g4 : W.grownBy W4 (some w4.heap.size) := but_same (but_same g2 (but_of hc3)) hc4
      refine wpListIn_nil ?_
      have kb : KeepsE w.heap.size gE W W4 := ⟨(Below.refl _ _).grown g4 (Nat.le_trans HB7.size h4.size) (fun k e => by cases e; exact le4), g4.block gE (Nat.lt_of_lt_of_le HVE.lt h4.size) (by simpa using Ne.symm n5)⟩
      exact ⟨others_of g4 h1, kb, ⟨u, by rw [numq_one hx]; exact hu, q1⟩, q2, q3, but_same h4 g4⟩
    · refine si_val (a' := ⟨#[nv 6 a.l, nv 6 [v], .pointer (some ⟨w.heap.size, 0, none⟩), .pointer (some ⟨w1.heap.size, 0, none⟩), .pointer (some ⟨w2.heap.size, 0, none⟩), .pointer (some ⟨w4.heap.size, 0, none⟩), .int .u64 (x : Int), nv 6 [1, 0, 0, 0, 0, 0, 0, 0, 0, 0, 0, 0], nv 6 [v], .func (.func 57) #[] #[.pointer (some ⟨gE, 0, none⟩)], .int .u64 (x : Int), nv 6 z.l, nv 6 z.l, nv 6 y.l, .int .u64 (x : Int), .bool false, undef, undef, undef, undef], []⟩) (v := .bool false) rfl rfl nofun (ex_eqi rfl rfl false (by simp; omega)) ?_
      refine wpListIn_nil ?_
      refine wpIn_cond_false rfl ?_
      refine wpIn_skip ?_
      have kb : KeepsE w.heap.size gE W W2 := ⟨(Below.refl _ _).grown g2 (Nat.le_trans HB7.size h4.size) (fun k e => by cases e; exact le4), g2.block gE (Nat.lt_of_lt_of_le HVE.lt h4.size) (by simpa using Ne.symm n5)⟩
      exact ⟨others_of g2 h1, kb, ⟨y, by rw [numq_none hx]; exact hy, m1⟩, m2, m3, but_same h4 g2⟩
  · rintro D ys W hD hnum ⟨⟨z, hz, h1⟩, h2, h3, h4⟩ hK
    obtain rfl : z = u := rep12_uniq hz (hnum ▸ hu)
    refine inblock_n' ?_
    refine then_n ?_
    refine seq_lit ?_
    refine sq_val (a' := ⟨#[nv 6 a.l, nv 6 [v], .pointer (some ⟨w.heap.size, 0, none⟩), .pointer (some ⟨w1.heap.size, 0, none⟩), .pointer (some ⟨w2.heap.size, 0, none⟩), .pointer (some ⟨w4.heap.size, 0, none⟩), undef, nv 6 [1, 0, 0, 0, 0, 0, 0, 0, 0, 0, 0, 0], nv 6 [v], .func (.func 57) #[] #[.pointer (some ⟨gE, 0, none⟩)], undef, undef, undef, undef, undef, undef, undef, undef, undef, nv 6 z.l], [{ target := .collected D, args := #[] }]⟩) (v := nv 6 z.l) rfl rfl (ex_loadn (K := 6) (k := 0) (j := 12) (l := z.l) flFp12 rfl h1 rfl _ rfl) ?_
    refine sq_storeG (a' := ⟨#[nv 6 a.l, nv 6 [v], .pointer (some ⟨w.heap.size, 0, none⟩), .pointer (some ⟨w1.heap.size, 0, none⟩), .pointer (some ⟨w2.heap.size, 0, none⟩), .pointer (some ⟨w4.heap.size, 0, none⟩), undef, nv 6 [1, 0, 0, 0, 0, 0, 0, 0, 0, 0, 0, 0], nv 6 [v], .func (.func 57) #[] #[.pointer (some ⟨gE, 0, none⟩)], undef, undef, undef, undef, undef, undef, undef, undef, undef, nv 6 z.l], [{ target := .collected D, args := #[] }]⟩) (t := 30) (xs := rows 6 [0, 0, 0, 0, 0, 0, 0, 0, 0, 0, 0, 0]) (ys := rows 6 z.l) rfl rfl h3 (len_rows rfl) (ex_storen (K := 6) (l := [0, 0, 0, 0, 0, 0, 0, 0, 0, 0, 0, 0]) (m := z.l) flFp12 rfl rfl h3 rfl) ?_
    intro W1 M1 hst
    refine seq_nil ?_
    refine wp_ret ?_
    have hDne : D ≠ w2.heap.size := fun e => by have := B3.lt; omega
    have hK1 : W1.heap[D]? = some (.deferred (some [])) := (hst.block D (Array.getElem?_eq_some_iff.1 hK).1 (fun e => hDne (by cases e; rfl))).trans hK
    refine ⟨by simp, .inl ⟨_, _, rfl, run_takeDeferred hK1, ?_⟩⟩
    have hb : Below w.heap.size w W1 := (HB7.trans ((but_below h4 B5.lt).mono le4)).grown hst (Nat.le_trans HB7.size h4.size) (fun k e => by cases e; exact le2)
    exact ⟨_, ret_celln (K := 6) Try.results19 rfl (M1.but (grownBy_putObj' W1 D _) (by simpa using Ne.symm hDne)) flFp12, rfl, hb.trans (belowK_b (w := w) (Nat.le_refl _) W1 D _ _ (Nat.le_trans HB7.size hD) hK1 rfl rfl)⟩
  · rintro D c pre W _ _ h _
    exact h.elim

end Go.Proofs.Ytodabjelnllkgaa
