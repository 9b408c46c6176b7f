/- What is proved here: what fp.High and fp.Root and the reference's High and Square answer, by numbers; squares modulo p. -/
import Derived.Test.YtplbcdafelejbaaGreatDoorComp0
import Derived.Test.YtplbcdafelejbaaGreatDoorDuo1
import Derived.Handy
namespace Go.Proofs.YtplbcdafelejbaaGreatDoor
open Go.RowKit
set_option maxRecDepth 20000
set_option maxHeartbeats 4000000
structure StoJ (W : World) (K i6 g : Nat) (xs : List Nat) (γ : Unit) (L : Nat → Bool) (w : World) : Prop where
  pre : L i6 = false → Bel W w
  post : L i6 = true → ∃ w0, Bel W w0 ∧ w = w0.setCells g 0 (cellsOf (rows K xs))
section
variable {ops : Array Oper} {F : Act} {W : World} {T : TypeId} {K i6 g : Nat} {zs xs : List Nat} {i : Nat} {o : Oper} {d : Tmp} {v : Value}
theorem sj_pre {L : Nat → Bool} {w : World} (hJ : StoJ W K i6 g xs () L w) (hcl : Shutin ops L) (hL : L i = false) (hw6 : waitsFor ops i6 i = true) : L i6 = false ∧ Bel W w := by
  have l6 : L i6 = false := by
    cases hq : L i6 with
    | false => rfl
    | true => rw [waitsFor_on hcl hw6 hq] at hL; cases hL
  exact ⟨l6, hJ.pre l6⟩
theorem sj_val (hd : o.dst = some d) (hw : Region.wanted o (yielded ops F.tmps) = true) (hv : F.tmps[d]? = some v) (h : ∀ w, Bel W w → (execOp F.eval o).run Tryz.prog w = .ok (.value v) w)
    (hw6 : waitsFor ops i6 i = true) (h6 : (i6 == i) = false) :
    GStep Tryz.prog ops (fun _ : Unit => F) (StoJ W K i6 g xs) i o := fun γ L w Kk hJ hcl hL hdep hK => by
  obtain ⟨l6, hB⟩ := sj_pre hJ hcl hL hw6
  rw [if_pos hw]
  unfold Oper.wp
  rw [h w hB]
  have e6 : (L i6 || i6 == i) = false := by rw [h6, l6]; rfl
  refine hK.out () v w ?_ ⟨fun _ => hB, ?_⟩
  · show F = F.put o.dst v
    rw [hd, put_same hv]
  · simp only [e6]; exact fun h => by cases h
theorem sj_call {f : FuncId} {vs : Array Value} (hd : o.dst = some d) (hw : Region.wanted o (yielded ops F.tmps) = true) (hv : F.tmps[d]? = some v) (he : ∀ w, (execOp F.eval o).run Tryz.prog w = .ok (.enter f vs) w)
    (hC : ∀ w, Bel W w → Calls Tryz.prog f vs w (Is v w)) (hw6 : waitsFor ops i6 i = true) (h6 : (i6 == i) = false) :
    GStep Tryz.prog ops (fun _ : Unit => F) (StoJ W K i6 g xs) i o := fun γ L w Kk hJ hcl hL hdep hK => by
  obtain ⟨l6, hB⟩ := sj_pre hJ hcl hL hw6
  rw [if_pos hw]
  unfold Oper.wp
  rw [he w]
  show Calls _ _ _ _ _
  refine (hC w hB).mono ?_
  rintro e w' ⟨rfl, hb⟩
  have e6 : (L i6 || i6 == i) = false := by rw [h6, l6]; rfl
  refine hK.out () v w' ?_ ⟨fun _ => below_then hB hb, ?_⟩
  · show F = F.put o.dst v
    rw [hd, put_same hv]
  · simp only [e6]; exact fun h => by cases h
theorem sj_store (hd : o.dst = none) (hw : Region.wanted o (yielded ops F.tmps) = true) (he : ∀ w, Bel W w → (execOp F.eval o).run Tryz.prog w = .ok .skip (w.setCells g 0 (cellsOf (rows K xs)))) (hi : i = i6) :
    GStep Tryz.prog ops (fun _ : Unit => F) (StoJ W K i6 g xs) i o := fun γ L w Kk hJ hcl hL hdep hK => by
  subst hi
  have hB := hJ.pre hL
  rw [if_pos hw]
  unfold Oper.wp
  rw [he w hB]
  have e6 : (L i || i == i) = true := by simp
  refine hK.out () undef _ ?_ ⟨?_, fun _ => ⟨w, hB, rfl⟩⟩
  · show F = F.put o.dst undef
    rw [hd]
    rfl
  · simp only [e6]; exact fun h => by cases h
theorem sj_post (hd : o.dst = some d) (hw : Region.wanted o (yielded ops F.tmps) = true) (hv : F.tmps[d]? = some v) (h : ∀ w, (execOp F.eval o).run Tryz.prog w = .ok (.value v) w) (h6 : (i6 == i) = false) :
    GStep Tryz.prog ops (fun _ : Unit => F) (StoJ W K i6 g xs) i o := fun γ L w Kk hJ hcl hL hdep hK => by
  rw [if_pos hw]
  unfold Oper.wp
  rw [h w]
  have e6 : (L i6 || i6 == i) = L i6 := by rw [h6, Bool.or_false]
  refine hK.out () v w ?_ ⟨?_, ?_⟩
  · show F = F.put o.dst v
    rw [hd, put_same hv]
  · simp only [e6]; exact hJ.pre
  · simp only [e6]; exact hJ.post
end
theorem wp_region_sto {id : Nat} {l : List Oper} {F a : Act} {W : World} {Q : Exit → Act → World → Prop} (T : TypeId) (K i6 g : Nat) (zs xs : List Nat) (vs : List (Tmp × Value)) (hm : Tryz.prog.follows .mixedOrders = true)
    (hp : planOk l.toArray = true) (hs : Region.noSelect l.toArray = true) (hk : (vs.all fun p => l.toArray.any fun o => o.dst == some p.1) = true)
    (hd : a.defers = F.defers) (hF : putAll a.tmps vs = F.tmps) (b6 : Nat.blt i6 l.length = true) (hA : Arr T W g (rows K zs)) (hlen : xs.length = zs.length)
    (hsteps : GSteps Tryz.prog l.toArray (fun _ : Unit => F) (StoJ W K i6 g xs) 0 l)
    (hQ : ∀ w w', Bel W w → Arr T w' g (rows K xs) → (∀ (B : Nat) (w0 : World), Below B w0 w → B ≤ g → Below B w0 w') → (∀ (t' : TypeId) (g' : Nat) (ys : List Nat), g' ≠ g → Arr t' w g' ys → Arr t' w' g' ys) → Q .normal F w') : (Code.region id l.toArray true).wp Tryz.prog Q a W := by
  have lt : ∀ {j}, Nat.blt j l.length = true → j < l.length := fun h => Nat.le_of_ble_eq_true h
  refine wp_region_g (F := fun _ : Unit => F) (J := StoJ W K i6 g xs) () vs hm hp hs hk hd hF ?_ hsteps ?_
  · have f6 : decide (l.toArray.size ≤ i6) = false := decide_eq_false (by have := lt b6; simp; omega)
    refine ⟨fun _ => Bel.start W, ?_⟩
    simp only [f6]
    exact fun h => by cases h
  · rintro _ L w' hall ⟨_, h1⟩
    obtain ⟨w0, hB, rfl⟩ := h1 (hall i6 (by simpa using lt b6))
    exact hQ w0 _ hB ((hA.keep hB.out).stored (len_rows hlen)) (fun B w0 hb hB => Below.setCells hB _ 0 hb) (fun t' g' ys hne h' => Arr.setOther hne _ 0 h')
abbrev ud : Value := undef
abbrev pt (g : Nat) : Value := pz g
def fpQ : Nat := (pN + 1) / 4
theorem fpQ_lt : fpQ < pN := by decide +kernel
theorem fpQ_B : fpQ < fpB := Nat.lt_trans fpQ_lt fpM_lt
theorem fpQ_lit : fpV fpQ = .agg #[.int .u64 17185665809301629611, .int .u64 552535377879302143, .int .u64 15693976698673184137, .int .u64 15644892545385841839, .int .u64 10576397981472451381, .int .u64 468449654411884966] := by
  show Value.agg #[.int .u64 ((lb fpQ 0 : Nat) : Int), .int .u64 ((lb fpQ 1 : Nat) : Int), .int .u64 ((lb fpQ 2 : Nat) : Int), .int .u64 ((lb fpQ 3 : Nat) : Int), .int .u64 ((lb fpQ 4 : Nat) : Int), .int .u64 ((lb fpQ 5 : Nat) : Int)] = _
  rw [show lb fpQ 0 = 17185665809301629611 by decide +kernel, show lb fpQ 1 = 552535377879302143 by decide +kernel, show lb fpQ 2 = 15693976698673184137 by decide +kernel, show lb fpQ 3 = 15644892545385841839 by decide +kernel, show lb fpQ 4 = 10576397981472451381 by decide +kernel, show lb fpQ 5 = 468449654411884966 by decide +kernel]
  rfl
theorem fpquarter_v (w : World) : Calls Tryz.prog 42 #[] w (Is (nv 6 [fpQ]) w) := by
  rw [nv6, fpQ_lit]
  go_enter Tryz.func42, Tryz.ntmps42
  go_wp2
  refine bodyPost_ret (v := .agg #[.int .u64 17185665809301629611, .int .u64 552535377879302143, .int .u64 15693976698673184137, .int .u64 15644892545385841839, .int .u64 10576397981472451381, .int .u64 468449654411884966]) (by simp [results, Tryz.results42, go_sem]) rfl ⟨rfl, below_alloc w _⟩
section
variable {ρ : Operand → Value} {d : Option Tmp} {ty0 : TypeId} {pos : String} {after : Array Edge} {guard : Option (Nat × Bool)} {w : World}
theorem ex_slice {x : Operand} {g : Nat} (hx : ρ x = (pz g)) :
    (execOp ρ ⟨d, .slice 24 x none none none, ty0, pos, after, guard⟩).run Tryz.prog w = .ok (.value (.slice (some ⟨g, 0, none⟩) 6 6)) w := by
  simp [execOp, hx, go_sem, Tryz.underlying24]
theorem ex_gtr {ty t2 : TypeId} {x y : Operand} {k : IntKind} {a b : Int} (hx : ρ x = .int k a) (hy : ρ y = .int k b) (r : Bool) (hr : r = decide (a > b)) :
    (execOp ρ ⟨d, .binOp .gtr ty x y t2, ty0, pos, after, guard⟩).run Tryz.prog w = .ok (.value (.bool r)) w := by
  subst hr
  simp [execOp, hx, hy, eqGuard, binOp, Op.intCmp]
end
theorem rows_vrow {t : TypeId} {w : World} {g v : Nat} (h : Arr t w g (rows 6 [v])) : View w (some ⟨g, 0, none⟩) 6 (row 6 v) := by
  rw [rows_one] at h
  exact h.vrow
theorem natCmp_n {w : World} {t t' : TypeId} {g g' a b : Nat} (h : Arr t w g (rows 6 [a])) (h' : Arr t' w g' (rows 6 [b])) (ha : a < fpB) (hb : b < fpB) (r : Int) (hr : r = cmpI a b) :
    Calls Tryz.prog 91 #[.slice (some ⟨g, 0, none⟩) 6 6, .slice (some ⟨g', 0, none⟩) 6 6] w (Is (.int .i64 r) w) := by
  refine (cmp_short _ 6 6 _ _ 6 6 _ w (by decide) (by decide) (by decide) (by decide) (rows_vrow h) (rows_vrow h') (by decide) (by decide) (r := r) ?_).mono ?_
  · rw [fpval ha, fpval hb]; exact hr
  · rintro e w' ⟨rfl, rfl⟩
    exact ⟨rfl, Below.refl _ _⟩
def pHigh (a : Nat) : Bool := decide (pNeg a < pCl a)
theorem cmpI_gtr (a b : Nat) : decide (cmpI a b > 0) = decide (b < a) := by
  unfold cmpI
  by_cases h : a < b
  · rw [if_pos h]; simp; omega
  · rw [if_neg h]
    by_cases h2 : b < a
    · simp [h2]
    · simp [h2]
theorem pNeg_cl (a : Nat) : pNeg (pCl a) = pNeg a := by unfold pNeg pCl; rw [Nat.mod_mod]
theorem pCl_cl (a : Nat) : pCl (pCl a) = pCl a := by unfold pCl; rw [Nat.mod_mod]
theorem fpHigh_v (a : Nat) (w : World) (ha : a < fpB) (r : Bool) (hr : r = pHigh a) :
    Calls Tryz.prog 44 #[nv 6 [a]] w (Is (.bool r) w) := by
  obtain ⟨rr, hrr⟩ : ∃ z, z = cmpI (pCl a) (pNeg (pCl a)) := ⟨_, rfl⟩
  have hr2 : r = decide (rr > 0) := by rw [hr, hrr, cmpI_gtr, pNeg_cl]; rfl
  go_enter Tryz.func44, Tryz.ntmps44
  refine seq_lit ?_
  refine sn1 (xs := rows 6 [a]) (ex_boxn (K := 6) (l := [a]) rfl) ?_
  intro w1 N1 hb1
  have HB2 := below_then (brf w) hb1
  refine sv1 (.bool false) (ex_assign _) ?_
  refine seq_nil ?_
  refine seq_lit ?_
  refine sv1 (nv 6 [a]) (ex_loadn (K := 6) (k := 0) (j := 1) (l := [a]) flFp rfl N1 rfl _ rfl) ?_
  refine sck HB2 Tryz.call40 (fpClean_p a _ ha) ?_
  intro w3 hb3 HB5
  have A4 := N1.keep hb3
  refine st1 (t := 24) (xs := rows 6 [a]) (ys := rows 6 [(pCl a)]) A4 (len_rows rfl) (ex_storen (K := 6) (l := [a]) (m := [(pCl a)]) flFp rfl rfl A4 rfl) ?_
  intro w6 N6 hst6 hoth6
  have HB7 := hst6 _ _ HB5 (Nat.le_refl _)
  refine seq_nil ?_
  refine seq_lit ?_
  refine sv1 (nv 6 [(pCl a)]) (ex_loadn (K := 6) (k := 0) (j := 1) (l := [(pCl a)]) flFp rfl N6 rfl _ rfl) ?_
  refine sck HB7 Tryz.call45 (fpNeg_p (pCl a) _ (pCl_B _)) ?_
  intro w8 hb8 HB10
  have A9 := N6.keep hb8
  refine sn1 (xs := rows 6 [0]) (ex_alloc zFp) ?_
  intro w11 N11 hb11
  have A12 := A9.keep hb11
  have HB13 := below_then HB10 hb11
  refine st1 (t := 24) (xs := rows 6 [0]) (ys := rows 6 [(pNeg (pCl a))]) N11 (len_rows rfl) (ex_storen (K := 6) (l := [0]) (m := [(pNeg (pCl a))]) flFp rfl rfl N11 rfl) ?_
  intro w15 N15 hst15 hoth15
  have A16 := hoth15 _ _ _ (Nat.ne_of_lt A9.lt) A12
  have HB17 := hst15 _ _ HB13 HB10.size
  refine seq_nil ?_
  refine wp_seq (wp_region_p (F := ⟨#[nv 6 [a], pz w.heap.size, .bool r, pz w8.heap.size, nv 6 [a], nv 6 [(pCl a)], nv 6 [(pCl a)], nv 6 [(pNeg (pCl a))], .slice (some ⟨w.heap.size, 0, none⟩) 6 6, .slice (some ⟨w8.heap.size, 0, none⟩) 6 6, .int .i64 rr, .bool r], []⟩) (S := Bel w15) [(8, .slice (some ⟨w.heap.size, 0, none⟩) 6 6), (9, .slice (some ⟨w8.heap.size, 0, none⟩) 6 6), (10, .int .i64 rr), (11, .bool r), (2, .bool r)] (by kernel_rfl) (by kernel_rfl) (by kernel_rfl) (by kernel_rfl) rfl (by simp only [putAll, List.setIfInBounds_toArray, List.set_cons_zero, List.set_cons_succ]) (Bel.start _) ?_ ?_)
  · refine PlanSteps.cons (ps_val (v := .slice (some ⟨w.heap.size, 0, none⟩) 6 6) rfl rfl rfl (fun W' h => ex_slice rfl)) ?_
    refine PlanSteps.cons (ps_val (v := .slice (some ⟨w8.heap.size, 0, none⟩) 6 6) rfl rfl rfl (fun W' h => ex_slice rfl)) ?_
    refine PlanSteps.cons (ps_call (v := .int .i64 rr) rfl rfl rfl (fun W' => ex_call (vs := [.slice (some ⟨w.heap.size, 0, none⟩) 6 6, .slice (some ⟨w8.heap.size, 0, none⟩) 6 6]) rfl Tryz.call91 rfl) (fun W' h => natCmp_n (A16.keep h.out) (N15.keep h.out) (pCl_B _) (pNeg_B _) rr hrr)) ?_
    refine PlanSteps.cons (ps_val (v := .bool r) rfl rfl rfl (fun W' h => ex_gtr rfl rfl r hr2)) ?_
    refine PlanSteps.cons (ps_val (v := .bool r) rfl rfl rfl (fun W' h => ex_assign _)) ?_
    exact PlanSteps.nil
  intro w18 hb18
  refine then_n ?_
  have HB21 := below_then HB17 hb18.out
  exact wp_ret (bodyPost_ret (ret_tmp Tryz.results44 rfl) rfl ⟨rfl, HB21⟩)
theorem fpRoot_none (a : Nat) (w : World) (ha : a < fpB) (t : Nat) (ht : t = pCl a ^ fpQ % pN) (hm : pMul t t ≠ pCl a) :
    Calls Tryz.prog 12 #[nv 6 [a]] w (Is (.tuple #[nv 6 [0], .int .i64 21]) w) := by
  have bt : t < pN := by rw [ht]; exact fpM_mod _
  go_enter Tryz.func12, Tryz.ntmps12
  refine seq_lit ?_
  refine sn1 (xs := rows 6 [a]) (ex_boxn (K := 6) (l := [a]) rfl) ?_
  intro w1 N1 hb1
  have HB2 := below_then (brf w) hb1
  refine sn1 (xs := rows 6 [0]) (ex_alloc zFp) ?_
  intro w3 N3 hb3
  have A4 := N1.keep hb3
  have HB5 := below_then HB2 hb3
  refine sv1 (.int .i64 0) (ex_assign _) ?_
  refine seq_nil ?_
  refine seq_lit ?_
  refine sv1 (nv 6 [a]) (ex_loadn (K := 6) (k := 0) (j := 1) (l := [a]) flFp rfl A4 rfl _ rfl) ?_
  refine sck HB5 Tryz.call40 (fpClean_p a _ ha) ?_
  intro w7 hb7 HB10
  have A8 := A4.keep hb7
  have A9 := N3.keep hb7
  refine st1 (t := 24) (xs := rows 6 [a]) (ys := rows 6 [(pCl a)]) A8 (len_rows rfl) (ex_storen (K := 6) (l := [a]) (m := [(pCl a)]) flFp rfl rfl A8 rfl) ?_
  intro w11 N11 hst11 hoth11
  have A12 := hoth11 _ _ _ (Ne.symm (Nat.ne_of_lt N1.lt)) A9
  have HB13 := hst11 _ _ HB10 (Nat.le_refl _)
  refine seq_nil ?_
  refine wp_seq (wp_region_one (F := fun γ => ⟨#[nv 6 [a], pz w.heap.size, pz w1.heap.size, .int .i64 0, pz γ, nv 6 [a], nv 6 [(pCl a)], nv 6 [(pCl a)], nv 6 [fpQ], nv 6 [t], undef, undef, undef, undef, undef, undef, undef, undef, undef, undef, undef], []⟩) 24 6 3 4 [0] [t] [(4, pz 0), (7, nv 6 [(pCl a)]), (8, nv 6 [fpQ]), (9, nv 6 [t])] (by kernel_rfl) (by kernel_rfl) (by kernel_rfl) (by kernel_rfl) rfl (by simp only [putAll, List.setIfInBounds_toArray, List.set_cons_zero, List.set_cons_succ]) rfl rfl ?_ ?_)
  · refine GSteps.cons (g1_val (v := nv 6 [(pCl a)]) rfl (fun γ => rfl) (fun γ => rfl) (fun γ W' h => ex_loadn (K := 6) (k := 0) (j := 1) (l := [(pCl a)]) flFp rfl (N11.keep h.out) rfl _ rfl) rfl rfl) ?_
    refine GSteps.cons (g1_call (v := nv 6 [fpQ]) rfl (fun γ => rfl) (fun γ => rfl) (fun γ W' => ex_call (vs := []) rfl Tryz.call42 rfl) (fun W' h => fpquarter_v _) rfl rfl) ?_
    refine GSteps.cons (g1_call (v := nv 6 [t]) rfl (fun γ => rfl) (fun γ => rfl) (fun γ W' => ex_call (vs := [nv 6 [(pCl a)], nv 6 [fpQ]]) rfl Tryz.call41 rfl) (fun W' h => fpPow_n (pCl a) fpQ _ (pCl_B _) fpQ_B t ht) rfl rfl) ?_
    refine GSteps.cons (g1_new (fun γ => rfl) (fun γ n => rfl) (fun γ W' => ex_alloc zFp) rfl rfl (by kernel_rfl)) ?_
    refine GSteps.cons (g1_store rfl (fun γ => rfl) rfl (fun γ W' hA => ex_storen (K := 6) (l := [0]) (m := [t]) flFp rfl rfl hA rfl) rfl rfl (by kernel_rfl)) ?_
    exact GSteps.nil
  intro g14 w14 hb14 le14 N14
  refine then_n ?_
  have A15 := N11.keep hb14.out
  have A16 := A12.keep hb14.out
  have HB17 := below_then HB13 hb14.out
  refine wp_seq ?_
  refine wp_seq (wp_region_p (F := ⟨#[nv 6 [a], pz w.heap.size, pz w1.heap.size, .int .i64 0, pz g14, nv 6 [a], nv 6 [(pCl a)], nv 6 [(pCl a)], nv 6 [fpQ], nv 6 [t], nv 6 [t], nv 6 [t], nv 6 [(pMul t t)], nv 6 [(pCl a)], .bool true, undef, undef, undef, undef, undef, undef], []⟩) (S := Bel w14) [(10, nv 6 [t]), (11, nv 6 [t]), (12, nv 6 [(pMul t t)]), (13, nv 6 [(pCl a)]), (14, .bool true)] (by kernel_rfl) (by kernel_rfl) (by kernel_rfl) (by kernel_rfl) rfl (by simp only [putAll, List.setIfInBounds_toArray, List.set_cons_zero, List.set_cons_succ]) (Bel.start _) ?_ ?_)
  · refine PlanSteps.cons (ps_val (v := nv 6 [t]) rfl rfl rfl (fun W' h => ex_loadn (K := 6) (k := 0) (j := 1) (l := [t]) flFp rfl (N14.keep h.out) rfl _ rfl)) ?_
    refine PlanSteps.cons (ps_val (v := nv 6 [t]) rfl rfl rfl (fun W' h => ex_loadn (K := 6) (k := 0) (j := 1) (l := [t]) flFp rfl (N14.keep h.out) rfl _ rfl)) ?_
    refine PlanSteps.cons (ps_call (v := nv 6 [(pMul t t)]) rfl rfl rfl (fun W' => ex_call (vs := [nv 6 [t], nv 6 [t]]) rfl Tryz.call43 rfl) (fun W' h => fpMul_p t t _ (Nat.lt_trans bt fpM_lt) (Nat.lt_trans bt fpM_lt))) ?_
    refine PlanSteps.cons (ps_val (v := nv 6 [(pCl a)]) rfl rfl rfl (fun W' h => ex_loadn (K := 6) (k := 0) (j := 1) (l := [(pCl a)]) flFp rfl (A15.keep h.out) rfl _ rfl)) ?_
    refine PlanSteps.cons (ps_val (v := .bool true) rfl rfl rfl (fun W' h => ex_neqn (K := 6) (l := [(pMul t t)]) (m := [(pCl a)]) eqFp rfl rfl rfl rfl rfl (fpB_all1 (pMul_B _ _)) (fpB_all1 (pCl_B _)) rfl true (by rw [decide_eq_false (fun hq => hm (by injection hq))]; rfl))) ?_
    exact PlanSteps.nil
  intro w18 hb18
  refine then_n ?_
  have A20 := A16.keep hb18.out
  have HB22 := below_then HB17 hb18.out
  refine wp_cond_true rfl ?_
  refine seq_lit ?_
  refine sv1 (nv 6 [0]) (ex_zero) ?_
  refine st1 (t := 24) (xs := rows 6 [0]) (ys := rows 6 [0]) A20 (len_rows rfl) (ex_storen (K := 6) (l := [0]) (m := [0]) flFp rfl rfl A20 rfl) ?_
  intro w23 N23 hst23 hoth23
  have HB26 := hst23 _ _ HB22 HB2.size
  refine sv1 (.int .i64 21) (ex_assign _) ?_
  refine seq_nil ?_
  exact wp_ret (bodyPost_ret (ret_bothn (K := 6) Tryz.results12 rfl rfl N23 flFp) rfl ⟨rfl, HB26⟩)
theorem fpRoot_hi (a : Nat) (w : World) (ha : a < fpB) (t : Nat) (ht : t = pCl a ^ fpQ % pN) (hm : pMul t t = pCl a) (hr : true = pHigh t) :
    Calls Tryz.prog 12 #[nv 6 [a]] w (Is (.tuple #[nv 6 [(pNeg t)], .int .i64 0]) w) := by
  have bt : t < pN := by rw [ht]; exact fpM_mod _
  go_enter Tryz.func12, Tryz.ntmps12
  refine seq_lit ?_
  refine sn1 (xs := rows 6 [a]) (ex_boxn (K := 6) (l := [a]) rfl) ?_
  intro w1 N1 hb1
  have HB2 := below_then (brf w) hb1
  refine sn1 (xs := rows 6 [0]) (ex_alloc zFp) ?_
  intro w3 N3 hb3
  have A4 := N1.keep hb3
  have HB5 := below_then HB2 hb3
  refine sv1 (.int .i64 0) (ex_assign _) ?_
  refine seq_nil ?_
  refine seq_lit ?_
  refine sv1 (nv 6 [a]) (ex_loadn (K := 6) (k := 0) (j := 1) (l := [a]) flFp rfl A4 rfl _ rfl) ?_
  refine sck HB5 Tryz.call40 (fpClean_p a _ ha) ?_
  intro w7 hb7 HB10
  have A8 := A4.keep hb7
  have A9 := N3.keep hb7
  refine st1 (t := 24) (xs := rows 6 [a]) (ys := rows 6 [(pCl a)]) A8 (len_rows rfl) (ex_storen (K := 6) (l := [a]) (m := [(pCl a)]) flFp rfl rfl A8 rfl) ?_
  intro w11 N11 hst11 hoth11
  have A12 := hoth11 _ _ _ (Ne.symm (Nat.ne_of_lt N1.lt)) A9
  have HB13 := hst11 _ _ HB10 (Nat.le_refl _)
  refine seq_nil ?_
  refine wp_seq (wp_region_one (F := fun γ => ⟨#[nv 6 [a], pz w.heap.size, pz w1.heap.size, .int .i64 0, pz γ, nv 6 [a], nv 6 [(pCl a)], nv 6 [(pCl a)], nv 6 [fpQ], nv 6 [t], undef, undef, undef, undef, undef, undef, undef, undef, undef, undef, undef], []⟩) 24 6 3 4 [0] [t] [(4, pz 0), (7, nv 6 [(pCl a)]), (8, nv 6 [fpQ]), (9, nv 6 [t])] (by kernel_rfl) (by kernel_rfl) (by kernel_rfl) (by kernel_rfl) rfl (by simp only [putAll, List.setIfInBounds_toArray, List.set_cons_zero, List.set_cons_succ]) rfl rfl ?_ ?_)
  · refine GSteps.cons (g1_val (v := nv 6 [(pCl a)]) rfl (fun γ => rfl) (fun γ => rfl) (fun γ W' h => ex_loadn (K := 6) (k := 0) (j := 1) (l := [(pCl a)]) flFp rfl (N11.keep h.out) rfl _ rfl) rfl rfl) ?_
    refine GSteps.cons (g1_call (v := nv 6 [fpQ]) rfl (fun γ => rfl) (fun γ => rfl) (fun γ W' => ex_call (vs := []) rfl Tryz.call42 rfl) (fun W' h => fpquarter_v _) rfl rfl) ?_
    refine GSteps.cons (g1_call (v := nv 6 [t]) rfl (fun γ => rfl) (fun γ => rfl) (fun γ W' => ex_call (vs := [nv 6 [(pCl a)], nv 6 [fpQ]]) rfl Tryz.call41 rfl) (fun W' h => fpPow_n (pCl a) fpQ _ (pCl_B _) fpQ_B t ht) rfl rfl) ?_
    refine GSteps.cons (g1_new (fun γ => rfl) (fun γ n => rfl) (fun γ W' => ex_alloc zFp) rfl rfl (by kernel_rfl)) ?_
    refine GSteps.cons (g1_store rfl (fun γ => rfl) rfl (fun γ W' hA => ex_storen (K := 6) (l := [0]) (m := [t]) flFp rfl rfl hA rfl) rfl rfl (by kernel_rfl)) ?_
    exact GSteps.nil
  intro g14 w14 hb14 le14 N14
  refine then_n ?_
  have A15 := N11.keep hb14.out
  have A16 := A12.keep hb14.out
  have HB17 := below_then HB13 hb14.out
  refine wp_seq ?_
  refine wp_seq (wp_region_p (F := ⟨#[nv 6 [a], pz w.heap.size, pz w1.heap.size, .int .i64 0, pz g14, nv 6 [a], nv 6 [(pCl a)], nv 6 [(pCl a)], nv 6 [fpQ], nv 6 [t], nv 6 [t], nv 6 [t], nv 6 [(pMul t t)], nv 6 [(pCl a)], .bool false, undef, undef, undef, undef, undef, undef], []⟩) (S := Bel w14) [(10, nv 6 [t]), (11, nv 6 [t]), (12, nv 6 [(pMul t t)]), (13, nv 6 [(pCl a)]), (14, .bool false)] (by kernel_rfl) (by kernel_rfl) (by kernel_rfl) (by kernel_rfl) rfl (by simp only [putAll, List.setIfInBounds_toArray, List.set_cons_zero, List.set_cons_succ]) (Bel.start _) ?_ ?_)
  · refine PlanSteps.cons (ps_val (v := nv 6 [t]) rfl rfl rfl (fun W' h => ex_loadn (K := 6) (k := 0) (j := 1) (l := [t]) flFp rfl (N14.keep h.out) rfl _ rfl)) ?_
    refine PlanSteps.cons (ps_val (v := nv 6 [t]) rfl rfl rfl (fun W' h => ex_loadn (K := 6) (k := 0) (j := 1) (l := [t]) flFp rfl (N14.keep h.out) rfl _ rfl)) ?_
    refine PlanSteps.cons (ps_call (v := nv 6 [(pMul t t)]) rfl rfl rfl (fun W' => ex_call (vs := [nv 6 [t], nv 6 [t]]) rfl Tryz.call43 rfl) (fun W' h => fpMul_p t t _ (Nat.lt_trans bt fpM_lt) (Nat.lt_trans bt fpM_lt))) ?_
    refine PlanSteps.cons (ps_val (v := nv 6 [(pCl a)]) rfl rfl rfl (fun W' h => ex_loadn (K := 6) (k := 0) (j := 1) (l := [(pCl a)]) flFp rfl (A15.keep h.out) rfl _ rfl)) ?_
    refine PlanSteps.cons (ps_val (v := .bool false) rfl rfl rfl (fun W' h => ex_neqn (K := 6) (l := [(pMul t t)]) (m := [(pCl a)]) eqFp rfl rfl rfl rfl rfl (fpB_all1 (pMul_B _ _)) (fpB_all1 (pCl_B _)) rfl false (by rw [hm, decide_eq_true rfl]; rfl))) ?_
    exact PlanSteps.nil
  intro w18 hb18
  refine then_n ?_
  have A20 := A16.keep hb18.out
  have A21 := N14.keep hb18.out
  have HB22 := below_then HB17 hb18.out
  refine wp_cond_false rfl ?_
  refine wp_skip (then_n ?_)
  refine wp_seq ?_
  refine seq_lit ?_
  refine sv1 (nv 6 [t]) (ex_loadn (K := 6) (k := 0) (j := 1) (l := [t]) flFp rfl A21 rfl _ rfl) ?_
  refine sck HB22 Tryz.call44 (fpHigh_v t _ (Nat.lt_trans bt fpM_lt) true hr) ?_
  intro w23 hb23 HB27
  have A25 := A20.keep hb23
  have A26 := A21.keep hb23
  refine seq_nil ?_
  refine wp_cond_true rfl ?_
  refine wp_region_lit ?_
  refine sv1 (nv 6 [t]) (ex_loadn (K := 6) (k := 0) (j := 1) (l := [t]) flFp rfl A26 rfl _ rfl) ?_
  refine sck HB27 Tryz.call45 (fpNeg_p t _ (Nat.lt_trans bt fpM_lt)) ?_
  intro w28 hb28 HB32
  have A30 := A25.keep hb28
  have A31 := A26.keep hb28
  refine st1 (t := 24) (xs := rows 6 [t]) (ys := rows 6 [(pNeg t)]) A31 (len_rows rfl) (ex_storen (K := 6) (l := [t]) (m := [(pNeg t)]) flFp rfl rfl A31 rfl) ?_
  intro w33 N33 hst33 hoth33
  have A35 := hoth33 _ _ _ (Nat.ne_of_lt (Nat.lt_of_lt_of_le A12.lt le14)) A30
  have HB36 := hst33 _ _ HB32 (Nat.le_trans HB13.size le14)
  refine wpList_nil (then_n ?_)
  refine seq_lit ?_
  refine sv1 (nv 6 [(pNeg t)]) (ex_loadn (K := 6) (k := 0) (j := 1) (l := [(pNeg t)]) flFp rfl N33 rfl _ rfl) ?_
  refine st1 (t := 24) (xs := rows 6 [0]) (ys := rows 6 [(pNeg t)]) A35 (len_rows rfl) (ex_storen (K := 6) (l := [0]) (m := [(pNeg t)]) flFp rfl rfl A35 rfl) ?_
  intro w37 N37 hst37 hoth37
  have HB40 := hst37 _ _ HB36 HB2.size
  refine sv1 (.int .i64 0) (ex_assign _) ?_
  refine seq_nil ?_
  exact wp_ret (bodyPost_ret (ret_bothn (K := 6) Tryz.results12 rfl rfl N37 flFp) rfl ⟨rfl, HB40⟩)
theorem fpRoot_lo (a : Nat) (w : World) (ha : a < fpB) (t : Nat) (ht : t = pCl a ^ fpQ % pN) (hm : pMul t t = pCl a) (hr : false = pHigh t) :
    Calls Tryz.prog 12 #[nv 6 [a]] w (Is (.tuple #[nv 6 [t], .int .i64 0]) w) := by
  have bt : t < pN := by rw [ht]; exact fpM_mod _
  go_enter Tryz.func12, Tryz.ntmps12
  refine seq_lit ?_
  refine sn1 (xs := rows 6 [a]) (ex_boxn (K := 6) (l := [a]) rfl) ?_
  intro w1 N1 hb1
  have HB2 := below_then (brf w) hb1
  refine sn1 (xs := rows 6 [0]) (ex_alloc zFp) ?_
  intro w3 N3 hb3
  have A4 := N1.keep hb3
  have HB5 := below_then HB2 hb3
  refine sv1 (.int .i64 0) (ex_assign _) ?_
  refine seq_nil ?_
  refine seq_lit ?_
  refine sv1 (nv 6 [a]) (ex_loadn (K := 6) (k := 0) (j := 1) (l := [a]) flFp rfl A4 rfl _ rfl) ?_
  refine sck HB5 Tryz.call40 (fpClean_p a _ ha) ?_
  intro w7 hb7 HB10
  have A8 := A4.keep hb7
  have A9 := N3.keep hb7
  refine st1 (t := 24) (xs := rows 6 [a]) (ys := rows 6 [(pCl a)]) A8 (len_rows rfl) (ex_storen (K := 6) (l := [a]) (m := [(pCl a)]) flFp rfl rfl A8 rfl) ?_
  intro w11 N11 hst11 hoth11
  have A12 := hoth11 _ _ _ (Ne.symm (Nat.ne_of_lt N1.lt)) A9
  have HB13 := hst11 _ _ HB10 (Nat.le_refl _)
  refine seq_nil ?_
  refine wp_seq (wp_region_one (F := fun γ => ⟨#[nv 6 [a], pz w.heap.size, pz w1.heap.size, .int .i64 0, pz γ, nv 6 [a], nv 6 [(pCl a)], nv 6 [(pCl a)], nv 6 [fpQ], nv 6 [t], undef, undef, undef, undef, undef, undef, undef, undef, undef, undef, undef], []⟩) 24 6 3 4 [0] [t] [(4, pz 0), (7, nv 6 [(pCl a)]), (8, nv 6 [fpQ]), (9, nv 6 [t])] (by kernel_rfl) (by kernel_rfl) (by kernel_rfl) (by kernel_rfl) rfl (by simp only [putAll, List.setIfInBounds_toArray, List.set_cons_zero, List.set_cons_succ]) rfl rfl ?_ ?_)
  · refine GSteps.cons (g1_val (v := nv 6 [(pCl a)]) rfl (fun γ => rfl) (fun γ => rfl) (fun γ W' h => ex_loadn (K := 6) (k := 0) (j := 1) (l := [(pCl a)]) flFp rfl (N11.keep h.out) rfl _ rfl) rfl rfl) ?_
    refine GSteps.cons (g1_call (v := nv 6 [fpQ]) rfl (fun γ => rfl) (fun γ => rfl) (fun γ W' => ex_call (vs := []) rfl Tryz.call42 rfl) (fun W' h => fpquarter_v _) rfl rfl) ?_
    refine GSteps.cons (g1_call (v := nv 6 [t]) rfl (fun γ => rfl) (fun γ => rfl) (fun γ W' => ex_call (vs := [nv 6 [(pCl a)], nv 6 [fpQ]]) rfl Tryz.call41 rfl) (fun W' h => fpPow_n (pCl a) fpQ _ (pCl_B _) fpQ_B t ht) rfl rfl) ?_
    refine GSteps.cons (g1_new (fun γ => rfl) (fun γ n => rfl) (fun γ W' => ex_alloc zFp) rfl rfl (by kernel_rfl)) ?_
    refine GSteps.cons (g1_store rfl (fun γ => rfl) rfl (fun γ W' hA => ex_storen (K := 6) (l := [0]) (m := [t]) flFp rfl rfl hA rfl) rfl rfl (by kernel_rfl)) ?_
    exact GSteps.nil
  intro g14 w14 hb14 le14 N14
  refine then_n ?_
  have A15 := N11.keep hb14.out
  have A16 := A12.keep hb14.out
  have HB17 := below_then HB13 hb14.out
  refine wp_seq ?_
  refine wp_seq (wp_region_p (F := ⟨#[nv 6 [a], pz w.heap.size, pz w1.heap.size, .int .i64 0, pz g14, nv 6 [a], nv 6 [(pCl a)], nv 6 [(pCl a)], nv 6 [fpQ], nv 6 [t], nv 6 [t], nv 6 [t], nv 6 [(pMul t t)], nv 6 [(pCl a)], .bool false, undef, undef, undef, undef, undef, undef], []⟩) (S := Bel w14) [(10, nv 6 [t]), (11, nv 6 [t]), (12, nv 6 [(pMul t t)]), (13, nv 6 [(pCl a)]), (14, .bool false)] (by kernel_rfl) (by kernel_rfl) (by kernel_rfl) (by kernel_rfl) rfl (by simp only [putAll, List.setIfInBounds_toArray, List.set_cons_zero, List.set_cons_succ]) (Bel.start _) ?_ ?_)
  · refine PlanSteps.cons (ps_val (v := nv 6 [t]) rfl rfl rfl (fun W' h => ex_loadn (K := 6) (k := 0) (j := 1) (l := [t]) flFp rfl (N14.keep h.out) rfl _ rfl)) ?_
    refine PlanSteps.cons (ps_val (v := nv 6 [t]) rfl rfl rfl (fun W' h => ex_loadn (K := 6) (k := 0) (j := 1) (l := [t]) flFp rfl (N14.keep h.out) rfl _ rfl)) ?_
    refine PlanSteps.cons (ps_call (v := nv 6 [(pMul t t)]) rfl rfl rfl (fun W' => ex_call (vs := [nv 6 [t], nv 6 [t]]) rfl Tryz.call43 rfl) (fun W' h => fpMul_p t t _ (Nat.lt_trans bt fpM_lt) (Nat.lt_trans bt fpM_lt))) ?_
    refine PlanSteps.cons (ps_val (v := nv 6 [(pCl a)]) rfl rfl rfl (fun W' h => ex_loadn (K := 6) (k := 0) (j := 1) (l := [(pCl a)]) flFp rfl (A15.keep h.out) rfl _ rfl)) ?_
    refine PlanSteps.cons (ps_val (v := .bool false) rfl rfl rfl (fun W' h => ex_neqn (K := 6) (l := [(pMul t t)]) (m := [(pCl a)]) eqFp rfl rfl rfl rfl rfl (fpB_all1 (pMul_B _ _)) (fpB_all1 (pCl_B _)) rfl false (by rw [hm, decide_eq_true rfl]; rfl))) ?_
    exact PlanSteps.nil
  intro w18 hb18
  refine then_n ?_
  have A20 := A16.keep hb18.out
  have A21 := N14.keep hb18.out
  have HB22 := below_then HB17 hb18.out
  refine wp_cond_false rfl ?_
  refine wp_skip (then_n ?_)
  refine wp_seq ?_
  refine seq_lit ?_
  refine sv1 (nv 6 [t]) (ex_loadn (K := 6) (k := 0) (j := 1) (l := [t]) flFp rfl A21 rfl _ rfl) ?_
  refine sck HB22 Tryz.call44 (fpHigh_v t _ (Nat.lt_trans bt fpM_lt) false hr) ?_
  intro w23 hb23 HB27
  have A25 := A20.keep hb23
  have A26 := A21.keep hb23
  refine seq_nil ?_
  refine wp_cond_false rfl ?_
  refine wp_skip (then_n ?_)
  refine seq_lit ?_
  refine sv1 (nv 6 [t]) (ex_loadn (K := 6) (k := 0) (j := 1) (l := [t]) flFp rfl A26 rfl _ rfl) ?_
  refine st1 (t := 24) (xs := rows 6 [0]) (ys := rows 6 [t]) A25 (len_rows rfl) (ex_storen (K := 6) (l := [0]) (m := [t]) flFp rfl rfl A25 rfl) ?_
  intro w28 N28 hst28 hoth28
  have HB31 := hst28 _ _ HB27 HB2.size
  refine sv1 (.int .i64 0) (ex_assign _) ?_
  refine seq_nil ?_
  exact wp_ret (bodyPost_ret (ret_bothn (K := 6) Tryz.results12 rfl rfl N28 flFp) rfl ⟨rfl, HB31⟩)
theorem p_odd : pN % 2 = 1 := by decide +kernel
theorem pNeg_of {a : Nat} (h : pCl a ≠ 0) : pNeg a = pN - pCl a := by
  have hl := pCl_P a
  unfold pNeg
  rw [show a % pN = pCl a from rfl]
  exact Nat.mod_eq_of_lt (by omega)
theorem pNeg_neg {a : Nat} : pNeg (pNeg a) = pCl a :=
  rep_uniq (pNeg_P _) (pCl_P _) (rep_neg (rep_neg (rep_self a))) (rep_cl (rep_self a)) (by grind)
theorem high_zero {a : Nat} (h : pCl a = 0) : pHigh a = false := by
  unfold pHigh
  rw [h]
  exact decide_eq_false (Nat.not_lt_zero _)
theorem high_neg {a : Nat} (h : pCl a ≠ 0) : pHigh (pNeg a) = !pHigh a := by
  unfold pHigh
  rw [pNeg_neg, pCl_of (pNeg_P a), pNeg_of h]
  have hl := pCl_P a
  have ho := p_odd
  generalize pCl a = c at *
  generalize pN = M at *
  by_cases h1 : c < M - c
  · rw [decide_eq_true h1, decide_eq_false (by omega)]; rfl
  · rw [decide_eq_false h1, decide_eq_true (by omega)]; rfl
theorem high_cl (a : Nat) : pHigh (pCl a) = pHigh a := by unfold pHigh; rw [pNeg_cl, pCl_cl]
def pChi (a : Nat) : Nat := pCl a ^ ((pN - 1) / 2) % pN
theorem pChi_P (a : Nat) : pChi a < pN := fpM_mod _
theorem pMul_pow (x m n : Nat) : pMul (x ^ m % pN) (x ^ n % pN) = x ^ (m + n) % pN := by
  unfold pMul
  rw [← Nat.mul_mod, ← Nat.pow_add]
theorem quarter_half : fpQ + fpQ = 1 + (pN - 1) / 2 := by decide +kernel
theorem half_half : (pN - 1) / 2 + (pN - 1) / 2 = pN - 1 := by decide +kernel
theorem rt_square {a t : Nat} (ht : t = pCl a ^ fpQ % pN) : pMul t t = pMul (pCl a) (pChi a) := by
  rw [ht, pMul_pow, quarter_half]
  have h := pMul_pow (pCl a) 1 ((pN - 1) / 2)
  rw [Nat.pow_one, Nat.mod_eq_of_lt (pCl_P a)] at h
  exact h.symm
theorem chi_square {a : Nat} (h : pCl a ≠ 0) : pMul (pChi a) (pChi a) = 1 := by
  unfold pChi
  rw [pMul_pow, half_half]
  exact p_fermat (pCl a) (by omega) (pCl_P a)
theorem pSub_zero {a b : Nat} (ha : a < pN) (hb : b < pN) (h : pSub a b = 0) : a = b := by
  have r0 : Rep 0 ((a : Int) - b) := rep_eq h.symm (rep_sub (rep_self a) (rep_self b))
  have r1 : Rep (pAdd 0 b) ((a : Int) - b + b) := rep_add r0 (rep_self b)
  have e := rep_uniq ha (pAdd_P _ _) (rep_self a) r1 (by grind)
  unfold pAdd at e
  rw [Nat.zero_add, Nat.mod_eq_of_lt hb] at e
  exact e
theorem pAdd_zero {a b : Nat} (ha : a < pN) (h : pAdd a b = 0) : a = pNeg b := by
  have r0 : Rep 0 ((a : Int) + b) := rep_eq h.symm (rep_add (rep_self a) (rep_self b))
  have r1 : Rep (pSub 0 b) ((a : Int) + b - b) := rep_sub r0 (rep_self b)
  have r2 : Rep (pNeg b) (-(b : Int)) := rep_neg (rep_self b)
  have r3 : Rep (pSub 0 b) (0 - (b : Int)) := rep_sub rep_0 (rep_self b)
  have e := rep_uniq ha (pSub_P _ _) (rep_self a) r1 (by grind)
  rw [e]
  exact rep_uniq (pSub_P _ _) (pNeg_P _) r3 r2 (by grind)
theorem same_square {x y : Nat} (hx : x < pN) (hy : y < pN) (h : pMul x x = pMul y y) : x = y ∨ x = pNeg y := by
  have rl := rep_mul (rep_sub (rep_self x) (rep_self y)) (rep_add (rep_self x) (rep_self y))
  have r0 : Rep (pSub (pMul x x) (pMul y y)) ((x : Int) * x - (y : Int) * y) := rep_sub (rep_mul (rep_self x) (rep_self x)) (rep_mul (rep_self y) (rep_self y))
  have e := rep_uniq (pMul_P _ _) (pSub_P _ _) rl r0 (by grind)
  have ez : pSub (pMul x x) (pMul y y) = 0 := by
    rw [h]
    exact rep_uniq (pSub_P _ _) zero_P (rep_sub (rep_self _) (rep_self _)) rep_0 (by grind)
  rw [ez] at e
  rcases pMul_zero e with h1 | h1
  · exact .inl (pSub_zero hx hy (by rwa [pCl_of (pSub_P _ _)] at h1))
  · exact .inr (pAdd_zero hx (by rwa [pCl_of (pAdd_P _ _)] at h1))
theorem chi_cases {a : Nat} (h : pCl a ≠ 0) : pChi a = 1 ∨ pChi a = pNeg 1 := by
  refine same_square (pChi_P a) one_P ?_
  rw [chi_square h]
  decide +kernel
theorem pMul_one {a : Nat} (h : a < pN) : pMul a 1 = a := by unfold pMul; rw [Nat.mul_one, Nat.mod_eq_of_lt h]
theorem pMul_negone {a : Nat} (_h : a < pN) : pMul a (pNeg 1) = pNeg a :=
  rep_uniq (pMul_P _ _) (pNeg_P _) (rep_mul (rep_self a) (rep_neg rep_1)) (rep_neg (rep_self a)) (by grind)
theorem neg_self {a : Nat} (h : a < pN) (e : pNeg a = a) : a = 0 := by
  by_cases h0 : pCl a = 0
  · rwa [pCl_of h] at h0
  · have := high_neg h0
    rw [e] at this
    cases hq : pHigh a <;> rw [hq] at this <;> cases this
theorem root_iff {a t : Nat} (ht : t = pCl a ^ fpQ % pN) : pMul t t = pCl a ↔ (pCl a = 0 ∨ pChi a = 1) := by
  rw [rt_square ht]
  constructor
  · intro h
    by_cases h0 : pCl a = 0
    · exact .inl h0
    · right
      rcases chi_cases h0 with h1 | h1
      · exact h1
      · rw [h1, pMul_negone (pCl_P a)] at h
        exact absurd (neg_self (pCl_P a) h) h0
  · rintro (h | h)
    · rw [h]; unfold pMul; rw [Nat.zero_mul, Nat.zero_mod]
    · rw [h, pMul_one (pCl_P a)]
theorem chi_mul (a b : Nat) : pChi (pMul a b) = pMul (pChi a) (pChi b) := by
  unfold pChi
  rw [pCl_of (pMul_P a b)]
  unfold pMul pCl
  rw [← Nat.mul_mod, ← Nat.mul_pow, ← Nat.pow_mod, Nat.pow_mod (a % pN * (b % pN)), ← Nat.mul_mod, ← Nat.pow_mod]
theorem pMul_pCl (a b : Nat) : pMul (pCl a) (pCl b) = pMul a b := by unfold pMul pCl; rw [← Nat.mul_mod]
def pRootV (a : Nat) : Nat := if pMul (pCl a ^ fpQ % pN) (pCl a ^ fpQ % pN) = pCl a then (if pHigh (pCl a ^ fpQ % pN) = true then pNeg (pCl a ^ fpQ % pN) else pCl a ^ fpQ % pN) else 0
def pRootE (a : Nat) : Int := if pMul (pCl a ^ fpQ % pN) (pCl a ^ fpQ % pN) = pCl a then 0 else 21
theorem fpRoot_v (a : Nat) (w : World) (ha : a < fpB) (v : Nat) (hv : v = pRootV a) (e : Int) (he : e = pRootE a) :
    Calls Tryz.prog 12 #[nv 6 [a]] w (Is (.tuple #[nv 6 [v], .int .i64 e]) w) := by
  unfold pRootV at hv
  unfold pRootE at he
  obtain ⟨t, ht⟩ : ∃ t, t = pCl a ^ fpQ % pN := ⟨_, rfl⟩
  rw [← ht] at hv he
  by_cases hm : pMul t t = pCl a
  · rw [if_pos hm] at hv he
    cases hh : pHigh t with
    | true =>
      rw [hh, if_pos rfl] at hv
      rw [hv, he]
      exact fpRoot_hi a w ha t ht hm hh.symm
    | false =>
      rw [hh, if_neg Bool.false_ne_true] at hv
      rw [hv, he]
      exact fpRoot_lo a w ha t ht hm hh.symm
  · rw [if_neg hm] at hv he
    rw [hv, he]
    exact fpRoot_none a w ha t ht hm
theorem rootE_iff (a : Nat) : pRootE a = 0 ↔ (pCl a = 0 ∨ pChi a = 1) := by
  have h := root_iff (a := a) rfl
  unfold pRootE
  constructor
  · intro he
    refine h.1 ?_
    by_cases hm : pMul (pCl a ^ fpQ % pN) (pCl a ^ fpQ % pN) = pCl a
    · exact hm
    · rw [if_neg hm] at he; cases he
  · intro hq
    rw [if_pos (h.2 hq)]
theorem rootE_or (a : Nat) : pRootE a = 0 ∨ pRootE a = 21 := by
  unfold pRootE
  split
  · exact .inl rfl
  · exact .inr rfl
theorem rootV_P (a : Nat) : pRootV a < pN := by
  unfold pRootV
  split
  · split
    · exact pNeg_P _
    · exact fpM_mod _
  · exact zero_P
theorem rootV_square {a : Nat} (h : pRootE a = 0) : pMul (pRootV a) (pRootV a) = pCl a ∧ pHigh (pRootV a) = false := by
  have hm := (root_iff (a := a) rfl).2 ((rootE_iff a).1 h)
  unfold pRootV
  obtain ⟨t, ht⟩ : ∃ t, t = pCl a ^ fpQ % pN := ⟨_, rfl⟩
  have bt : t < pN := by rw [ht]; exact fpM_mod _
  rw [← ht] at hm ⊢
  rw [if_pos hm]
  cases hh : pHigh t with
  | true =>
    rw [if_pos rfl]
    have h0 : pCl t ≠ 0 := fun h0 => by rw [high_zero h0] at hh; cases hh
    refine ⟨?_, by rw [high_neg h0, hh]; rfl⟩
    rw [← hm]
    exact rep_uniq (pMul_P _ _) (pMul_P _ _) (rep_mul (rep_neg (rep_self t)) (rep_neg (rep_self t))) (rep_mul (rep_self t) (rep_self t)) (by grind)
  | false =>
    rw [if_neg Bool.false_ne_true]
    exact ⟨hm, hh⟩
theorem square_root (a : Nat) : pRootE (pMul a a) = 0 := by
  rw [rootE_iff]
  by_cases h : pCl a = 0
  · left
    rw [pCl_of (pMul_P _ _), ← pMul_pCl, h]
    decide +kernel
  · right
    rw [chi_mul, chi_square h]
def fpH : Nat := (pN - 1) / 2
theorem fpH_lt : fpH < pN := by decide +kernel
theorem fpH_B : fpH < fpB := Nat.lt_trans fpH_lt fpM_lt
theorem fpH_lit : fpV fpH = .agg #[.int .u64 15924587544893707605, .int .u64 1105070755758604287, .int .u64 12941209323636816658, .int .u64 12843041017062132063, .int .u64 2706051889235351147, .int .u64 936899308823769933] := by
  show Value.agg #[.int .u64 ((lb fpH 0 : Nat) : Int), .int .u64 ((lb fpH 1 : Nat) : Int), .int .u64 ((lb fpH 2 : Nat) : Int), .int .u64 ((lb fpH 3 : Nat) : Int), .int .u64 ((lb fpH 4 : Nat) : Int), .int .u64 ((lb fpH 5 : Nat) : Int)] = _
  rw [show lb fpH 0 = 15924587544893707605 by decide +kernel, show lb fpH 1 = 1105070755758604287 by decide +kernel, show lb fpH 2 = 12941209323636816658 by decide +kernel, show lb fpH 3 = 12843041017062132063 by decide +kernel, show lb fpH 4 = 2706051889235351147 by decide +kernel, show lb fpH 5 = 936899308823769933 by decide +kernel]
  rfl
theorem r4half_P (w : World) : Calls Tryz.prog 38 #[nv 6 [pN]] w (Is (nv 6 [fpH]) w) := by
  rw [nv6, nv6, fpM_lit, fpH_lit]
  go_enter Tryz.func38, Tryz.ntmps38
  go_wp2
  go_rounds 7
  refine bodyPost_ret (v := .agg #[.int .u64 15924587544893707605, .int .u64 1105070755758604287, .int .u64 12941209323636816658, .int .u64 12843041017062132063, .int .u64 2706051889235351147, .int .u64 936899308823769933]) (by simp [results, Tryz.results38, go_sem]) rfl ⟨rfl, ?_⟩
  exact (((brf w).alloc (Nat.le_refl _) _).alloc (by simp) _).alloc (by simp <;> omega) _
theorem r4Square_no (a : Nat) (w : World) (ha : a < pN) (hz : a ≠ 0) (c : Nat) (hc : c = a ^ fpH % pN) (h1 : c ≠ 1) :
    Calls Tryz.prog 11 #[nv 6 [a]] w (Is (.bool false) w) := by
  have bc : c < pN := by rw [hc]; exact fpM_mod _
  go_enter Tryz.func11, Tryz.ntmps11
  refine seq_lit ?_
  refine sn1 (xs := rows 6 [a]) (ex_boxn (K := 6) (l := [a]) rfl) ?_
  intro w1 N1 hb1
  have HB2 := below_then (brf w) hb1
  refine sv1 (.bool false) (ex_assign _) ?_
  refine seq_nil ?_
  refine wp_seq (wp_region_p (F := ⟨#[nv 6 [a], pt w.heap.size, .bool false, nv 6 [a], nv 6 [0], .bool false, .bool false, nv 6 [a], nv 6 [pN], nv 6 [fpH], nv 6 [c], nv 6 [1], .bool false, .bool false], []⟩) (S := Bel w1) [(3, nv 6 [a]), (4, nv 6 [0]), (5, .bool false), (6, .bool false), (7, nv 6 [a]), (8, nv 6 [pN]), (9, nv 6 [fpH]), (10, nv 6 [c]), (11, nv 6 [1]), (12, .bool false), (13, .bool false), (2, .bool false)] (by kernel_rfl) (by kernel_rfl) (by kernel_rfl) (by kernel_rfl) rfl (by simp only [putAll, List.setIfInBounds_toArray, List.set_cons_zero, List.set_cons_succ]) (Bel.start _) ?_ ?_)
  · refine PlanSteps.cons (ps_val (v := nv 6 [a]) rfl rfl rfl (fun W' h => ex_loadn (K := 6) (k := 0) (j := 1) (l := [a]) flFp rfl (N1.keep h.out) rfl _ rfl)) ?_
    refine PlanSteps.cons (ps_val (v := nv 6 [0]) rfl rfl rfl (fun W' h => ex_zero)) ?_
    refine PlanSteps.cons (ps_val (v := .bool false) rfl rfl rfl (fun W' h => ex_eqn (K := 6) (l := [a]) (m := [0]) eqFp rfl rfl rfl rfl rfl (fpB_all1 (Nat.lt_trans ha fpM_lt)) (fpB_all1 zero_B) rfl false (decide_eq_false (fun hq => hz (by injection hq))).symm)) ?_
    refine PlanSteps.cons (ps_val (v := .bool false) rfl rfl rfl (fun W' h => ex_move _)) ?_
    refine PlanSteps.cons (ps_val (v := nv 6 [a]) rfl rfl rfl (fun W' h => ex_loadn (K := 6) (k := 0) (j := 1) (l := [a]) flFp rfl (N1.keep h.out) rfl _ rfl)) ?_
    refine PlanSteps.cons (ps_call (v := nv 6 [pN]) rfl rfl rfl (fun W' => ex_call (vs := []) rfl Tryz.call39 rfl) (fun W' h => r4P_n _)) ?_
    refine PlanSteps.cons (ps_call (v := nv 6 [fpH]) rfl rfl rfl (fun W' => ex_call (vs := [nv 6 [pN]]) rfl Tryz.call38 rfl) (fun W' h => r4half_P _)) ?_
    refine PlanSteps.cons (ps_call (v := nv 6 [c]) rfl rfl rfl (fun W' => ex_call (vs := [nv 6 [a], nv 6 [fpH]]) rfl Tryz.call37 rfl) (fun W' h => r4Pow_n a fpH _ ha fpH_B c hc)) ?_
    refine PlanSteps.cons (ps_val (v := nv 6 [1]) rfl rfl rfl (fun W' h => ex_one rfl)) ?_
    refine PlanSteps.cons (ps_val (v := .bool false) rfl rfl rfl (fun W' h => ex_eqn (K := 6) (l := [c]) (m := [1]) eqFp rfl rfl rfl rfl rfl (fpB_all1 (Nat.lt_trans bc fpM_lt)) (fpB_all1 one_B) rfl false (decide_eq_false (fun hq => h1 (by injection hq))).symm)) ?_
    refine PlanSteps.cons (ps_val (v := .bool false) rfl rfl rfl (fun W' h => ex_pick (r := false) rfl)) ?_
    refine PlanSteps.cons (ps_val (v := .bool false) rfl rfl rfl (fun W' h => ex_assign _)) ?_
    exact PlanSteps.nil
  intro w3 hb3
  refine then_n ?_
  have HB5 := below_then HB2 hb3.out
  exact wp_ret (bodyPost_ret (ret_tmp Tryz.results11 rfl) rfl ⟨rfl, HB5⟩)
theorem r4Square_none (a : Nat) (w : World) (ha : a < pN) (h : pRootE a = 21) : Calls Tryz.prog 11 #[nv 6 [a]] w (Is (.bool false) w) := by
  have hn : ¬ (pCl a = 0 ∨ pChi a = 1) := fun hq => by rw [(rootE_iff a).2 hq] at h; cases h
  have hz : a ≠ 0 := fun h0 => hn (.inl (by rw [pCl_of ha]; exact h0))
  obtain ⟨c, hc⟩ : ∃ c, c = a ^ fpH % pN := ⟨_, rfl⟩
  have e : c = pChi a := by
    rw [hc]
    unfold pChi
    rw [pCl_of ha]
    rfl
  exact r4Square_no a w ha hz c hc (fun h1 => hn (.inr (e ▸ h1)))
end Go.Proofs.YtplbcdafelejbaaGreatDoor
