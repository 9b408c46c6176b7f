/- What is proved here: what fp.High and fp.Root and the reference's High and Square answer, by numbers; squares modulo p. -/
import Derived.Test.YtkkmekdhejhapaaGreatComp
import Derived.Test.YtkkmekdhejhapaaGreatDuo1
import Derived.Handy
namespace Go.Proofs.YtkkmekdhejhapaaGreat
open Go.RowKit
set_option maxRecDepth 20000
set_option maxHeartbeats 4000000
section
variable {ops : Array Oper} {F : Act} {W : World} {T : TypeId} {K i6 g : Nat} {zs xs : List Nat} {i : Nat} {o : Oper} {d : Tmp} {v : Value}
end
abbrev pt (g : Nat) : Value := pz g
section
variable {ρ : Operand → Value} {d : Option Tmp} {ty0 : TypeId} {pos : String} {after : Array Edge} {guard : Option (Nat × Bool)} {w : World}
theorem ex_slice {x : Operand} {g : Nat} (hx : ρ x = (pz g)) :
    (execOp ρ ⟨d, .slice 24 x none none none, ty0, pos, after, guard⟩).run Tryz.prog w = .ok (.value (.slice (some ⟨g, 0, none⟩) 6 6)) w := by
  simp [execOp, hx, go_sem, Tryz.underlying24]
theorem ex_gtr {ty t2 : TypeId} {x y : Operand} {k : IntKind} {a b : Int} (hx : ρ x = .int k a) (hy : ρ y = .int k b) (r : Bool) (hr : r = decide (a > b)) :
    (execOp ρ ⟨d, .binOp .gtr ty x y t2, ty0, pos, after, guard⟩).run Tryz.prog w = .ok (.value (.bool r)) w := by
  subst hr
  simp [execOp, hx, hy, eqGuard, binOp, Op.intCmp]
end
theorem rows_vrow {t : TypeId} {w : World} {g v : Nat} (h : Arr t w g (rows 6 [v])) : View w (some ⟨g, 0, none⟩) 6 (row 6 v) := by
  rw [rows_one] at h
  exact h.vrow
theorem natCmp_n {w : World} {t t' : TypeId} {g g' a b : Nat} (h : Arr t w g (rows 6 [a])) (h' : Arr t' w g' (rows 6 [b])) (ha : a < fpB) (hb : b < fpB) (r : Int) (hr : r = cmpI a b) :
    Calls Tryz.prog 112 #[.slice (some ⟨g, 0, none⟩) 6 6, .slice (some ⟨g', 0, none⟩) 6 6] w (Is (.int .i64 r) w) := by
  refine (cmp_short _ 6 6 _ _ 6 6 _ w (by decide) (by decide) (by decide) (by decide) (rows_vrow h) (rows_vrow h') (by decide) (by decide) (r := r) ?_).mono ?_
  · rw [fpval ha, fpval hb]; exact hr
  · rintro e w' ⟨rfl, rfl⟩
    exact ⟨rfl, Below.refl _ _⟩
def pHigh (a : Nat) : Bool := decide (pNeg a < pCl a)
theorem cmpI_gtr (a b : Nat) : decide (cmpI a b > 0) = decide (b < a) := by
  unfold cmpI
  by_cases h : a < b
  · rw [if_pos h]; simp; omega
  · rw [if_neg h]
    by_cases h2 : b < a
    · simp [h2]
    · simp [h2]
theorem pNeg_cl (a : Nat) : pNeg (pCl a) = pNeg a := by unfold pNeg pCl; rw [Nat.mod_mod]
theorem pCl_cl (a : Nat) : pCl (pCl a) = pCl a := by unfold pCl; rw [Nat.mod_mod]
theorem fpHigh_v (a : Nat) (w : World) (ha : a < fpB) (r : Bool) (hr : r = pHigh a) :
    Calls Tryz.prog 72 #[nv 6 [a]] w (Is (.bool r) w) := by
  obtain ⟨rr, hrr⟩ : ∃ z, z = cmpI (pCl a) (pNeg (pCl a)) := ⟨_, rfl⟩
  have hr2 : r = decide (rr > 0) := by rw [hr, hrr, cmpI_gtr, pNeg_cl]; rfl
  go_enter Tryz.func72, Tryz.ntmps72
  refine seq_lit ?_
  refine sn1 (xs := rows 6 [a]) (ex_boxn (K := 6) (l := [a]) rfl) ?_
  intro w1 N1 hb1
  have HB2 := below_then (brf w) hb1
  refine sva (.bool false) ?_
  refine seq_nil ?_
  refine seq_lit ?_
  refine sv1 (nv 6 [a]) (ex_loadn (K := 6) (k := 0) (j := 1) (l := [a]) flFp rfl N1 rfl _ rfl) ?_
  refine sck HB2 Tryz.call129 (fpClean_p a _ ha) ?_
  intro w3 hb3 HB5
  have A4 := N1.keep hb3
  refine st1 (t := 24) (xs := rows 6 [a]) (ys := rows 6 [(pCl a)]) A4 (len_rows rfl) (ex_storen (K := 6) (l := [a]) (m := [(pCl a)]) flFp rfl rfl A4 rfl) ?_
  intro w6 N6 hst6 hoth6
  have HB7 := hst6 _ _ HB5 (Nat.le_refl _)
  refine seq_nil ?_
  refine seq_lit ?_
  refine sv1 (nv 6 [(pCl a)]) (ex_loadn (K := 6) (k := 0) (j := 1) (l := [(pCl a)]) flFp rfl N6 rfl _ rfl) ?_
  refine sck HB7 Tryz.call73 (fpNeg_p (pCl a) _ (pCl_B _)) ?_
  intro w8 hb8 HB10
  have A9 := N6.keep hb8
  refine sn1 (xs := rows 6 [0]) (ex_alloc zFp) ?_
  intro w11 N11 hb11
  have A12 := A9.keep hb11
  have HB13 := below_then HB10 hb11
  refine st1 (t := 24) (xs := rows 6 [0]) (ys := rows 6 [(pNeg (pCl a))]) N11 (len_rows rfl) (ex_storen (K := 6) (l := [0]) (m := [(pNeg (pCl a))]) flFp rfl rfl N11 rfl) ?_
  intro w15 N15 hst15 hoth15
  have A16 := hoth15 _ _ _ (nelt A9.lt) A12
  have HB17 := hst15 _ _ HB13 HB10.size
  refine seq_nil ?_
  refine wp_seq (wp_region_p (F := ⟨#[nv 6 [a], pz w.heap.size, .bool r, pz w8.heap.size, nv 6 [a], nv 6 [(pCl a)], nv 6 [(pCl a)], nv 6 [(pNeg (pCl a))], .slice (some ⟨w.heap.size, 0, none⟩) 6 6, .slice (some ⟨w8.heap.size, 0, none⟩) 6 6, .int .i64 rr, .bool r], []⟩) (S := Bel w15) [(8, .slice (some ⟨w.heap.size, 0, none⟩) 6 6), (9, .slice (some ⟨w8.heap.size, 0, none⟩) 6 6), (10, .int .i64 rr), (11, .bool r), (2, .bool r)] (by kernel_rfl) (by kernel_rfl) (by kernel_rfl) (by kernel_rfl) rfl (by simp only [putAll, List.setIfInBounds_toArray, List.set_cons_zero, List.set_cons_succ]) (Bel.start _) ?_ ?_)
  · refine PlanSteps.cons (ps_val (v := .slice (some ⟨w.heap.size, 0, none⟩) 6 6) rfl rfl rfl (fun W' h => ex_slice rfl)) ?_
    refine PlanSteps.cons (ps_val (v := .slice (some ⟨w8.heap.size, 0, none⟩) 6 6) rfl rfl rfl (fun W' h => ex_slice rfl)) ?_
    refine PlanSteps.cons (ps_call (v := .int .i64 rr) rfl rfl rfl (fun W' => ex_call (vs := [.slice (some ⟨w.heap.size, 0, none⟩) 6 6, .slice (some ⟨w8.heap.size, 0, none⟩) 6 6]) rfl Tryz.call112 rfl) (fun W' h => natCmp_n (A16.keep h.out) (N15.keep h.out) (pCl_B _) (pNeg_B _) rr hrr)) ?_
    refine PlanSteps.cons (ps_val (v := .bool r) rfl rfl rfl (fun W' h => ex_gtr rfl rfl r hr2)) ?_
    refine PlanSteps.cons (ps_val (v := .bool r) rfl rfl rfl (fun W' h => ex_assign _)) ?_
    exact PlanSteps.nil
  intro w18 hb18
  refine then_n ?_
  have HB21 := below_then HB17 hb18.out
  exact wp_ret (bodyPost_ret (ret_tmp Tryz.results72 rfl) rfl ⟨rfl, HB21⟩)
theorem r4High_v (a : Nat) (w : World) (ha : a < pN) (r : Bool) (hr : r = pHigh a) :
    Calls Tryz.prog 48 #[nv 6 [a]] w (Is (.bool r) w) := by
  go_enter Tryz.func48, Tryz.ntmps48
  refine seq_lit ?_
  refine sn1 (xs := rows 6 [a]) (ex_boxn (K := 6) (l := [a]) rfl) ?_
  intro w1 N1 hb1
  have HB2 := below_then (brf w) hb1
  refine sva (.bool false) ?_
  refine seq_nil ?_
  refine wp_seq (wp_region_p (F := ⟨#[nv 6 [a], pz w.heap.size, .bool r, nv 6 [a], nv 6 [(pNeg a)], nv 6 [a], .bool r], []⟩) (S := Bel w1) [(3, nv 6 [a]), (4, nv 6 [(pNeg a)]), (5, nv 6 [a]), (6, .bool r), (2, .bool r)] (by kernel_rfl) (by kernel_rfl) (by kernel_rfl) (by kernel_rfl) rfl (by simp only [putAll, List.setIfInBounds_toArray, List.set_cons_zero, List.set_cons_succ]) (Bel.start _) ?_ ?_)
  · refine PlanSteps.cons (ps_val (v := nv 6 [a]) rfl rfl rfl (fun W' h => ex_loadn (K := 6) (k := 0) (j := 1) (l := [a]) flFp rfl (N1.keep h.out) rfl _ rfl)) ?_
    refine PlanSteps.cons (ps_call (v := nv 6 [(pNeg a)]) rfl rfl rfl (fun W' => ex_call (vs := [nv 6 [a]]) rfl Tryz.call94 rfl) (fun W' h => r4Neg_p a _ ha)) ?_
    refine PlanSteps.cons (ps_val (v := nv 6 [a]) rfl rfl rfl (fun W' h => ex_loadn (K := 6) (k := 0) (j := 1) (l := [a]) flFp rfl (N1.keep h.out) rfl _ rfl)) ?_
    refine PlanSteps.cons (ps_call (v := .bool r) rfl rfl rfl (fun W' => ex_call (vs := [nv 6 [(pNeg a)], nv 6 [a]]) rfl Tryz.call88 rfl) (fun W' h => r4Less_n (pNeg a) a _ (pNeg_B _) (Nat.lt_trans ha fpM_lt) r (by rw [hr]; unfold pHigh; rw [pCl_of ha]))) ?_
    refine PlanSteps.cons (ps_val (v := .bool r) rfl rfl rfl (fun W' h => ex_assign _)) ?_
    exact PlanSteps.nil
  intro w3 hb3
  refine then_n ?_
  have HB5 := below_then HB2 hb3.out
  exact wp_ret (bodyPost_ret (ret_tmp Tryz.results48 rfl) rfl ⟨rfl, HB5⟩)
theorem p_odd : pN % 2 = 1 := by decide +kernel
theorem pNeg_of {a : Nat} (h : pCl a ≠ 0) : pNeg a = pN - pCl a := by
  have hl := pCl_P a
  unfold pNeg
  rw [show a % pN = pCl a from rfl]
  exact Nat.mod_eq_of_lt (by omega)
theorem pNeg_neg {a : Nat} : pNeg (pNeg a) = pCl a :=
  rep_uniq (pNeg_P _) (pCl_P _) (rep_neg (rep_neg (rep_self a))) (rep_cl (rep_self a)) (by grind)
theorem high_neg {a : Nat} (h : pCl a ≠ 0) : pHigh (pNeg a) = !pHigh a := by
  unfold pHigh
  rw [pNeg_neg, pCl_of (pNeg_P a), pNeg_of h]
  have hl := pCl_P a
  have ho := p_odd
  generalize pCl a = c at *
  generalize pN = M at *
  by_cases h1 : c < M - c
  · rw [decide_eq_true h1, decide_eq_false (by omega)]; rfl
  · rw [decide_eq_false h1, decide_eq_true (by omega)]; rfl
theorem high_cl (a : Nat) : pHigh (pCl a) = pHigh a := by unfold pHigh; rw [pNeg_cl, pCl_cl]
theorem neg_self {a : Nat} (h : a < pN) (e : pNeg a = a) : a = 0 := by
  by_cases h0 : pCl a = 0
  · rwa [pCl_of h] at h0
  · have := high_neg h0
    rw [e] at this
    cases hq : pHigh a <;> rw [hq] at this <;> cases this
end Go.Proofs.YtkkmekdhejhapaaGreat
