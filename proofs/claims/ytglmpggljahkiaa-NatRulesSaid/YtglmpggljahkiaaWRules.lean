/- What is proved here: the law NatRules answers true at any three rows of limbs, and nothing that was in memory changes. -/
import Derived.Test.YtglmpggljahkiaaShort
import Derived.Test.YtglmpggljahkiaaAlive
namespace Go.Proofs.Ytglmpggljahkiaa
open Go.RowKit

theorem same_cmp {x y : Nat} (h : x = y) : (0 : Int) = cmpI x y := by rw [h, cmpI_self]

set_option maxHeartbeats 4000000 in
theorem natRules_any (a : Option Addr) (n c : Nat) (xs : List Nat) (a' : Option Addr) (n' c' : Nat) (ys : List Nat) (a'' : Option Addr) (n'' c'' : Nat) (zs : List Nat) (w0 : World) (hn : n ≤ c) (hm : c ≤ maxLen) (hn' : n' ≤ c') (hm' : c' ≤ maxLen) (hn'' : n'' ≤ c'') (hm'' : c'' ≤ maxLen) (VA : View w0 a n xs) (VB : View w0 a' n' ys) (VC : View w0 a'' n'' zs) :
    Calls Try.prog 9 #[.slice a n c, .slice a' n' c', .slice a'' n'' c''] w0 fun e w' => e = .returned (.bool true) ∧ Below w0.heap.size w0 w' := by
  replace VA := VA.take 5
  replace VB := VB.take 5
  replace VC := VC.take 5
  have b1 : min n 5 ≤ 5 := by omega
  have b2 : min n' 5 ≤ 5 := by omega
  have b3 : min n'' 5 ≤ 5 := by omega
  have d1 : min n 5 ≤ c := by omega
  have d2 : min n' 5 ≤ c' := by omega
  have d3 : min n'' 5 ≤ c'' := by omega
  go_enter Try.func9, Try.ntmps9
  go_wp2_with fail
  refine (lawCut_any _ _ _ _ _ hn hm (by decide) (by decide)).mono ?_
  rintro e w' ⟨rfl, rfl⟩
  go_wp2_with fail
  refine (lawCut_any _ _ _ _ _ hn' hm' (by decide) (by decide)).mono ?_
  rintro e w' ⟨rfl, rfl⟩
  go_wp2_with fail
  refine (lawCut_any _ _ _ _ _ hn'' hm'' (by decide) (by decide)).mono ?_
  rintro e w' ⟨rfl, rfl⟩
  rw [show (5 : Int).toNat = 5 from rfl]
  clear hn hn' hn''
  generalize min n 5 = na at *
  generalize min n' 5 = nb at *
  generalize min n'' 5 = nc at *
  generalize xs.take 5 = A at *
  generalize ys.take 5 = B at *
  generalize zs.take 5 = C at *
  have LA := Lib.hid VA.vlt
  have LB := Lib.hid VB.vlt
  have LC := Lib.hid VC.vlt
  have HB0 := Lib.hid (Below.refl w0.heap.size w0)
  go_wp2_with fail
  refine (add_short _ _ _ B _ _ _ C _ d2 hm' d3 hm'' VB VC (by omega) (by omega)).mono ?_
  rintro e w1 ⟨g0, rfl, o0, _, hb0⟩
  replace VA := VA.below (Nat.le_refl _) hb0
  replace VB := VB.below (Nat.le_refl _) hb0
  replace VC := VC.below (Nat.le_refl _) hb0
  have HB1 := Lib.hid (below_then HB0.out hb0)
  have VS := o0.vrow
  clear hb0 HB0 o0
  have bK : max nb nc ≤ 5 := by omega
  have LS := Lib.hid (add_lt LB.out LC.out)
  obtain ⟨cs, hcs⟩ : ∃ q, q = (val B + val C) / 2 ^ (64 * max nb nc) := ⟨_, rfl⟩
  rw [← hcs]
  have Ecs := Lib.hid hcs
  clear hcs
  generalize max nb nc = K at *
  have hsmcs : cs < 2 ^ 64 := by rw [Ecs.out]; exact carry_lt _ _ LS.out
  have o1 := ownS_empty w1 w1.heap.size (Nat.le_refl _)
  have q1 := VS.below (Nat.le_refl _) (below_alloc w1 (.cells #[] 27))
  go_wp2_with (first | (at_builtin; refine wpList_append_to _ rfl (.tmp 23) (.tmp 24) rfl w1.heap.size _ [] 0 rfl rfl o1 (fun y hy => by cases hy) _ _ _ _ rfl (fun e => by cases e) q1 (by omega) (by simp) (K) (Nat.zero_add _) _ (List.nil_append _) ?_; intro ad1 cp1 w2 oo1 vv1 le1 mx1 nn1 hb1) | (at_builtin; refine wpList_append_to _ rfl (.tmp 25) (.tmp 27) rfl w1.heap.size _ (row K (val B + val C)) (K) (length_row _ _) rfl (oo1.alloc _) (small_row _ _) _ _ _ _ rfl (fun e => by cases e) (view_lit w2 cs hsmcs) (by omega) (by have := hb1.size; simp at this ⊢; omega) (K + 1) rfl _ rfl ?_; intro ad2 cp2 w3 oo2 VS2 le2 mx2 nn2 hb2))
  have bb1 : Below w1.heap.size w1 w3 := (((below_alloc w1 _).trans hb1).trans (((Below.refl _ _).alloc (by have := hb1.size; simp at this; omega) _).trans hb2))
  replace VA := VA.below (Nat.le_refl _) bb1
  replace VB := VB.below (Nat.le_refl _) bb1
  replace VC := VC.below (Nat.le_refl _) bb1
  replace VS := VS.below (Nat.le_refl _) bb1
  have HB3 := Lib.hid (below_then HB1.out bb1)
  clear bb1 hb1 hb2 o1 q1 oo1 oo2 vv1 le1 mx1 nn1 nn2 HB1
  have ES := Lib.hid (show val (row K (val B + val C) ++ [cs]) = val B + val C by rw [Ecs.out]; exact val_carry _ _)
  clear VS
  go_wp2_with fail
  refine (mul_short _ _ _ A _ _ _ B _ d1 hm d2 hm' VA VB (by omega) (by omega)).mono ?_
  rintro e w4 ⟨g3, rfl, o3, _, hb3⟩
  replace VA := VA.below (Nat.le_refl _) hb3
  replace VB := VB.below (Nat.le_refl _) hb3
  replace VC := VC.below (Nat.le_refl _) hb3
  replace VS2 := VS2.below (Nat.le_refl _) hb3
  have HB4 := Lib.hid (below_then HB3.out hb3)
  have VAB := o3.vrow
  clear hb3 HB3 o3
  go_wp2_with fail
  refine (mul_short _ _ _ A _ _ _ C _ d1 hm d3 hm'' VA VC (by omega) (by omega)).mono ?_
  rintro e w5 ⟨g4, rfl, o4, _, hb4⟩
  replace VA := VA.below (Nat.le_refl _) hb4
  replace VB := VB.below (Nat.le_refl _) hb4
  replace VC := VC.below (Nat.le_refl _) hb4
  replace VS2 := VS2.below (Nat.le_refl _) hb4
  replace VAB := VAB.below (Nat.le_refl _) hb4
  have HB5 := Lib.hid (below_then HB4.out hb4)
  have VAC := o4.vrow
  clear hb4 HB4 o4
  have EAB := Lib.hid (val_row_of (mul_lt LA.out LB.out))
  have EAC := Lib.hid (val_row_of (mul_lt LA.out LC.out))
  go_wp2_with fail
  refine (add_short _ _ _ _ _ _ _ _ _ (Nat.le_refl _) (by unfold maxLen; omega) (Nat.le_refl _) (by unfold maxLen; omega) VAB VAC (by omega) (by omega)).mono ?_
  rintro e w6 ⟨g5, rfl, o5, _, hb5⟩
  replace VA := VA.below (Nat.le_refl _) hb5
  replace VB := VB.below (Nat.le_refl _) hb5
  replace VC := VC.below (Nat.le_refl _) hb5
  replace VS2 := VS2.below (Nat.le_refl _) hb5
  replace VAB := VAB.below (Nat.le_refl _) hb5
  replace VAC := VAC.below (Nat.le_refl _) hb5
  have HB6 := Lib.hid (below_then HB5.out hb5)
  have VX := o5.vrow
  clear hb5 HB5 o5
  have LX := Lib.hid (add_lt VAB.vlt VAC.vlt)
  obtain ⟨cx, hcx⟩ : ∃ q, q = (val (row (na + nb) (val A * val B)) + val (row (na + nc) (val A * val C))) / 2 ^ (64 * max (na + nb) (na + nc)) := ⟨_, rfl⟩
  rw [← hcx]
  have Ecx := Lib.hid hcx
  clear hcx
  have bM : max (na + nb) (na + nc) ≤ 10 := by omega
  generalize max (na + nb) (na + nc) = M at *
  have hsmcx : cx < 2 ^ 64 := by rw [Ecx.out]; exact carry_lt _ _ LX.out
  have o6 := ownS_empty w6 w6.heap.size (Nat.le_refl _)
  have q6 := VX.below (Nat.le_refl _) (below_alloc w6 (.cells #[] 27))
  go_wp2_with (first | (at_builtin; refine wpList_append_to _ rfl (.tmp 39) (.tmp 40) rfl w6.heap.size _ [] 0 rfl rfl o6 (fun y hy => by cases hy) _ _ _ _ rfl (fun e => by cases e) q6 (by omega) (by simp) (M) (Nat.zero_add _) _ (List.nil_append _) ?_; intro ad6 cp6 w7 oo6 vv6 le6 mx6 nn6 hb6) | (at_builtin; refine wpList_append_to _ rfl (.tmp 41) (.tmp 43) rfl w6.heap.size _ (row M (val (row (na + nb) (val A * val B)) + val (row (na + nc) (val A * val C)))) (M) (length_row _ _) rfl (oo6.alloc _) (small_row _ _) _ _ _ _ rfl (fun e => by cases e) (view_lit w7 cx hsmcx) (by omega) (by have := hb6.size; simp at this ⊢; omega) (M + 1) rfl _ rfl ?_; intro ad7 cp7 w8 oo7 VX2 le7 mx7 nn7 hb7))
  have bb6 : Below w6.heap.size w6 w8 := (((below_alloc w6 _).trans hb6).trans (((Below.refl _ _).alloc (by have := hb6.size; simp at this; omega) _).trans hb7))
  replace VA := VA.below (Nat.le_refl _) bb6
  replace VB := VB.below (Nat.le_refl _) bb6
  replace VC := VC.below (Nat.le_refl _) bb6
  replace VS2 := VS2.below (Nat.le_refl _) bb6
  replace VAB := VAB.below (Nat.le_refl _) bb6
  replace VAC := VAC.below (Nat.le_refl _) bb6
  replace VX := VX.below (Nat.le_refl _) bb6
  have HB8 := Lib.hid (below_then HB6.out bb6)
  clear bb6 hb6 hb7 o6 q6 oo6 oo7 vv6 le6 mx6 nn6 nn7 HB6
  have EX := Lib.hid (show val (row M (val (row (na + nb) (val A * val B)) + val (row (na + nc) (val A * val C))) ++ [cx]) = val A * val B + val A * val C by rw [Ecx.out, val_carry, EAB.out, EAC.out])
  clear VX VAB VAC
  go_wp2_with fail
  refine (alive_any _).mono ?_
  rintro e w9 ⟨rfl, hb8⟩
  replace VA := VA.below (Nat.le_refl _) hb8
  replace VB := VB.below (Nat.le_refl _) hb8
  replace VC := VC.below (Nat.le_refl _) hb8
  replace VS2 := VS2.below (Nat.le_refl _) hb8
  replace VX2 := VX2.below (Nat.le_refl _) hb8
  have HB9 := Lib.hid (below_then HB8.out hb8)
  clear hb8 HB8
  go_wp2_with fail
  refine (mul_short _ _ _ A _ _ _ B _ d1 hm d2 hm' VA VB (by omega) (by omega)).mono ?_
  rintro e w10 ⟨g9, rfl, o9, _, hb9⟩
  replace VA := VA.below (Nat.le_refl _) hb9
  replace VB := VB.below (Nat.le_refl _) hb9
  replace VC := VC.below (Nat.le_refl _) hb9
  replace VS2 := VS2.below (Nat.le_refl _) hb9
  replace VX2 := VX2.below (Nat.le_refl _) hb9
  have HB10 := Lib.hid (below_then HB9.out hb9)
  have VM1 := o9.vrow
  clear hb9 HB9 o9
  go_wp2_with fail
  refine (mul_short _ _ _ B _ _ _ A _ d2 hm' d1 hm VB VA (by omega) (by omega)).mono ?_
  rintro e w11 ⟨g10, rfl, o10, _, hb10⟩
  replace VA := VA.below (Nat.le_refl _) hb10
  replace VB := VB.below (Nat.le_refl _) hb10
  replace VC := VC.below (Nat.le_refl _) hb10
  replace VS2 := VS2.below (Nat.le_refl _) hb10
  replace VX2 := VX2.below (Nat.le_refl _) hb10
  replace VM1 := VM1.below (Nat.le_refl _) hb10
  have HB11 := Lib.hid (below_then HB10.out hb10)
  have VM2 := o10.vrow
  clear hb10 HB10 o10
  go_wp2_with fail
  refine (cmp_short _ _ _ _ _ _ _ _ _ (Nat.le_refl _) (by unfold maxLen; omega) (Nat.le_refl _) (by unfold maxLen; omega) VM1 VM2 (by omega) (by omega) (r := 0) (same_cmp (by rw [val_row_of (mul_lt LA.out LB.out), val_row_of (mul_lt LB.out LA.out), Nat.mul_comm]))).mono ?_
  rintro e w' ⟨rfl, rfl⟩
  clear VM1 VM2
  go_wp2_with fail
  refine (mul_short _ _ _ A _ _ _ B _ d1 hm d2 hm' VA VB (by omega) (by omega)).mono ?_
  rintro e w12 ⟨g11, rfl, o11, _, hb11⟩
  replace VA := VA.below (Nat.le_refl _) hb11
  replace VB := VB.below (Nat.le_refl _) hb11
  replace VC := VC.below (Nat.le_refl _) hb11
  replace VS2 := VS2.below (Nat.le_refl _) hb11
  replace VX2 := VX2.below (Nat.le_refl _) hb11
  have HB12 := Lib.hid (below_then HB11.out hb11)
  have VM1 := o11.vrow
  clear hb11 HB11 o11
  go_wp2_with fail
  refine (mul_short _ _ _ _ _ _ _ C _ (Nat.le_refl _) (by unfold maxLen; omega) d3 hm'' VM1 VC (by omega) (by omega)).mono ?_
  rintro e w13 ⟨g12, rfl, o12, _, hb12⟩
  replace VA := VA.below (Nat.le_refl _) hb12
  replace VB := VB.below (Nat.le_refl _) hb12
  replace VC := VC.below (Nat.le_refl _) hb12
  replace VS2 := VS2.below (Nat.le_refl _) hb12
  replace VX2 := VX2.below (Nat.le_refl _) hb12
  replace VM1 := VM1.below (Nat.le_refl _) hb12
  have HB13 := Lib.hid (below_then HB12.out hb12)
  have VM2 := o12.vrow
  clear hb12 HB12 o12
  clear VM1
  go_wp2_with fail
  refine (mul_short _ _ _ B _ _ _ C _ d2 hm' d3 hm'' VB VC (by omega) (by omega)).mono ?_
  rintro e w14 ⟨g13, rfl, o13, _, hb13⟩
  replace VA := VA.below (Nat.le_refl _) hb13
  replace VB := VB.below (Nat.le_refl _) hb13
  replace VC := VC.below (Nat.le_refl _) hb13
  replace VS2 := VS2.below (Nat.le_refl _) hb13
  replace VX2 := VX2.below (Nat.le_refl _) hb13
  replace VM2 := VM2.below (Nat.le_refl _) hb13
  have HB14 := Lib.hid (below_then HB13.out hb13)
  have VM3 := o13.vrow
  clear hb13 HB13 o13
  go_wp2_with fail
  refine (mul_short _ _ _ A _ _ _ _ _ d1 hm (Nat.le_refl _) (by unfold maxLen; omega) VA VM3 (by omega) (by omega)).mono ?_
  rintro e w15 ⟨g14, rfl, o14, _, hb14⟩
  replace VA := VA.below (Nat.le_refl _) hb14
  replace VB := VB.below (Nat.le_refl _) hb14
  replace VC := VC.below (Nat.le_refl _) hb14
  replace VS2 := VS2.below (Nat.le_refl _) hb14
  replace VX2 := VX2.below (Nat.le_refl _) hb14
  replace VM2 := VM2.below (Nat.le_refl _) hb14
  replace VM3 := VM3.below (Nat.le_refl _) hb14
  have HB15 := Lib.hid (below_then HB14.out hb14)
  have VM4 := o14.vrow
  clear hb14 HB14 o14
  have E3 := Lib.hid (val_row_of (mul_lt LB.out LC.out))
  go_wp2_with fail
  refine (cmp_short _ _ _ _ _ _ _ _ _ (Nat.le_refl _) (by unfold maxLen; omega) (Nat.le_refl _) (by unfold maxLen; omega) VM2 VM4 (by omega) (by omega) (r := 0) (same_cmp (by rw [EAB.out, E3.out, val_row_of (mul_lt (mul_lt LA.out LB.out) LC.out), val_row_of (mul_lt LA.out (mul_lt LB.out LC.out)), Nat.mul_assoc]))).mono ?_
  rintro e w' ⟨rfl, rfl⟩
  clear VM2 VM3 VM4
  go_wp2_with fail
  refine (mul_short _ _ _ A _ _ _ _ _ d1 hm le2 mx2 VA VS2 (by omega) (by omega)).mono ?_
  rintro e w16 ⟨g15, rfl, o15, _, hb15⟩
  replace VA := VA.below (Nat.le_refl _) hb15
  replace VB := VB.below (Nat.le_refl _) hb15
  replace VC := VC.below (Nat.le_refl _) hb15
  replace VS2 := VS2.below (Nat.le_refl _) hb15
  replace VX2 := VX2.below (Nat.le_refl _) hb15
  have HB16 := Lib.hid (below_then HB15.out hb15)
  have VM5 := o15.vrow
  clear hb15 HB15 o15
  have L5 := Lib.hid (mul_lt LA.out VS2.vlt)
  go_wp2_with fail
  refine (cmp_short _ _ _ _ _ _ _ _ _ (Nat.le_refl _) (by unfold maxLen; omega) le7 mx7 VM5 VX2 (by omega) (by omega) (r := 0) (same_cmp (by rw [val_row_of L5.out, ES.out, EX.out, Nat.mul_add]))).mono ?_
  rintro e w' ⟨rfl, rfl⟩
  go_wp2
  go_ret
  exact ⟨rfl, HB16.out⟩
end Go.Proofs.Ytglmpggljahkiaa
