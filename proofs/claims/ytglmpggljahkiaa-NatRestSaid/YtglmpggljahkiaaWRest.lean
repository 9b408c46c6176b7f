/- What is proved here: the law NatRest answers true at any two rows of limbs, and nothing that was in memory changes. -/
import Derived.Test.YtglmpggljahkiaaShort
import Derived.Test.YtglmpggljahkiaaRem
import Derived.Test.YtglmpggljahkiaaAlive
namespace Go.Proofs.Ytglmpggljahkiaa
open Go.RowKit

theorem rem_short (a : Option Addr) (n c : Nat) (xs : List Nat) (a' : Option Addr) (n' c' : Nat) (ys : List Nat) (w : World) (hn : n ≤ c) (hm : c ≤ maxLen) (hn' : n' ≤ c') (hm' : c' ≤ maxLen) (hv : View w a n xs) (hv' : View w a' n' ys) (h : n ≤ 16) (h' : n' ≤ 16) (hM : val ys ≠ 0) :
    Calls Try.prog 24 #[.slice a n c, .slice a' n' c'] w (MakesE n' (val xs % val ys) w) := by
  have := rem_any a n c xs a' n' c' ys w hn hm hn' hm' hv hv' (by rw [take_short hv'.len h']; exact hM)
  rwa [take_short hv.len h, take_short hv'.len h', show min n' 16 = n' by omega] at this

theorem same_cmp3 {x y : Nat} (h : x = y) : (0 : Int) = cmpI x y := by rw [h, cmpI_self]

theorem sub_rest {A r P : Nat} (hA : A < P) (hr : r ≤ A) : (A + P - r) % P = A - r := by
  rw [show A + P - r = (A - r) + P by omega, Nat.add_mod_right, Nat.mod_eq_of_lt (by omega)]

theorem rest_none (A M : Nat) : (A - A % M) % M = 0 := by
  have := Nat.div_add_mod A M
  rw [show A - A % M = M * (A / M) by omega, Nat.mul_mod_right]

set_option maxHeartbeats 1000000 in
set_option maxRecDepth 100000 in
theorem natRest_any (a : Option Addr) (n c : Nat) (xs : List Nat) (a' : Option Addr) (n' c' : Nat) (ys : List Nat) (w0 : World) (hn : n ≤ c) (hm : c ≤ maxLen) (hn' : n' ≤ c') (hm' : c' ≤ maxLen) (VA : View w0 a n xs) (VB : View w0 a' n' ys) :
    Calls Try.prog 10 #[.slice a n c, .slice a' n' c'] w0 fun e w' => e = .returned (.bool true) ∧ Below w0.heap.size w0 w' := by
  replace VA := VA.take 7
  replace VB := VB.take 7
  have b1 : min n 7 ≤ 7 := by omega
  have b2 : min n' 7 ≤ 7 := by omega
  have d1 : min n 7 ≤ c := by omega
  have d2 : min n' 7 ≤ c' := by omega
  go_enter Try.func10, Try.ntmps10
  go_wp2_with fail
  ((with_reducible refine (lawCut_any _ _ _ _ _ hn hm (by decide) (by decide)).mono ?_))
  rintro e w' ⟨rfl, rfl⟩
  go_wp2_with fail
  ((with_reducible refine (lawCut_any _ _ _ _ _ hn' hm' (by decide) (by decide)).mono ?_))
  rintro e w' ⟨rfl, rfl⟩
  rw [show (7 : Int).toNat = 7 from rfl]
  clear hn hn'
  generalize min n 7 = na at *
  generalize min n' 7 = nb at *
  generalize xs.take 7 = A at *
  generalize ys.take 7 = B at *
  have LA := Lib.hid VA.vlt
  have LB := Lib.hid VB.vlt
  have HB0 := Lib.hid (Below.refl w0.heap.size w0)
  by_cases hz : val B = 0
  · skip
    have HZ := Lib.hid hz
    clear hz
    go_wp2_with fail
    ((with_reducible refine (rem_bad _ _ _ _ _ _ B _ d1 hm d2 hm' VB (by rw [take_short VB.len (by omega)]; exact HZ.out)).mono ?_))
    rintro e w' ⟨rfl, rfl⟩
    go_wp2_with fail
    ((with_reducible refine (alive_any _).mono ?_))
    rintro e w1 ⟨rfl, hb0⟩
    replace VA := VA.below (Nat.le_refl _) hb0
    replace VB := VB.below (Nat.le_refl _) hb0
    have HB1 := Lib.hid (below_then HB0.out hb0)
    clear hb0 HB0
    go_wp2_with fail
    ((with_reducible refine (bits_short _ _ _ B _ d2 hm' VB (by omega) (r := 0) (by rw [HZ.out]; exact nbits_zero.symm)).mono ?_))
    rintro e w' ⟨rfl, rfl⟩
    go_wp2
    go_ret
    exact ⟨rfl, HB1.out⟩
  · skip
    have HZ := Lib.hid hz
    clear hz
    go_wp2_with fail
    ((with_reducible refine (rem_short _ _ _ A _ _ _ B _ d1 hm d2 hm' VA VB (by omega) (by omega) HZ.out).mono ?_))
    rintro e w1 ⟨g0, rfl, o0, _, hb0⟩
    replace VA := VA.below (Nat.le_refl _) hb0
    replace VB := VB.below (Nat.le_refl _) hb0
    have HB1 := Lib.hid (below_then HB0.out hb0)
    have VR := o0.vrow
    clear hb0 HB0 o0
    have RL := Lib.hid (show val A % val B < val B from Nat.mod_lt _ (Nat.pos_of_ne_zero HZ.out))
    have ER := Lib.hid (val_row_of (Nat.lt_trans RL.out LB.out))
    go_wp2_with fail
    ((with_reducible refine (add_short _ _ _ A _ _ _ B _ d1 hm d2 hm' VA VB (by omega) (by omega)).mono ?_))
    rintro e w2 ⟨g1, rfl, o1, _, hb1⟩
    replace VA := VA.below (Nat.le_refl _) hb1
    replace VB := VB.below (Nat.le_refl _) hb1
    replace VR := VR.below (Nat.le_refl _) hb1
    have HB2 := Lib.hid (below_then HB1.out hb1)
    have VS := o1.vrow
    clear hb1 HB1 o1
    have bK : max na nb ≤ 7 := by omega
    have LS := Lib.hid (add_lt LA.out LB.out)
    obtain ⟨cs, hcs⟩ : ∃ q, q = (val A + val B) / 2 ^ (64 * max na nb) := ⟨_, rfl⟩
    rw [← hcs]
    have Ecs := Lib.hid hcs
    clear hcs
    generalize hK : max na nb = K at *
    have HK := Lib.hid hK.symm
    clear hK
    have hsmcs : cs < 2 ^ 64 := by rw [Ecs.out]; exact carry_lt _ _ LS.out
    have o2 := ownS_empty w2 w2.heap.size (Nat.le_refl _)
    have q2 := VS.below (Nat.le_refl _) (below_alloc w2 (.cells #[] 27))
    go_wp2_with (first | (at_builtin; refine wpList_append_to _ rfl (.tmp 42) (.tmp 43) rfl w2.heap.size _ [] 0 rfl rfl o2 (fun y hy => by cases hy) _ _ _ _ rfl (fun e => by cases e) q2 (by omega) (by simp) (K) (Nat.zero_add _) _ (List.nil_append _) ?_; intro ad2 cp2 w3 oo2 vv2 le2 mx2 nn2 hb2) | (at_builtin; refine wpList_append_to _ rfl (.tmp 44) (.tmp 46) rfl w2.heap.size _ (row K (val A + val B)) (K) (length_row _ _) rfl (oo2.alloc _) (small_row _ _) _ _ _ _ rfl (fun e => by cases e) (view_lit w3 cs hsmcs) (by omega) (by have := hb2.size; simp at this ⊢; omega) (K + 1) rfl _ rfl ?_; intro ad3 cp3 w4 oo3 VS2 le3 mx3 nn3 hb3))
    have bb2 : Below w2.heap.size w2 w4 := (((below_alloc w2 _).trans hb2).trans (((Below.refl _ _).alloc (by have := hb2.size; simp at this; omega) _).trans hb3))
    replace VA := VA.below (Nat.le_refl _) bb2
    replace VB := VB.below (Nat.le_refl _) bb2
    replace VR := VR.below (Nat.le_refl _) bb2
    replace VS := VS.below (Nat.le_refl _) bb2
    have HB4 := Lib.hid (below_then HB2.out bb2)
    clear bb2 hb2 hb3 o2 q2 oo2 oo3 vv2 le2 mx2 nn2 nn3 HB2
    have ES := Lib.hid (show val (row K (val A + val B) ++ [cs]) = val A + val B by rw [Ecs.out]; exact val_carry _ _)
    clear VS
    go_wp2_with fail
    ((with_reducible refine (rem_short _ _ _ _ _ _ _ B _ le3 mx3 d2 hm' VS2 VB (by omega) (by omega) HZ.out).mono ?_))
    rintro e w5 ⟨g4, rfl, o4, _, hb4⟩
    replace VA := VA.below (Nat.le_refl _) hb4
    replace VB := VB.below (Nat.le_refl _) hb4
    replace VR := VR.below (Nat.le_refl _) hb4
    replace VS2 := VS2.below (Nat.le_refl _) hb4
    have HB5 := Lib.hid (below_then HB4.out hb4)
    have VT := o4.vrow
    clear hb4 HB4 o4
    rw [ES.out, Nat.add_mod_right] at VT
    clear VS2
    go_wp2_with fail
    ((with_reducible refine (mul_short _ _ _ A _ _ _ B _ d1 hm d2 hm' VA VB (by omega) (by omega)).mono ?_))
    rintro e w6 ⟨g5, rfl, o5, _, hb5⟩
    replace VA := VA.below (Nat.le_refl _) hb5
    replace VB := VB.below (Nat.le_refl _) hb5
    replace VR := VR.below (Nat.le_refl _) hb5
    replace VT := VT.below (Nat.le_refl _) hb5
    have HB6 := Lib.hid (below_then HB5.out hb5)
    have VM := o5.vrow
    clear hb5 HB5 o5
    have EM := Lib.hid (val_row_of (mul_lt LA.out LB.out))
    go_wp2_with fail
    ((with_reducible refine (rem_short _ _ _ _ _ _ _ B _ (Nat.le_refl _) (by unfold maxLen; omega) d2 hm' VM VB (by omega) (by omega) HZ.out).mono ?_))
    rintro e w7 ⟨g6, rfl, o6, _, hb6⟩
    replace VA := VA.below (Nat.le_refl _) hb6
    replace VB := VB.below (Nat.le_refl _) hb6
    replace VR := VR.below (Nat.le_refl _) hb6
    replace VT := VT.below (Nat.le_refl _) hb6
    replace VM := VM.below (Nat.le_refl _) hb6
    have HB7 := Lib.hid (below_then HB6.out hb6)
    have VU := o6.vrow
    clear hb6 HB6 o6
    rw [EM.out, Nat.mul_mod_left] at VU
    clear VM
    go_wp2_with fail
    ((with_reducible refine (sub_short _ _ _ A _ _ _ _ _ d1 hm (Nat.le_refl _) (by unfold maxLen; omega) VA VR (by omega) (by omega)).mono ?_))
    rintro e w8 ⟨g7, rfl, o7, _, hb7⟩
    replace VA := VA.below (Nat.le_refl _) hb7
    replace VB := VB.below (Nat.le_refl _) hb7
    replace VR := VR.below (Nat.le_refl _) hb7
    replace VT := VT.below (Nat.le_refl _) hb7
    replace VU := VU.below (Nat.le_refl _) hb7
    have HB8 := Lib.hid (below_then HB7.out hb7)
    have VD := o7.vrow
    clear hb7 HB7 o7
    rw [ER.out, ← HK.out] at VD
    rw [ER.out, ← HK.out, show ltN (val A) (val A % val B) = 0 by unfold ltN; rw [if_neg (by have := Nat.mod_le (val A) (val B); omega)]]
    have ED : Hid (val (row K (val A + 2 ^ (64 * K) - val A % val B)) = val A - val A % val B) := by
      rw [Hid, val_row]; exact sub_rest (Nat.lt_of_lt_of_le LA.out (Nat.pow_le_pow_right (by decide) (by have := HK.out; omega))) (Nat.mod_le _ _)
    go_wp2_with fail
    ((with_reducible refine (rem_short _ _ _ _ _ _ _ B _ (Nat.le_refl _) (by unfold maxLen; omega) d2 hm' VD VB (by omega) (by omega) HZ.out).mono ?_))
    rintro e w9 ⟨g8, rfl, o8, _, hb8⟩
    replace VA := VA.below (Nat.le_refl _) hb8
    replace VB := VB.below (Nat.le_refl _) hb8
    replace VR := VR.below (Nat.le_refl _) hb8
    replace VT := VT.below (Nat.le_refl _) hb8
    replace VU := VU.below (Nat.le_refl _) hb8
    replace VD := VD.below (Nat.le_refl _) hb8
    have HB9 := Lib.hid (below_then HB8.out hb8)
    have VV := o8.vrow
    clear hb8 HB8 o8
    rw [ED.out, rest_none] at VV
    clear VD
    go_wp2_with fail
    ((with_reducible refine (alive_any _).mono ?_))
    rintro e w10 ⟨rfl, hb9⟩
    replace VA := VA.below (Nat.le_refl _) hb9
    replace VB := VB.below (Nat.le_refl _) hb9
    replace VR := VR.below (Nat.le_refl _) hb9
    replace VT := VT.below (Nat.le_refl _) hb9
    replace VU := VU.below (Nat.le_refl _) hb9
    replace VV := VV.below (Nat.le_refl _) hb9
    have HB10 := Lib.hid (below_then HB9.out hb9)
    clear hb9 HB9
    go_wp2_with fail
    ((with_reducible refine (cmp_short _ _ _ _ _ _ _ B _ (Nat.le_refl _) (by unfold maxLen; omega) d2 hm' VR VB (by omega) (by omega) (r := -1) (by rw [ER.out]; exact (cmpI_lt RL.out).symm)).mono ?_))
    rintro e w' ⟨rfl, rfl⟩
    go_wp2_with fail
    ((with_reducible refine (cmp_short _ _ _ _ _ _ _ _ _ (Nat.le_refl _) (by unfold maxLen; omega) (Nat.le_refl _) (by unfold maxLen; omega) VR VT (by omega) (by omega) (r := 0) (same_cmp3 rfl)).mono ?_))
    rintro e w' ⟨rfl, rfl⟩
    go_wp2_with fail
    ((with_reducible refine (bits_short _ _ _ _ _ (Nat.le_refl _) (by unfold maxLen; omega) VU (by omega) (r := 0) (by rw [val_row, Nat.zero_mod]; exact nbits_zero.symm)).mono ?_))
    rintro e w' ⟨rfl, rfl⟩
    go_wp2_with fail
    ((with_reducible refine (bits_short _ _ _ _ _ (Nat.le_refl _) (by unfold maxLen; omega) VV (by omega) (r := 0) (by rw [val_row, Nat.zero_mod]; exact nbits_zero.symm)).mono ?_))
    rintro e w' ⟨rfl, rfl⟩
    go_wp2
    go_ret
    exact ⟨rfl, HB10.out⟩
end Go.Proofs.Ytglmpggljahkiaa
