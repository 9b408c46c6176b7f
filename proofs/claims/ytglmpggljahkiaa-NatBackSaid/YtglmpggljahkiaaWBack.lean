/- What is proved here: the law NatBack answers true at any two rows of limbs and any text, and nothing that was in memory changes. -/
import Derived.Test.YtglmpggljahkiaaShort
import Derived.Test.YtglmpggljahkiaaGet
import Derived.Test.YtglmpggljahkiaaPut
import Derived.Test.YtglmpggljahkiaaRefAdd
import Derived.Test.YtglmpggljahkiaaAlive
namespace Go.Proofs.Ytglmpggljahkiaa
open Go.RowKit

theorem same_cmp' {x y : Nat} (h : x = y) : (0 : Int) = cmpI x y := by rw [h, cmpI_self]

theorem str_of_bl (s : ByteArray) : (⟨(bl s).toArray⟩ : ByteArray) = s := by cases s; simp [bl]

theorem back_row {A' : List Nat} {na : Nat} (hs : Small A') (hl : A'.length = na) : row na (bval (be (8 * na) (val A'))) = A' := by
  subst hl
  rw [bval_be, pow256, ← Nat.mul_assoc, Nat.mod_eq_of_lt (val_lt hs), row_val hs]

theorem put_back (s : ByteArray) (m : Nat) (hs : s.size = 8 * m) : be (8 * m) (val (row m (bval (bl s)))) = bl s := by
  have h := bval_lt (bl s)
  rw [length_bl, hs, pow256, ← Nat.mul_assoc] at h
  rw [val_row, Nat.mod_eq_of_lt h, ← hs, ← length_bl, be_bval]

theorem size_str (l : List UInt8) : (⟨l.toArray⟩ : ByteArray).size = l.length := by simp [ByteArray.size]

theorem bl_str (l : List UInt8) : bl ⟨l.toArray⟩ = l := by simp [bl]

theorem sub_back {A B K nb : Nat} (hA : A < 2 ^ (64 * (K + 1))) (hM : max (K + 1) nb = K + 1) : val (row (max (K + 1) nb) (A + B + 2 ^ (64 * max (K + 1) nb) - B)) = A := by
  rw [hM, val_row, show A + B + 2 ^ (64 * (K + 1)) - B = A + 2 ^ (64 * (K + 1)) by omega, Nat.add_mod_right, Nat.mod_eq_of_lt hA]

set_option maxHeartbeats 4000000 in
theorem natBack_any (a : Option Addr) (n c : Nat) (xs : List Nat) (a' : Option Addr) (n' c' : Nat) (ys : List Nat) (s : ByteArray) (w0 : World) (hn : n ≤ c) (hm : c ≤ maxLen) (hn' : n' ≤ c') (hm' : c' ≤ maxLen) (hs : s.size ≤ maxLen) (VA : View w0 a n xs) (VB : View w0 a' n' ys) :
    Calls Try.prog 8 #[.slice a n c, .slice a' n' c', .string s] w0 fun e w' => e = .returned (.bool true) ∧ Below w0.heap.size w0 w' := by
  replace VA := VA.take 15
  replace VB := VB.take 15
  have b1 : min n 15 ≤ 15 := by omega
  have b2 : min n' 15 ≤ 15 := by omega
  have d1 : min n 15 ≤ c := by omega
  have d2 : min n' 15 ≤ c' := by omega
  go_enter Try.func8, Try.ntmps8
  go_wp2_with fail
  refine (lawCut_any _ _ _ _ _ hn hm (by decide) (by decide)).mono ?_
  rintro e w' ⟨rfl, rfl⟩
  go_wp2_with fail
  refine (lawCut_any _ _ _ _ _ hn' hm' (by decide) (by decide)).mono ?_
  rintro e w' ⟨rfl, rfl⟩
  rw [show (15 : Int).toNat = 15 from rfl]
  clear hn hn'
  generalize min n 15 = na at *
  generalize min n' 15 = nb at *
  generalize xs.take 15 = A at *
  generalize ys.take 15 = B at *
  have LA := Lib.hid VA.vlt
  have LB := Lib.hid VB.vlt
  have HB0 := Lib.hid (Below.refl w0.heap.size w0)
  go_wp2_with fail
  refine (add_short _ _ _ A _ _ _ B _ d1 hm d2 hm' VA VB (by omega) (by omega)).mono ?_
  rintro e w1 ⟨g0, rfl, o0, _, hb0⟩
  replace VA := VA.below (Nat.le_refl _) hb0
  replace VB := VB.below (Nat.le_refl _) hb0
  have HB1 := Lib.hid (below_then HB0.out hb0)
  have VS := o0.vrow
  clear hb0 HB0 o0
  have bK : max na nb ≤ 15 := by omega
  have bKb : nb ≤ max na nb := by omega
  have LS := Lib.hid (add_lt LA.out LB.out)
  have LA2 := Lib.hid (show val A < 2 ^ (64 * (max na nb + 1)) from Nat.lt_of_lt_of_le LA.out (Nat.pow_le_pow_right (by decide) (by omega)))
  obtain ⟨cs, hcs⟩ : ∃ q, q = (val A + val B) / 2 ^ (64 * max na nb) := ⟨_, rfl⟩
  rw [← hcs]
  have Ecs := Lib.hid hcs
  clear hcs
  generalize max na nb = K at *
  have hsmcs : cs < 2 ^ 64 := by rw [Ecs.out]; exact carry_lt _ _ LS.out
  have o1 := ownS_empty w1 w1.heap.size (Nat.le_refl _)
  have q1 := VS.below (Nat.le_refl _) (below_alloc w1 (.cells #[] 27))
  go_wp2_with (first | (at_builtin; refine wpList_append_to _ rfl (.tmp 25) (.tmp 26) rfl w1.heap.size _ [] 0 rfl rfl o1 (fun y hy => by cases hy) _ _ _ _ rfl (fun e => by cases e) q1 (by omega) (by simp) (K) (Nat.zero_add _) _ (List.nil_append _) ?_; intro ad1 cp1 w2 oo1 vv1 le1 mx1 nn1 hb1) | (at_builtin; refine wpList_append_to _ rfl (.tmp 27) (.tmp 29) rfl w1.heap.size _ (row K (val A + val B)) (K) (length_row _ _) rfl (oo1.alloc _) (small_row _ _) _ _ _ _ rfl (fun e => by cases e) (view_lit w2 cs hsmcs) (by omega) (by have := hb1.size; simp at this ⊢; omega) (K + 1) rfl _ rfl ?_; intro ad2 cp2 w3 oo2 VS2 le2 mx2 nn2 hb2))
  have bb1 : Below w1.heap.size w1 w3 := (((below_alloc w1 _).trans hb1).trans (((Below.refl _ _).alloc (by have := hb1.size; simp at this; omega) _).trans hb2))
  replace VA := VA.below (Nat.le_refl _) bb1
  replace VB := VB.below (Nat.le_refl _) bb1
  replace VS := VS.below (Nat.le_refl _) bb1
  have HB3 := Lib.hid (below_then HB1.out bb1)
  clear bb1 hb1 hb2 o1 q1 oo1 oo2 vv1 le1 mx1 nn1 nn2 HB1
  have ES := Lib.hid (show val (row K (val A + val B) ++ [cs]) = val A + val B by rw [Ecs.out]; exact val_carry _ _)
  clear VS
  go_wp2_with fail
  refine (sub_short _ _ _ _ _ _ _ B _ le2 mx2 d2 hm' VS2 VB (by omega) (by omega)).mono ?_
  rintro e w4 ⟨g3, rfl, o3, _, hb3⟩
  replace VA := VA.below (Nat.le_refl _) hb3
  replace VB := VB.below (Nat.le_refl _) hb3
  replace VS2 := VS2.below (Nat.le_refl _) hb3
  have HB4 := Lib.hid (below_then HB3.out hb3)
  have VD := o3.vrow
  clear hb3 HB3 o3
  have hM := Lib.hid (show max (K + 1) nb = K + 1 by omega)
  have ED := Lib.hid (sub_back (B := val B) LA2.out hM.out)
  rw [show ltN (val (row K (val A + val B) ++ [cs])) (val B) = 0 by rw [ES.out]; unfold ltN; rw [if_neg (by omega)]]
  rw [ES.out] at VD
  have bM : max (K + 1) nb ≤ 16 := by have := hM.out; omega
  generalize max (K + 1) nb = M at *
  clear VS2
  go_wp2_with fail
  refine (put_any _ _ _ A _ d1 hm VA).mono ?_
  rintro e w5 ⟨rfl, hb4⟩
  replace VA := VA.below (Nat.le_refl _) hb4
  replace VB := VB.below (Nat.le_refl _) hb4
  replace VD := VD.below (Nat.le_refl _) hb4
  have HB5 := Lib.hid (below_then HB4.out hb4)
  clear hb4 HB4
  rw [show min na 16 = na by omega, take_short VA.len (by omega)]
  go_wp2_with fail
  refine (get_any _ na _ (by rw [size_str, length_be]) (by omega)).mono ?_
  rintro e w6 ⟨g5, rfl, o5, _, hb5⟩
  replace VA := VA.below (Nat.le_refl _) hb5
  replace VB := VB.below (Nat.le_refl _) hb5
  replace VD := VD.below (Nat.le_refl _) hb5
  have HB6 := Lib.hid (below_then HB5.out hb5)
  have VG := o5.vrow
  clear hb5 HB5 o5
  rw [bl_str, back_row VA.small VA.len] at VG
  by_cases hsz : s.size % 8 ≠ 0 ∨ 128 < s.size
  · skip
    have HZ := Lib.hid hsz
    clear hsz
    go_wp2_with fail
    refine (get_bad _ _ hs HZ.out).mono ?_
    rintro e w' ⟨rfl, rfl⟩
    go_wp2_with fail
    refine (alive_any _).mono ?_
    rintro e w7 ⟨rfl, hb6⟩
    replace VA := VA.below (Nat.le_refl _) hb6
    replace VB := VB.below (Nat.le_refl _) hb6
    replace VD := VD.below (Nat.le_refl _) hb6
    replace VG := VG.below (Nat.le_refl _) hb6
    have HB7 := Lib.hid (below_then HB6.out hb6)
    clear hb6 HB6
    go_wp2_with fail
    refine (cmp_short _ _ _ _ _ _ _ _ _ (Nat.le_refl _) (by unfold maxLen; omega) d1 hm VD VA (by omega) (by omega) (r := 0) (same_cmp' ED.out)).mono ?_
    rintro e w' ⟨rfl, rfl⟩
    go_wp2_with fail
    refine (same_true _ _ _ _ _ _ _ _ (by unfold maxLen; omega) VG VA).mono ?_
    rintro e w8 ⟨rfl, hb7⟩
    replace VA := VA.below (Nat.le_refl _) hb7
    replace VB := VB.below (Nat.le_refl _) hb7
    replace VD := VD.below (Nat.le_refl _) hb7
    replace VG := VG.below (Nat.le_refl _) hb7
    have HB8 := Lib.hid (below_then HB7.out hb7)
    clear hb7 HB7
    go_wp2
    go_ret
    exact ⟨rfl, HB8.out⟩
  · skip
    obtain ⟨m, hm8, hm16⟩ : ∃ m, s.size = 8 * m ∧ m ≤ 16 := ⟨s.size / 8, by omega, by omega⟩
    have HZ := Lib.hid hm8
    clear hsz hm8
    go_wp2_with fail
    refine (get_any _ m _ HZ.out hm16).mono ?_
    rintro e w7 ⟨g6, rfl, o6, _, hb6⟩
    replace VA := VA.below (Nat.le_refl _) hb6
    replace VB := VB.below (Nat.le_refl _) hb6
    replace VD := VD.below (Nat.le_refl _) hb6
    replace VG := VG.below (Nat.le_refl _) hb6
    have HB7 := Lib.hid (below_then HB6.out hb6)
    have VN := o6.vrow
    clear hb6 HB6 o6
    go_wp2_with fail
    refine (alive_any _).mono ?_
    rintro e w8 ⟨rfl, hb7⟩
    replace VA := VA.below (Nat.le_refl _) hb7
    replace VB := VB.below (Nat.le_refl _) hb7
    replace VD := VD.below (Nat.le_refl _) hb7
    replace VG := VG.below (Nat.le_refl _) hb7
    replace VN := VN.below (Nat.le_refl _) hb7
    have HB8 := Lib.hid (below_then HB7.out hb7)
    clear hb7 HB7
    go_wp2_with fail
    refine (cmp_short _ _ _ _ _ _ _ _ _ (Nat.le_refl _) (by unfold maxLen; omega) d1 hm VD VA (by omega) (by omega) (r := 0) (same_cmp' ED.out)).mono ?_
    rintro e w' ⟨rfl, rfl⟩
    go_wp2_with fail
    refine (same_true _ _ _ _ _ _ _ _ (by unfold maxLen; omega) VG VA).mono ?_
    rintro e w9 ⟨rfl, hb8⟩
    replace VA := VA.below (Nat.le_refl _) hb8
    replace VB := VB.below (Nat.le_refl _) hb8
    replace VD := VD.below (Nat.le_refl _) hb8
    replace VG := VG.below (Nat.le_refl _) hb8
    replace VN := VN.below (Nat.le_refl _) hb8
    have HB9 := Lib.hid (below_then HB8.out hb8)
    clear hb8 HB8
    go_wp2_with fail
    refine (put_any _ _ _ _ _ (Nat.le_refl _) (by unfold maxLen; omega) VN).mono ?_
    rintro e w10 ⟨rfl, hb9⟩
    replace VA := VA.below (Nat.le_refl _) hb9
    replace VB := VB.below (Nat.le_refl _) hb9
    replace VD := VD.below (Nat.le_refl _) hb9
    replace VG := VG.below (Nat.le_refl _) hb9
    replace VN := VN.below (Nat.le_refl _) hb9
    have HB10 := Lib.hid (below_then HB9.out hb9)
    clear hb9 HB9
    rw [show min m 16 = m by omega, take_short VN.len (by omega), put_back s m HZ.out, str_of_bl]
    go_wp2
    go_ret
    exact ⟨rfl, HB10.out⟩
end Go.Proofs.Ytglmpggljahkiaa
