/- What is proved here: the law NatOrder answers true at any two rows of limbs, and nothing that was in memory changes. -/
import Derived.Test.YtglmpggljahkiaaShort
import Derived.Test.YtglmpggljahkiaaPut
import Derived.Test.YtglmpggljahkiaaRefAdd
import Derived.Test.YtglmpggljahkiaaAlive
import Derived.Laws.Cover1
namespace Go.Proofs.Ytglmpggljahkiaa
open Go.RowKit

theorem bytesLess_iff (l l' : List UInt8) (h : l.length = l'.length) : Op.bytesLess l l' = true ↔ bval l < bval l' := by
  induction l generalizing l' with
  | nil =>
    cases l' with
    | nil => simp [Op.bytesLess, bval]
    | cons b l' => simp at h
  | cons a l ih =>
    cases l' with
    | nil => simp at h
    | cons b l' =>
      have hl : l.length = l'.length := by simpa using h
      have h1 := bval_lt l
      have h2 := bval_lt l'
      rw [hl] at h1
      have e1 : Op.bytesLess (a :: l) (b :: l') = (decide (a < b) || (a == b && Op.bytesLess l l')) := rfl
      have e2 : bval (a :: l) = a.toNat * 256 ^ l'.length + bval l := by show a.toNat * 256 ^ l.length + bval l = _; rw [hl]
      have e3 : bval (b :: l') = b.toNat * 256 ^ l'.length + bval l' := rfl
      rw [e1, e2, e3, Bool.or_eq_true, Bool.and_eq_true, ih l' hl, beq_iff_eq, decide_eq_true_eq, UInt8.lt_iff_toNat_lt, ← UInt8.toNat_inj]
      generalize 256 ^ l'.length = P at *
      rcases (show a.toNat < b.toNat ∨ a.toNat = b.toNat ∨ b.toNat < a.toNat by omega) with h3 | h3 | h3
      · have h4 : (a.toNat + 1) * P ≤ b.toNat * P := Nat.mul_le_mul_right _ h3
        rw [Nat.add_mul] at h4
        omega
      · rw [h3]
        omega
      · have h4 : (b.toNat + 1) * P ≤ a.toNat * P := Nat.mul_le_mul_right _ h3
        rw [Nat.add_mul] at h4
        omega

theorem bytesLess_bval (l l' : List UInt8) (h : l.length = l'.length) : Op.bytesLess l l' = decide (bval l < bval l') := by
  rw [Bool.eq_iff_iff, bytesLess_iff l l' h, decide_eq_true_eq]

/-- The three ways of two numbers' bytes. -/
theorem order_ways {N X Y : Nat} (hX : X < 2 ^ (64 * N)) (hY : Y < 2 ^ (64 * N)) :
    (Op.bytesLess (be (8 * N) X) (be (8 * N) Y) = true ∧ (-1 : Int) = cmpI X Y) ∨
    (Op.bytesLess (be (8 * N) X) (be (8 * N) Y) = false ∧ (be (8 * N) X == be (8 * N) Y) = false ∧ (1 : Int) = cmpI X Y) ∨
    (Op.bytesLess (be (8 * N) X) (be (8 * N) Y) = false ∧ (be (8 * N) X == be (8 * N) Y) = true ∧ (0 : Int) = cmpI X Y) := by
  have e1 : bval (be (8 * N) X) = X := by rw [bval_be, pow256, ← Nat.mul_assoc, Nat.mod_eq_of_lt hX]
  have e2 : bval (be (8 * N) Y) = Y := by rw [bval_be, pow256, ← Nat.mul_assoc, Nat.mod_eq_of_lt hY]
  have e3 := bytesLess_bval (be (8 * N) X) (be (8 * N) Y) (by rw [length_be, length_be])
  rw [e1, e2] at e3
  rcases Nat.lt_trichotomy X Y with h | h | h
  · exact .inl ⟨by rw [e3]; simp [h], (cmpI_lt h).symm⟩
  · subst h
    exact .inr (.inr ⟨by rw [e3]; simp, by simp, (cmpI_self _).symm⟩)
  · refine .inr (.inl ⟨by rw [e3]; simp; omega, ?_, (cmpI_gt h).symm⟩)
    rw [beq_eq_false_iff_ne]
    intro e
    rw [e] at e1
    omega

theorem moved {A : List Nat} {N : Nat} (hs : Small A) (hl : A.length = N) : row (N + 2) (val A * val [0, 1]) = [0] ++ A ++ [0] := by
  have hsm : Small ([0] ++ A ++ [0]) := by
    intro y hy
    simp only [List.mem_append, List.mem_singleton] at hy
    rcases hy with (rfl | hy) | rfl
    · decide
    · exact hs y hy
    · decide
  have hlen : ([0] ++ A ++ [0]).length = N + 2 := by simp [hl]
  have hv : val ([0] ++ A ++ [0]) = val A * val [0, 1] := by
    rw [val_append, val_append]
    simp [val]
    omega
  rw [← hv, ← hlen, row_val hsm]

theorem small01 : Small [0, 1] := by intro y hy; simp at hy; rcases hy with rfl | rfl <;> decide
theorem small0 : Small [0] := by intro y hy; simp at hy; subst hy; decide

theorem ownS_lit (w : World) (base : Nat) (hb : base ≤ w.heap.size) : OwnS (w.alloc (.cells #[.int .u64 0] 27)) base (.slice (some ⟨w.heap.size, 0, none⟩) 1 1) [0] :=
  World.ownsRow_lit w #[.int .u64 0] 1 hb (by unfold maxLen; omega) (by simp)

theorem vtake {w : World} {a : Option Addr} {n N : Nat} {xs : List Nat} (h : View w a n xs) (hN : N ≤ n) : View w a N (xs.take N) := by
  have := h.take N
  rwa [show min n N = N by omega] at this


set_option maxHeartbeats 4000000 in
theorem natOrder_1 (a : Option Addr) (n c : Nat) (xs : List Nat) (a' : Option Addr) (n' c' : Nat) (ys : List Nat) (w00 : World) (hn : n ≤ c) (hm : c ≤ maxLen) (hn' : n' ≤ c') (hm' : c' ≤ maxLen) (VA : View w00 a n xs) (VB : View w00 a' n' ys) (HNN : a = none → c = 0) (h1 : n ≤ n') (h2 : n ≤ 16) :
    Calls Try.prog 11 #[.slice a n c, .slice a' n' c'] w00 fun e w' => e = .returned (.bool true) ∧ Below w00.heap.size w00 w' := by
  replace VA := vtake VA (N := n) (by omega)
  replace VB := vtake VB (N := n) (by omega)
  have d1 : n ≤ c := by omega
  have d2 : n ≤ c' := by omega
  have HM := Lib.hid hm
  have HM' := Lib.hid hm'
  unfold maxLen at hm hm'
  generalize xs.take n = A at *
  generalize ys.take n = B at *
  go_enter Try.func11, Try.ntmps11
  go_wp2
  go_quiet (fail)
  have hbq : Below w00.heap.size w00 (w00.drewN nq) := below_drewN (Below.refl _ _) _
  replace VA := VA.below (Nat.le_refl _) hbq
  replace VB := VB.below (Nat.le_refl _) hbq
  have HB0 := Lib.hid hbq
  clear hbq hm hm'
  generalize w00.drewN nq = w0 at *
  go_wp2_with fail
  refine (put_any _ _ _ A _ d1 HM.out VA).mono ?_
  rintro e w1 ⟨rfl, hb0⟩
  replace VA := VA.below (Nat.le_refl _) hb0
  replace VB := VB.below (Nat.le_refl _) hb0
  have HB1 := Lib.hid (below_then HB0.out hb0)
  clear hb0 HB0
  go_wp2_with fail
  refine (put_any _ _ _ B _ d2 HM'.out VB).mono ?_
  rintro e w2 ⟨rfl, hb1⟩
  replace VA := VA.below (Nat.le_refl _) hb1
  replace VB := VB.below (Nat.le_refl _) hb1
  have HB2 := Lib.hid (below_then HB1.out hb1)
  clear hb1 HB1
  rw [show min n 16 = n by omega, take_short VA.len (by omega), take_short VB.len (by omega)]
  have OW := order_ways VA.vlt VB.vlt
  have MV := Lib.hid (moved VA.small VA.len)
  generalize be (8 * n) (val A) = S at *
  generalize be (8 * n) (val B) = T at *
  rcases OW with ⟨f1, f2⟩ | ⟨f1, f0, f2⟩ | ⟨f1, f0, f2⟩
  · skip
    have F2 := Lib.hid f2
    clear f2
    go_wp2_with fail
    refine (alive_any _).mono ?_
    rintro e w3 ⟨rfl, hb2⟩
    replace VA := VA.below (Nat.le_refl _) hb2
    replace VB := VB.below (Nat.le_refl _) hb2
    have HB3 := Lib.hid (below_then HB2.out hb2)
    clear hb2 HB2
    go_wp2_with fail
    refine (cmp_short _ _ _ A _ _ _ B _ d1 HM.out d2 HM'.out VA VB (by omega) (by omega) F2.out).mono ?_
    rintro e w' ⟨rfl, rfl⟩
    go_wp2_with fail
    have ol := own_lit w3 [0, 1]
    have ba := below_alloc w3 (.cells (cellsOf [0, 1]).toArray 27)
    replace VA := VA.below (Nat.le_refl _) ba
    replace VB := VB.below (Nat.le_refl _) ba
    refine (mul_short _ _ _ A _ 2 2 [0, 1] _ d1 HM.out (by omega) (by unfold maxLen; omega) VA (ol.view small01) (by omega) (by omega)).mono ?_
    rintro e w4 ⟨gm, rfl, om, _, hbm⟩
    replace VA := VA.below (Nat.le_refl _) hbm
    replace VB := VB.below (Nat.le_refl _) hbm
    have VM := om.vrow
    rw [MV.out] at VM
    have HB4 := Lib.hid (below_then HB3.out (below_then ba hbm))
    clear ol ba hbm om HB3
    have oo0 := ownS_lit w4 w4.heap.size (Nat.le_refl _)
    have q0 := VA.below (Nat.le_refl _) (below_alloc w4 (.cells #[.int .u64 0] 27))
    go_wp2_with (first | (at_builtin; refine wpList_append_to _ rfl (.tmp 42) (.tmp 43) rfl w4.heap.size _ [0] 1 rfl rfl oo0 small0 _ _ _ _ rfl HNN q0 (by omega) (by simp) (1 + n) rfl _ rfl ?_; intro ad1 cp1 x1 oo1 vv1 le1 mx1 nn1 hx1) | (at_builtin; refine wpList_append_to _ rfl (.tmp 44) (.tmp 45) rfl w4.heap.size _ ([0] ++ A) (1 + n) (by simp [VA.len]; omega) rfl (oo1.alloc _) (small0.append VA.small) _ _ _ _ rfl (fun e => by cases e) (view_lit x1 0 (by decide)) (by omega) (by have := hx1.size; simp at this ⊢; omega) (1 + n + 1) rfl _ rfl ?_; intro ad2 cp2 x2 oo2 vv2 le2 mx2 nn2 hx2))
    have bb : Below w4.heap.size w4 x2 := (((below_alloc w4 _).trans hx1).trans (((Below.refl _ _).alloc (by have := hx1.size; simp at this; omega) _).trans hx2))
    replace VM := VM.below (Nat.le_refl _) bb
    have HBx := Lib.hid (below_then HB4.out bb)
    refine (same_true _ _ _ _ _ _ _ _ (by unfold maxLen; omega) VM vv2).mono ?_
    rintro e x3 ⟨rfl, hx3⟩
    have HBy := Lib.hid (below_then HBx.out hx3)
    clear hx3 HBx bb hx1 hx2 oo0 oo1 oo2 vv1 vv2 q0 VM VA VB nn1 nn2
    go_wp2
    go_ret
    exact ⟨rfl, HBy.out⟩
  · skip
    have F2 := Lib.hid f2
    clear f2
    go_wp2_with fail
    refine (alive_any _).mono ?_
    rintro e w3 ⟨rfl, hb2⟩
    replace VA := VA.below (Nat.le_refl _) hb2
    replace VB := VB.below (Nat.le_refl _) hb2
    have HB3 := Lib.hid (below_then HB2.out hb2)
    clear hb2 HB2
    go_wp2_with fail
    refine (cmp_short _ _ _ A _ _ _ B _ d1 HM.out d2 HM'.out VA VB (by omega) (by omega) F2.out).mono ?_
    rintro e w' ⟨rfl, rfl⟩
    go_wp2_with fail
    have ol := own_lit w3 [0, 1]
    have ba := below_alloc w3 (.cells (cellsOf [0, 1]).toArray 27)
    replace VA := VA.below (Nat.le_refl _) ba
    replace VB := VB.below (Nat.le_refl _) ba
    refine (mul_short _ _ _ A _ 2 2 [0, 1] _ d1 HM.out (by omega) (by unfold maxLen; omega) VA (ol.view small01) (by omega) (by omega)).mono ?_
    rintro e w4 ⟨gm, rfl, om, _, hbm⟩
    replace VA := VA.below (Nat.le_refl _) hbm
    replace VB := VB.below (Nat.le_refl _) hbm
    have VM := om.vrow
    rw [MV.out] at VM
    have HB4 := Lib.hid (below_then HB3.out (below_then ba hbm))
    clear ol ba hbm om HB3
    have oo0 := ownS_lit w4 w4.heap.size (Nat.le_refl _)
    have q0 := VA.below (Nat.le_refl _) (below_alloc w4 (.cells #[.int .u64 0] 27))
    go_wp2_with (first | (at_builtin; refine wpList_append_to _ rfl (.tmp 42) (.tmp 43) rfl w4.heap.size _ [0] 1 rfl rfl oo0 small0 _ _ _ _ rfl HNN q0 (by omega) (by simp) (1 + n) rfl _ rfl ?_; intro ad1 cp1 x1 oo1 vv1 le1 mx1 nn1 hx1) | (at_builtin; refine wpList_append_to _ rfl (.tmp 44) (.tmp 45) rfl w4.heap.size _ ([0] ++ A) (1 + n) (by simp [VA.len]; omega) rfl (oo1.alloc _) (small0.append VA.small) _ _ _ _ rfl (fun e => by cases e) (view_lit x1 0 (by decide)) (by omega) (by have := hx1.size; simp at this ⊢; omega) (1 + n + 1) rfl _ rfl ?_; intro ad2 cp2 x2 oo2 vv2 le2 mx2 nn2 hx2))
    have bb : Below w4.heap.size w4 x2 := (((below_alloc w4 _).trans hx1).trans (((Below.refl _ _).alloc (by have := hx1.size; simp at this; omega) _).trans hx2))
    replace VM := VM.below (Nat.le_refl _) bb
    have HBx := Lib.hid (below_then HB4.out bb)
    refine (same_true _ _ _ _ _ _ _ _ (by unfold maxLen; omega) VM vv2).mono ?_
    rintro e x3 ⟨rfl, hx3⟩
    have HBy := Lib.hid (below_then HBx.out hx3)
    clear hx3 HBx bb hx1 hx2 oo0 oo1 oo2 vv1 vv2 q0 VM VA VB nn1 nn2
    go_wp2
    go_ret
    exact ⟨rfl, HBy.out⟩
  · skip
    have F2 := Lib.hid f2
    clear f2
    go_wp2_with fail
    refine (alive_any _).mono ?_
    rintro e w3 ⟨rfl, hb2⟩
    replace VA := VA.below (Nat.le_refl _) hb2
    replace VB := VB.below (Nat.le_refl _) hb2
    have HB3 := Lib.hid (below_then HB2.out hb2)
    clear hb2 HB2
    go_wp2_with fail
    refine (cmp_short _ _ _ A _ _ _ B _ d1 HM.out d2 HM'.out VA VB (by omega) (by omega) F2.out).mono ?_
    rintro e w' ⟨rfl, rfl⟩
    go_wp2_with fail
    have ol := own_lit w3 [0, 1]
    have ba := below_alloc w3 (.cells (cellsOf [0, 1]).toArray 27)
    replace VA := VA.below (Nat.le_refl _) ba
    replace VB := VB.below (Nat.le_refl _) ba
    refine (mul_short _ _ _ A _ 2 2 [0, 1] _ d1 HM.out (by omega) (by unfold maxLen; omega) VA (ol.view small01) (by omega) (by omega)).mono ?_
    rintro e w4 ⟨gm, rfl, om, _, hbm⟩
    replace VA := VA.below (Nat.le_refl _) hbm
    replace VB := VB.below (Nat.le_refl _) hbm
    have VM := om.vrow
    rw [MV.out] at VM
    have HB4 := Lib.hid (below_then HB3.out (below_then ba hbm))
    clear ol ba hbm om HB3
    have oo0 := ownS_lit w4 w4.heap.size (Nat.le_refl _)
    have q0 := VA.below (Nat.le_refl _) (below_alloc w4 (.cells #[.int .u64 0] 27))
    go_wp2_with (first | (at_builtin; refine wpList_append_to _ rfl (.tmp 42) (.tmp 43) rfl w4.heap.size _ [0] 1 rfl rfl oo0 small0 _ _ _ _ rfl HNN q0 (by omega) (by simp) (1 + n) rfl _ rfl ?_; intro ad1 cp1 x1 oo1 vv1 le1 mx1 nn1 hx1) | (at_builtin; refine wpList_append_to _ rfl (.tmp 44) (.tmp 45) rfl w4.heap.size _ ([0] ++ A) (1 + n) (by simp [VA.len]; omega) rfl (oo1.alloc _) (small0.append VA.small) _ _ _ _ rfl (fun e => by cases e) (view_lit x1 0 (by decide)) (by omega) (by have := hx1.size; simp at this ⊢; omega) (1 + n + 1) rfl _ rfl ?_; intro ad2 cp2 x2 oo2 vv2 le2 mx2 nn2 hx2))
    have bb : Below w4.heap.size w4 x2 := (((below_alloc w4 _).trans hx1).trans (((Below.refl _ _).alloc (by have := hx1.size; simp at this; omega) _).trans hx2))
    replace VM := VM.below (Nat.le_refl _) bb
    have HBx := Lib.hid (below_then HB4.out bb)
    refine (same_true _ _ _ _ _ _ _ _ (by unfold maxLen; omega) VM vv2).mono ?_
    rintro e x3 ⟨rfl, hx3⟩
    have HBy := Lib.hid (below_then HBx.out hx3)
    clear hx3 HBx bb hx1 hx2 oo0 oo1 oo2 vv1 vv2 q0 VM VA VB nn1 nn2
    go_wp2
    go_ret
    exact ⟨rfl, HBy.out⟩

set_option maxHeartbeats 4000000 in
theorem natOrder_2 (a : Option Addr) (n c : Nat) (xs : List Nat) (a' : Option Addr) (n' c' : Nat) (ys : List Nat) (w00 : World) (hn : n ≤ c) (hm : c ≤ maxLen) (hn' : n' ≤ c') (hm' : c' ≤ maxLen) (VA : View w00 a n xs) (VB : View w00 a' n' ys) (HNN : a = none → c = 0) (h1 : n' < n) (h2 : n' ≤ 16) :
    Calls Try.prog 11 #[.slice a n c, .slice a' n' c'] w00 fun e w' => e = .returned (.bool true) ∧ Below w00.heap.size w00 w' := by
  replace VA := vtake VA (N := n') (by omega)
  replace VB := vtake VB (N := n') (by omega)
  have d1 : n' ≤ c := by omega
  have d2 : n' ≤ c' := by omega
  have HM := Lib.hid hm
  have HM' := Lib.hid hm'
  unfold maxLen at hm hm'
  generalize xs.take n' = A at *
  generalize ys.take n' = B at *
  go_enter Try.func11, Try.ntmps11
  go_wp2
  go_quiet (fail)
  have hbq : Below w00.heap.size w00 (w00.drewN nq) := below_drewN (Below.refl _ _) _
  replace VA := VA.below (Nat.le_refl _) hbq
  replace VB := VB.below (Nat.le_refl _) hbq
  have HB0 := Lib.hid hbq
  clear hbq hm hm'
  generalize w00.drewN nq = w0 at *
  go_wp2_with fail
  refine (put_any _ _ _ A _ d1 HM.out VA).mono ?_
  rintro e w1 ⟨rfl, hb0⟩
  replace VA := VA.below (Nat.le_refl _) hb0
  replace VB := VB.below (Nat.le_refl _) hb0
  have HB1 := Lib.hid (below_then HB0.out hb0)
  clear hb0 HB0
  go_wp2_with fail
  refine (put_any _ _ _ B _ d2 HM'.out VB).mono ?_
  rintro e w2 ⟨rfl, hb1⟩
  replace VA := VA.below (Nat.le_refl _) hb1
  replace VB := VB.below (Nat.le_refl _) hb1
  have HB2 := Lib.hid (below_then HB1.out hb1)
  clear hb1 HB1
  rw [show min n' 16 = n' by omega, take_short VA.len (by omega), take_short VB.len (by omega)]
  have OW := order_ways VA.vlt VB.vlt
  have MV := Lib.hid (moved VA.small VA.len)
  generalize be (8 * n') (val A) = S at *
  generalize be (8 * n') (val B) = T at *
  rcases OW with ⟨f1, f2⟩ | ⟨f1, f0, f2⟩ | ⟨f1, f0, f2⟩
  · skip
    have F2 := Lib.hid f2
    clear f2
    go_wp2_with fail
    refine (alive_any _).mono ?_
    rintro e w3 ⟨rfl, hb2⟩
    replace VA := VA.below (Nat.le_refl _) hb2
    replace VB := VB.below (Nat.le_refl _) hb2
    have HB3 := Lib.hid (below_then HB2.out hb2)
    clear hb2 HB2
    go_wp2_with fail
    refine (cmp_short _ _ _ A _ _ _ B _ d1 HM.out d2 HM'.out VA VB (by omega) (by omega) F2.out).mono ?_
    rintro e w' ⟨rfl, rfl⟩
    go_wp2_with fail
    have ol := own_lit w3 [0, 1]
    have ba := below_alloc w3 (.cells (cellsOf [0, 1]).toArray 27)
    replace VA := VA.below (Nat.le_refl _) ba
    replace VB := VB.below (Nat.le_refl _) ba
    refine (mul_short _ _ _ A _ 2 2 [0, 1] _ d1 HM.out (by omega) (by unfold maxLen; omega) VA (ol.view small01) (by omega) (by omega)).mono ?_
    rintro e w4 ⟨gm, rfl, om, _, hbm⟩
    replace VA := VA.below (Nat.le_refl _) hbm
    replace VB := VB.below (Nat.le_refl _) hbm
    have VM := om.vrow
    rw [MV.out] at VM
    have HB4 := Lib.hid (below_then HB3.out (below_then ba hbm))
    clear ol ba hbm om HB3
    have oo0 := ownS_lit w4 w4.heap.size (Nat.le_refl _)
    have q0 := VA.below (Nat.le_refl _) (below_alloc w4 (.cells #[.int .u64 0] 27))
    go_wp2_with (first | (at_builtin; refine wpList_append_to _ rfl (.tmp 42) (.tmp 43) rfl w4.heap.size _ [0] 1 rfl rfl oo0 small0 _ _ _ _ rfl HNN q0 (by omega) (by simp) (1 + n') rfl _ rfl ?_; intro ad1 cp1 x1 oo1 vv1 le1 mx1 nn1 hx1) | (at_builtin; refine wpList_append_to _ rfl (.tmp 44) (.tmp 45) rfl w4.heap.size _ ([0] ++ A) (1 + n') (by simp [VA.len]; omega) rfl (oo1.alloc _) (small0.append VA.small) _ _ _ _ rfl (fun e => by cases e) (view_lit x1 0 (by decide)) (by omega) (by have := hx1.size; simp at this ⊢; omega) (1 + n' + 1) rfl _ rfl ?_; intro ad2 cp2 x2 oo2 vv2 le2 mx2 nn2 hx2))
    have bb : Below w4.heap.size w4 x2 := (((below_alloc w4 _).trans hx1).trans (((Below.refl _ _).alloc (by have := hx1.size; simp at this; omega) _).trans hx2))
    replace VM := VM.below (Nat.le_refl _) bb
    have HBx := Lib.hid (below_then HB4.out bb)
    refine (same_true _ _ _ _ _ _ _ _ (by unfold maxLen; omega) VM vv2).mono ?_
    rintro e x3 ⟨rfl, hx3⟩
    have HBy := Lib.hid (below_then HBx.out hx3)
    clear hx3 HBx bb hx1 hx2 oo0 oo1 oo2 vv1 vv2 q0 VM VA VB nn1 nn2
    go_wp2
    go_ret
    exact ⟨rfl, HBy.out⟩
  · skip
    have F2 := Lib.hid f2
    clear f2
    go_wp2_with fail
    refine (alive_any _).mono ?_
    rintro e w3 ⟨rfl, hb2⟩
    replace VA := VA.below (Nat.le_refl _) hb2
    replace VB := VB.below (Nat.le_refl _) hb2
    have HB3 := Lib.hid (below_then HB2.out hb2)
    clear hb2 HB2
    go_wp2_with fail
    refine (cmp_short _ _ _ A _ _ _ B _ d1 HM.out d2 HM'.out VA VB (by omega) (by omega) F2.out).mono ?_
    rintro e w' ⟨rfl, rfl⟩
    go_wp2_with fail
    have ol := own_lit w3 [0, 1]
    have ba := below_alloc w3 (.cells (cellsOf [0, 1]).toArray 27)
    replace VA := VA.below (Nat.le_refl _) ba
    replace VB := VB.below (Nat.le_refl _) ba
    refine (mul_short _ _ _ A _ 2 2 [0, 1] _ d1 HM.out (by omega) (by unfold maxLen; omega) VA (ol.view small01) (by omega) (by omega)).mono ?_
    rintro e w4 ⟨gm, rfl, om, _, hbm⟩
    replace VA := VA.below (Nat.le_refl _) hbm
    replace VB := VB.below (Nat.le_refl _) hbm
    have VM := om.vrow
    rw [MV.out] at VM
    have HB4 := Lib.hid (below_then HB3.out (below_then ba hbm))
    clear ol ba hbm om HB3
    have oo0 := ownS_lit w4 w4.heap.size (Nat.le_refl _)
    have q0 := VA.below (Nat.le_refl _) (below_alloc w4 (.cells #[.int .u64 0] 27))
    go_wp2_with (first | (at_builtin; refine wpList_append_to _ rfl (.tmp 42) (.tmp 43) rfl w4.heap.size _ [0] 1 rfl rfl oo0 small0 _ _ _ _ rfl HNN q0 (by omega) (by simp) (1 + n') rfl _ rfl ?_; intro ad1 cp1 x1 oo1 vv1 le1 mx1 nn1 hx1) | (at_builtin; refine wpList_append_to _ rfl (.tmp 44) (.tmp 45) rfl w4.heap.size _ ([0] ++ A) (1 + n') (by simp [VA.len]; omega) rfl (oo1.alloc _) (small0.append VA.small) _ _ _ _ rfl (fun e => by cases e) (view_lit x1 0 (by decide)) (by omega) (by have := hx1.size; simp at this ⊢; omega) (1 + n' + 1) rfl _ rfl ?_; intro ad2 cp2 x2 oo2 vv2 le2 mx2 nn2 hx2))
    have bb : Below w4.heap.size w4 x2 := (((below_alloc w4 _).trans hx1).trans (((Below.refl _ _).alloc (by have := hx1.size; simp at this; omega) _).trans hx2))
    replace VM := VM.below (Nat.le_refl _) bb
    have HBx := Lib.hid (below_then HB4.out bb)
    refine (same_true _ _ _ _ _ _ _ _ (by unfold maxLen; omega) VM vv2).mono ?_
    rintro e x3 ⟨rfl, hx3⟩
    have HBy := Lib.hid (below_then HBx.out hx3)
    clear hx3 HBx bb hx1 hx2 oo0 oo1 oo2 vv1 vv2 q0 VM VA VB nn1 nn2
    go_wp2
    go_ret
    exact ⟨rfl, HBy.out⟩
  · skip
    have F2 := Lib.hid f2
    clear f2
    go_wp2_with fail
    refine (alive_any _).mono ?_
    rintro e w3 ⟨rfl, hb2⟩
    replace VA := VA.below (Nat.le_refl _) hb2
    replace VB := VB.below (Nat.le_refl _) hb2
    have HB3 := Lib.hid (below_then HB2.out hb2)
    clear hb2 HB2
    go_wp2_with fail
    refine (cmp_short _ _ _ A _ _ _ B _ d1 HM.out d2 HM'.out VA VB (by omega) (by omega) F2.out).mono ?_
    rintro e w' ⟨rfl, rfl⟩
    go_wp2_with fail
    have ol := own_lit w3 [0, 1]
    have ba := below_alloc w3 (.cells (cellsOf [0, 1]).toArray 27)
    replace VA := VA.below (Nat.le_refl _) ba
    replace VB := VB.below (Nat.le_refl _) ba
    refine (mul_short _ _ _ A _ 2 2 [0, 1] _ d1 HM.out (by omega) (by unfold maxLen; omega) VA (ol.view small01) (by omega) (by omega)).mono ?_
    rintro e w4 ⟨gm, rfl, om, _, hbm⟩
    replace VA := VA.below (Nat.le_refl _) hbm
    replace VB := VB.below (Nat.le_refl _) hbm
    have VM := om.vrow
    rw [MV.out] at VM
    have HB4 := Lib.hid (below_then HB3.out (below_then ba hbm))
    clear ol ba hbm om HB3
    have oo0 := ownS_lit w4 w4.heap.size (Nat.le_refl _)
    have q0 := VA.below (Nat.le_refl _) (below_alloc w4 (.cells #[.int .u64 0] 27))
    go_wp2_with (first | (at_builtin; refine wpList_append_to _ rfl (.tmp 42) (.tmp 43) rfl w4.heap.size _ [0] 1 rfl rfl oo0 small0 _ _ _ _ rfl HNN q0 (by omega) (by simp) (1 + n') rfl _ rfl ?_; intro ad1 cp1 x1 oo1 vv1 le1 mx1 nn1 hx1) | (at_builtin; refine wpList_append_to _ rfl (.tmp 44) (.tmp 45) rfl w4.heap.size _ ([0] ++ A) (1 + n') (by simp [VA.len]; omega) rfl (oo1.alloc _) (small0.append VA.small) _ _ _ _ rfl (fun e => by cases e) (view_lit x1 0 (by decide)) (by omega) (by have := hx1.size; simp at this ⊢; omega) (1 + n' + 1) rfl _ rfl ?_; intro ad2 cp2 x2 oo2 vv2 le2 mx2 nn2 hx2))
    have bb : Below w4.heap.size w4 x2 := (((below_alloc w4 _).trans hx1).trans (((Below.refl _ _).alloc (by have := hx1.size; simp at this; omega) _).trans hx2))
    replace VM := VM.below (Nat.le_refl _) bb
    have HBx := Lib.hid (below_then HB4.out bb)
    refine (same_true _ _ _ _ _ _ _ _ (by unfold maxLen; omega) VM vv2).mono ?_
    rintro e x3 ⟨rfl, hx3⟩
    have HBy := Lib.hid (below_then HBx.out hx3)
    clear hx3 HBx bb hx1 hx2 oo0 oo1 oo2 vv1 vv2 q0 VM VA VB nn1 nn2
    go_wp2
    go_ret
    exact ⟨rfl, HBy.out⟩

set_option maxHeartbeats 4000000 in
theorem natOrder_3 (a : Option Addr) (n c : Nat) (xs : List Nat) (a' : Option Addr) (n' c' : Nat) (ys : List Nat) (w00 : World) (hn : n ≤ c) (hm : c ≤ maxLen) (hn' : n' ≤ c') (hm' : c' ≤ maxLen) (VA : View w00 a n xs) (VB : View w00 a' n' ys) (HNN : a = none → c = 0) (h1 : 16 < n) (h2 : 16 < n') :
    Calls Try.prog 11 #[.slice a n c, .slice a' n' c'] w00 fun e w' => e = .returned (.bool true) ∧ Below w00.heap.size w00 w' := by
  replace VA := vtake VA (N := 16) (by omega)
  replace VB := vtake VB (N := 16) (by omega)
  have d1 : 16 ≤ c := by omega
  have d2 : 16 ≤ c' := by omega
  have HM := Lib.hid hm
  have HM' := Lib.hid hm'
  unfold maxLen at hm hm'
  generalize xs.take 16 = A at *
  generalize ys.take 16 = B at *
  go_enter Try.func11, Try.ntmps11
  go_wp2
  go_quiet (fail)
  have hbq : Below w00.heap.size w00 (w00.drewN nq) := below_drewN (Below.refl _ _) _
  replace VA := VA.below (Nat.le_refl _) hbq
  replace VB := VB.below (Nat.le_refl _) hbq
  have HB0 := Lib.hid hbq
  clear hbq hm hm'
  generalize w00.drewN nq = w0 at *
  go_wp2_with fail
  refine (put_any _ _ _ A _ d1 HM.out VA).mono ?_
  rintro e w1 ⟨rfl, hb0⟩
  replace VA := VA.below (Nat.le_refl _) hb0
  replace VB := VB.below (Nat.le_refl _) hb0
  have HB1 := Lib.hid (below_then HB0.out hb0)
  clear hb0 HB0
  go_wp2_with fail
  refine (put_any _ _ _ B _ d2 HM'.out VB).mono ?_
  rintro e w2 ⟨rfl, hb1⟩
  replace VA := VA.below (Nat.le_refl _) hb1
  replace VB := VB.below (Nat.le_refl _) hb1
  have HB2 := Lib.hid (below_then HB1.out hb1)
  clear hb1 HB1
  rw [show min 16 16 = 16 by omega, take_short VA.len (by omega), take_short VB.len (by omega)]
  have OW := order_ways VA.vlt VB.vlt
  have MV := Lib.hid (moved VA.small VA.len)
  generalize be (8 * 16) (val A) = S at *
  generalize be (8 * 16) (val B) = T at *
  rcases OW with ⟨f1, f2⟩ | ⟨f1, f0, f2⟩ | ⟨f1, f0, f2⟩
  · skip
    have F2 := Lib.hid f2
    clear f2
    go_wp2_with fail
    refine (alive_any _).mono ?_
    rintro e w3 ⟨rfl, hb2⟩
    replace VA := VA.below (Nat.le_refl _) hb2
    replace VB := VB.below (Nat.le_refl _) hb2
    have HB3 := Lib.hid (below_then HB2.out hb2)
    clear hb2 HB2
    go_wp2_with fail
    refine (cmp_short _ _ _ A _ _ _ B _ d1 HM.out d2 HM'.out VA VB (by omega) (by omega) F2.out).mono ?_
    rintro e w' ⟨rfl, rfl⟩
    go_wp2_with fail
    have ol := own_lit w3 [0, 1]
    have ba := below_alloc w3 (.cells (cellsOf [0, 1]).toArray 27)
    replace VA := VA.below (Nat.le_refl _) ba
    replace VB := VB.below (Nat.le_refl _) ba
    refine (mul_short _ _ _ A _ 2 2 [0, 1] _ d1 HM.out (by omega) (by unfold maxLen; omega) VA (ol.view small01) (by omega) (by omega)).mono ?_
    rintro e w4 ⟨gm, rfl, om, _, hbm⟩
    replace VA := VA.below (Nat.le_refl _) hbm
    replace VB := VB.below (Nat.le_refl _) hbm
    have VM := om.vrow
    rw [MV.out] at VM
    have HB4 := Lib.hid (below_then HB3.out (below_then ba hbm))
    clear ol ba hbm om HB3
    have oo0 := ownS_lit w4 w4.heap.size (Nat.le_refl _)
    have q0 := VA.below (Nat.le_refl _) (below_alloc w4 (.cells #[.int .u64 0] 27))
    go_wp2_with (first | (at_builtin; refine wpList_append_to _ rfl (.tmp 42) (.tmp 43) rfl w4.heap.size _ [0] 1 rfl rfl oo0 small0 _ _ _ _ rfl HNN q0 (by omega) (by simp) (17) rfl _ rfl ?_; intro ad1 cp1 x1 oo1 vv1 le1 mx1 nn1 hx1) | (at_builtin; refine wpList_append_to _ rfl (.tmp 44) (.tmp 45) rfl w4.heap.size _ ([0] ++ A) (17) (by simp [VA.len]) rfl (oo1.alloc _) (small0.append VA.small) _ _ _ _ rfl (fun e => by cases e) (view_lit x1 0 (by decide)) (by omega) (by have := hx1.size; simp at this ⊢; omega) (18) rfl _ rfl ?_; intro ad2 cp2 x2 oo2 vv2 le2 mx2 nn2 hx2))
    have bb : Below w4.heap.size w4 x2 := (((below_alloc w4 _).trans hx1).trans (((Below.refl _ _).alloc (by have := hx1.size; simp at this; omega) _).trans hx2))
    replace VM := VM.below (Nat.le_refl _) bb
    have HBx := Lib.hid (below_then HB4.out bb)
    refine (same_true _ _ _ _ _ _ _ _ (by unfold maxLen; omega) VM vv2).mono ?_
    rintro e x3 ⟨rfl, hx3⟩
    have HBy := Lib.hid (below_then HBx.out hx3)
    clear hx3 HBx bb hx1 hx2 oo0 oo1 oo2 vv1 vv2 q0 VM VA VB nn1 nn2
    go_wp2
    go_ret
    exact ⟨rfl, HBy.out⟩
  · skip
    have F2 := Lib.hid f2
    clear f2
    go_wp2_with fail
    refine (alive_any _).mono ?_
    rintro e w3 ⟨rfl, hb2⟩
    replace VA := VA.below (Nat.le_refl _) hb2
    replace VB := VB.below (Nat.le_refl _) hb2
    have HB3 := Lib.hid (below_then HB2.out hb2)
    clear hb2 HB2
    go_wp2_with fail
    refine (cmp_short _ _ _ A _ _ _ B _ d1 HM.out d2 HM'.out VA VB (by omega) (by omega) F2.out).mono ?_
    rintro e w' ⟨rfl, rfl⟩
    go_wp2_with fail
    have ol := own_lit w3 [0, 1]
    have ba := below_alloc w3 (.cells (cellsOf [0, 1]).toArray 27)
    replace VA := VA.below (Nat.le_refl _) ba
    replace VB := VB.below (Nat.le_refl _) ba
    refine (mul_short _ _ _ A _ 2 2 [0, 1] _ d1 HM.out (by omega) (by unfold maxLen; omega) VA (ol.view small01) (by omega) (by omega)).mono ?_
    rintro e w4 ⟨gm, rfl, om, _, hbm⟩
    replace VA := VA.below (Nat.le_refl _) hbm
    replace VB := VB.below (Nat.le_refl _) hbm
    have VM := om.vrow
    rw [MV.out] at VM
    have HB4 := Lib.hid (below_then HB3.out (below_then ba hbm))
    clear ol ba hbm om HB3
    have oo0 := ownS_lit w4 w4.heap.size (Nat.le_refl _)
    have q0 := VA.below (Nat.le_refl _) (below_alloc w4 (.cells #[.int .u64 0] 27))
    go_wp2_with (first | (at_builtin; refine wpList_append_to _ rfl (.tmp 42) (.tmp 43) rfl w4.heap.size _ [0] 1 rfl rfl oo0 small0 _ _ _ _ rfl HNN q0 (by omega) (by simp) (17) rfl _ rfl ?_; intro ad1 cp1 x1 oo1 vv1 le1 mx1 nn1 hx1) | (at_builtin; refine wpList_append_to _ rfl (.tmp 44) (.tmp 45) rfl w4.heap.size _ ([0] ++ A) (17) (by simp [VA.len]) rfl (oo1.alloc _) (small0.append VA.small) _ _ _ _ rfl (fun e => by cases e) (view_lit x1 0 (by decide)) (by omega) (by have := hx1.size; simp at this ⊢; omega) (18) rfl _ rfl ?_; intro ad2 cp2 x2 oo2 vv2 le2 mx2 nn2 hx2))
    have bb : Below w4.heap.size w4 x2 := (((below_alloc w4 _).trans hx1).trans (((Below.refl _ _).alloc (by have := hx1.size; simp at this; omega) _).trans hx2))
    replace VM := VM.below (Nat.le_refl _) bb
    have HBx := Lib.hid (below_then HB4.out bb)
    refine (same_true _ _ _ _ _ _ _ _ (by unfold maxLen; omega) VM vv2).mono ?_
    rintro e x3 ⟨rfl, hx3⟩
    have HBy := Lib.hid (below_then HBx.out hx3)
    clear hx3 HBx bb hx1 hx2 oo0 oo1 oo2 vv1 vv2 q0 VM VA VB nn1 nn2
    go_wp2
    go_ret
    exact ⟨rfl, HBy.out⟩
  · skip
    have F2 := Lib.hid f2
    clear f2
    go_wp2_with fail
    refine (alive_any _).mono ?_
    rintro e w3 ⟨rfl, hb2⟩
    replace VA := VA.below (Nat.le_refl _) hb2
    replace VB := VB.below (Nat.le_refl _) hb2
    have HB3 := Lib.hid (below_then HB2.out hb2)
    clear hb2 HB2
    go_wp2_with fail
    refine (cmp_short _ _ _ A _ _ _ B _ d1 HM.out d2 HM'.out VA VB (by omega) (by omega) F2.out).mono ?_
    rintro e w' ⟨rfl, rfl⟩
    go_wp2_with fail
    have ol := own_lit w3 [0, 1]
    have ba := below_alloc w3 (.cells (cellsOf [0, 1]).toArray 27)
    replace VA := VA.below (Nat.le_refl _) ba
    replace VB := VB.below (Nat.le_refl _) ba
    refine (mul_short _ _ _ A _ 2 2 [0, 1] _ d1 HM.out (by omega) (by unfold maxLen; omega) VA (ol.view small01) (by omega) (by omega)).mono ?_
    rintro e w4 ⟨gm, rfl, om, _, hbm⟩
    replace VA := VA.below (Nat.le_refl _) hbm
    replace VB := VB.below (Nat.le_refl _) hbm
    have VM := om.vrow
    rw [MV.out] at VM
    have HB4 := Lib.hid (below_then HB3.out (below_then ba hbm))
    clear ol ba hbm om HB3
    have oo0 := ownS_lit w4 w4.heap.size (Nat.le_refl _)
    have q0 := VA.below (Nat.le_refl _) (below_alloc w4 (.cells #[.int .u64 0] 27))
    go_wp2_with (first | (at_builtin; refine wpList_append_to _ rfl (.tmp 42) (.tmp 43) rfl w4.heap.size _ [0] 1 rfl rfl oo0 small0 _ _ _ _ rfl HNN q0 (by omega) (by simp) (17) rfl _ rfl ?_; intro ad1 cp1 x1 oo1 vv1 le1 mx1 nn1 hx1) | (at_builtin; refine wpList_append_to _ rfl (.tmp 44) (.tmp 45) rfl w4.heap.size _ ([0] ++ A) (17) (by simp [VA.len]) rfl (oo1.alloc _) (small0.append VA.small) _ _ _ _ rfl (fun e => by cases e) (view_lit x1 0 (by decide)) (by omega) (by have := hx1.size; simp at this ⊢; omega) (18) rfl _ rfl ?_; intro ad2 cp2 x2 oo2 vv2 le2 mx2 nn2 hx2))
    have bb : Below w4.heap.size w4 x2 := (((below_alloc w4 _).trans hx1).trans (((Below.refl _ _).alloc (by have := hx1.size; simp at this; omega) _).trans hx2))
    replace VM := VM.below (Nat.le_refl _) bb
    have HBx := Lib.hid (below_then HB4.out bb)
    refine (same_true _ _ _ _ _ _ _ _ (by unfold maxLen; omega) VM vv2).mono ?_
    rintro e x3 ⟨rfl, hx3⟩
    have HBy := Lib.hid (below_then HBx.out hx3)
    clear hx3 HBx bb hx1 hx2 oo0 oo1 oo2 vv1 vv2 q0 VM VA VB nn1 nn2
    go_wp2
    go_ret
    exact ⟨rfl, HBy.out⟩

theorem natOrder_any (a : Option Addr) (n c : Nat) (xs : List Nat) (a' : Option Addr) (n' c' : Nat) (ys : List Nat) (w : World) (hn : n ≤ c) (hm : c ≤ maxLen) (hn' : n' ≤ c') (hm' : c' ≤ maxLen) (VA : View w a n xs) (VB : View w a' n' ys) (HNN : a = none → c = 0) :
    Calls Try.prog 11 #[.slice a n c, .slice a' n' c'] w fun e w' => e = .returned (.bool true) ∧ Below w.heap.size w w' := by
  by_cases g1 : n ≤ n' ∧ n ≤ 16
  · exact natOrder_1 a n c xs a' n' c' ys w hn hm hn' hm' VA VB HNN g1.1 g1.2
  · by_cases g2 : n' < n ∧ n' ≤ 16
    · exact natOrder_2 a n c xs a' n' c' ys w hn hm hn' hm' VA VB HNN g2.1 g2.2
    · exact natOrder_3 a n c xs a' n' c' ys w hn hm hn' hm' VA VB HNN (by omega) (by omega)
end Go.Proofs.Ytglmpggljahkiaa
