/- What is proved here: what the functions of package full answer, by twelve numbers that stand for an E12 modulo p. -/
import Derived.Test.YtodabjelnllkgaaFull1
import Derived.Test.YtodabjelnllkgaaFullCong
namespace Go.Proofs.Ytodabjelnllkgaa
open Go.RowKit

/-- Twelve numbers stand for an E12. -/
structure QB (a : N12) (X : E12) : Prop where
  b0 : a.n0 < fpB
  b1 : a.n1 < fpB
  b2 : a.n2 < fpB
  b3 : a.n3 < fpB
  b4 : a.n4 < fpB
  b5 : a.n5 < fpB
  b6 : a.n6 < fpB
  b7 : a.n7 < fpB
  b8 : a.n8 < fpB
  b9 : a.n9 < fpB
  b10 : a.n10 < fpB
  b11 : a.n11 < fpB
  r0 : Rep a.n0 X.c0
  r1 : Rep a.n1 X.c1
  r2 : Rep a.n2 X.c2
  r3 : Rep a.n3 X.c3
  r4 : Rep a.n4 X.c4
  r5 : Rep a.n5 X.c5
  r6 : Rep a.n6 X.c6
  r7 : Rep a.n7 X.c7
  r8 : Rep a.n8 X.c8
  r9 : Rep a.n9 X.c9
  r10 : Rep a.n10 X.c10
  r11 : Rep a.n11 X.c11
/-- .. and are below p. -/
structure QP (a : N12) (X : E12) : Prop where
  b0 : a.n0 < pN
  b1 : a.n1 < pN
  b2 : a.n2 < pN
  b3 : a.n3 < pN
  b4 : a.n4 < pN
  b5 : a.n5 < pN
  b6 : a.n6 < pN
  b7 : a.n7 < pN
  b8 : a.n8 < pN
  b9 : a.n9 < pN
  b10 : a.n10 < pN
  b11 : a.n11 < pN
  r0 : Rep a.n0 X.c0
  r1 : Rep a.n1 X.c1
  r2 : Rep a.n2 X.c2
  r3 : Rep a.n3 X.c3
  r4 : Rep a.n4 X.c4
  r5 : Rep a.n5 X.c5
  r6 : Rep a.n6 X.c6
  r7 : Rep a.n7 X.c7
  r8 : Rep a.n8 X.c8
  r9 : Rep a.n9 X.c9
  r10 : Rep a.n10 X.c10
  r11 : Rep a.n11 X.c11

theorem QP.of {a : N12} {X Y : E12} (h : QP a X) (e : X = Y) : QP a Y := e ▸ h
theorem qp_of (X : E12) : ∃ a : N12, QP a X := by
  obtain ⟨a0, b0, r0⟩ := rep_of X.c0
  obtain ⟨a1, b1, r1⟩ := rep_of X.c1
  obtain ⟨a2, b2, r2⟩ := rep_of X.c2
  obtain ⟨a3, b3, r3⟩ := rep_of X.c3
  obtain ⟨a4, b4, r4⟩ := rep_of X.c4
  obtain ⟨a5, b5, r5⟩ := rep_of X.c5
  obtain ⟨a6, b6, r6⟩ := rep_of X.c6
  obtain ⟨a7, b7, r7⟩ := rep_of X.c7
  obtain ⟨a8, b8, r8⟩ := rep_of X.c8
  obtain ⟨a9, b9, r9⟩ := rep_of X.c9
  obtain ⟨a10, b10, r10⟩ := rep_of X.c10
  obtain ⟨a11, b11, r11⟩ := rep_of X.c11
  exact ⟨⟨a0, a1, a2, a3, a4, a5, a6, a7, a8, a9, a10, a11⟩, b0, b1, b2, b3, b4, b5, b6, b7, b8, b9, b10, b11, r0, r1, r2, r3, r4, r5, r6, r7, r8, r9, r10, r11⟩
theorem mem12 (a : N12) : a.n0 ∈ a.l ∧ a.n1 ∈ a.l ∧ a.n2 ∈ a.l ∧ a.n3 ∈ a.l ∧ a.n4 ∈ a.l ∧ a.n5 ∈ a.l ∧ a.n6 ∈ a.l ∧ a.n7 ∈ a.l ∧ a.n8 ∈ a.l ∧ a.n9 ∈ a.l ∧ a.n10 ∈ a.l ∧ a.n11 ∈ a.l := by
  simp [N12.l]
theorem qb_self (a : N12) (h : ∀ x ∈ a.l, x < fpB) : ∃ X : E12, QB a X := by
  obtain ⟨m0, m1, m2, m3, m4, m5, m6, m7, m8, m9, m10, m11⟩ := mem12 a
  exact ⟨⟨(a.n0 : Int), (a.n1 : Int), (a.n2 : Int), (a.n3 : Int), (a.n4 : Int), (a.n5 : Int), (a.n6 : Int), (a.n7 : Int), (a.n8 : Int), (a.n9 : Int), (a.n10 : Int), (a.n11 : Int)⟩, h _ m0, h _ m1, h _ m2, h _ m3, h _ m4, h _ m5, h _ m6, h _ m7, h _ m8, h _ m9, h _ m10, h _ m11, rep_self _, rep_self _, rep_self _, rep_self _, rep_self _, rep_self _, rep_self _, rep_self _, rep_self _, rep_self _, rep_self _, rep_self _⟩
theorem QB.all {a : N12} {X : E12} (h : QB a X) : ∀ x ∈ a.l, x < 2 ^ (64 * 6) := fpB_allL (all_cons h.b0 (all_cons h.b1 (all_cons h.b2 (all_cons h.b3 (all_cons h.b4 (all_cons h.b5 (all_cons h.b6 (all_cons h.b7 (all_cons h.b8 (all_cons h.b9 (all_cons h.b10 (all_cons h.b11 (all_nil)))))))))))))
theorem fullClean_q {a v : N12} {X : E12} (ha : QB a X) (hv : QP v (X)) (w : World) :
    Calls Try.prog 10 #[nv 6 a.l] w (Is (nv 6 v.l) w) :=
  fullClean_r ha.r0 ha.r1 ha.r2 ha.r3 ha.r4 ha.r5 ha.r6 ha.r7 ha.r8 ha.r9 ha.r10 ha.r11 ha.b0 ha.b1 ha.b2 ha.b3 ha.b4 ha.b5 ha.b6 ha.b7 ha.b8 ha.b9 ha.b10 ha.b11 hv.b0 hv.b1 hv.b2 hv.b3 hv.b4 hv.b5 hv.b6 hv.b7 hv.b8 hv.b9 hv.b10 hv.b11 hv.r0 hv.r1 hv.r2 hv.r3 hv.r4 hv.r5 hv.r6 hv.r7 hv.r8 hv.r9 hv.r10 hv.r11 w
theorem fullAdd_q {a b v : N12} {X Y : E12} (ha : QB a X) (hb : QB b Y) (hv : QP v (E12.add X Y)) (w : World) :
    Calls Try.prog 11 #[nv 6 a.l, nv 6 b.l] w (Is (nv 6 v.l) w) :=
  fullAdd_r ha.r0 ha.r1 ha.r2 ha.r3 ha.r4 ha.r5 ha.r6 ha.r7 ha.r8 ha.r9 ha.r10 ha.r11 hb.r0 hb.r1 hb.r2 hb.r3 hb.r4 hb.r5 hb.r6 hb.r7 hb.r8 hb.r9 hb.r10 hb.r11 ha.b0 ha.b1 ha.b2 ha.b3 ha.b4 ha.b5 ha.b6 ha.b7 ha.b8 ha.b9 ha.b10 ha.b11 hb.b0 hb.b1 hb.b2 hb.b3 hb.b4 hb.b5 hb.b6 hb.b7 hb.b8 hb.b9 hb.b10 hb.b11 hv.b0 hv.b1 hv.b2 hv.b3 hv.b4 hv.b5 hv.b6 hv.b7 hv.b8 hv.b9 hv.b10 hv.b11 hv.r0 hv.r1 hv.r2 hv.r3 hv.r4 hv.r5 hv.r6 hv.r7 hv.r8 hv.r9 hv.r10 hv.r11 w
theorem fullConj_q {a v : N12} {X : E12} (ha : QB a X) (hv : QP v (E12.conj X)) (w : World) :
    Calls Try.prog 13 #[nv 6 a.l] w (Is (nv 6 v.l) w) :=
  fullConj_r ha.r0 ha.r1 ha.r2 ha.r3 ha.r4 ha.r5 ha.r6 ha.r7 ha.r8 ha.r9 ha.r10 ha.r11 ha.b0 ha.b1 ha.b2 ha.b3 ha.b4 ha.b5 ha.b6 ha.b7 ha.b8 ha.b9 ha.b10 ha.b11 hv.b0 hv.b1 hv.b2 hv.b3 hv.b4 hv.b5 hv.b6 hv.b7 hv.b8 hv.b9 hv.b10 hv.b11 hv.r0 hv.r1 hv.r2 hv.r3 hv.r4 hv.r5 hv.r6 hv.r7 hv.r8 hv.r9 hv.r10 hv.r11 w
theorem r7Clean_q {a v : N12} {X : E12} (ha : QB a X) (hv : QP v (X)) (w : World) :
    Calls Try.prog 8 #[nv 6 a.l] w (Is (nv 6 v.l) w) :=
  r7Clean_r ha.r0 ha.r1 ha.r2 ha.r3 ha.r4 ha.r5 ha.r6 ha.r7 ha.r8 ha.r9 ha.r10 ha.r11 ha.b0 ha.b1 ha.b2 ha.b3 ha.b4 ha.b5 ha.b6 ha.b7 ha.b8 ha.b9 ha.b10 ha.b11 hv.b0 hv.b1 hv.b2 hv.b3 hv.b4 hv.b5 hv.b6 hv.b7 hv.b8 hv.b9 hv.b10 hv.b11 hv.r0 hv.r1 hv.r2 hv.r3 hv.r4 hv.r5 hv.r6 hv.r7 hv.r8 hv.r9 hv.r10 hv.r11 w
theorem r7Add_q {a b v : N12} {X Y : E12} (ha : QP a X) (hb : QP b Y) (hv : QP v (E12.add X Y)) (w : World) :
    Calls Try.prog 12 #[nv 6 a.l, nv 6 b.l] w (Is (nv 6 v.l) w) :=
  r7Add_r ha.r0 ha.r1 ha.r2 ha.r3 ha.r4 ha.r5 ha.r6 ha.r7 ha.r8 ha.r9 ha.r10 ha.r11 hb.r0 hb.r1 hb.r2 hb.r3 hb.r4 hb.r5 hb.r6 hb.r7 hb.r8 hb.r9 hb.r10 hb.r11 ha.b0 ha.b1 ha.b2 ha.b3 ha.b4 ha.b5 ha.b6 ha.b7 ha.b8 ha.b9 ha.b10 ha.b11 hb.b0 hb.b1 hb.b2 hb.b3 hb.b4 hb.b5 hb.b6 hb.b7 hb.b8 hb.b9 hb.b10 hb.b11 hv.b0 hv.b1 hv.b2 hv.b3 hv.b4 hv.b5 hv.b6 hv.b7 hv.b8 hv.b9 hv.b10 hv.b11 hv.r0 hv.r1 hv.r2 hv.r3 hv.r4 hv.r5 hv.r6 hv.r7 hv.r8 hv.r9 hv.r10 hv.r11 w
theorem r7Conj_q {a v : N12} {X : E12} (ha : QP a X) (hv : QP v (E12.conj X)) (w : World) :
    Calls Try.prog 14 #[nv 6 a.l] w (Is (nv 6 v.l) w) :=
  r7Conj_r ha.r0 ha.r1 ha.r2 ha.r3 ha.r4 ha.r5 ha.r6 ha.r7 ha.r8 ha.r9 ha.r10 ha.r11 ha.b0 ha.b1 ha.b2 ha.b3 ha.b4 ha.b5 ha.b6 ha.b7 ha.b8 ha.b9 ha.b10 ha.b11 hv.b0 hv.b1 hv.b2 hv.b3 hv.b4 hv.b5 hv.b6 hv.b7 hv.b8 hv.b9 hv.b10 hv.b11 hv.r0 hv.r1 hv.r2 hv.r3 hv.r4 hv.r5 hv.r6 hv.r7 hv.r8 hv.r9 hv.r10 hv.r11 w
namespace E12
theorem mul_add (x y z : E12) : mul x (add y z) = add (mul x y) (mul x z) := by rw [mul_comm, add_mul, mul_comm y, mul_comm z]
theorem add_zero (x : E12) : add x zero = x := by rw [add_comm, zero_add]
theorem mul_one (x : E12) : mul x one = x := by rw [mul_comm, one_mul]
end E12

end Go.Proofs.Ytodabjelnllkgaa
