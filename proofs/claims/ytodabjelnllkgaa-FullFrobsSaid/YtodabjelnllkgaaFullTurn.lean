/- What is proved here: conjugates of twelve whole numbers; one times its conjugate; the inverse; six powers of p are the conjugate. -/
import Derived.Test.YtodabjelnllkgaaFullFrob
namespace Go.Proofs.Ytodabjelnllkgaa

open Go.RowKit

/-! ### numbers A + B w: v is no square -/

namespace E12

theorem conj_conj (x : E12) : conj (conj x) = x := same rfl rfl rfl rfl rfl rfl (Int.neg_neg _) (Int.neg_neg _) (Int.neg_neg _) (Int.neg_neg _) (Int.neg_neg _) (Int.neg_neg _)

/-- A's six alone. -/
def six (a b c d e f : Int) : E12 := ⟨a, b, c, d, e, f, 0, 0, 0, 0, 0, 0⟩

theorem f2_0 (x0 _x1 _x2 _x3 _x4 _x5 _x6 _x7 _x8 _x9 _x10 _x11 _g0 _g1 _g2 _g3 _g4 _g5 _g6 _g7 _g8 _g9 : Int) : x0 = x0 := by grind
theorem f2_1 (_x0 x1 _x2 _x3 _x4 _x5 _x6 _x7 _x8 _x9 _x10 _x11 _g0 _g1 _g2 _g3 _g4 _g5 _g6 _g7 _g8 _g9 : Int) : -(-x1) = x1 := by grind
theorem f2_2 (_x0 _x1 x2 x3 _x4 _x5 _x6 _x7 _x8 _x9 _x10 _x11 _g0 _g1 g2 g3 _g4 _g5 _g6 _g7 _g8 _g9 : Int) : (x2 * g2 + x3 * g3) * g2 + (x2 * g3 - x3 * g2) * g3 = x2 * (g2 * g2 + g3 * g3) := by grind
theorem f2_3 (_x0 _x1 x2 x3 _x4 _x5 _x6 _x7 _x8 _x9 _x10 _x11 _g0 _g1 g2 g3 _g4 _g5 _g6 _g7 _g8 _g9 : Int) : (x2 * g2 + x3 * g3) * g3 - (x2 * g3 - x3 * g2) * g2 = x3 * (g2 * g2 + g3 * g3) := by grind
theorem f2_4 (_x0 _x1 _x2 _x3 x4 x5 _x6 _x7 _x8 _x9 _x10 _x11 _g0 _g1 _g2 _g3 _g4 _g5 g6 g7 _g8 _g9 : Int) : (x4 * g6 + x5 * g7) * g6 + (x4 * g7 - x5 * g6) * g7 = x4 * (g6 * g6 + g7 * g7) := by grind
theorem f2_5 (_x0 _x1 _x2 _x3 x4 x5 _x6 _x7 _x8 _x9 _x10 _x11 _g0 _g1 _g2 _g3 _g4 _g5 g6 g7 _g8 _g9 : Int) : (x4 * g6 + x5 * g7) * g7 - (x4 * g7 - x5 * g6) * g6 = x5 * (g6 * g6 + g7 * g7) := by grind
theorem f2_6 (_x0 _x1 _x2 _x3 _x4 _x5 x6 x7 _x8 _x9 _x10 _x11 g0 g1 _g2 _g3 _g4 _g5 _g6 _g7 _g8 _g9 : Int) : (x6 * g0 + x7 * g1) * g0 + (x6 * g1 - x7 * g0) * g1 = x6 * (g0 * g0 + g1 * g1) := by grind
theorem f2_7 (_x0 _x1 _x2 _x3 _x4 _x5 x6 x7 _x8 _x9 _x10 _x11 g0 g1 _g2 _g3 _g4 _g5 _g6 _g7 _g8 _g9 : Int) : (x6 * g0 + x7 * g1) * g1 - (x6 * g1 - x7 * g0) * g0 = x7 * (g0 * g0 + g1 * g1) := by grind
theorem f2_8 (_x0 _x1 _x2 _x3 _x4 _x5 _x6 _x7 x8 x9 _x10 _x11 _g0 _g1 _g2 _g3 g4 g5 _g6 _g7 _g8 _g9 : Int) : (x8 * g4 + x9 * g5) * g4 + (x8 * g5 - x9 * g4) * g5 = x8 * (g4 * g4 + g5 * g5) := by grind
theorem f2_9 (_x0 _x1 _x2 _x3 _x4 _x5 _x6 _x7 x8 x9 _x10 _x11 _g0 _g1 _g2 _g3 g4 g5 _g6 _g7 _g8 _g9 : Int) : (x8 * g4 + x9 * g5) * g5 - (x8 * g5 - x9 * g4) * g4 = x9 * (g4 * g4 + g5 * g5) := by grind
theorem f2_10 (_x0 _x1 _x2 _x3 _x4 _x5 _x6 _x7 _x8 _x9 x10 x11 _g0 _g1 _g2 _g3 _g4 _g5 _g6 _g7 g8 g9 : Int) : (x10 * g8 + x11 * g9) * g8 + (x10 * g9 - x11 * g8) * g9 = x10 * (g8 * g8 + g9 * g9) := by grind
theorem f2_11 (_x0 _x1 _x2 _x3 _x4 _x5 _x6 _x7 _x8 _x9 x10 x11 _g0 _g1 _g2 _g3 _g4 _g5 _g6 _g7 g8 g9 : Int) : (x10 * g8 + x11 * g9) * g9 - (x10 * g9 - x11 * g8) * g8 = x11 * (g8 * g8 + g9 * g9) := by grind
/-- Two of them: each part times a number. -/
def frob2 (x : E12) : E12 := ⟨x.c0,
  x.c1,
  x.c2 * ((gam2.1 : Int) * (gam2.1 : Int) + (gam2.2 : Int) * (gam2.2 : Int)),
  x.c3 * ((gam2.1 : Int) * (gam2.1 : Int) + (gam2.2 : Int) * (gam2.2 : Int)),
  x.c4 * ((gam4.1 : Int) * (gam4.1 : Int) + (gam4.2 : Int) * (gam4.2 : Int)),
  x.c5 * ((gam4.1 : Int) * (gam4.1 : Int) + (gam4.2 : Int) * (gam4.2 : Int)),
  x.c6 * ((gam1.1 : Int) * (gam1.1 : Int) + (gam1.2 : Int) * (gam1.2 : Int)),
  x.c7 * ((gam1.1 : Int) * (gam1.1 : Int) + (gam1.2 : Int) * (gam1.2 : Int)),
  x.c8 * ((gam3.1 : Int) * (gam3.1 : Int) + (gam3.2 : Int) * (gam3.2 : Int)),
  x.c9 * ((gam3.1 : Int) * (gam3.1 : Int) + (gam3.2 : Int) * (gam3.2 : Int)),
  x.c10 * ((gam5.1 : Int) * (gam5.1 : Int) + (gam5.2 : Int) * (gam5.2 : Int)),
  x.c11 * ((gam5.1 : Int) * (gam5.1 : Int) + (gam5.2 : Int) * (gam5.2 : Int))⟩
theorem frob_two (x : E12) : frobE (frobE x) = frob2 x := same (f2_0 x.c0 x.c1 x.c2 x.c3 x.c4 x.c5 x.c6 x.c7 x.c8 x.c9 x.c10 x.c11 (gam1.1 : Int) (gam1.2 : Int) (gam2.1 : Int) (gam2.2 : Int) (gam3.1 : Int) (gam3.2 : Int) (gam4.1 : Int) (gam4.2 : Int) (gam5.1 : Int) (gam5.2 : Int)) (f2_1 x.c0 x.c1 x.c2 x.c3 x.c4 x.c5 x.c6 x.c7 x.c8 x.c9 x.c10 x.c11 (gam1.1 : Int) (gam1.2 : Int) (gam2.1 : Int) (gam2.2 : Int) (gam3.1 : Int) (gam3.2 : Int) (gam4.1 : Int) (gam4.2 : Int) (gam5.1 : Int) (gam5.2 : Int)) (f2_2 x.c0 x.c1 x.c2 x.c3 x.c4 x.c5 x.c6 x.c7 x.c8 x.c9 x.c10 x.c11 (gam1.1 : Int) (gam1.2 : Int) (gam2.1 : Int) (gam2.2 : Int) (gam3.1 : Int) (gam3.2 : Int) (gam4.1 : Int) (gam4.2 : Int) (gam5.1 : Int) (gam5.2 : Int)) (f2_3 x.c0 x.c1 x.c2 x.c3 x.c4 x.c5 x.c6 x.c7 x.c8 x.c9 x.c10 x.c11 (gam1.1 : Int) (gam1.2 : Int) (gam2.1 : Int) (gam2.2 : Int) (gam3.1 : Int) (gam3.2 : Int) (gam4.1 : Int) (gam4.2 : Int) (gam5.1 : Int) (gam5.2 : Int)) (f2_4 x.c0 x.c1 x.c2 x.c3 x.c4 x.c5 x.c6 x.c7 x.c8 x.c9 x.c10 x.c11 (gam1.1 : Int) (gam1.2 : Int) (gam2.1 : Int) (gam2.2 : Int) (gam3.1 : Int) (gam3.2 : Int) (gam4.1 : Int) (gam4.2 : Int) (gam5.1 : Int) (gam5.2 : Int)) (f2_5 x.c0 x.c1 x.c2 x.c3 x.c4 x.c5 x.c6 x.c7 x.c8 x.c9 x.c10 x.c11 (gam1.1 : Int) (gam1.2 : Int) (gam2.1 : Int) (gam2.2 : Int) (gam3.1 : Int) (gam3.2 : Int) (gam4.1 : Int) (gam4.2 : Int) (gam5.1 : Int) (gam5.2 : Int)) (f2_6 x.c0 x.c1 x.c2 x.c3 x.c4 x.c5 x.c6 x.c7 x.c8 x.c9 x.c10 x.c11 (gam1.1 : Int) (gam1.2 : Int) (gam2.1 : Int) (gam2.2 : Int) (gam3.1 : Int) (gam3.2 : Int) (gam4.1 : Int) (gam4.2 : Int) (gam5.1 : Int) (gam5.2 : Int)) (f2_7 x.c0 x.c1 x.c2 x.c3 x.c4 x.c5 x.c6 x.c7 x.c8 x.c9 x.c10 x.c11 (gam1.1 : Int) (gam1.2 : Int) (gam2.1 : Int) (gam2.2 : Int) (gam3.1 : Int) (gam3.2 : Int) (gam4.1 : Int) (gam4.2 : Int) (gam5.1 : Int) (gam5.2 : Int)) (f2_8 x.c0 x.c1 x.c2 x.c3 x.c4 x.c5 x.c6 x.c7 x.c8 x.c9 x.c10 x.c11 (gam1.1 : Int) (gam1.2 : Int) (gam2.1 : Int) (gam2.2 : Int) (gam3.1 : Int) (gam3.2 : Int) (gam4.1 : Int) (gam4.2 : Int) (gam5.1 : Int) (gam5.2 : Int)) (f2_9 x.c0 x.c1 x.c2 x.c3 x.c4 x.c5 x.c6 x.c7 x.c8 x.c9 x.c10 x.c11 (gam1.1 : Int) (gam1.2 : Int) (gam2.1 : Int) (gam2.2 : Int) (gam3.1 : Int) (gam3.2 : Int) (gam4.1 : Int) (gam4.2 : Int) (gam5.1 : Int) (gam5.2 : Int)) (f2_10 x.c0 x.c1 x.c2 x.c3 x.c4 x.c5 x.c6 x.c7 x.c8 x.c9 x.c10 x.c11 (gam1.1 : Int) (gam1.2 : Int) (gam2.1 : Int) (gam2.2 : Int) (gam3.1 : Int) (gam3.2 : Int) (gam4.1 : Int) (gam4.2 : Int) (gam5.1 : Int) (gam5.2 : Int)) (f2_11 x.c0 x.c1 x.c2 x.c3 x.c4 x.c5 x.c6 x.c7 x.c8 x.c9 x.c10 x.c11 (gam1.1 : Int) (gam1.2 : Int) (gam2.1 : Int) (gam2.2 : Int) (gam3.1 : Int) (gam3.2 : Int) (gam4.1 : Int) (gam4.2 : Int) (gam5.1 : Int) (gam5.2 : Int))

theorem nn1 : ((gam1.1 * gam1.1 + gam1.2 * gam1.2) * (gam1.1 * gam1.1 + gam1.2 * gam1.2) * (gam1.1 * gam1.1 + gam1.2 * gam1.2) + 1) % pN = 0 := by decide +kernel
theorem nn2 : ((gam2.1 * gam2.1 + gam2.2 * gam2.2) * (gam2.1 * gam2.1 + gam2.2 * gam2.2) * (gam2.1 * gam2.1 + gam2.2 * gam2.2) + (pN - 1)) % pN = 0 := by decide +kernel
theorem nn3 : ((gam3.1 * gam3.1 + gam3.2 * gam3.2) * (gam3.1 * gam3.1 + gam3.2 * gam3.2) * (gam3.1 * gam3.1 + gam3.2 * gam3.2) + 1) % pN = 0 := by decide +kernel
theorem nn4 : ((gam4.1 * gam4.1 + gam4.2 * gam4.2) * (gam4.1 * gam4.1 + gam4.2 * gam4.2) * (gam4.1 * gam4.1 + gam4.2 * gam4.2) + (pN - 1)) % pN = 0 := by decide +kernel
theorem nn5 : ((gam5.1 * gam5.1 + gam5.2 * gam5.2) * (gam5.1 * gam5.1 + gam5.2 * gam5.2) * (gam5.1 * gam5.1 + gam5.2 * gam5.2) + 1) % pN = 0 := by decide +kernel
theorem zr_of_mod {a : Nat} {e : Int} (c : Nat) (hc : (c : Int) = (pN : Int) - e ∨ (c : Int) = -e) (h : (a + c) % pN = 0) : Zr ((a : Int) - e) := by
  obtain ⟨k, hk⟩ := Nat.dvd_of_mod_eq_zero h
  have h1 : (a : Int) + (c : Int) = (pN : Int) * (k : Int) := by exact_mod_cast hk
  rcases hc with hc | hc
  · refine ⟨1 - (k : Int), ?_⟩
    rw [hc] at h1
    generalize (pN : Int) = M at *
    grind
  · refine ⟨-(k : Int), ?_⟩
    rw [hc] at h1
    generalize (pN : Int) = M at *
    grind

theorem ne1 : Zr (((gam1.1 : Int) * (gam1.1 : Int) + (gam1.2 : Int) * (gam1.2 : Int)) * ((gam1.1 : Int) * (gam1.1 : Int) + (gam1.2 : Int) * (gam1.2 : Int)) * ((gam1.1 : Int) * (gam1.1 : Int) + (gam1.2 : Int) * (gam1.2 : Int)) - (-1)) := by
  have h := zr_of_mod (e := -1) 1 (.inr rfl) nn1
  exact h.eq (by push_cast; rfl)
theorem ne2 : Zr (((gam2.1 : Int) * (gam2.1 : Int) + (gam2.2 : Int) * (gam2.2 : Int)) * ((gam2.1 : Int) * (gam2.1 : Int) + (gam2.2 : Int) * (gam2.2 : Int)) * ((gam2.1 : Int) * (gam2.1 : Int) + (gam2.2 : Int) * (gam2.2 : Int)) - (1)) := by
  have h := zr_of_mod (e := 1) (pN - 1) (.inl (by decide +kernel)) nn2
  exact h.eq (by push_cast; rfl)
theorem ne3 : Zr (((gam3.1 : Int) * (gam3.1 : Int) + (gam3.2 : Int) * (gam3.2 : Int)) * ((gam3.1 : Int) * (gam3.1 : Int) + (gam3.2 : Int) * (gam3.2 : Int)) * ((gam3.1 : Int) * (gam3.1 : Int) + (gam3.2 : Int) * (gam3.2 : Int)) - (-1)) := by
  have h := zr_of_mod (e := -1) 1 (.inr rfl) nn3
  exact h.eq (by push_cast; rfl)
theorem ne4 : Zr (((gam4.1 : Int) * (gam4.1 : Int) + (gam4.2 : Int) * (gam4.2 : Int)) * ((gam4.1 : Int) * (gam4.1 : Int) + (gam4.2 : Int) * (gam4.2 : Int)) * ((gam4.1 : Int) * (gam4.1 : Int) + (gam4.2 : Int) * (gam4.2 : Int)) - (1)) := by
  have h := zr_of_mod (e := 1) (pN - 1) (.inl (by decide +kernel)) nn4
  exact h.eq (by push_cast; rfl)
theorem ne5 : Zr (((gam5.1 : Int) * (gam5.1 : Int) + (gam5.2 : Int) * (gam5.2 : Int)) * ((gam5.1 : Int) * (gam5.1 : Int) + (gam5.2 : Int) * (gam5.2 : Int)) * ((gam5.1 : Int) * (gam5.1 : Int) + (gam5.2 : Int) * (gam5.2 : Int)) - (-1)) := by
  have h := zr_of_mod (e := -1) 1 (.inr rfl) nn5
  exact h.eq (by push_cast; rfl)
theorem eps_1 (x N : Int) : (N * N * N - 1) * x = x * N * N * N - x := by grind
theorem eps_m (x N : Int) : (N * N * N - (-1)) * x = x * N * N * N - -x := by grind
/-- Six of them are the conjugate. -/
theorem frob_six (x : E12) : Cong (frobE (frobE (frobE (frobE (frobE (frobE x)))))) (conj x) := by
  rw [frob_two, frob_two, frob_two]
  exact ⟨Zr.zero.eq (Int.sub_self _).symm, Zr.zero.eq (Int.sub_self _).symm, (ne2.mul x.c2).eq (eps_1 _ _), (ne2.mul x.c3).eq (eps_1 _ _), (ne4.mul x.c4).eq (eps_1 _ _), (ne4.mul x.c5).eq (eps_1 _ _), (ne1.mul x.c6).eq (eps_m _ _), (ne1.mul x.c7).eq (eps_m _ _), (ne3.mul x.c8).eq (eps_m _ _), (ne3.mul x.c9).eq (eps_m _ _), (ne5.mul x.c10).eq (eps_m _ _), (ne5.mul x.c11).eq (eps_m _ _)⟩

end E12

end Go.Proofs.Ytodabjelnllkgaa
