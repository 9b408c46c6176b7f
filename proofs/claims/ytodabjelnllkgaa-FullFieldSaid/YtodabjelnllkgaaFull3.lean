/- What is proved here: the inverse in sext and in full. -/
import Derived.Test.YtodabjelnllkgaaFull2
import Derived.Test.YtodabjelnllkgaaFullTurn
namespace Go.Proofs.Ytodabjelnllkgaa
open Go.RowKit

set_option maxRecDepth 20000 in
set_option maxHeartbeats 4000000 in
theorem sextInv_all {a0 a1 a2 a3 a4 a5 : Nat} {x0 x1 x2 x3 x4 x5 : Int} (ra0 : Rep a0 x0) (ra1 : Rep a1 x1) (ra2 : Rep a2 x2) (ra3 : Rep a3 x3) (ra4 : Rep a4 x4) (ra5 : Rep a5 x5) (ba0 : a0 < pN) (ba1 : a1 < pN) (ba2 : a2 < pN) (ba3 : a3 < pN) (ba4 : a4 < pN) (ba5 : a5 < pN) :
    ∃ u0 u1 u2 u3 u4 u5 : Nat, ∃ k0 k1 k2 k3 k4 k5 : Int, u0 < pN ∧ u1 < pN ∧ u2 < pN ∧ u3 < pN ∧ u4 < pN ∧ u5 < pN ∧ Rep u0 k0 ∧ Rep u1 k1 ∧ Rep u2 k2 ∧ Rep u3 k3 ∧ Rep u4 k4 ∧ Rep u5 k5 ∧ (∀ w, Calls Try.prog 34 #[nv 6 [a0, a1, a2, a3, a4, a5]] w (Is (nv 6 [u0, u1, u2, u3, u4, u5]) w)) ∧ (a0 = 0 ∧ a1 = 0 ∧ a2 = 0 ∧ a3 = 0 ∧ a4 = 0 ∧ a5 = 0 → u0 = 0 ∧ u1 = 0 ∧ u2 = 0 ∧ u3 = 0 ∧ u4 = 0 ∧ u5 = 0) ∧ (¬ (a0 = 0 ∧ a1 = 0 ∧ a2 = 0 ∧ a3 = 0 ∧ a4 = 0 ∧ a5 = 0) → Rep 1 (x0 * k0 + x2 * k4 + x4 * k2 - x1 * k1 - x2 * k5 - x3 * k4 - x3 * k5 - x4 * k3 - x5 * k2 - x5 * k3) ∧ Rep 0 (x0 * k1 + x1 * k0 + x2 * k4 + x2 * k5 + x3 * k4 + x4 * k2 + x4 * k3 + x5 * k2 - x3 * k5 - x5 * k3) ∧ Rep 0 (x0 * k2 + x2 * k0 + x4 * k4 - x1 * k3 - x3 * k1 - x4 * k5 - x5 * k4 - x5 * k5) ∧ Rep 0 (x0 * k3 + x1 * k2 + x2 * k1 + x3 * k0 + x4 * k4 + x4 * k5 + x5 * k4 - x5 * k5) ∧ Rep 0 (x0 * k4 + x2 * k2 + x4 * k0 - x1 * k5 - x3 * k3 - x5 * k1) ∧ Rep 0 (x0 * k5 + x1 * k4 + x2 * k3 + x3 * k2 + x4 * k1 + x5 * k0)) := by
  obtain ⟨o0, eo0⟩ : ∃ z : Int, z = x0 * x0 + x2 * x5 + x3 * x4 + x3 * x5 - x1 * x1 - x2 * x4 := ⟨_, rfl⟩
  obtain ⟨o1, eo1⟩ : ∃ z : Int, z = 2 * x0 * x1 + x3 * x5 - x2 * x4 - x2 * x5 - x3 * x4 := ⟨_, rfl⟩
  obtain ⟨o2, eo2⟩ : ∃ z : Int, z = x1 * x3 + x4 * x4 - x0 * x2 - 2 * x4 * x5 - x5 * x5 := ⟨_, rfl⟩
  obtain ⟨o3, eo3⟩ : ∃ z : Int, z = x4 * x4 + 2 * x4 * x5 - x0 * x3 - x1 * x2 - x5 * x5 := ⟨_, rfl⟩
  obtain ⟨o4, eo4⟩ : ∃ z : Int, z = x1 * x5 + x2 * x2 - x0 * x4 - x3 * x3 := ⟨_, rfl⟩
  obtain ⟨o5, eo5⟩ : ∃ z : Int, z = 2 * x2 * x3 - x0 * x5 - x1 * x4 := ⟨_, rfl⟩
  obtain ⟨n0, en0⟩ : ∃ z : Int, z = x0 * o0 + x2 * o4 + x4 * o2 - x1 * o1 - x2 * o5 - x3 * o4 - x3 * o5 - x4 * o3 - x5 * o2 - x5 * o3 := ⟨_, rfl⟩
  obtain ⟨m0, bm0, rm0⟩ := rep_of n0
  obtain ⟨n1, en1⟩ : ∃ z : Int, z = x0 * o1 + x1 * o0 + x2 * o4 + x2 * o5 + x3 * o4 + x4 * o2 + x4 * o3 + x5 * o2 - x3 * o5 - x5 * o3 := ⟨_, rfl⟩
  obtain ⟨m1, bm1, rm1⟩ := rep_of n1
  obtain ⟨j, hj⟩ : ∃ z, z = pInv (pAdd (pMul m0 m0) (pMul m1 m1)) := ⟨_, rfl⟩
  obtain ⟨i, rj⟩ : ∃ z : Int, Rep j z := ⟨_, rep_self j⟩
  obtain ⟨u0, bu0, ru0⟩ := rep_of (o0 * (n0 * i) - o1 * (-n1 * i))
  obtain ⟨u1, bu1, ru1⟩ := rep_of (o0 * (-n1 * i) + o1 * (n0 * i))
  obtain ⟨u2, bu2, ru2⟩ := rep_of (o2 * (n0 * i) - o3 * (-n1 * i))
  obtain ⟨u3, bu3, ru3⟩ := rep_of (o2 * (-n1 * i) + o3 * (n0 * i))
  obtain ⟨u4, bu4, ru4⟩ := rep_of (o4 * (n0 * i) - o5 * (-n1 * i))
  obtain ⟨u5, bu5, ru5⟩ := rep_of (o4 * (-n1 * i) + o5 * (n0 * i))
  refine ⟨u0, u1, u2, u3, u4, u5, _, _, _, _, _, _, bu0, bu1, bu2, bu3, bu4, bu5, ru0, ru1, ru2, ru3, ru4, ru5, fun w => sextInv_r ra0 ra1 ra2 ra3 ra4 ra5 (Nat.lt_trans ba0 fpM_lt) (Nat.lt_trans ba1 fpM_lt) (Nat.lt_trans ba2 fpM_lt) (Nat.lt_trans ba3 fpM_lt) (Nat.lt_trans ba4 fpM_lt) (Nat.lt_trans ba5 fpM_lt) eo0 eo1 eo2 eo3 eo4 eo5 en0 en1 bm0 bm1 rm0 rm1 hj rj bu0 bu1 bu2 bu3 bu4 bu5 ru0 ru1 ru2 ru3 ru4 ru5 w, ?_, ?_⟩
  · intro hz
    obtain ⟨hz0, hz1, hz2, hz3, hz4, hz5⟩ := hz
    have zx0 : Zr x0 := by have h := ra0; rw [hz0] at h; exact h
    have zx1 : Zr x1 := by have h := ra1; rw [hz1] at h; exact h
    have zx2 : Zr x2 := by have h := ra2; rw [hz2] at h; exact h
    have zx3 : Zr x3 := by have h := ra3; rw [hz3] at h; exact h
    have zx4 : Zr x4 := by have h := ra4; rw [hz4] at h; exact h
    have zx5 : Zr x5 := by have h := ra5; rw [hz5] at h; exact h
    obtain ⟨Z0, Z1, Z2, Z3, Z4, Z5⟩ := sx_zero (n0 := n0) (n1 := n1) (i := i) eo0 eo1 eo2 eo3 eo4 eo5 zx0 zx1 zx2 zx3 zx4 zx5
    exact ⟨zr_of bu0 ru0 Z0, zr_of bu1 ru1 Z1, zr_of bu2 ru2 Z2, zr_of bu3 ru3 Z3, zr_of bu4 ru4 Z4, zr_of bu5 ru5 Z5⟩
  · intro hz
    have hne : ¬ (pCl m0 = 0 ∧ pCl m1 = 0) := fun h => by
      rw [pCl_of bm0, pCl_of bm1] at h
      have h0 : Zr n0 := by have q := rm0; rw [h.1] at q; exact q
      have h1 : Zr n1 := by have q := rm1; rw [h.2] at q; exact q
      obtain ⟨⟨q0, q1⟩, ⟨q2, q3⟩, q4, q5⟩ := sx_norm eo0 eo1 eo2 eo3 eo4 eo5 en0 en1 h0 h1
      exact hz ⟨zr_of ba0 ra0 q0, zr_of ba1 ra1 q1, zr_of ba2 ra2 q2, zr_of ba3 ra3 q3, zr_of ba4 ra4 q4, zr_of ba5 ra5 q5⟩
    exact sx_unit eo0 eo1 eo2 eo3 eo4 eo5 en0 en1 (norm_inv_r rm0 rm1 hj rj hne)

theorem sc0 (x0 x1 x2 x3 x4 x5 x6 x7 x8 x9 x10 x11 y0 y1 y2 y3 y4 y5 : Int) : x0 * y0 + x10 * 0 + x2 * y4 + x4 * y2 + x6 * 0 + x8 * 0 - x1 * y1 - x10 * 0 - x11 * 0 - x11 * 0 - x2 * y5 - x3 * y4 - x3 * y5 - x4 * y3 - x5 * y2 - x5 * y3 - x6 * 0 - x7 * 0 - x7 * 0 - x8 * 0 - x9 * 0 - x9 * 0 = x0 * y0 + x2 * y4 + x4 * y2 - x1 * y1 - x2 * y5 - x3 * y4 - x3 * y5 - x4 * y3 - x5 * y2 - x5 * y3 := by grind
theorem sc1 (x0 x1 x2 x3 x4 x5 x6 x7 x8 x9 x10 x11 y0 y1 y2 y3 y4 y5 : Int) : x0 * y1 + x1 * y0 + x10 * 0 + x10 * 0 + x11 * 0 + x2 * y4 + x2 * y5 + x3 * y4 + x4 * y2 + x4 * y3 + x5 * y2 + x6 * 0 + x6 * 0 + x7 * 0 + x8 * 0 + x8 * 0 + x9 * 0 - x11 * 0 - x3 * y5 - x5 * y3 - x7 * 0 - x9 * 0 = x0 * y1 + x1 * y0 + x2 * y4 + x2 * y5 + x3 * y4 + x4 * y2 + x4 * y3 + x5 * y2 - x3 * y5 - x5 * y3 := by grind
theorem sc2 (x0 x1 x2 x3 x4 x5 x6 x7 x8 x9 x10 x11 y0 y1 y2 y3 y4 y5 : Int) : x0 * y2 + x10 * 0 + x2 * y0 + x4 * y4 + x6 * 0 + x8 * 0 - x1 * y3 - x10 * 0 - x11 * 0 - x11 * 0 - x3 * y1 - x4 * y5 - x5 * y4 - x5 * y5 - x7 * 0 - x8 * 0 - x9 * 0 - x9 * 0 = x0 * y2 + x2 * y0 + x4 * y4 - x1 * y3 - x3 * y1 - x4 * y5 - x5 * y4 - x5 * y5 := by grind
theorem sc3 (x0 x1 x2 x3 x4 x5 x6 x7 x8 x9 x10 x11 y0 y1 y2 y3 y4 y5 : Int) : x0 * y3 + x1 * y2 + x10 * 0 + x10 * 0 + x11 * 0 + x2 * y1 + x3 * y0 + x4 * y4 + x4 * y5 + x5 * y4 + x6 * 0 + x7 * 0 + x8 * 0 + x8 * 0 + x9 * 0 - x11 * 0 - x5 * y5 - x9 * 0 = x0 * y3 + x1 * y2 + x2 * y1 + x3 * y0 + x4 * y4 + x4 * y5 + x5 * y4 - x5 * y5 := by grind
theorem sc4 (x0 x1 x2 x3 x4 x5 x6 x7 x8 x9 x10 x11 y0 y1 y2 y3 y4 y5 : Int) : x0 * y4 + x10 * 0 + x2 * y2 + x4 * y0 + x6 * 0 + x8 * 0 - x1 * y5 - x10 * 0 - x11 * 0 - x11 * 0 - x3 * y3 - x5 * y1 - x7 * 0 - x9 * 0 = x0 * y4 + x2 * y2 + x4 * y0 - x1 * y5 - x3 * y3 - x5 * y1 := by grind
theorem sc5 (x0 x1 x2 x3 x4 x5 x6 x7 x8 x9 x10 x11 y0 y1 y2 y3 y4 y5 : Int) : x0 * y5 + x1 * y4 + x10 * 0 + x10 * 0 + x11 * 0 + x2 * y3 + x3 * y2 + x4 * y1 + x5 * y0 + x6 * 0 + x7 * 0 + x8 * 0 + x9 * 0 - x11 * 0 = x0 * y5 + x1 * y4 + x2 * y3 + x3 * y2 + x4 * y1 + x5 * y0 := by grind
theorem sc6 (x0 x1 x2 x3 x4 x5 x6 x7 x8 x9 x10 x11 y0 y1 y2 y3 y4 y5 : Int) : x0 * 0 + x10 * y2 + x2 * 0 + x4 * 0 + x6 * y0 + x8 * y4 - x1 * 0 - x10 * y3 - x11 * y2 - x11 * y3 - x2 * 0 - x3 * 0 - x3 * 0 - x4 * 0 - x5 * 0 - x5 * 0 - x7 * y1 - x8 * y5 - x9 * y4 - x9 * y5 = x10 * y2 + x6 * y0 + x8 * y4 - x10 * y3 - x11 * y2 - x11 * y3 - x7 * y1 - x8 * y5 - x9 * y4 - x9 * y5 := by grind
theorem sc7 (x0 x1 x2 x3 x4 x5 x6 x7 x8 x9 x10 x11 y0 y1 y2 y3 y4 y5 : Int) : x0 * 0 + x1 * 0 + x10 * y2 + x10 * y3 + x11 * y2 + x2 * 0 + x2 * 0 + x3 * 0 + x4 * 0 + x4 * 0 + x5 * 0 + x6 * y1 + x7 * y0 + x8 * y4 + x8 * y5 + x9 * y4 - x11 * y3 - x3 * 0 - x5 * 0 - x9 * y5 = x10 * y2 + x10 * y3 + x11 * y2 + x6 * y1 + x7 * y0 + x8 * y4 + x8 * y5 + x9 * y4 - x11 * y3 - x9 * y5 := by grind
theorem sc8 (x0 x1 x2 x3 x4 x5 x6 x7 x8 x9 x10 x11 y0 y1 y2 y3 y4 y5 : Int) : x0 * 0 + x10 * y4 + x2 * 0 + x4 * 0 + x6 * y2 + x8 * y0 - x1 * 0 - x10 * y5 - x11 * y4 - x11 * y5 - x3 * 0 - x4 * 0 - x5 * 0 - x5 * 0 - x7 * y3 - x9 * y1 = x10 * y4 + x6 * y2 + x8 * y0 - x10 * y5 - x11 * y4 - x11 * y5 - x7 * y3 - x9 * y1 := by grind
theorem sc9 (x0 x1 x2 x3 x4 x5 x6 x7 x8 x9 x10 x11 y0 y1 y2 y3 y4 y5 : Int) : x0 * 0 + x1 * 0 + x10 * y4 + x10 * y5 + x11 * y4 + x2 * 0 + x3 * 0 + x4 * 0 + x4 * 0 + x5 * 0 + x6 * y3 + x7 * y2 + x8 * y1 + x9 * y0 - x11 * y5 - x5 * 0 = x10 * y4 + x10 * y5 + x11 * y4 + x6 * y3 + x7 * y2 + x8 * y1 + x9 * y0 - x11 * y5 := by grind
theorem sc10 (x0 x1 x2 x3 x4 x5 x6 x7 x8 x9 x10 x11 y0 y1 y2 y3 y4 y5 : Int) : x0 * 0 + x10 * y0 + x2 * 0 + x4 * 0 + x6 * y4 + x8 * y2 - x1 * 0 - x11 * y1 - x3 * 0 - x5 * 0 - x7 * y5 - x9 * y3 = x10 * y0 + x6 * y4 + x8 * y2 - x11 * y1 - x7 * y5 - x9 * y3 := by grind
theorem sc11 (x0 x1 x2 x3 x4 x5 x6 x7 x8 x9 x10 x11 y0 y1 y2 y3 y4 y5 : Int) : x0 * 0 + x1 * 0 + x10 * y1 + x11 * y0 + x2 * 0 + x3 * 0 + x4 * 0 + x5 * 0 + x6 * y5 + x7 * y4 + x8 * y3 + x9 * y2 = x10 * y1 + x11 * y0 + x6 * y5 + x7 * y4 + x8 * y3 + x9 * y2 := by grind
theorem sm0 (x0 x1 x2 x3 x4 x5 y0 y1 y2 y3 y4 y5 : Int) : x0 * y0 + 0 * 0 + x2 * y4 + x4 * y2 + 0 * 0 + 0 * 0 - x1 * y1 - 0 * 0 - 0 * 0 - 0 * 0 - x2 * y5 - x3 * y4 - x3 * y5 - x4 * y3 - x5 * y2 - x5 * y3 - 0 * 0 - 0 * 0 - 0 * 0 - 0 * 0 - 0 * 0 - 0 * 0 = x0 * y0 + x2 * y4 + x4 * y2 - x1 * y1 - x2 * y5 - x3 * y4 - x3 * y5 - x4 * y3 - x5 * y2 - x5 * y3 := by grind
theorem sm1 (x0 x1 x2 x3 x4 x5 y0 y1 y2 y3 y4 y5 : Int) : x0 * y1 + x1 * y0 + 0 * 0 + 0 * 0 + 0 * 0 + x2 * y4 + x2 * y5 + x3 * y4 + x4 * y2 + x4 * y3 + x5 * y2 + 0 * 0 + 0 * 0 + 0 * 0 + 0 * 0 + 0 * 0 + 0 * 0 - 0 * 0 - x3 * y5 - x5 * y3 - 0 * 0 - 0 * 0 = x0 * y1 + x1 * y0 + x2 * y4 + x2 * y5 + x3 * y4 + x4 * y2 + x4 * y3 + x5 * y2 - x3 * y5 - x5 * y3 := by grind
theorem sm2 (x0 x1 x2 x3 x4 x5 y0 y1 y2 y3 y4 y5 : Int) : x0 * y2 + 0 * 0 + x2 * y0 + x4 * y4 + 0 * 0 + 0 * 0 - x1 * y3 - 0 * 0 - 0 * 0 - 0 * 0 - x3 * y1 - x4 * y5 - x5 * y4 - x5 * y5 - 0 * 0 - 0 * 0 - 0 * 0 - 0 * 0 = x0 * y2 + x2 * y0 + x4 * y4 - x1 * y3 - x3 * y1 - x4 * y5 - x5 * y4 - x5 * y5 := by grind
theorem sm3 (x0 x1 x2 x3 x4 x5 y0 y1 y2 y3 y4 y5 : Int) : x0 * y3 + x1 * y2 + 0 * 0 + 0 * 0 + 0 * 0 + x2 * y1 + x3 * y0 + x4 * y4 + x4 * y5 + x5 * y4 + 0 * 0 + 0 * 0 + 0 * 0 + 0 * 0 + 0 * 0 - 0 * 0 - x5 * y5 - 0 * 0 = x0 * y3 + x1 * y2 + x2 * y1 + x3 * y0 + x4 * y4 + x4 * y5 + x5 * y4 - x5 * y5 := by grind
theorem sm4 (x0 x1 x2 x3 x4 x5 y0 y1 y2 y3 y4 y5 : Int) : x0 * y4 + 0 * 0 + x2 * y2 + x4 * y0 + 0 * 0 + 0 * 0 - x1 * y5 - 0 * 0 - 0 * 0 - 0 * 0 - x3 * y3 - x5 * y1 - 0 * 0 - 0 * 0 = x0 * y4 + x2 * y2 + x4 * y0 - x1 * y5 - x3 * y3 - x5 * y1 := by grind
theorem sm5 (x0 x1 x2 x3 x4 x5 y0 y1 y2 y3 y4 y5 : Int) : x0 * y5 + x1 * y4 + 0 * 0 + 0 * 0 + 0 * 0 + x2 * y3 + x3 * y2 + x4 * y1 + x5 * y0 + 0 * 0 + 0 * 0 + 0 * 0 + 0 * 0 - 0 * 0 = x0 * y5 + x1 * y4 + x2 * y3 + x3 * y2 + x4 * y1 + x5 * y0 := by grind
theorem sm6 (x0 x1 x2 x3 x4 x5 y0 y1 y2 y3 y4 y5 : Int) : x0 * 0 + 0 * y2 + x2 * 0 + x4 * 0 + 0 * y0 + 0 * y4 - x1 * 0 - 0 * y3 - 0 * y2 - 0 * y3 - x2 * 0 - x3 * 0 - x3 * 0 - x4 * 0 - x5 * 0 - x5 * 0 - 0 * y1 - 0 * y5 - 0 * y4 - 0 * y5 = 0 := by grind
theorem sm7 (x0 x1 x2 x3 x4 x5 y0 y1 y2 y3 y4 y5 : Int) : x0 * 0 + x1 * 0 + 0 * y2 + 0 * y3 + 0 * y2 + x2 * 0 + x2 * 0 + x3 * 0 + x4 * 0 + x4 * 0 + x5 * 0 + 0 * y1 + 0 * y0 + 0 * y4 + 0 * y5 + 0 * y4 - 0 * y3 - x3 * 0 - x5 * 0 - 0 * y5 = 0 := by grind
theorem sm8 (x0 x1 x2 x3 x4 x5 y0 y1 y2 y3 y4 y5 : Int) : x0 * 0 + 0 * y4 + x2 * 0 + x4 * 0 + 0 * y2 + 0 * y0 - x1 * 0 - 0 * y5 - 0 * y4 - 0 * y5 - x3 * 0 - x4 * 0 - x5 * 0 - x5 * 0 - 0 * y3 - 0 * y1 = 0 := by grind
theorem sm9 (x0 x1 x2 x3 x4 x5 y0 y1 y2 y3 y4 y5 : Int) : x0 * 0 + x1 * 0 + 0 * y4 + 0 * y5 + 0 * y4 + x2 * 0 + x3 * 0 + x4 * 0 + x4 * 0 + x5 * 0 + 0 * y3 + 0 * y2 + 0 * y1 + 0 * y0 - 0 * y5 - x5 * 0 = 0 := by grind
theorem sm10 (x0 x1 x2 x3 x4 x5 y0 y1 y2 y3 y4 y5 : Int) : x0 * 0 + 0 * y0 + x2 * 0 + x4 * 0 + 0 * y4 + 0 * y2 - x1 * 0 - 0 * y1 - x3 * 0 - x5 * 0 - 0 * y5 - 0 * y3 = 0 := by grind
theorem sm11 (x0 x1 x2 x3 x4 x5 y0 y1 y2 y3 y4 y5 : Int) : x0 * 0 + x1 * 0 + 0 * y1 + 0 * y0 + x2 * 0 + x3 * 0 + x4 * 0 + x5 * 0 + 0 * y5 + 0 * y4 + 0 * y3 + 0 * y2 = 0 := by grind

theorem zr_one {z : Int} (h : Rep 1 z) : Zr (z - 1) := by
  obtain ⟨k, hk⟩ := h
  exact ⟨k, by generalize (pN : Int) * k = M at *; omega⟩
theorem zr_nil {z : Int} (h : Rep 0 z) : Zr (z - 0) := by rw [Int.sub_zero]; exact h

set_option maxRecDepth 20000 in
set_option maxHeartbeats 4000000 in
theorem fullInv_q {a : N12} {X : E12} (ha : QB a X) : ∃ (u : N12) (U : E12), QP u U ∧ (∀ w, Calls Try.prog 17 #[nv 6 a.l] w (Is (nv 6 u.l) w)) ∧ (E12.Null X → u = ⟨0, 0, 0, 0, 0, 0, 0, 0, 0, 0, 0, 0⟩) ∧ (¬ E12.Null X → E12.Cong (E12.mul X U) E12.one) := by
  obtain ⟨c, hc⟩ := qp_of (E12.conj X)
  obtain ⟨m, hm⟩ := qp_of (E12.nrm X)
  obtain ⟨u0, u1, u2, u3, u4, u5, k0, k1, k2, k3, k4, k5, bu0, bu1, bu2, bu3, bu4, bu5, ru0, ru1, ru2, ru3, ru4, ru5, hI, _, hU⟩ := sextInv_all hm.r0 hm.r1 hm.r2 hm.r3 hm.r4 hm.r5 hm.b0 hm.b1 hm.b2 hm.b3 hm.b4 hm.b5
  obtain ⟨v, hv⟩ := qp_of (E12.mul (E12.conj X) (E12.six k0 k1 k2 k3 k4 k5))
  refine ⟨v, _, hv, fun w => ?_, fun n => ?_, fun hn => ?_⟩
  · go_enter Try.func17, Try.ntmps17
    refine seq_lit ?_
    refine sq_new (a' := ⟨#[nv 6 a.l, .pointer (some ⟨w.heap.size, 0, none⟩), undef, undef, undef, undef, undef, undef, undef], []⟩) (xs := rows 6 a.l) rfl rfl (ex_boxn (K := 6) (l := a.l) rfl) ?_
    intro w1 N1 hb1
    have HB2 := below_then (Below.refl w.heap.size w) hb1
    refine sq_new (a' := ⟨#[nv 6 a.l, .pointer (some ⟨w.heap.size, 0, none⟩), .pointer (some ⟨w1.heap.size, 0, none⟩), undef, undef, undef, undef, undef, undef], []⟩) (xs := rows 6 [0, 0, 0, 0, 0, 0, 0, 0, 0, 0, 0, 0]) rfl rfl (ex_alloc zFp12) ?_
    intro w3 N3 hb3
    have A4 := N1.keep hb3
    have HB5 := below_then HB2 hb3
    refine seq_nil ?_
    refine wp_seq (wp_region_last (F := ⟨#[nv 6 a.l, .pointer (some ⟨w.heap.size, 0, none⟩), .pointer (some ⟨w1.heap.size, 0, none⟩), nv 6 a.l, nv 6 c.l, nv 6 a.l, nv 6 [m.n0, m.n1, m.n2, m.n3, m.n4, m.n5], nv 6 [u0, u1, u2, u3, u4, u5], nv 6 v.l], []⟩) (S := Bel w3) [(3, nv 6 a.l), (4, nv 6 c.l), (5, nv 6 a.l), (6, nv 6 [m.n0, m.n1, m.n2, m.n3, m.n4, m.n5]), (7, nv 6 [u0, u1, u2, u3, u4, u5]), (8, nv 6 v.l)] 6 _ (by kernel_rfl) (by kernel_rfl) (by kernel_rfl) (by kernel_rfl) rfl rfl (by kernel_rfl) rfl (by simp only [putAll, List.setIfInBounds_toArray, List.set_cons_zero, List.set_cons_succ]) (Bel.start _) ?_ ?_)
    · refine PlanInit.cons (ps_val (v := nv 6 a.l) rfl rfl rfl (fun W' h => ex_loadn (K := 6) (k := 0) (j := 12) (l := a.l) flFp12 rfl (A4.keep h.out) rfl _ rfl)) ?_
      refine PlanInit.cons (ps_call (v := nv 6 c.l) rfl rfl rfl (fun W' => ex_call (vs := [nv 6 a.l]) rfl Try.call13 rfl) (fun W' h => fullConj_q ha hc _)) ?_
      refine PlanInit.cons (ps_val (v := nv 6 a.l) rfl rfl rfl (fun W' h => ex_loadn (K := 6) (k := 0) (j := 12) (l := a.l) flFp12 rfl (A4.keep h.out) rfl _ rfl)) ?_
      refine PlanInit.cons (ps_call (v := nv 6 [m.n0, m.n1, m.n2, m.n3, m.n4, m.n5]) rfl rfl rfl (fun W' => ex_call (vs := [nv 6 a.l]) rfl Try.call35 rfl) (fun W' h => fullnorm_r ha.r0 ha.r1 ha.r2 ha.r3 ha.r4 ha.r5 ha.r6 ha.r7 ha.r8 ha.r9 ha.r10 ha.r11 ha.b0 ha.b1 ha.b2 ha.b3 ha.b4 ha.b5 ha.b6 ha.b7 ha.b8 ha.b9 ha.b10 ha.b11 hm.b0 hm.b1 hm.b2 hm.b3 hm.b4 hm.b5 hm.r0 hm.r1 hm.r2 hm.r3 hm.r4 hm.r5 _)) ?_
      refine PlanInit.cons (ps_call (v := nv 6 [u0, u1, u2, u3, u4, u5]) rfl rfl rfl (fun W' => ex_call (vs := [nv 6 [m.n0, m.n1, m.n2, m.n3, m.n4, m.n5]]) rfl Try.call34 rfl) (fun W' h => hI _)) ?_
      refine PlanInit.cons (ps_call (v := nv 6 v.l) rfl rfl rfl (fun W' => ex_call (vs := [nv 6 c.l, nv 6 [u0, u1, u2, u3, u4, u5]]) rfl Try.call33 rfl) (fun W' h => fullscale_r hc.r0 hc.r1 hc.r2 hc.r3 hc.r4 hc.r5 hc.r6 hc.r7 hc.r8 hc.r9 hc.r10 hc.r11 ru0 ru1 ru2 ru3 ru4 ru5 hc.toB.b0 hc.toB.b1 hc.toB.b2 hc.toB.b3 hc.toB.b4 hc.toB.b5 hc.toB.b6 hc.toB.b7 hc.toB.b8 hc.toB.b9 hc.toB.b10 hc.toB.b11 (Nat.lt_trans bu0 fpM_lt) (Nat.lt_trans bu1 fpM_lt) (Nat.lt_trans bu2 fpM_lt) (Nat.lt_trans bu3 fpM_lt) (Nat.lt_trans bu4 fpM_lt) (Nat.lt_trans bu5 fpM_lt) hv.b0 hv.b1 hv.b2 hv.b3 hv.b4 hv.b5 hv.b6 hv.b7 hv.b8 hv.b9 hv.b10 hv.b11 (rep_to hv.r0 (sc0 (E12.conj X).c0 (E12.conj X).c1 (E12.conj X).c2 (E12.conj X).c3 (E12.conj X).c4 (E12.conj X).c5 (E12.conj X).c6 (E12.conj X).c7 (E12.conj X).c8 (E12.conj X).c9 (E12.conj X).c10 (E12.conj X).c11 k0 k1 k2 k3 k4 k5)) (rep_to hv.r1 (sc1 (E12.conj X).c0 (E12.conj X).c1 (E12.conj X).c2 (E12.conj X).c3 (E12.conj X).c4 (E12.conj X).c5 (E12.conj X).c6 (E12.conj X).c7 (E12.conj X).c8 (E12.conj X).c9 (E12.conj X).c10 (E12.conj X).c11 k0 k1 k2 k3 k4 k5)) (rep_to hv.r2 (sc2 (E12.conj X).c0 (E12.conj X).c1 (E12.conj X).c2 (E12.conj X).c3 (E12.conj X).c4 (E12.conj X).c5 (E12.conj X).c6 (E12.conj X).c7 (E12.conj X).c8 (E12.conj X).c9 (E12.conj X).c10 (E12.conj X).c11 k0 k1 k2 k3 k4 k5)) (rep_to hv.r3 (sc3 (E12.conj X).c0 (E12.conj X).c1 (E12.conj X).c2 (E12.conj X).c3 (E12.conj X).c4 (E12.conj X).c5 (E12.conj X).c6 (E12.conj X).c7 (E12.conj X).c8 (E12.conj X).c9 (E12.conj X).c10 (E12.conj X).c11 k0 k1 k2 k3 k4 k5)) (rep_to hv.r4 (sc4 (E12.conj X).c0 (E12.conj X).c1 (E12.conj X).c2 (E12.conj X).c3 (E12.conj X).c4 (E12.conj X).c5 (E12.conj X).c6 (E12.conj X).c7 (E12.conj X).c8 (E12.conj X).c9 (E12.conj X).c10 (E12.conj X).c11 k0 k1 k2 k3 k4 k5)) (rep_to hv.r5 (sc5 (E12.conj X).c0 (E12.conj X).c1 (E12.conj X).c2 (E12.conj X).c3 (E12.conj X).c4 (E12.conj X).c5 (E12.conj X).c6 (E12.conj X).c7 (E12.conj X).c8 (E12.conj X).c9 (E12.conj X).c10 (E12.conj X).c11 k0 k1 k2 k3 k4 k5)) (rep_to hv.r6 (sc6 (E12.conj X).c0 (E12.conj X).c1 (E12.conj X).c2 (E12.conj X).c3 (E12.conj X).c4 (E12.conj X).c5 (E12.conj X).c6 (E12.conj X).c7 (E12.conj X).c8 (E12.conj X).c9 (E12.conj X).c10 (E12.conj X).c11 k0 k1 k2 k3 k4 k5)) (rep_to hv.r7 (sc7 (E12.conj X).c0 (E12.conj X).c1 (E12.conj X).c2 (E12.conj X).c3 (E12.conj X).c4 (E12.conj X).c5 (E12.conj X).c6 (E12.conj X).c7 (E12.conj X).c8 (E12.conj X).c9 (E12.conj X).c10 (E12.conj X).c11 k0 k1 k2 k3 k4 k5)) (rep_to hv.r8 (sc8 (E12.conj X).c0 (E12.conj X).c1 (E12.conj X).c2 (E12.conj X).c3 (E12.conj X).c4 (E12.conj X).c5 (E12.conj X).c6 (E12.conj X).c7 (E12.conj X).c8 (E12.conj X).c9 (E12.conj X).c10 (E12.conj X).c11 k0 k1 k2 k3 k4 k5)) (rep_to hv.r9 (sc9 (E12.conj X).c0 (E12.conj X).c1 (E12.conj X).c2 (E12.conj X).c3 (E12.conj X).c4 (E12.conj X).c5 (E12.conj X).c6 (E12.conj X).c7 (E12.conj X).c8 (E12.conj X).c9 (E12.conj X).c10 (E12.conj X).c11 k0 k1 k2 k3 k4 k5)) (rep_to hv.r10 (sc10 (E12.conj X).c0 (E12.conj X).c1 (E12.conj X).c2 (E12.conj X).c3 (E12.conj X).c4 (E12.conj X).c5 (E12.conj X).c6 (E12.conj X).c7 (E12.conj X).c8 (E12.conj X).c9 (E12.conj X).c10 (E12.conj X).c11 k0 k1 k2 k3 k4 k5)) (rep_to hv.r11 (sc11 (E12.conj X).c0 (E12.conj X).c1 (E12.conj X).c2 (E12.conj X).c3 (E12.conj X).c4 (E12.conj X).c5 (E12.conj X).c6 (E12.conj X).c7 (E12.conj X).c8 (E12.conj X).c9 (E12.conj X).c10 (E12.conj X).c11 k0 k1 k2 k3 k4 k5)) _)) ?_
      exact PlanInit.one
    refine last_store (t := 30) (xs := rows 6 [0, 0, 0, 0, 0, 0, 0, 0, 0, 0, 0, 0]) (ys := rows 6 v.l) rfl rfl (fun W' h => N3.keep h.out) (len_rows rfl) (fun W' h => ex_storen (K := 6) (l := [0, 0, 0, 0, 0, 0, 0, 0, 0, 0, 0, 0]) (m := v.l) flFp12 rfl rfl (N3.keep h.out) rfl) ?_
    intro w7 w8 hb7 N8 hst8 hoth8
    refine then_n ?_
    have A9 := A4.keep hb7.out
    have A10 := N3.keep hb7.out
    have HB11 := below_then HB5 hb7.out
    have A12 := hoth8 _ _ _ (Nat.ne_of_lt N1.lt) A9
    have HB13 := hst8 _ _ HB11 HB2.size
    exact wp_ret (bodyPost_ret (ret_celln (K := 6) Try.results17 rfl N8 flFp12) rfl ⟨rfl, HB13⟩)
  · have hnc : E12.Null (E12.conj X) := ⟨n.n0, n.n1, n.n2, n.n3, n.n4, n.n5, n.n6.neg, n.n7.neg, n.n8.neg, n.n9.neg, n.n10.neg, n.n11.neg⟩
    exact hv.null (hnc.mul _)
  · have hne : ¬ (m.n0 = 0 ∧ m.n1 = 0 ∧ m.n2 = 0 ∧ m.n3 = 0 ∧ m.n4 = 0 ∧ m.n5 = 0) := fun h => hn (E12.nrm_null ⟨(show Rep 0 _ from h.1 ▸ hm.r0), (show Rep 0 _ from h.2.1 ▸ hm.r1), (show Rep 0 _ from h.2.2.1 ▸ hm.r2), (show Rep 0 _ from h.2.2.2.1 ▸ hm.r3), (show Rep 0 _ from h.2.2.2.2.1 ▸ hm.r4), (show Rep 0 _ from h.2.2.2.2.2 ▸ hm.r5), Zr.zero, Zr.zero, Zr.zero, Zr.zero, Zr.zero, Zr.zero⟩)
    obtain ⟨e0, e1, e2, e3, e4, e5⟩ := hU hne
    have hc1 : E12.Cong (E12.mul (E12.nrm X) (E12.six k0 k1 k2 k3 k4 k5)) E12.one := ⟨(zr_one e0).eq (congrArg (· - 1) (sm0 (E12.nrm X).c0 (E12.nrm X).c1 (E12.nrm X).c2 (E12.nrm X).c3 (E12.nrm X).c4 (E12.nrm X).c5 k0 k1 k2 k3 k4 k5).symm), (zr_nil e1).eq (congrArg (· - 0) (sm1 (E12.nrm X).c0 (E12.nrm X).c1 (E12.nrm X).c2 (E12.nrm X).c3 (E12.nrm X).c4 (E12.nrm X).c5 k0 k1 k2 k3 k4 k5).symm), (zr_nil e2).eq (congrArg (· - 0) (sm2 (E12.nrm X).c0 (E12.nrm X).c1 (E12.nrm X).c2 (E12.nrm X).c3 (E12.nrm X).c4 (E12.nrm X).c5 k0 k1 k2 k3 k4 k5).symm), (zr_nil e3).eq (congrArg (· - 0) (sm3 (E12.nrm X).c0 (E12.nrm X).c1 (E12.nrm X).c2 (E12.nrm X).c3 (E12.nrm X).c4 (E12.nrm X).c5 k0 k1 k2 k3 k4 k5).symm), (zr_nil e4).eq (congrArg (· - 0) (sm4 (E12.nrm X).c0 (E12.nrm X).c1 (E12.nrm X).c2 (E12.nrm X).c3 (E12.nrm X).c4 (E12.nrm X).c5 k0 k1 k2 k3 k4 k5).symm), (zr_nil e5).eq (congrArg (· - 0) (sm5 (E12.nrm X).c0 (E12.nrm X).c1 (E12.nrm X).c2 (E12.nrm X).c3 (E12.nrm X).c4 (E12.nrm X).c5 k0 k1 k2 k3 k4 k5).symm), (zr_nil rep_0).eq (congrArg (· - 0) (sm6 (E12.nrm X).c0 (E12.nrm X).c1 (E12.nrm X).c2 (E12.nrm X).c3 (E12.nrm X).c4 (E12.nrm X).c5 k0 k1 k2 k3 k4 k5).symm), (zr_nil rep_0).eq (congrArg (· - 0) (sm7 (E12.nrm X).c0 (E12.nrm X).c1 (E12.nrm X).c2 (E12.nrm X).c3 (E12.nrm X).c4 (E12.nrm X).c5 k0 k1 k2 k3 k4 k5).symm), (zr_nil rep_0).eq (congrArg (· - 0) (sm8 (E12.nrm X).c0 (E12.nrm X).c1 (E12.nrm X).c2 (E12.nrm X).c3 (E12.nrm X).c4 (E12.nrm X).c5 k0 k1 k2 k3 k4 k5).symm), (zr_nil rep_0).eq (congrArg (· - 0) (sm9 (E12.nrm X).c0 (E12.nrm X).c1 (E12.nrm X).c2 (E12.nrm X).c3 (E12.nrm X).c4 (E12.nrm X).c5 k0 k1 k2 k3 k4 k5).symm), (zr_nil rep_0).eq (congrArg (· - 0) (sm10 (E12.nrm X).c0 (E12.nrm X).c1 (E12.nrm X).c2 (E12.nrm X).c3 (E12.nrm X).c4 (E12.nrm X).c5 k0 k1 k2 k3 k4 k5).symm), (zr_nil rep_0).eq (congrArg (· - 0) (sm11 (E12.nrm X).c0 (E12.nrm X).c1 (E12.nrm X).c2 (E12.nrm X).c3 (E12.nrm X).c4 (E12.nrm X).c5 k0 k1 k2 k3 k4 k5).symm)⟩
    exact E12.inv_is hc1

end Go.Proofs.Ytodabjelnllkgaa
