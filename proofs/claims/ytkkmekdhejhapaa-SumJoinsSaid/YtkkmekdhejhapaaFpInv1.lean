/- What is proved here: what the steps of fp's inverse make of whole numbers; the contract of widen. -/
import Derived.Test.YtkkmekdhejhapaaWd
import Derived.Test.YtkkmekdhejhapaaWalkMath
import Derived.Test.YtkkmekdhejhapaaNeg
namespace Go.Proofs.Ytkkmekdhejhapaa
open Go.RowKit
structure WS where
  t : Int
  f : Int
  g : Int
  a : Int
  b : Int
  c : Int
  d : Int
def wstep (s : WS) : WS :=
  if s.g % 2 = 1 ∧ 0 < s.t then ⟨-s.t + 1, s.g, ((-s.f) % 18446744073709551616 + s.g) % 18446744073709551616 / 2, 2 * s.c, 2 * s.d, -s.a + s.c, -s.b + s.d⟩
  else if s.g % 2 = 1 then ⟨s.t + 1, s.f, (s.g + s.f) % 18446744073709551616 / 2, 2 * s.a, 2 * s.b, s.c + s.a, s.d + s.b⟩
  else ⟨s.t + 1, s.f, s.g / 2, 2 * s.a, 2 * s.b, s.c, s.d⟩
def wsn : Nat → WS → WS
  | 0, s => s
  | n + 1, s => wstep (wsn n s)
def WalkOf (f0 g0 : Int) (s : WS) : Prop := f0 % 2 = 1 ∧ WK f0 g0 s.t 0 s.t s.f s.g s.a s.b s.c s.d
theorem WalkOf.at {f0 g0 : Int} {s : WS} (h : WalkOf f0 g0 s) : ∀ k, k ≤ 60 → WK f0 g0 s.t k (wsn k s).t (wsn k s).f (wsn k s).g (wsn k s).a (wsn k s).b (wsn k s).c (wsn k s).d := by
  have hodd : ∀ k, (dsn k ⟨s.t, f0, g0⟩).f % 2 = 1 := fun k => by
    have hi : DIn (f0.natAbs + g0.natAbs : Int) ⟨s.t, f0, g0⟩ := ⟨h.1, by show _ ≤ f0; omega, by show f0 ≤ _; omega, by show _ ≤ g0; omega, by show g0 ≤ _; omega⟩
    exact (hi.steps k).1
  intro k
  induction k with
  | zero => intro _; exact h.2
  | succ k ih =>
    intro hk
    have w := ih (by omega)
    have ho := hodd k
    show WK f0 g0 s.t (k + 1) (wstep (wsn k s)).t (wstep (wsn k s)).f (wstep (wsn k s)).g (wstep (wsn k s)).a (wstep (wsn k s)).b (wstep (wsn k s)).c (wstep (wsn k s)).d
    by_cases c1 : (wsn k s).g % 2 = 1 ∧ 0 < (wsn k s).t
    · rw [show wstep (wsn k s) = _ from if_pos c1]
      exact w.swap ho (by omega) c1.1 c1.2
    · by_cases c2 : (wsn k s).g % 2 = 1
      · rw [show wstep (wsn k s) = _ from (if_neg c1).trans (if_pos c2)]
        exact w.stay ho (by omega) c2 (fun q => c1 ⟨c2, q⟩)
      · rw [show wstep (wsn k s) = _ from (if_neg c1).trans (if_neg c2)]
        exact w.even (by omega) c2
structure WIn (s : WS) : Prop where
  t0 : -1060 ≤ s.t
  t1 : s.t ≤ 1060
  u0 : 0 ≤ s.f
  u1 : s.f ≤ 18446744073709551615
  v0 : 0 ≤ s.g
  v1 : s.g ≤ 18446744073709551615
  a0 : -1152921504606846976 ≤ s.a
  a1 : s.a ≤ 1152921504606846976
  b0 : -1152921504606846976 ≤ s.b
  b1 : s.b ≤ 1152921504606846976
  c0 : -1152921504606846976 ≤ s.c
  c1 : s.c ≤ 1152921504606846976
  d0 : -1152921504606846976 ≤ s.d
  d1 : s.d ≤ 1152921504606846976
theorem WalkOf.inn {f0 g0 : Int} {s : WS} (h : WalkOf f0 g0 s) {k : Nat} (hk : k ≤ 60) : WIn (wsn k s) ∧ (k < 60 → (wsn k s).f % 2 = 1) := by
  have w := h.at k hk
  have ho : (dsn k ⟨s.t, f0, g0⟩).f % 2 = 1 := by
    have hi : DIn (f0.natAbs + g0.natAbs : Int) ⟨s.t, f0, g0⟩ := ⟨h.1, by show _ ≤ f0; omega, by show f0 ≤ _; omega, by show _ ≤ g0; omega, by show g0 ≤ _; omega⟩
    exact (hi.steps k).1
  have hp : 2 ^ k ≤ 2 ^ 60 := Nat.pow_le_pow_right (by decide) hk
  have e : (2 : Nat) ^ 60 = 1152921504606846976 := by decide
  have b := w.hb
  have b1 := w.b1
  have b2 := w.b2
  have u0 := w.u0
  have u1 := w.u1
  have v0 := w.v0
  have v1 := w.v1
  refine ⟨⟨?_, ?_, u0, u1, v0, v1, ?_, ?_, ?_, ?_, ?_, ?_, ?_, ?_⟩, fun c => (w.oddf c).trans ho⟩ <;> omega
structure IS where
  t : Int
  f : Int
  g : Int
  d : Int
  e : Int
def kkOf (n : Nat) (x : Int) : Int := ((lb (wr x) 0 : Nat) : Int) * (n : Int) % 18446744073709551616 % 1152921504606846976 - (if x < 0 then 0 else 1152921504606846976)
def dv (n : Nat) (x : Int) : Int := (x + (pN : Int) * kkOf n x) / 2 ^ 60
def iw (s : IS) : WS := wsn 60 ⟨s.t, ((lb (wr s.f) 0 : Nat) : Int), ((lb (wr s.g) 0 : Nat) : Int), 1, 0, 0, 1⟩
theorem iw_eq (s : IS) : wsn 60 ⟨s.t, ((lb (wr s.f) 0 : Nat) : Int), ((lb (wr s.g) 0 : Nat) : Int), 1, 0, 0, 1⟩ = iw s := rfl
def isw (n : Nat) (s : IS) (W : WS) : IS := ⟨W.t, (s.f * W.a + s.g * W.b) / 2 ^ 60, (s.f * W.c + s.g * W.d) / 2 ^ 60, dv n (s.d * W.a + s.e * W.b), dv n (s.d * W.c + s.e * W.d)⟩
def istep (n : Nat) (s : IS) : IS := isw n s (iw s)
theorem isw_t (n : Nat) (s : IS) (W : WS) : (isw n s W).t = W.t := rfl
def isn (n A : Nat) : Nat → IS
  | 0 => ⟨1, pN, A, 0, 1⟩
  | k + 1 => istep n (isn n A k)
theorem istep_t (n : Nat) (s : IS) : (istep n s).t = (iw s).t := by rw [istep, isw_t]
theorem isn_succ (n A k : Nat) : isn n A (k + 1) = istep n (isn n A k) := rfl
theorem lb0_dvd (x : Int) : ∃ u : Int, x = ((lb (wr x) 0 : Nat) : Int) + 18446744073709551616 * u := by
  obtain ⟨q, hq⟩ := wr_form x
  have h1 : lb (wr x) 0 = wr x % 18446744073709551616 := by rw [lb, Nat.mul_zero, Nat.pow_zero, Nat.div_one]
  have h2 : (wB : Int) = 18446744073709551616 * (qB : Int) := by
    rw [wB_q, Int.natCast_mul, Int.mul_comm]
    rfl
  refine ⟨((wr x / 18446744073709551616 : Nat) : Int) + (qB : Int) * q, ?_⟩
  rw [h1]
  generalize (qB : Int) = R at *
  rw [h2] at hq
  have h3 : (wr x : Int) = ((wr x % 18446744073709551616 : Nat) : Int) + 18446744073709551616 * ((wr x / 18446744073709551616 : Nat) : Int) := by omega
  rw [Int.mul_add, ← Int.mul_assoc, ← Int.add_assoc, ← h3]
  exact hq
theorem dv_ok {n : Nat} (hn : NegOf (lb pN 0) n) (x : Int) (h1 : -1152921504606846976 * (pN : Int) ≤ x) (h2 : x ≤ 1152921504606846976 * (pN : Int)) :
    1152921504606846976 * dv n x = x + (pN : Int) * kkOf n x ∧ -(pN : Int) ≤ dv n x ∧ dv n x ≤ pN ∧ -1152921504606846976 ≤ kkOf n x ∧ kkOf n x < 1152921504606846976 := by
  obtain ⟨u, hu⟩ := lb0_dvd x
  obtain ⟨v, hv⟩ : ∃ v : Int, (pN : Int) = ((lb pN 0 : Nat) : Int) + 18446744073709551616 * v := ⟨((pN / 18446744073709551616 : Nat) : Int), by
    have : lb pN 0 = pN % 18446744073709551616 := by rw [lb, Nat.mul_zero, Nat.pow_zero, Nat.div_one]
    rw [this]
    omega⟩
  have hm := hn.2.2 (by decide +kernel)
  obtain ⟨s, hs⟩ : ∃ s : Int, ((lb pN 0 : Nat) : Int) * (n : Int) + 1 = 18446744073709551616 * s := ⟨((lb pN 0 * n / 18446744073709551616 : Nat) : Int) + 1, by
    rw [← Int.natCast_mul]
    generalize lb pN 0 * n = z at *
    omega⟩
  have hk : ∃ t : Int, kkOf n x = ((lb (wr x) 0 : Nat) : Int) * (n : Int) - 1152921504606846976 * t := by
    unfold kkOf
    generalize ((lb (wr x) 0 : Nat) : Int) * (n : Int) = z
    split
    · exact ⟨16 * (z / 18446744073709551616) + z % 18446744073709551616 / 1152921504606846976, by omega⟩
    · exact ⟨16 * (z / 18446744073709551616) + z % 18446744073709551616 / 1152921504606846976 + 1, by omega⟩
  obtain ⟨t, ht⟩ := hk
  have hd := div_sixty hu hv hs ht
  have hb : -1152921504606846976 ≤ kkOf n x ∧ kkOf n x < 1152921504606846976 ∧ (x < 0 → 0 ≤ kkOf n x) ∧ (¬ x < 0 → kkOf n x < 0) := by
    unfold kkOf
    generalize ((lb (wr x) 0 : Nat) : Int) * (n : Int) = z
    split <;> omega
  have e : 1152921504606846976 * dv n x = x + (pN : Int) * kkOf n x := by
    unfold dv
    rw [show (2 : Int) ^ 60 = 1152921504606846976 from rfl, Int.mul_comm]
    exact Int.ediv_mul_cancel hd
  refine ⟨e, ?_, ?_, hb.1, hb.2.1⟩
  · have h3 : (pN : Int) * (-1152921504606846976) ≤ (pN : Int) * kkOf n x := Int.mul_le_mul_of_nonneg_left hb.1 (by omega)
    by_cases c : x < 0
    · have h4 : 0 ≤ (pN : Int) * kkOf n x := Int.mul_nonneg (by omega) (hb.2.2.1 c)
      omega
    · omega
  · have h3 : (pN : Int) * kkOf n x ≤ (pN : Int) * 1152921504606846976 := Int.mul_le_mul_of_nonneg_left (by omega) (by omega)
    by_cases c : x < 0
    · omega
    · have h4 : (pN : Int) * kkOf n x ≤ 0 := Int.mul_nonpos_of_nonneg_of_nonpos (by omega) (by have := hb.2.2.2 c; omega)
      omega
theorem fac_bound {x y a b P : Int} (hx0 : -P ≤ x) (hx1 : x ≤ P) (hy0 : -P ≤ y) (hy1 : y ≤ P) (h : a.natAbs + b.natAbs ≤ 2 ^ 60) : -1152921504606846976 * P ≤ x * a + y * b ∧ x * a + y * b ≤ 1152921504606846976 * P := by
  have e : (2 : Nat) ^ 60 = 1152921504606846976 := by decide
  rw [e] at h
  have key : ∀ z c : Int, -P ≤ z → z ≤ P → -(P * (c.natAbs : Int)) ≤ z * c ∧ z * c ≤ P * (c.natAbs : Int) := by
    intro z c h1 h2
    rcases Int.le_total 0 c with q | q
    · rw [Int.natAbs_of_nonneg q]
      exact ⟨by rw [← Int.neg_mul]; exact Int.mul_le_mul_of_nonneg_right h1 q, Int.mul_le_mul_of_nonneg_right h2 q⟩
    · rw [Int.ofNat_natAbs_of_nonpos q]
      refine ⟨?_, ?_⟩
      · rw [Int.mul_neg, Int.neg_neg]; exact Int.mul_le_mul_of_nonpos_right h2 q
      · rw [Int.mul_neg, ← Int.neg_mul]; exact Int.mul_le_mul_of_nonpos_right h1 q
  have k1 := key x a hx0 hx1
  have k2 := key y b hy0 hy1
  have hs : P * (a.natAbs : Int) + P * (b.natAbs : Int) ≤ P * 1152921504606846976 := by
    rw [← Int.mul_add]
    exact Int.mul_le_mul_of_nonneg_left (by omega) (by omega)
  omega
structure IA (n A k : Nat) : Prop where
  iv : IV A k ⟨(isn n A k).t, (isn n A k).f, (isn n A k).g⟩ (isn n A k).d (isn n A k).e
structure IT (n : Nat) (s : IS) : Prop where
  walk : WalkOf s.f s.g ⟨s.t, ((lb (wr s.f) 0 : Nat) : Int), ((lb (wr s.g) 0 : Nat) : Int), 1, 0, 0, 1⟩
  f0 : -(pN : Int) ≤ s.f
  f1 : s.f ≤ pN
  g0 : -(pN : Int) ≤ s.g
  g1 : s.g ≤ pN
  d0 : -(pN : Int) ≤ s.d
  d1 : s.d ≤ pN
  e0 : -(pN : Int) ≤ s.e
  e1 : s.e ≤ pN
  b1 : (iw s).a.natAbs + (iw s).b.natAbs ≤ 2 ^ 60
  b2 : (iw s).c.natAbs + (iw s).d.natAbs ≤ 2 ^ 60
theorem IA.turn {n A k : Nat} (h : IA n A k) (hA : A < pN) (hz : (isn n A k).g ≠ 0) : IT n (isn n A k) := by
  have hi := h.iv.inn hA
  have ht := h.iv.turn hA hz
  obtain ⟨u, hu⟩ := lb0_dvd (isn n A k).f
  obtain ⟨v, hv⟩ := lb0_dvd (isn n A k).g
  have l1 : lb (wr (isn n A k).f) 0 < 2 ^ 64 := lb_lt _ _
  have l2 : lb (wr (isn n A k).g) 0 < 2 ^ 64 := lb_lt _ _
  have hwk : WK (isn n A k).f (isn n A k).g (isn n A k).t 0 (isn n A k).t ((lb (wr (isn n A k).f) 0 : Nat) : Int) ((lb (wr (isn n A k).g) 0 : Nat) : Int) 1 0 0 1 :=
    WK.start _ _ _ ht ⟨-u, by omega⟩ ⟨-v, by omega⟩ (by omega) (by omega) (by omega) (by omega)
  have hw : WalkOf (isn n A k).f (isn n A k).g ⟨(isn n A k).t, ((lb (wr (isn n A k).f) 0 : Nat) : Int), ((lb (wr (isn n A k).g) 0 : Nat) : Int), 1, 0, 0, 1⟩ := ⟨hi.1, hwk⟩
  have hw6 := hw.at 60 (Nat.le_refl _)
  rw [iw_eq] at hw6
  exact ⟨hw, hi.2.1, hi.2.2.1, hi.2.2.2.1, hi.2.2.2.2, h.iv.d1, h.iv.d2, h.iv.e1, h.iv.e2, hw6.b1, hw6.b2⟩
theorem IA.next {n A k : Nat} (hn : NegOf (lb pN 0) n) (h : IA n A k) (hA : A < pN) (hz : (isn n A k).g ≠ 0) : IA n A (k + 1) := by
  have T := h.turn hA hz
  have hw6 := T.walk.at 60 (Nat.le_refl _)
  rw [iw_eq] at hw6
  have q1 := dv_ok hn _ (fac_bound T.d0 T.d1 T.e0 T.e1 T.b1).1 (fac_bound T.d0 T.d1 T.e0 T.e1 T.b1).2
  have q2 := dv_ok hn _ (fac_bound T.d0 T.d1 T.e0 T.e1 T.b2).1 (fac_bound T.d0 T.d1 T.e0 T.e1 T.b2).2
  have e60 : (2 : Int) ^ 60 = 1152921504606846976 := rfl
  have r1 := hw6.h1
  have r2 := hw6.h2
  have r3 := hw6.ht
  rw [e60] at r1 r2
  obtain ⟨W, hW⟩ : ∃ W, W = iw (isn n A k) := ⟨_, rfl⟩
  have c1 : (isn n A (k + 1)).f = (dsn 60 ⟨(isn n A k).t, (isn n A k).f, (isn n A k).g⟩).f := by
    show ((isn n A k).f * (iw (isn n A k)).a + (isn n A k).g * (iw (isn n A k)).b) / 2 ^ 60 = _
    rw [← hW] at r1 ⊢
    rw [e60, Int.mul_comm, Int.mul_comm (isn n A k).g, r1, Int.mul_ediv_cancel_left _ (by decide)]
  have c2 : (isn n A (k + 1)).g = (dsn 60 ⟨(isn n A k).t, (isn n A k).f, (isn n A k).g⟩).g := by
    show ((isn n A k).f * (iw (isn n A k)).c + (isn n A k).g * (iw (isn n A k)).d) / 2 ^ 60 = _
    rw [← hW] at r2 ⊢
    rw [e60, Int.mul_comm, Int.mul_comm (isn n A k).g, r2, Int.mul_ediv_cancel_left _ (by decide)]
  have c3 : (isn n A (k + 1)).t = (dsn 60 ⟨(isn n A k).t, (isn n A k).f, (isn n A k).g⟩).t := by
    rw [isn_succ, istep_t]
    exact r3
  refine ⟨h.iv.next (a := (iw (isn n A k)).a) (b := (iw (isn n A k)).b) (c := (iw (isn n A k)).c) (f := (iw (isn n A k)).d) ?_ ?_ ?_ ?_ ?_ q1.2.1 q1.2.2.1 q2.2.1 q2.2.2.1⟩
  · rw [c1, c2, c3]
  · simp only []
    rw [c1]
    exact r1
  · simp only []
    rw [c2]
    exact r2
  · have : (1152921504606846976 : Int) * (isn n A (k + 1)).d = _ := q1.1
    rw [this]
    rw [Int.add_comm, Int.add_sub_cancel]
    exact Int.dvd_mul_right _ _
  · have : (1152921504606846976 : Int) * (isn n A (k + 1)).e = _ := q2.1
    rw [this]
    rw [Int.add_comm, Int.add_sub_cancel]
    exact Int.dvd_mul_right _ _
theorem IA.first (n A : Nat) : IA n A 0 := ⟨IV.start A⟩
theorem turns (n A : Nat) (hn : NegOf (lb pN 0) n) (hA : A < pN) : ∃ N, (∀ k, k ≤ N → IA n A k) ∧ (∀ k, k < N → (isn n A k).g ≠ 0) ∧ (isn n A N).g = 0 ∧ (A = 0 → N = 0) := by
  obtain ⟨N, h1, h2⟩ := ds_turns (start_in A hA) 60 (by decide)
  have key : ∀ k, k ≤ N → IA n A k := by
    intro k
    induction k with
    | zero => intro _; exact IA.first n A
    | succ k ih =>
      intro hk
      have h := ih (by omega)
      refine h.next hn hA ?_
      have := h2 k (by omega)
      rwa [← h.iv.hs] at this
  refine ⟨N, key, fun k hk => ?_, ?_, fun c => ?_⟩
  · have := h2 k hk
    rwa [← (key k (by omega)).iv.hs] at this
  · rwa [← (key N (Nat.le_refl _)).iv.hs] at h1
  · subst c
    rcases Nat.eq_zero_or_pos N with h | h
    · exact h
    · exact absurd rfl (h2 0 h)
end Go.Proofs.Ytkkmekdhejhapaa
