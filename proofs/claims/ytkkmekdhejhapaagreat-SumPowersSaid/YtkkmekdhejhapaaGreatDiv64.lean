/- What is proved here: a contract of math/bits.Div64 where the divisor's highest bit is 1 and the quotient has one limb: the quotient. -/
import Derived.Test.YtkkmekdhejhapaaGreatShift
import Derived.Test.YtkkmekdhejhapaaGreatDivMath
import Derived.Laws.Bits64b
namespace Go.Proofs.YtkkmekdhejhapaaGreat
open Go.RowKit
def Divs (q : Nat) (w : World) (e : Ending) (w' : World) : Prop :=
  ∃ r n, e = .returned (.tuple #[.int .u64 ((q : Nat) : Int), .int .u64 r]) ∧ w' = w.drewN n
structure Half (hi y1 y0 u : Nat) (q r : Nat) : Prop where
  sum : q * y1 + r = hi
  ge : (hi * 4294967296 + u) / (y1 * 4294967296 + y0) ≤ q
  le : q ≤ 4294967297
  lt : r < 4294967296
theorem Half.start {hi y1 y0 u : Nat} (h1 : 2147483648 ≤ y1) (h2 : y1 < 4294967296) (h0 : y0 < 4294967296) (hh : hi < y1 * 4294967296 + y0) (hu : u < 4294967296) : Half hi y1 y0 u (hi / y1) (hi % y1) := by
  refine ⟨by rw [Nat.mul_comm]; exact Nat.div_add_mod _ _, ?_, ?_, ?_⟩
  · rw [Nat.le_div_iff_mul_le (by omega)]
    have g1 := Nat.div_mul_le_self (hi * 4294967296 + u) (y1 * 4294967296 + y0)
    generalize (hi * 4294967296 + u) / (y1 * 4294967296 + y0) = Q at *
    rw [Nat.mul_add, ← Nat.mul_assoc] at g1
    generalize Q * y1 = P at *
    omega
  · apply Nat.le_of_lt_succ
    rw [Nat.div_lt_iff_lt_mul (by omega)]
    omega
  · have := Nat.mod_lt hi (show 0 < y1 by omega)
    omega
theorem half_mul (q y1 y0 : Nat) : q * (y1 * 4294967296 + y0) = q * y1 * 4294967296 + q * y0 := by rw [Nat.mul_add, Nat.mul_assoc]
theorem Half.done {hi y1 y0 u q r : Nat} (h : Half hi y1 y0 u q r) (hy : 0 < y1 * 4294967296 + y0) (hc : q * y0 ≤ 4294967296 * r + u) : q = (hi * 4294967296 + u) / (y1 * 4294967296 + y0) := by
  refine Nat.le_antisymm ?_ h.ge
  rw [Nat.le_div_iff_mul_le hy, half_mul]
  have := h.sum
  generalize q * y1 = P at *
  generalize q * y0 = R at *
  omega
theorem Half.more {hi y1 y0 u q r : Nat} (h : Half hi y1 y0 u q r) (hh : hi < y1 * 4294967296 + y0) (hu : u < 4294967296) (hc : 4294967296 ≤ q ∨ 4294967296 * r + u < q * y0) : (hi * 4294967296 + u) / (y1 * 4294967296 + y0) < q := by
  rw [Nat.div_lt_iff_lt_mul (by omega)]
  rcases hc with hc | hc
  · have : 4294967296 * (y1 * 4294967296 + y0) ≤ q * (y1 * 4294967296 + y0) := Nat.mul_le_mul_right _ hc
    omega
  · rw [half_mul]
    have := h.sum
    generalize q * y1 = P at *
    generalize q * y0 = R at *
    omega
theorem Half.step {hi y1 y0 u q r : Nat} (h : Half hi y1 y0 u (q + 1) r) (hm : (hi * 4294967296 + u) / (y1 * 4294967296 + y0) < q + 1) (hr : r + y1 < 4294967296) : Half hi y1 y0 u q (r + y1) := by
  have h1 := h.sum
  have h2 := h.le
  rw [Nat.add_mul] at h1
  exact ⟨by omega, Nat.lt_succ_iff.1 hm, by omega, hr⟩
theorem Half.leave {hi y1 y0 u q r : Nat} (h : Half hi y1 y0 u (q + 1) r) (hy : 0 < y1 * 4294967296 + y0) (h4 : y0 < 4294967296) (hm : (hi * 4294967296 + u) / (y1 * 4294967296 + y0) < q + 1) (hr : 4294967296 ≤ r + y1) : q = (hi * 4294967296 + u) / (y1 * 4294967296 + y0) := by
  refine Nat.le_antisymm ?_ (Nat.lt_succ_iff.1 hm)
  rw [Nat.le_div_iff_mul_le hy, half_mul]
  have h1 := h.sum
  have h2 := h.le
  rw [Nat.add_mul] at h1
  have h3 : q * y0 ≤ 4294967296 * y0 := Nat.mul_le_mul_right _ (by omega)
  generalize q * y1 = P at *
  generalize q * y0 = R at *
  omega
theorem Half.pos {hi y1 y0 u q : Nat} (hm : (hi * 4294967296 + u) / (y1 * 4294967296 + y0) < q) : ∃ p, q = p + 1 :=
  ⟨q - 1, by have := Nat.lt_of_le_of_lt (Nat.zero_le _) hm; omega⟩
theorem half_prod {q y0 : Nat} (hq : q < 4294967296) (h0 : y0 < 4294967296) : q * y0 ≤ 18446744065119617025 := Nat.mul_le_mul (show q ≤ 4294967295 by omega) (show y0 ≤ 4294967295 by omega)
theorem two_halves {hi u1 u0 Y Q R : Nat} (hY : 0 < Y) (e : Y * Q + R = hi * 4294967296 + u1) : Q * 4294967296 + (R * 4294967296 + u0) / Y = (hi * 2 ^ 64 + (u1 * 4294967296 + u0)) / Y := by
  have e2 : hi * 2 ^ 64 + (u1 * 4294967296 + u0) = (R * 4294967296 + u0) + Y * (Q * 4294967296) := by
    rw [← Nat.mul_assoc]
    omega
  rw [e2, Nat.add_mul_div_left _ _ hY, Nat.add_comm]
theorem or_zero (hi lo : Nat) (h1 : hi < 18446744073709551616) (h2 : lo < 18446744073709551616) : bits BinOp.or IntKind.u64 (hi : Int) ((lo : Int) / 18446744073709551616) = (hi : Int) := by
  have e : (lo : Int) / 18446744073709551616 = ((0 : Nat) : Int) := by omega
  rw [e, bits_or_u64_nat hi 0 h1 (by decide)]
  simp
theorem and_half (x : Nat) (h : x < 18446744073709551616) : bits BinOp.and IntKind.u64 (x : Int) 4294967295 = ((x % 4294967296 : Nat) : Int) := Mul64.maskN x h
theorem quo_first (hi y1 : Nat) (h : hi < 18446744073709551616) : IntKind.u64.wrap ((hi : Int).tdiv (y1 : Int)) = ((hi / y1 : Nat) : Int) := by
  have e : (hi : Int).tdiv (y1 : Int) = ((hi / y1 : Nat) : Int) := by rw [Int.tdiv_eq_ediv_of_nonneg (by omega)]; simp
  have : hi / y1 ≤ hi := Nat.div_le_self _ _
  rw [e, IntKind.wrap_u64]
  generalize hi / y1 = q at *
  omega
theorem rem_first (hi y1 : Nat) (h : hi < 18446744073709551616) : IntKind.u64.wrap ((hi : Int) - IntKind.u64.wrap (((hi / y1 : Nat) : Int) * (y1 : Int))) = ((hi % y1 : Nat) : Int) := by
  have e := Nat.div_add_mod hi y1
  rw [Nat.mul_comm] at e
  rw [show ((hi / y1 : Nat) : Int) * (y1 : Int) = ((hi / y1 * y1 : Nat) : Int) by simp, IntKind.wrap_u64, IntKind.wrap_u64]
  generalize hi / y1 * y1 = P at *
  generalize hi % y1 = r at *
  omega
theorem rest_first (hi u Q Y R : Nat) (h : Y * Q + R = hi * 4294967296 + u) (hR : R < 18446744073709551616) : IntKind.u64.wrap (IntKind.u64.wrap (IntKind.u64.wrap ((hi : Int) * 4294967296) + (u : Int)) - IntKind.u64.wrap ((Q : Int) * (Y : Int))) = (R : Int) := by
  rw [show (Q : Int) * (Y : Int) = ((Y * Q : Nat) : Int) by rw [Nat.mul_comm]; simp]
  simp only [IntKind.wrap_u64]
  generalize Y * Q = P at *
  omega
theorem quo_lt {R u Y : Nat} (hR : R < Y) (hu : u < 4294967296) : (R * 4294967296 + u) / Y < 4294967296 := by
  rw [Nat.div_lt_iff_lt_mul (by omega)]
  omega
theorem fin_eq {hi lo y y1 y0 u1 u0 Q1 R1 : Nat} {QI q : Int} (hy : y = y1 * 4294967296 + y0) (hl : lo = u1 * 4294967296 + u0) (hp : 0 < y1 * 4294967296 + y0) (e : (y1 * 4294967296 + y0) * Q1 + R1 = hi * 4294967296 + u1) (hQ : QI = (Q1 : Int)) (q0 : 0 ≤ q) (hq : q.toNat = (R1 * 4294967296 + u0) / (y1 * 4294967296 + y0)) :
    QI * 4294967296 + q = (((hi * 2 ^ 64 + lo) / y : Nat) : Int) := by
  rw [hy, hl, ← two_halves (u0 := u0) hp e, ← hq, hQ]
  omega
set_option maxHeartbeats 4000000 in
set_option maxRecDepth 100000 in
theorem div64_big (hi lo y : Nat) (w : World) (hy : 9223372036854775808 ≤ y) (hy2 : y < 18446744073709551616) (hh : hi < y) (hl : lo < 18446744073709551616) (h0 : 1 ≤ hi) :
    Calls Tryz.prog 219 #[.int .u64 (hi : Int), .int .u64 (lo : Int), .int .u64 (y : Int)] w (Divs ((hi * 2 ^ 64 + lo) / y) w) := by
  have N := Lib.hid (show nbits y = 64 from nbits_of (k := 63) (by omega) (by omega))
  have h0' : ((hi : Int) == 0) = false := by simp; omega
  have hyz : ((y : Int) == 0) = false := by simp; omega
  have hhi : (hi : Int) < (y : Int) := by omega
  have A1 := Lib.hid (or_zero hi lo (by omega) hl)
  have A2 := Lib.hid (and_half y hy2)
  have A3 := Lib.hid (and_half lo hl)
  go_enter Tryz.func219, Tryz.ntmps219
  go_wp2_with fail
  refine (clz_any y _ (by omega)).mono ?_
  rintro e w' ⟨rfl, rfl⟩
  rw [N.out]
  go_wp2
  rw [A1.out, A2.out, A3.out, show (y : Int) / 4294967296 = ((y / 4294967296 : Nat) : Int) by omega, show (lo : Int) / 4294967296 = ((lo / 4294967296 : Nat) : Int) by omega]
  rw [quo_first hi _ (by omega), rem_first hi _ (by omega)]
  obtain ⟨y1, hy1⟩ : ∃ y1, y1 = y / 4294967296 := ⟨_, rfl⟩
  obtain ⟨y0, hy0⟩ : ∃ y0, y0 = y % 4294967296 := ⟨_, rfl⟩
  obtain ⟨u1, hu1⟩ : ∃ u1, u1 = lo / 4294967296 := ⟨_, rfl⟩
  obtain ⟨u0, hu0⟩ : ∃ u0, u0 = lo % 4294967296 := ⟨_, rfl⟩
  have EY := Lib.hid (show y = y1 * 4294967296 + y0 by omega)
  have EL := Lib.hid (show lo = u1 * 4294967296 + u0 by omega)
  have c1 : 2147483648 ≤ y1 := by omega
  have c2 : y1 < 4294967296 := by omega
  have c3 : y0 < 4294967296 := by omega
  have c4 : u1 < 4294967296 := by omega
  have c5 : u0 < 4294967296 := by omega
  have c6 : hi < y1 * 4294967296 + y0 := by omega
  rw [← hy1, ← hy0, ← hu1, ← hu0]
  have F := Lib.hid (Half.start c1 c2 c3 c6 c4)
  clear hy1 hy0 hu1 hu0 A1 A2 A3 N h0' hyz
  generalize hi / y1 = qs at *
  generalize hi % y1 = rs at *
  have hYp : 0 < y1 * 4294967296 + y0 := by omega
  obtain ⟨Q1, hQ1⟩ : ∃ Q, Q = (hi * 4294967296 + u1) / (y1 * 4294967296 + y0) := ⟨_, rfl⟩
  obtain ⟨R1, hR1⟩ : ∃ R, R = (hi * 4294967296 + u1) % (y1 * 4294967296 + y0) := ⟨_, rfl⟩
  have EQ := Lib.hid hQ1
  have ER : Hid ((y1 * 4294967296 + y0) * Q1 + R1 = hi * 4294967296 + u1) := by rw [hQ1, hR1]; exact Nat.div_add_mod _ _
  have r1 : R1 < y1 * 4294967296 + y0 := by rw [hR1]; exact Nat.mod_lt _ hYp
  clear hQ1 hR1
  have hun : IntKind.u64.wrap (IntKind.u64.wrap (IntKind.u64.wrap ((hi : Int) * 4294967296) + (u1 : Int)) - IntKind.u64.wrap ((Q1 : Int) * (y : Int))) = (R1 : Int) := rest_first hi u1 Q1 y R1 (by rw [EY.out]; exact ER.out) (by omega)
  have K1 : Hid (2147483648 ≤ y1 ∧ y1 < 4294967296 ∧ y0 < 4294967296 ∧ u1 < 4294967296 ∧ u0 < 4294967296 ∧ hi < y1 * 4294967296 + y0 ∧ R1 < y1 * 4294967296 + y0 ∧ 0 < y1 * 4294967296 + y0) := ⟨c1, c2, c3, c4, c5, c6, r1, hYp⟩
  have K2 : Hid (9223372036854775808 ≤ y ∧ y < 18446744073709551616) := ⟨hy, hy2⟩
  obtain ⟨Z1, hZ1⟩ : ∃ z : Int, z = (y1 : Int) := ⟨_, rfl⟩
  obtain ⟨Z0, hZ0⟩ : ∃ z : Int, z = (y0 : Int) := ⟨_, rfl⟩
  obtain ⟨V1, hV1⟩ : ∃ z : Int, z = (u1 : Int) := ⟨_, rfl⟩
  obtain ⟨V0, hV0⟩ : ∃ z : Int, z = (u0 : Int) := ⟨_, rfl⟩
  obtain ⟨HI, hHI⟩ : ∃ z : Int, z = (hi : Int) := ⟨_, rfl⟩
  obtain ⟨YY, hYY⟩ : ∃ z : Int, z = (y : Int) := ⟨_, rfl⟩
  obtain ⟨QI, hQI⟩ : ∃ z : Int, z = (Q1 : Int) := ⟨_, rfl⟩
  obtain ⟨RI, hRI⟩ : ∃ z : Int, z = (R1 : Int) := ⟨_, rfl⟩
  have z1a : 2147483648 ≤ Z1 := by omega
  have z1b : Z1 < 4294967296 := by omega
  have z0a : 0 ≤ Z0 := by omega
  have z0b : Z0 < 4294967296 := by omega
  have v1a : 0 ≤ V1 := by omega
  have v1b : V1 < 4294967296 := by omega
  have v0a : 0 ≤ V0 := by omega
  have v0b : V0 < 4294967296 := by omega
  rw [← hV1, ← hHI, ← hYY, ← hQI, ← hRI] at hun
  have ri0 : 0 ≤ RI := by omega
  have JQ := Lib.hid hQI
  have JR := Lib.hid hRI
  rw [← hZ1, ← hZ0, ← hV1, ← hV0, ← hHI, ← hYY]
  have J1 := Lib.hid hZ1
  have J0 := Lib.hid hZ0
  have L1 := Lib.hid hV1
  have L0 := Lib.hid hV0
  clear c1 c2 c3 c4 c5 c6 r1 hYp hy hy2 hh hl h0 hZ1 hZ0 hV1 hV0 hHI hYY hhi hQI hRI
  go_loop [15, 16] (fun a b => ∃ q r : Int, a = .int .u64 q ∧ b = .int .u64 r ∧ 0 ≤ q ∧ 0 ≤ r ∧ Half hi y1 y0 u1 q.toNat r.toNat) (fun a _ => (intOf a).toNat)
  case atStart => exact ⟨qs, rs, rfl, rfl, by omega, by omega, F.out⟩
  case round =>
    clear F
    obtain ⟨q, r, rfl, rfl, q0, r0, hH⟩ := hrel
    obtain ⟨c1, c2, c3, c4, c5, c6, r1, hYp⟩ := K1.out
    have d1 := hH.le
    have d2 := hH.lt
    have j1 := J1.out
    have j0 := J0.out
    have l1 := L1.out
    have di : q ≤ 4294967297 := by omega
    have dr : r < 4294967296 := by omega
    by_cases hc : 4294967296 ≤ q.toNat ∨ 4294967296 * r.toNat + u1 < q.toNat * y0
    · have hm := hH.more c6 c4 hc
      obtain ⟨p, hqp⟩ := Half.pos hm
      have hq1 : 1 ≤ q := by omega
      have E := Lib.hid hqp
      rw [hqp] at hH hm
      by_cases hr : r.toNat + y1 < 4294967296
      · have G := Lib.hid (Half.step hH hm hr)
        have hri : r + Z1 < 4294967296 := by omega
        by_cases hc1 : 4294967296 ≤ q
        · clear hc hH hm hqp hr d1 d2 c1 c2 c3 c4 c5 c6 r1 hYp j1 j0 l1
          go_wp2
          go_round
          case rel => exact ⟨q - 1, r + Z1, rfl, rfl, by omega, by omega, by rw [show (q - 1).toNat = p by have := E.out; omega, show (r + Z1).toNat = r.toNat + y1 by have := J1.out; omega]; exact G.out⟩
          case measure => simp [intOf]; omega
        · have hc2 : 4294967296 * r.toNat + u1 < q.toNat * y0 := by omega
          have hpr := half_prod (q := q.toNat) (y0 := y0) (by omega) c3
          have e0 : q * Z0 = ((q.toNat * y0 : Nat) : Int) := by rw [j0, Int.natCast_mul, Int.toNat_of_nonneg q0]
          have p0 : 0 ≤ q * Z0 := by rw [e0]; omega
          have p1 : q * Z0 ≤ 18446744073709551615 := by rw [e0]; omega
          have p2 : 4294967296 * r + V1 < q * Z0 := by rw [e0]; omega
          clear e0 hpr hc2
          clear hc hH hm hqp hr d1 d2 c1 c2 c3 c4 c5 c6 r1 hYp j1 j0 l1
          go_wp2
          go_round
          case rel => exact ⟨q - 1, r + Z1, rfl, rfl, by omega, by omega, by rw [show (q - 1).toNat = p by have := E.out; omega, show (r + Z1).toNat = r.toNat + y1 by have := J1.out; omega]; exact G.out⟩
          case measure => simp [intOf]; omega
      · have hp := Half.leave hH hYp c3 hm (by omega)
        have hri : 4294967296 ≤ r + Z1 := by omega
        have hqQ : q = QI + 1 := by have := EQ.out; have := JQ.out; omega
        have qib : QI < 4294967296 ∧ 0 ≤ QI := by have := quo_lt (u := u1) (R := hi) c6 c4; have := EQ.out; have := JQ.out; omega
        obtain ⟨qib1, qib0⟩ := qib
        by_cases hc1 : 4294967296 ≤ q
        · clear hc hH hm hqp hr d1 d2 c1 c2 c3 c4 c5 c6 r1 hYp j1 j0 l1 hp E
          subst hqQ
          go_wp2
          rw [show IntKind.u64.wrap (RI.tdiv Z1) = ((R1 / y1 : Nat) : Int) by rw [JR.out, J1.out]; exact quo_first R1 y1 (by have := K1.out; omega)]
          rw [show IntKind.u64.wrap (RI - IntKind.u64.wrap (((R1 / y1 : Nat) : Int) * Z1)) = ((R1 % y1 : Nat) : Int) by rw [JR.out, J1.out]; exact rem_first R1 y1 (by have := K1.out; omega)]
          have F2 : Hid (Half R1 y1 y0 u0 (R1 / y1) (R1 % y1)) := by obtain ⟨c1, c2, c3, c4, c5, c6, r1, hYp⟩ := K1.out; exact Half.start c1 c2 c3 r1 c5
          generalize R1 / y1 = qs2 at *
          generalize R1 % y1 = rs2 at *
          go_loop [18, 16] (fun a b => ∃ q r : Int, a = .int .u64 q ∧ b = .int .u64 r ∧ 0 ≤ q ∧ 0 ≤ r ∧ Half R1 y1 y0 u0 q.toNat r.toNat) (fun a _ => (intOf a).toNat)
          case atStart => exact ⟨qs2, rs2, rfl, rfl, by omega, by omega, F2.out⟩
          case round =>
            clear F2 hun
            obtain ⟨q, r, rfl, rfl, q0, r0, hH⟩ := hrel
            obtain ⟨c1, c2, c3, c4, c5, c6, r1, hYp⟩ := K1.out
            have d1 := hH.le
            have d2 := hH.lt
            have j1 := J1.out
            have j0 := J0.out
            have l0 := L0.out
            have di : q ≤ 4294967297 := by omega
            have dr : r < 4294967296 := by omega
            by_cases hc : 4294967296 ≤ q.toNat ∨ 4294967296 * r.toNat + u0 < q.toNat * y0
            · have hm := hH.more r1 c5 hc
              obtain ⟨p, hqp⟩ := Half.pos hm
              have hq1 : 1 ≤ q := by omega
              have E := Lib.hid hqp
              rw [hqp] at hH hm
              by_cases hc1 : 4294967296 ≤ q
              · by_cases hr : r.toNat + y1 < 4294967296
                · have G := Lib.hid (Half.step hH hm hr)
                  have hri : r + Z1 < 4294967296 := by omega
                  clear hc hH hm hqp hr d1 d2 c1 c2 c3 c4 c5 c6 r1 hYp j1 j0 l0
                  go_wp2
                  go_round
                  case rel => exact ⟨q - 1, r + Z1, rfl, rfl, by omega, by omega, by rw [show (q - 1).toNat = p by have := E.out; omega, show (r + Z1).toNat = r.toNat + y1 by have := J1.out; omega]; exact G.out⟩
                  case measure => simp [intOf]; omega
                · have hp := Half.leave hH hYp c3 hm (by omega)
                  have hri : 4294967296 ≤ r + Z1 := by omega
                  have X : Hid (QI * 4294967296 + (q - 1) = (((hi * 2 ^ 64 + lo) / y : Nat) : Int)) := fin_eq EY.out EL.out hYp ER.out JQ.out (by omega) (by rw [show (q - 1).toNat = p by omega]; exact hp)
                  have qfb : q - 1 < 4294967296 := by have := quo_lt (u := u0) (R := R1) r1 c5; omega
                  clear hc hH hm hqp hr hp d1 d2 c1 c2 c3 c4 c5 c6 r1 hYp j1 j0 l0
                  go_wp2
                  go_ret2
                  exact ⟨_, 0, by rw [← X.out] <;> rfl, rfl⟩
              · have hc2 : 4294967296 * r.toNat + u0 < q.toNat * y0 := by omega
                have hpr := half_prod (q := q.toNat) (y0 := y0) (by omega) c3
                have e0 : q * Z0 = ((q.toNat * y0 : Nat) : Int) := by rw [j0, Int.natCast_mul, Int.toNat_of_nonneg q0]
                have p0 : 0 ≤ q * Z0 := by rw [e0]; omega
                have p1 : q * Z0 ≤ 18446744073709551615 := by rw [e0]; omega
                have p2 : 4294967296 * r + V0 < q * Z0 := by rw [e0]; omega
                clear e0 hpr hc2
                by_cases hr : r.toNat + y1 < 4294967296
                · have G := Lib.hid (Half.step hH hm hr)
                  have hri : r + Z1 < 4294967296 := by omega
                  clear hc hH hm hqp hr d1 d2 c1 c2 c3 c4 c5 c6 r1 hYp j1 j0 l0
                  go_wp2
                  go_round
                  case rel => exact ⟨q - 1, r + Z1, rfl, rfl, by omega, by omega, by rw [show (q - 1).toNat = p by have := E.out; omega, show (r + Z1).toNat = r.toNat + y1 by have := J1.out; omega]; exact G.out⟩
                  case measure => simp [intOf]; omega
                · have hp := Half.leave hH hYp c3 hm (by omega)
                  have hri : 4294967296 ≤ r + Z1 := by omega
                  have X : Hid (QI * 4294967296 + (q - 1) = (((hi * 2 ^ 64 + lo) / y : Nat) : Int)) := fin_eq EY.out EL.out hYp ER.out JQ.out (by omega) (by rw [show (q - 1).toNat = p by omega]; exact hp)
                  have qfb : q - 1 < 4294967296 := by have := quo_lt (u := u0) (R := R1) r1 c5; omega
                  clear hc hH hm hqp hr hp d1 d2 c1 c2 c3 c4 c5 c6 r1 hYp j1 j0 l0
                  go_wp2
                  go_ret2
                  exact ⟨_, 0, by rw [← X.out] <;> rfl, rfl⟩
            · have hp := Half.done hH hYp (by omega)
              have hpr := half_prod (q := q.toNat) (y0 := y0) (by omega) c3
              have e0 : q * Z0 = ((q.toNat * y0 : Nat) : Int) := by rw [j0, Int.natCast_mul, Int.toNat_of_nonneg q0]
              have p0 : 0 ≤ q * Z0 := by rw [e0]; omega
              have p1 : q * Z0 ≤ 18446744073709551615 := by rw [e0]; omega
              have p2 : q * Z0 ≤ 4294967296 * r + V0 := by rw [e0]; omega
              have p3 : q < 4294967296 := by omega
              have X : Hid (QI * 4294967296 + q = (((hi * 2 ^ 64 + lo) / y : Nat) : Int)) := fin_eq EY.out EL.out hYp ER.out JQ.out q0 hp
              clear e0 hpr
              clear hc hH hp d1 d2 c1 c2 c3 c4 c5 c6 r1 hYp j1 j0 l0
              go_wp2
              go_ret2
              exact ⟨_, 0, by rw [← X.out] <;> rfl, rfl⟩
        · have hc2 : 4294967296 * r.toNat + u1 < q.toNat * y0 := by omega
          have hpr := half_prod (q := q.toNat) (y0 := y0) (by omega) c3
          have e0 : q * Z0 = ((q.toNat * y0 : Nat) : Int) := by rw [j0, Int.natCast_mul, Int.toNat_of_nonneg q0]
          have p0 : 0 ≤ q * Z0 := by rw [e0]; omega
          have p1 : q * Z0 ≤ 18446744073709551615 := by rw [e0]; omega
          have p2 : 4294967296 * r + V1 < q * Z0 := by rw [e0]; omega
          clear e0 hpr hc2
          clear hc hH hm hqp hr d1 d2 c1 c2 c3 c4 c5 c6 r1 hYp j1 j0 l1 hp E
          subst hqQ
          go_wp2
          rw [show IntKind.u64.wrap (RI.tdiv Z1) = ((R1 / y1 : Nat) : Int) by rw [JR.out, J1.out]; exact quo_first R1 y1 (by have := K1.out; omega)]
          rw [show IntKind.u64.wrap (RI - IntKind.u64.wrap (((R1 / y1 : Nat) : Int) * Z1)) = ((R1 % y1 : Nat) : Int) by rw [JR.out, J1.out]; exact rem_first R1 y1 (by have := K1.out; omega)]
          have F2 : Hid (Half R1 y1 y0 u0 (R1 / y1) (R1 % y1)) := by obtain ⟨c1, c2, c3, c4, c5, c6, r1, hYp⟩ := K1.out; exact Half.start c1 c2 c3 r1 c5
          generalize R1 / y1 = qs2 at *
          generalize R1 % y1 = rs2 at *
          go_loop [18, 16] (fun a b => ∃ q r : Int, a = .int .u64 q ∧ b = .int .u64 r ∧ 0 ≤ q ∧ 0 ≤ r ∧ Half R1 y1 y0 u0 q.toNat r.toNat) (fun a _ => (intOf a).toNat)
          case atStart => exact ⟨qs2, rs2, rfl, rfl, by omega, by omega, F2.out⟩
          case round =>
            clear F2 hun
            obtain ⟨q, r, rfl, rfl, q0, r0, hH⟩ := hrel
            obtain ⟨c1, c2, c3, c4, c5, c6, r1, hYp⟩ := K1.out
            have d1 := hH.le
            have d2 := hH.lt
            have j1 := J1.out
            have j0 := J0.out
            have l0 := L0.out
            have di : q ≤ 4294967297 := by omega
            have dr : r < 4294967296 := by omega
            by_cases hc : 4294967296 ≤ q.toNat ∨ 4294967296 * r.toNat + u0 < q.toNat * y0
            · have hm := hH.more r1 c5 hc
              obtain ⟨p, hqp⟩ := Half.pos hm
              have hq1 : 1 ≤ q := by omega
              have E := Lib.hid hqp
              rw [hqp] at hH hm
              by_cases hc1 : 4294967296 ≤ q
              · by_cases hr : r.toNat + y1 < 4294967296
                · have G := Lib.hid (Half.step hH hm hr)
                  have hri : r + Z1 < 4294967296 := by omega
                  clear hc hH hm hqp hr d1 d2 c1 c2 c3 c4 c5 c6 r1 hYp j1 j0 l0
                  go_wp2
                  go_round
                  case rel => exact ⟨q - 1, r + Z1, rfl, rfl, by omega, by omega, by rw [show (q - 1).toNat = p by have := E.out; omega, show (r + Z1).toNat = r.toNat + y1 by have := J1.out; omega]; exact G.out⟩
                  case measure => simp [intOf]; omega
                · have hp := Half.leave hH hYp c3 hm (by omega)
                  have hri : 4294967296 ≤ r + Z1 := by omega
                  have X : Hid (QI * 4294967296 + (q - 1) = (((hi * 2 ^ 64 + lo) / y : Nat) : Int)) := fin_eq EY.out EL.out hYp ER.out JQ.out (by omega) (by rw [show (q - 1).toNat = p by omega]; exact hp)
                  have qfb : q - 1 < 4294967296 := by have := quo_lt (u := u0) (R := R1) r1 c5; omega
                  clear hc hH hm hqp hr hp d1 d2 c1 c2 c3 c4 c5 c6 r1 hYp j1 j0 l0
                  go_wp2
                  go_ret2
                  exact ⟨_, 0, by rw [← X.out] <;> rfl, rfl⟩
              · have hc2 : 4294967296 * r.toNat + u0 < q.toNat * y0 := by omega
                have hpr := half_prod (q := q.toNat) (y0 := y0) (by omega) c3
                have e0 : q * Z0 = ((q.toNat * y0 : Nat) : Int) := by rw [j0, Int.natCast_mul, Int.toNat_of_nonneg q0]
                have p0 : 0 ≤ q * Z0 := by rw [e0]; omega
                have p1 : q * Z0 ≤ 18446744073709551615 := by rw [e0]; omega
                have p2 : 4294967296 * r + V0 < q * Z0 := by rw [e0]; omega
                clear e0 hpr hc2
                by_cases hr : r.toNat + y1 < 4294967296
                · have G := Lib.hid (Half.step hH hm hr)
                  have hri : r + Z1 < 4294967296 := by omega
                  clear hc hH hm hqp hr d1 d2 c1 c2 c3 c4 c5 c6 r1 hYp j1 j0 l0
                  go_wp2
                  go_round
                  case rel => exact ⟨q - 1, r + Z1, rfl, rfl, by omega, by omega, by rw [show (q - 1).toNat = p by have := E.out; omega, show (r + Z1).toNat = r.toNat + y1 by have := J1.out; omega]; exact G.out⟩
                  case measure => simp [intOf]; omega
                · have hp := Half.leave hH hYp c3 hm (by omega)
                  have hri : 4294967296 ≤ r + Z1 := by omega
                  have X : Hid (QI * 4294967296 + (q - 1) = (((hi * 2 ^ 64 + lo) / y : Nat) : Int)) := fin_eq EY.out EL.out hYp ER.out JQ.out (by omega) (by rw [show (q - 1).toNat = p by omega]; exact hp)
                  have qfb : q - 1 < 4294967296 := by have := quo_lt (u := u0) (R := R1) r1 c5; omega
                  clear hc hH hm hqp hr hp d1 d2 c1 c2 c3 c4 c5 c6 r1 hYp j1 j0 l0
                  go_wp2
                  go_ret2
                  exact ⟨_, 0, by rw [← X.out] <;> rfl, rfl⟩
            · have hp := Half.done hH hYp (by omega)
              have hpr := half_prod (q := q.toNat) (y0 := y0) (by omega) c3
              have e0 : q * Z0 = ((q.toNat * y0 : Nat) : Int) := by rw [j0, Int.natCast_mul, Int.toNat_of_nonneg q0]
              have p0 : 0 ≤ q * Z0 := by rw [e0]; omega
              have p1 : q * Z0 ≤ 18446744073709551615 := by rw [e0]; omega
              have p2 : q * Z0 ≤ 4294967296 * r + V0 := by rw [e0]; omega
              have p3 : q < 4294967296 := by omega
              have X : Hid (QI * 4294967296 + q = (((hi * 2 ^ 64 + lo) / y : Nat) : Int)) := fin_eq EY.out EL.out hYp ER.out JQ.out q0 hp
              clear e0 hpr
              clear hc hH hp d1 d2 c1 c2 c3 c4 c5 c6 r1 hYp j1 j0 l0
              go_wp2
              go_ret2
              exact ⟨_, 0, by rw [← X.out] <;> rfl, rfl⟩
    · have hp := Half.done hH hYp (by omega)
      have hqQ : QI = q := by have := EQ.out; have := JQ.out; omega
      have hpr := half_prod (q := q.toNat) (y0 := y0) (by omega) c3
      have e0 : q * Z0 = ((q.toNat * y0 : Nat) : Int) := by rw [j0, Int.natCast_mul, Int.toNat_of_nonneg q0]
      have p0 : 0 ≤ q * Z0 := by rw [e0]; omega
      have p1 : q * Z0 ≤ 18446744073709551615 := by rw [e0]; omega
      have p2 : q * Z0 ≤ 4294967296 * r + V1 := by rw [e0]; omega
      have p3 : q < 4294967296 := by omega
      clear e0 hpr
      clear hc hH hp d1 d2 c1 c2 c3 c4 c5 c6 r1 hYp j1 j0 l1
      subst hqQ
      go_wp2
      rw [show IntKind.u64.wrap (RI.tdiv Z1) = ((R1 / y1 : Nat) : Int) by rw [JR.out, J1.out]; exact quo_first R1 y1 (by have := K1.out; omega)]
      rw [show IntKind.u64.wrap (RI - IntKind.u64.wrap (((R1 / y1 : Nat) : Int) * Z1)) = ((R1 % y1 : Nat) : Int) by rw [JR.out, J1.out]; exact rem_first R1 y1 (by have := K1.out; omega)]
      have F2 : Hid (Half R1 y1 y0 u0 (R1 / y1) (R1 % y1)) := by obtain ⟨c1, c2, c3, c4, c5, c6, r1, hYp⟩ := K1.out; exact Half.start c1 c2 c3 r1 c5
      generalize R1 / y1 = qs2 at *
      generalize R1 % y1 = rs2 at *
      go_loop [18, 16] (fun a b => ∃ q r : Int, a = .int .u64 q ∧ b = .int .u64 r ∧ 0 ≤ q ∧ 0 ≤ r ∧ Half R1 y1 y0 u0 q.toNat r.toNat) (fun a _ => (intOf a).toNat)
      case atStart => exact ⟨qs2, rs2, rfl, rfl, by omega, by omega, F2.out⟩
      case round =>
        clear F2 hun
        obtain ⟨q, r, rfl, rfl, q0, r0, hH⟩ := hrel
        obtain ⟨c1, c2, c3, c4, c5, c6, r1, hYp⟩ := K1.out
        have d1 := hH.le
        have d2 := hH.lt
        have j1 := J1.out
        have j0 := J0.out
        have l0 := L0.out
        have di : q ≤ 4294967297 := by omega
        have dr : r < 4294967296 := by omega
        by_cases hc : 4294967296 ≤ q.toNat ∨ 4294967296 * r.toNat + u0 < q.toNat * y0
        · have hm := hH.more r1 c5 hc
          obtain ⟨p, hqp⟩ := Half.pos hm
          have hq1 : 1 ≤ q := by omega
          have E := Lib.hid hqp
          rw [hqp] at hH hm
          by_cases hc1 : 4294967296 ≤ q
          · by_cases hr : r.toNat + y1 < 4294967296
            · have G := Lib.hid (Half.step hH hm hr)
              have hri : r + Z1 < 4294967296 := by omega
              clear hc hH hm hqp hr d1 d2 c1 c2 c3 c4 c5 c6 r1 hYp j1 j0 l0
              go_wp2
              go_round
              case rel => exact ⟨q - 1, r + Z1, rfl, rfl, by omega, by omega, by rw [show (q - 1).toNat = p by have := E.out; omega, show (r + Z1).toNat = r.toNat + y1 by have := J1.out; omega]; exact G.out⟩
              case measure => simp [intOf]; omega
            · have hp := Half.leave hH hYp c3 hm (by omega)
              have hri : 4294967296 ≤ r + Z1 := by omega
              have X : Hid (QI * 4294967296 + (q - 1) = (((hi * 2 ^ 64 + lo) / y : Nat) : Int)) := fin_eq EY.out EL.out hYp ER.out JQ.out (by omega) (by rw [show (q - 1).toNat = p by omega]; exact hp)
              have qfb : q - 1 < 4294967296 := by have := quo_lt (u := u0) (R := R1) r1 c5; omega
              clear hc hH hm hqp hr hp d1 d2 c1 c2 c3 c4 c5 c6 r1 hYp j1 j0 l0
              go_wp2
              go_ret2
              exact ⟨_, 0, by rw [← X.out] <;> rfl, rfl⟩
          · have hc2 : 4294967296 * r.toNat + u0 < q.toNat * y0 := by omega
            have hpr := half_prod (q := q.toNat) (y0 := y0) (by omega) c3
            have e0 : q * Z0 = ((q.toNat * y0 : Nat) : Int) := by rw [j0, Int.natCast_mul, Int.toNat_of_nonneg q0]
            have p0 : 0 ≤ q * Z0 := by rw [e0]; omega
            have p1 : q * Z0 ≤ 18446744073709551615 := by rw [e0]; omega
            have p2 : 4294967296 * r + V0 < q * Z0 := by rw [e0]; omega
            clear e0 hpr hc2
            by_cases hr : r.toNat + y1 < 4294967296
            · have G := Lib.hid (Half.step hH hm hr)
              have hri : r + Z1 < 4294967296 := by omega
              clear hc hH hm hqp hr d1 d2 c1 c2 c3 c4 c5 c6 r1 hYp j1 j0 l0
              go_wp2
              go_round
              case rel => exact ⟨q - 1, r + Z1, rfl, rfl, by omega, by omega, by rw [show (q - 1).toNat = p by have := E.out; omega, show (r + Z1).toNat = r.toNat + y1 by have := J1.out; omega]; exact G.out⟩
              case measure => simp [intOf]; omega
            · have hp := Half.leave hH hYp c3 hm (by omega)
              have hri : 4294967296 ≤ r + Z1 := by omega
              have X : Hid (QI * 4294967296 + (q - 1) = (((hi * 2 ^ 64 + lo) / y : Nat) : Int)) := fin_eq EY.out EL.out hYp ER.out JQ.out (by omega) (by rw [show (q - 1).toNat = p by omega]; exact hp)
              have qfb : q - 1 < 4294967296 := by have := quo_lt (u := u0) (R := R1) r1 c5; omega
              clear hc hH hm hqp hr hp d1 d2 c1 c2 c3 c4 c5 c6 r1 hYp j1 j0 l0
              go_wp2
              go_ret2
              exact ⟨_, 0, by rw [← X.out] <;> rfl, rfl⟩
        · have hp := Half.done hH hYp (by omega)
          have hpr := half_prod (q := q.toNat) (y0 := y0) (by omega) c3
          have e0 : q * Z0 = ((q.toNat * y0 : Nat) : Int) := by rw [j0, Int.natCast_mul, Int.toNat_of_nonneg q0]
          have p0 : 0 ≤ q * Z0 := by rw [e0]; omega
          have p1 : q * Z0 ≤ 18446744073709551615 := by rw [e0]; omega
          have p2 : q * Z0 ≤ 4294967296 * r + V0 := by rw [e0]; omega
          have p3 : q < 4294967296 := by omega
          have X : Hid (QI * 4294967296 + q = (((hi * 2 ^ 64 + lo) / y : Nat) : Int)) := fin_eq EY.out EL.out hYp ER.out JQ.out q0 hp
          clear e0 hpr
          clear hc hH hp d1 d2 c1 c2 c3 c4 c5 c6 r1 hYp j1 j0 l0
          go_wp2
          go_ret2
          exact ⟨_, 0, by rw [← X.out] <;> rfl, rfl⟩
end Go.Proofs.YtkkmekdhejhapaaGreat
