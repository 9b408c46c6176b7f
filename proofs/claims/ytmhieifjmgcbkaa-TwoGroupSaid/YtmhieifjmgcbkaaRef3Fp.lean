/- What is proved here: contracts of the reference's Mul and Pow (layer 4). -/
import Derived.Test.YtmhieifjmgcbkaaRef2Fp
import Derived.Test.YtmhieifjmgcbkaaFn2Fp
namespace Go.Proofs.Ytmhieifjmgcbkaa
open Go.RowKit

theorem fpmul_bit_0 {M A q : Nat} (B : Nat) (hb : A / 2 ^ q % 2 = 0) : (A / 2 ^ (q + 1) * B % M + A / 2 ^ (q + 1) * B % M) % M = A / 2 ^ q * B % M := by
  have := mul_bit M A B q 0 hb.symm
  rwa [Nat.zero_mul, Nat.add_zero, Nat.mod_mod, Nat.two_mul] at this

theorem fpmul_bit_1 {M A q : Nat} (B : Nat) (hb : A / 2 ^ q % 2 = 1) : ((A / 2 ^ (q + 1) * B % M + A / 2 ^ (q + 1) * B % M) % M + B) % M = A / 2 ^ q * B % M := by
  have := mul_bit M A B q 1 hb.symm
  rwa [Nat.one_mul, Nat.two_mul] at this

theorem fpM_bits : pN < 2 ^ 381 := by decide +kernel
set_option maxRecDepth 20000 in
set_option maxHeartbeats 4000000 in
theorem r4Mul_v (a b : Nat) (w : World) (ha : a < pN) (hb : b < pN) (v : Nat) (hv : v = a * b % pN) :
    Calls Try.prog 24 #[fpV a, fpV b] w (Is (fpV v) w) := by
  have hz : a / 2 ^ 381 = 0 := Nat.div_eq_of_lt (Nat.lt_trans ha fpM_bits)
  have HBM := Lib.hid hb
  replace ha := Nat.lt_trans ha fpM_lt
  replace hb := Nat.lt_trans hb fpM_lt
  go_enter Try.func24, Try.ntmps24
  go_wp2_with fail
  obtain ⟨w4, hw4, a1, a2, a3, a4, hb0, hsz⟩ := fp_lay_vvzz 24 w a b
  rw [hw4]
  obtain ⟨K0, hK0⟩ : ∃ k, k = 381 := ⟨_, rfl⟩
  rw [← hK0] at hz
  have HZ0 := Lib.hid (show 0 = a / 2 ^ K0 * b % pN by rw [hz, Nat.zero_mul, Nat.zero_mod])
  have HK0 := Lib.hid hK0
  clear hK0
  have HA := Lib.hid ha
  have HB := Lib.hid hb
  have A1 := Lib.hid a1
  have A2 := Lib.hid a2
  have A3 := Lib.hid a3
  have A4 := Lib.hid a4
  have HB0 := Lib.hid hb0
  have HBM' := HBM
  clear HBM hz
  have HV := Lib.hid hv
  clear hw4 a1 a2 a3 a4 hb0 ha hb hv hsz
  go_loopw [6] (fun i wr => ∃ (k z : Nat), k ≤ 381 ∧ i = .int .i64 ((k : Int) - 1) ∧ Hid (z = a / 2 ^ k * b % pN) ∧ Arr 24 wr w.heap.size (row 6 a) ∧ Arr 24 wr (w.heap.size + 1) (row 6 b) ∧ Arr 24 wr (w.heap.size + 1 + 1) (row 6 0) ∧ Arr 24 wr (w.heap.size + 1 + 1 + 1) (row 6 z) ∧ Below w.heap.size w wr) (fun i _ => ((intOf i) + 1).toNat)
  case atStart => exact ⟨K0, 0, by have := HK0.out; omega, by rw [HK0.out]; rfl, HZ0, A1.out, A2.out, A3.out, A4.out, HB0.out⟩
  case round =>
    obtain ⟨k, z, hk, rfl, HZ, a1, a2, a3, a4, hbl⟩ := hrel
    clear A1 A2 A3 A4 HB0 HZ0 HK0
    by_cases hlt : 1 ≤ k
    · obtain ⟨q, rfl⟩ : ∃ q, k = q + 1 := ⟨k - 1, by omega⟩
      have c0 := a4.fpc0
      have c1 := a4.fpc1
      have c2 := a4.fpc2
      have c3 := a4.fpc3
      have c4 := a4.fpc4
      have c5 := a4.fpc5
      have A1 := Lib.hid a1
      have A2 := Lib.hid a2
      have A3 := Lib.hid a3
      have A4 := Lib.hid a4
      have HBL := Lib.hid hbl
      have HZM := Lib.hid (show z < pN by rw [HZ.out]; exact fpM_mod _)
      obtain ⟨y, hy⟩ : ∃ y, y = (z + z) % pN := ⟨_, rfl⟩
      have HYM := Lib.hid (show y < pN by rw [hy]; exact fpM_mod _)
      have HY := Lib.hid hy
      clear a1 a2 a3 a4 hbl hy
      go_wp2_with fail
      refine (r4Add_v z z _ (fpsum_lt HZM.out HZM.out) y HY.out).mono ?_
      rintro e Y1 ⟨rfl, hb1⟩
      have b4 := A4.out.keep hb1
      have d0 := b4.fpc0
      have d1 := b4.fpc1
      have d2 := b4.fpc2
      have d3 := b4.fpc3
      have d4 := b4.fpc4
      have d5 := b4.fpc5
      have f0 := b4.frozen 0
      have f1 := b4.frozen 1
      have f2 := b4.frozen 2
      have f3 := b4.frozen 3
      have f4 := b4.frozen 4
      have f5 := b4.frozen 5
      obtain ⟨W1, hW, o4, oo, ob, _⟩ := fp_one b4 y
      have HW := Lib.hid hW
      have O1 := Lib.hid (oo _ _ _ (by omega : w.heap.size ≠ w.heap.size + 1 + 1 + 1) (A1.out.keep hb1))
      have O2 := Lib.hid (oo _ _ _ (by omega : w.heap.size + 1 ≠ w.heap.size + 1 + 1 + 1) (A2.out.keep hb1))
      have O3 := Lib.hid (oo _ _ _ (by omega : w.heap.size + 1 + 1 ≠ w.heap.size + 1 + 1 + 1) (A3.out.keep hb1))
      have O4 := Lib.hid o4
      have HBN := Lib.hid (ob _ _ (below_then HBL.out hb1) (by omega))
      have g := O1.out
      have g0 := g.fpc0
      have g1 := g.fpc1
      have g2 := g.fpc2
      have g3 := g.fpc3
      have g4 := g.fpc4
      have g5 := g.fpc5
      rw [← hW] at g0 g1 g2 g3 g4 g5
      clear b4 o4 oo ob hb1 A1 A2 A3 A4 HBL c0 c1 c2 c3 c4 c5 hW g
      go_wp2_with fail
      rw [HW.out] at *
      clear HW
      refine (r4Bit_v a q _ HA.out (by omega)).mono ?_
      rintro e Y2 ⟨rfl, hb2⟩
      have p2 := O2.out.keep hb2
      have p1 := O1.out.keep hb2
      have p4 := O4.out.keep hb2
      have k0 := p4.fpc0
      have k1 := p4.fpc1
      have k2 := p4.fpc2
      have k3 := p4.fpc3
      have k4 := p4.fpc4
      have k5 := p4.fpc5
      have j0 := p2.fpc0
      have j1 := p2.fpc1
      have j2 := p2.fpc2
      have j3 := p2.fpc3
      have j4 := p2.fpc4
      have j5 := p2.fpc5
      have P1 := Lib.hid p1
      have P2 := Lib.hid p2
      have P3 := Lib.hid (O3.out.keep hb2)
      have P4 := Lib.hid p4
      have HBM := Lib.hid (below_then HBN.out hb2)
      clear p1 p2 p4 hb2 O1 O2 O3 O4 HBN g0 g1 g2 g3 g4 g5 d0 d1 d2 d3 d4 d5 f0 f1 f2 f3 f4 f5
      by_cases hbit : a / 2 ^ q % 2 = 1
      · rw [hbit]
        have HE := Lib.hid (fpmul_bit_1 (M := pN) (B := b) hbit)
        obtain ⟨u, hu⟩ : ∃ u, u = (y + b) % pN := ⟨_, rfl⟩
        have HU := Lib.hid hu
        clear hbit hu
        go_wp2_with fail
        refine (r4Add_v y b _ (fpsum_lt HYM.out HBM'.out) u HU.out).mono ?_
        rintro e Y3 ⟨rfl, hb3⟩
        have b4 := P4.out.keep hb3
        have d0 := b4.fpc0
        have d1 := b4.fpc1
        have d2 := b4.fpc2
        have d3 := b4.fpc3
        have d4 := b4.fpc4
        have d5 := b4.fpc5
        have f0 := b4.frozen 0
        have f1 := b4.frozen 1
        have f2 := b4.frozen 2
        have f3 := b4.frozen 3
        have f4 := b4.frozen 4
        have f5 := b4.frozen 5
        obtain ⟨W2, hW, o4, oo, ob, _⟩ := fp_one b4 u
        have HW := Lib.hid hW
        have R1 := Lib.hid (oo _ _ _ (by omega : w.heap.size ≠ w.heap.size + 1 + 1 + 1) (P1.out.keep hb3))
        have R2 := Lib.hid (oo _ _ _ (by omega : w.heap.size + 1 ≠ w.heap.size + 1 + 1 + 1) (P2.out.keep hb3))
        have R3 := Lib.hid (oo _ _ _ (by omega : w.heap.size + 1 + 1 ≠ w.heap.size + 1 + 1 + 1) (P3.out.keep hb3))
        have R4 := Lib.hid o4
        have HB3 := Lib.hid (ob _ _ (below_then HBM.out hb3) (by omega))
        have HU2 : Hid (u = a / 2 ^ q * b % pN) := (by rw [HU.out, HY.out, HZ.out]; exact HE.out : u = _)
        clear b4 o4 oo ob hb3 k0 k1 k2 k3 k4 k5 j0 j1 j2 j3 j4 j5 P1 P2 P3 P4 HBM hW
        go_wp2
        go_roundw
        case rel => rw [HW.out]; exact ⟨q, u, by omega, by go_num, HU2, R1.out, R2.out, R3.out, R4.out, HB3.out⟩
        case measure => simp [intOf]
      · have hbit0 : a / 2 ^ q % 2 = 0 := by
          generalize a / 2 ^ q = U at *
          omega
        rw [hbit0]
        have HE := Lib.hid (fpmul_bit_0 (M := pN) (B := b) hbit0)
        have HU2 : Hid (y = a / 2 ^ q * b % pN) := (by rw [HY.out, HZ.out]; exact HE.out : y = _)
        clear hbit hbit0
        go_wp2
        go_roundw
        case rel => exact ⟨q, y, by omega, by go_num, HU2, P1.out, P2.out, P3.out, P4.out, HBM.out⟩
        case measure => simp [intOf]
    · obtain rfl : k = 0 := by omega
      have HE := Lib.hid (show v = z by rw [HV.out, HZ.out, Nat.pow_zero, Nat.div_one])
      have c0 := a4.fpc0
      have c1 := a4.fpc1
      have c2 := a4.fpc2
      have c3 := a4.fpc3
      have c4 := a4.fpc4
      have c5 := a4.fpc5
      have e0 := a3.fpc0
      have e1 := a3.fpc1
      have e2 := a3.fpc2
      have e3 := a3.fpc3
      have e4 := a3.fpc4
      have e5 := a3.fpc5
      have f0 := a3.frozen 0
      have f1 := a3.frozen 1
      have f2 := a3.frozen 2
      have f3 := a3.frozen 3
      have f4 := a3.frozen 4
      have f5 := a3.frozen 5
      have HBF := Lib.hid hbl
      clear a1 a2 a3 a4 hbl
      go_wp2
      refine bodyPost_ret (v := fpV z) (by simp [results, Try.results24, go_sem, e0, e1, e2, e3, e4, e5]) rfl ⟨by rw [HE.out], ?_⟩
      exact fp_below HBF.out (by omega) _ _ _ _ _ _
end Go.Proofs.Ytmhieifjmgcbkaa
