/- What is proved here: contracts of the reference's Clean, Add and Bit (layer 4). -/
import Derived.Test.YtmhieifjmgcbkaaRef1Fp
import Derived.Test.YtmhieifjmgcbkaaMath
import Derived.Deep.CutBlock
namespace Go.Proofs.Ytmhieifjmgcbkaa
open Go.RowKit

set_option maxRecDepth 20000 in
set_option maxHeartbeats 4000000 in
theorem r4Clean_v (a : Nat) (w : World) (ha : a < fpB) (v : Nat) (hv : v = a % pN) :
    Calls Try.prog 23 #[fpV a] w (Is (fpV v) w) := by
  go_enter Try.func23, Try.ntmps23
  go_wp2_with fail
  obtain ⟨w2, hw2, a1, a2, hb0, hsz⟩ := fp_lay_vz 24 w a
  rw [hw2]
  have HA := Lib.hid ha
  have HV := Lib.hid hv
  have A1 := Lib.hid a1
  have A2 := Lib.hid a2
  have HB0 := Lib.hid hb0
  clear hw2 ha hv a1 a2 hb0 hsz
  go_loopg [] a (fun V wr => V < fpB ∧ V % pN = a % pN ∧ Arr 24 wr w.heap.size (row 6 V) ∧ Arr 24 wr (w.heap.size + 1) (row 6 0) ∧ Below w.heap.size w wr)
  case atStart => exact ⟨HA.out, rfl, A1.out, A2.out, HB0.out⟩
  case round =>
    obtain ⟨hlt, hm, ha, hr, hbl⟩ := hrel
    clear A1 A2 HA
    have c0 := ha.fpc0
    have c1 := ha.fpc1
    have c2 := ha.fpc2
    have c3 := ha.fpc3
    have c4 := ha.fpc4
    have c5 := ha.fpc5
    have hp := ha.lt
    have HM := Lib.hid hm
    have HA := Lib.hid ha
    have HR := Lib.hid hr
    have HB := Lib.hid hbl
    have HL := Lib.hid hlt
    clear hm ha hr hbl hlt
    go_wp2_with fail
    have keep : ∀ X Y : World, (X.cell? ⟨w.heap.size, 0, none⟩ = some (.int .u64 ((lb gk 0 : Nat) : Int)) ∧ X.cell? ⟨w.heap.size, 1, none⟩ = some (.int .u64 ((lb gk 1 : Nat) : Int)) ∧ X.cell? ⟨w.heap.size, 2, none⟩ = some (.int .u64 ((lb gk 2 : Nat) : Int)) ∧ X.cell? ⟨w.heap.size, 3, none⟩ = some (.int .u64 ((lb gk 3 : Nat) : Int)) ∧ X.cell? ⟨w.heap.size, 4, none⟩ = some (.int .u64 ((lb gk 4 : Nat) : Int)) ∧ X.cell? ⟨w.heap.size, 5, none⟩ = some (.int .u64 ((lb gk 5 : Nat) : Int)) ∧ Below wr.heap.size wr X) → Below X.heap.size X Y → (Y.cell? ⟨w.heap.size, 0, none⟩ = some (.int .u64 ((lb gk 0 : Nat) : Int)) ∧ Y.cell? ⟨w.heap.size, 1, none⟩ = some (.int .u64 ((lb gk 1 : Nat) : Int)) ∧ Y.cell? ⟨w.heap.size, 2, none⟩ = some (.int .u64 ((lb gk 2 : Nat) : Int)) ∧ Y.cell? ⟨w.heap.size, 3, none⟩ = some (.int .u64 ((lb gk 3 : Nat) : Int)) ∧ Y.cell? ⟨w.heap.size, 4, none⟩ = some (.int .u64 ((lb gk 4 : Nat) : Int)) ∧ Y.cell? ⟨w.heap.size, 5, none⟩ = some (.int .u64 ((lb gk 5 : Nat) : Int)) ∧ Below wr.heap.size wr Y) := fun X Y h k => by
      have hb := h.2.2.2.2.2.2.trans (k.mono h.2.2.2.2.2.2.size)
      have q := HA.out.keep hb
      exact ⟨q.fpc0, q.fpc1, q.fpc2, q.fpc3, q.fpc4, q.fpc5, hb⟩
    obtain ⟨b, hb⟩ : ∃ b, b = decide (gk < pN) := ⟨_, rfl⟩
    have HBB := Lib.hid hb
    clear hb
    go_region_held3 (fun w' => w'.cell? ⟨w.heap.size, 0, none⟩ = some (.int .u64 ((lb gk 0 : Nat) : Int)) ∧ w'.cell? ⟨w.heap.size, 1, none⟩ = some (.int .u64 ((lb gk 1 : Nat) : Int)) ∧ w'.cell? ⟨w.heap.size, 2, none⟩ = some (.int .u64 ((lb gk 2 : Nat) : Int)) ∧ w'.cell? ⟨w.heap.size, 3, none⟩ = some (.int .u64 ((lb gk 3 : Nat) : Int)) ∧ w'.cell? ⟨w.heap.size, 4, none⟩ = some (.int .u64 ((lb gk 4 : Nat) : Int)) ∧ w'.cell? ⟨w.heap.size, 5, none⟩ = some (.int .u64 ((lb gk 5 : Nat) : Int)) ∧ Below wr.heap.size wr w')
      (first | exact ⟨c0, c1, c2, c3, c4, c5, (Below.refl _ _).drew⟩ | exact hS2 | exact hS1)
      (first
        | (go_at_call 39; refine (r4P_v _).mono ?_; rintro e y1 ⟨rfl, hb1⟩; have hS1 := keep _ _ ‹_› hb1; clear hb1)
        | (go_at_call 38; refine (r4Less_v gk pN _ HL.out fpM_lt b HBB.out).mono ?_; rintro e y2 ⟨rfl, hb2⟩; have hS2 := keep _ _ ‹_› hb2; clear hb2))
    have hbk := hS2.2.2.2.2.2.2
    have HA2 := Lib.hid (HA.out.keep hbk)
    have HR2 := Lib.hid (HR.out.keep hbk)
    have HB2 := Lib.hid (below_then HB.out hbk)
    have hp2 : w.heap.size < y2.heap.size := HA2.out.lt
    have d0 := HA2.out.fpc0
    have d1 := HA2.out.fpc1
    have d2 := HA2.out.fpc2
    have d3 := HA2.out.fpc3
    have d4 := HA2.out.fpc4
    have d5 := HA2.out.fpc5
    clear hbk hS1 hS2 c0 c1 c2 c3 c4 c5 keep
    by_cases h : gk < pN
    · have hbt : b = true := by rw [HBB.out]; exact decide_eq_true h
      subst hbt
      have e0 := HR2.out.fpc0
      have e1 := HR2.out.fpc1
      have e2 := HR2.out.fpc2
      have e3 := HR2.out.fpc3
      have e4 := HR2.out.fpc4
      have e5 := HR2.out.fpc5
      have f0 := HR2.out.frozen 0
      have f1 := HR2.out.frozen 1
      have f2 := HR2.out.frozen 2
      have f3 := HR2.out.frozen 3
      have f4 := HR2.out.frozen 4
      have f5 := HR2.out.frozen 5
      have HE := Lib.hid (show v = gk from by rw [HV.out, ← HM.out, Nat.mod_eq_of_lt h])
      clear h
      go_wp2
      refine bodyPost_ret (v := fpV gk) (by simp [results, Try.results23, go_sem, e0, e1, e2, e3, e4, e5]) rfl ⟨by rw [HE.out], ?_⟩
      exact fp_below HB2.out (by omega) _ _ _ _ _ _
    · have hbt : b = false := by rw [HBB.out]; exact decide_eq_false h
      subst hbt
      have HN := Lib.hid (show pN ≤ gk by omega)
      clear h
      go_wp2_with fail
      obtain ⟨x, hx⟩ : ∃ x, x = gk - pN := ⟨_, rfl⟩
      have HX := Lib.hid hx
      clear hx
      have g0 : y2.drew.cell? ⟨w.heap.size, 0, none⟩ = _ := d0
      have g1 : y2.drew.cell? ⟨w.heap.size, 1, none⟩ = _ := d1
      have g2 : y2.drew.cell? ⟨w.heap.size, 2, none⟩ = _ := d2
      have g3 : y2.drew.cell? ⟨w.heap.size, 3, none⟩ = _ := d3
      have g4 : y2.drew.cell? ⟨w.heap.size, 4, none⟩ = _ := d4
      have g5 : y2.drew.cell? ⟨w.heap.size, 5, none⟩ = _ := d5
      go_region_with (first
        | (go_at_call 39; refine (r4P_v _).mono ?_; rintro e y3 ⟨rfl, hb3⟩; have hb3' : Below y2.heap.size y2 y3 := (Below.refl y2.heap.size y2).drew.trans hb3; have k0 := (HA2.out.keep hb3').fpc0; have k1 := (HA2.out.keep hb3').fpc1; have k2 := (HA2.out.keep hb3').fpc2; have k3 := (HA2.out.keep hb3').fpc3; have k4 := (HA2.out.keep hb3').fpc4; have k5 := (HA2.out.keep hb3').fpc5; have HB3 := Lib.hid hb3'; clear hb3 hb3')
        | (go_at_call 40; refine (r4minus_v gk pN _ HL.out HN.out x HX.out).mono ?_; rintro e y4 ⟨rfl, hb4⟩; have hb4' := below_then HB3.out hb4; have p5 := HA2.out.keep hb4'; have s0 := p5.fpc0; have s1 := p5.fpc1; have s2 := p5.fpc2; have s3 := p5.fpc3; have s4 := p5.fpc4; have s5 := p5.fpc5; have q0 := p5.frozen 0; have q1 := p5.frozen 1; have q2 := p5.frozen 2; have q3 := p5.frozen 3; have q4 := p5.frozen 4; have q5 := p5.frozen 5; have A5 := Lib.hid p5; have R5 := Lib.hid (HR2.out.keep hb4'); have HB5 := Lib.hid (below_then HB2.out hb4'); clear hb4 hb4' p5))
      all_goals
        go_wp2
        go_roundg (gk - pN)
        case measure => exact Nat.sub_lt (Nat.lt_of_lt_of_le fpM_pos HN.out) fpM_pos
        case rel =>
          rw [← HX.out]
          exact ⟨by have := HL.out; have := HX.out; omega, by rw [HX.out, ← HM.out, ← Nat.mod_eq_sub_mod HN.out], A5.out.fpstore x, R5.out.fpother (by omega) _ _ _ _ _ _, fp_below HB5.out (Nat.le_refl _) _ _ _ _ _ _⟩

set_option maxRecDepth 20000 in
set_option maxHeartbeats 4000000 in
theorem r4Add_v (a b : Nat) (w : World) (hs : a + b < fpB) (v : Nat) (hv : v = (a + b) % pN) :
    Calls Try.prog 26 #[fpV a, fpV b] w (Is (fpV v) w) := by
  obtain ⟨x, hx⟩ : ∃ x, x = a + b := ⟨_, rfl⟩
  obtain ⟨w3, hw3, a1, a2, a3, hb0, hsz⟩ := fp_lay_vvz 24 w a b
  have HW := Lib.hid hw3
  have A3 := Lib.hid a3
  have HB0 := Lib.hid hb0
  have HS := Lib.hid hs
  have HX := Lib.hid hx
  have HXB := Lib.hid (show x < fpB by omega)
  have HV := Lib.hid (show v = x % pN by rw [hv, hx])
  clear hw3 a1 a2 a3 hb0 hsz hs hx hv
  go_enter Try.func26, Try.ntmps26
  go_wp2_with fail
  rw [HW.out]
  clear HW
  refine (r4plus_v a b _ HS.out x HX.out).mono ?_
  rintro e w4 ⟨rfl, hb4⟩
  have Z4 := Lib.hid (A3.out.keep hb4)
  have HB4 := Lib.hid (below_then HB0.out hb4)
  clear hb4
  go_wp2_with fail
  refine (r4Clean_v x _ HXB.out v HV.out).mono ?_
  rintro e w5 ⟨rfl, hb5⟩
  have ZE := Z4.out.keep hb5
  have m0 := ZE.fpc0
  have m1 := ZE.fpc1
  have m2 := ZE.fpc2
  have m3 := ZE.fpc3
  have m4 := ZE.fpc4
  have m5 := ZE.fpc5
  have q0 := ZE.frozen 0
  have q1 := ZE.frozen 1
  have q2 := ZE.frozen 2
  have q3 := ZE.frozen 3
  have q4 := ZE.frozen 4
  have q5 := ZE.frozen 5
  have HBE := Lib.hid (below_then HB4.out hb5)
  clear hb5 ZE
  go_wp2
  refine bodyPost_ret (v := fpV v) (by simp [results, Try.results26, go_sem, m0, m1, m2, m3, m4, m5]) rfl ⟨rfl, ?_⟩
  exact fp_below HBE.out (by omega) _ _ _ _ _ _

set_option maxRecDepth 20000 in
set_option maxHeartbeats 4000000 in
theorem r4Bit_v (a q : Nat) (w : World) (ha : a < fpB) (hq : q < 384) :
    Calls Try.prog 41 #[fpV a, .int .i64 (q : Int)] w (Is (.int .u64 ((a / 2 ^ q % 2 : Nat) : Int)) w) := by
  have hb : Hid (a / 2 ^ q % 2 = lm (row 6 a) (q / 64) / 2 ^ (q % 64) % 2) := by
    have e := bitOf_val (small_row 6 a) q
    rw [fpval ha] at e
    exact e.symm
  have hs := lm_lt (small_row 6 a) (q / 64)
  have hc := (fp_new 24 w a).cell (i := q / 64) (by rw [length_row]; omega)
  have hb0 := Lib.hid (below_alloc w (.cells #[.int .u64 ((lb a 0 : Nat) : Int), .int .u64 ((lb a 1 : Nat) : Int), .int .u64 ((lb a 2 : Nat) : Int), .int .u64 ((lb a 3 : Nat) : Int), .int .u64 ((lb a 4 : Nat) : Int), .int .u64 ((lb a 5 : Nat) : Int)] 24))
  have hq4 : ((q : Int)) / 64 < 6 := by omega
  generalize lm (row 6 a) (q / 64) = l at *
  clear ha
  go_enter Try.func41, Try.ntmps41
  go_wp2
  go_ret
  refine ⟨ret_int ?_, hb0.out⟩
  rw [hb.out, Int.tmod_eq_emod_of_nonneg (Int.ediv_nonneg (by omega) (Int.le_of_lt (Int.pow_pos (by decide))))]
  simp
end Go.Proofs.Ytmhieifjmgcbkaa
