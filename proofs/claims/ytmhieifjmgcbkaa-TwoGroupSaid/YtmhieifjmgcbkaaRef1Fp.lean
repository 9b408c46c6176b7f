/- What is proved here: contracts of the reference's P, Less, minus and plus (layer 4). -/
import Derived.Test.YtmhieifjmgcbkaaNumFp
import Derived.Test.YtmhieifjmgcbkaaRefC
import Derived.Test.YtmhieifjmgcbkaaFn1Fp
import Derived.Deep.RegionHeld3
namespace Go.Proofs.Ytmhieifjmgcbkaa
open Go.RowKit

theorem r4P_v (w : World) : Calls Try.prog 39 #[] w (Is (fpV pN) w) := by
  rw [fpM_lit]
  go_enter Try.func39, Try.ntmps39
  go_wp2
  refine bodyPost_ret (v := .agg #[.int .u64 13402431016077863595, .int .u64 2210141511517208575, .int .u64 7435674573564081700, .int .u64 7239337960414712511, .int .u64 5412103778470702295, .int .u64 1873798617647539866]) (by simp [results, Try.results39, go_sem]) rfl ⟨rfl, below_alloc w _⟩

theorem fp_ltE2 {x : Nat} (h : x < fpB) : x < 2 ^ (64 * 6) := Nat.lt_of_lt_of_eq h fpB_eq

theorem fpdif {a b : Nat} (ha : a < fpB) (h : b ≤ a) : difLo (val (row 6 a)) (val (row 6 b)) (2 ^ (64 * 6)) = a - b := by
  rw [fpval ha, fpval (Nat.lt_of_le_of_lt h ha)]
  have := fp_ltE2 ha
  unfold difLo
  revert this
  generalize 2 ^ (64 * 6) = P
  intro hP
  rw [Nat.mod_eq_of_lt hP, Nat.mod_eq_of_lt (show b < P by omega), show a + P - b = (a - b) + P by omega, Nat.add_mod_right, Nat.mod_eq_of_lt (by omega)]

theorem fpsumE {a b : Nat} (h : a + b < fpB) : addLo (val (row 6 a)) (val (row 6 b)) (2 ^ (64 * 6)) = a + b := by
  rw [fpval (show a < fpB by omega), fpval (show b < fpB by omega)]
  have := fp_ltE2 h
  unfold addLo
  revert this
  generalize 2 ^ (64 * 6) = P
  intro hP
  rw [Nat.mod_eq_of_lt (show a < P by omega), Nat.mod_eq_of_lt (show b < P by omega), Nat.mod_eq_of_lt hP]

set_option maxRecDepth 20000 in
set_option maxHeartbeats 4000000 in
theorem r4Less_v (a b : Nat) (w : World) (ha : a < fpB) (hb : b < fpB) (r : Bool) (hr : r = decide (a < b)) :
    Calls Try.prog 38 #[fpV a, fpV b] w (Is (.bool r) w) := by
  go_enter Try.func38, Try.ntmps38
  go_wp2
  obtain ⟨w2, hw2, a1, a2, hb0, hsz⟩ := fp_lay_vv 24 w a b
  rw [hw2]
  clear hw2
  have l1 := length_row 6 a
  have l2 := length_row 6 b
  have hx := small_row 6 a
  have hy := small_row 6 b
  have EX2 := Lib.hid (show r = ltB (val (row 6 a)) (val (row 6 b)) by rw [fpval ha, fpval hb, hr]; rfl)
  generalize row 6 a = xs at *
  generalize row 6 b = ys at *
  have HZ := Lib.hid (show ∀ j, 6 ≤ j → lm xs j = lm ys j from fun j hj => by rw [lm_zero (by omega), lm_zero (by omega)])
  have s1 := Lib.hid hx
  have s2 := Lib.hid hy
  have A1 := Lib.hid a1
  have A2 := Lib.hid a2
  have HB0 := Lib.hid hb0
  have L1 := Lib.hid l1
  have L2 := Lib.hid l2
  clear hx hy a1 a2 hb0 l1 l2 ha hb hr hsz
  go_loopw [5] (fun i wr => ∃ k : Nat, k ≤ 6 ∧ i = .int .i64 ((k : Int) - 1) ∧ Hid (∀ j, k ≤ j → lm xs j = lm ys j) ∧ Below w2.heap.size w2 wr) (fun i _ => ((intOf i) + 1).toNat)
  case atStart => exact ⟨6, Nat.le_refl _, rfl, HZ, Below.refl _ _⟩
  case round =>
    clear HZ
    obtain ⟨k, hk, rfl, HA, hbl⟩ := hrel
    by_cases hlt : 1 ≤ k
    · obtain ⟨q, rfl⟩ : ∃ q, k = q + 1 := ⟨k - 1, by omega⟩
      have hc := (A1.out.keep hbl).cell (i := q) (by have := L1.out; omega)
      have hc' := (A2.out.keep hbl).cell (i := q) (by have := L2.out; omega)
      have HB := Lib.hid hbl
      have hlt' : (q : Int) < 6 := by omega
      clear hbl
      by_cases he : lm xs q = lm ys q
      · have R := Lib.hid (show ∀ j, q ≤ j → lm xs j = lm ys j from fun j hj => by
          by_cases e : j = q
          · rw [e, he]
          · exact HA.out j (by omega))
        have hne : (((lm xs q : Nat) : Int) != ((lm ys q : Nat) : Int)) = false := by simp [he]
        clear he
        go_wp2
        go_quiet (fail)
        go_wp2
        go_roundw
        case rel => exact ⟨q, by omega, by go_num, R, below_drewN HB.out _⟩
        case measure => simp [intOf]
      · have R : Hid (decide (lm xs q < lm ys q) = ltB (val xs) (val ys)) := by
          unfold ltB
          rw [Hid, decide_eq_decide, less_limb s1.out s2.out HA.out he]
        have hne : (((lm xs q : Nat) : Int) != ((lm ys q : Nat) : Int)) = true := by simp; omega
        clear he
        go_wp2
        go_quiet (fail)
        go_wp2
        go_quiet (fail)
        go_wp2
        go_ret
        exact ⟨by rw [EX2.out, ← R.out] <;> rfl, below_then HB0.out (below_drewN (below_drewN HB.out _) _)⟩
    · obtain rfl : k = 0 := by omega
      have R : Hid (false = ltB (val xs) (val ys)) := by
        unfold ltB
        rw [Hid, val_eq_of_limbs s1.out s2.out (fun j => HA.out j (Nat.zero_le _))]
        simp
      have HB := Lib.hid hbl
      clear hbl
      go_wp2
      go_ret
      exact ⟨by rw [EX2.out, ← R.out] <;> rfl, below_then HB0.out HB.out⟩

set_option maxRecDepth 20000 in
set_option maxHeartbeats 4000000 in
theorem r4minus_v (a b : Nat) (w : World) (ha : a < fpB) (h : b ≤ a) (V : Nat) (hv : V = a - b) :
    Calls Try.prog 40 #[fpV a, fpV b] w (Is (fpV V) w) := by
  go_enter Try.func40, Try.ntmps40
  go_wp2_with fail
  obtain ⟨w4, hw4, a1, a2, a3, a4, hb0, hsz⟩ := fp_lay_vvzz 24 w a b
  rw [hw4]
  clear hw4
  have l1 := length_row 6 a
  have l2 := length_row 6 b
  have hx := small_row 6 a
  have hy := small_row 6 b
  have EX := Lib.hid (show difLo (val (row 6 a)) (val (row 6 b)) (2 ^ (64 * 6)) = V by rw [hv, fpdif ha h])
  generalize row 6 a = xs at *
  generalize row 6 b = ys at *
  have s1 := Lib.hid hx
  have s2 := Lib.hid hy
  have A1 := Lib.hid a1
  have A2 := Lib.hid a2
  have A3 := Lib.hid a3
  have A4 := Lib.hid a4
  have HB0 := Lib.hid hb0
  have L1 := Lib.hid l1
  have L2 := Lib.hid l2
  clear hx hy a1 a2 a3 a4 hb0 l1 l2 hsz ha h hv
  go_loopw [6, 7] (fun cr i wr => ∃ k : Nat, k ≤ 6 ∧ i = .int .i64 (k : Int) ∧ cr = .int .u64 ((difHi (val xs) (val ys) (2 ^ (64 * k)) : Nat) : Int) ∧ Arr 24 wr (w.heap.size + 1 + 1 + 1) (row 6 (difLo (val xs) (val ys) (2 ^ (64 * k)))) ∧ Below (w.heap.size + 1 + 1 + 1) w4 wr) (fun _ i _ => 6 - (intOf i).toNat)
  case atStart => exact ⟨0, Nat.zero_le _, rfl, by rw [show 2 ^ (64 * 0) = 1 from rfl, difHi_one]; rfl, by rw [show 2 ^ (64 * 0) = 1 from rfl, difLo_one]; exact A4.out, Below.refl _ _⟩
  case round =>
    obtain ⟨k, hk, rfl, rfl, ho, hbl⟩ := hrel
    clear A4
    by_cases hlt : k < 6
    · have S := Lib.hid (subLimb_step2 s1.out s2.out (K := 6) hlt)
      have hca := (A1.out.below (by omega) hbl).cell (i := k) (by have := L1.out; omega)
      have hcb := (A2.out.below (by omega) hbl).cell (i := k) (by have := L2.out; omega)
      have hco := ho.cell (i := k) (by rw [length_row]; exact hlt)
      have hfo := ho.frozen k
      have hx := lm_lt s1.out k
      have hy := lm_lt s2.out k
      have hb1 := difHi_le (val xs) (val ys) (2 ^ (64 * k))
      generalize hz : lm (row 6 (difLo (val xs) (val ys) (2 ^ (64 * k)))) k = z at hco
      clear hz
      have HO := Lib.hid ho
      have HB := Lib.hid hbl
      clear ho hbl
      obtain ⟨d, f1, f2⟩ := minus_forms (lm xs k) (lm ys k) (difHi (val xs) (val ys) (2 ^ (64 * k))) hx hy hb1
      have MM := Lib.hid (minus_more (lm xs k) (lm ys k) (difHi (val xs) (val ys) (2 ^ (64 * k))) hx hy hb1)
      have hk4 : (k : Int) < 6 := by omega
      generalize lm xs k = x at *
      generalize lm ys k = y at *
      generalize difHi (val xs) (val ys) (2 ^ (64 * k)) = bo at *
      generalize subLo x y bo = v at *
      generalize subHi x y bo = hi at *
      go_wp2_with fail
      have hst : ∀ u, (wr.setCell ⟨w.heap.size + 1 + 1 + 1, k, none⟩ u).drew.cell? ⟨w.heap.size, k, none⟩ = some (.int .u64 (x : Int)) ∧ (wr.setCell ⟨w.heap.size + 1 + 1 + 1, k, none⟩ u).drew.cell? ⟨w.heap.size + 1, k, none⟩ = some (.int .u64 (y : Int)) := fun u => by
        have B1 : Below (w.heap.size + 1 + 1 + 1) wr (wr.setCell ⟨w.heap.size + 1 + 1 + 1, k, none⟩ u).drew := ((Below.refl _ _).setCell (p := ⟨w.heap.size + 1 + 1 + 1, k, none⟩) (Nat.le_refl _) _).drew
        exact ⟨(B1.cell (p := ⟨w.heap.size, k, none⟩) (show w.heap.size < w.heap.size + 1 + 1 + 1 by omega)).trans hca, (B1.cell (p := ⟨w.heap.size + 1, k, none⟩) (show w.heap.size + 1 < w.heap.size + 1 + 1 + 1 by omega)).trans hcb⟩
      go_region_held3 (fun w' => w'.cell? ⟨w.heap.size, k, none⟩ = some (.int .u64 (x : Int)) ∧ w'.cell? ⟨w.heap.size + 1, k, none⟩ = some (.int .u64 (y : Int))) (first | exact ⟨hca, hcb⟩ | exact hst _) (fail)
      all_goals
        clear hst
        have B1 : Below (w.heap.size + 1 + 1 + 1) wr (wr.setCell ⟨w.heap.size + 1 + 1 + 1, k, none⟩ (.int .u64 (v : Int))).drew := ((Below.refl _ _).setCell (p := ⟨w.heap.size + 1 + 1 + 1, k, none⟩) (Nat.le_refl _) _).drew
        have ga := (B1.cell (p := ⟨w.heap.size, k, none⟩) (show w.heap.size < w.heap.size + 1 + 1 + 1 by omega)).trans hca
        have gb := (B1.cell (p := ⟨w.heap.size + 1, k, none⟩) (show w.heap.size + 1 < w.heap.size + 1 + 1 + 1 by omega)).trans hcb
        have HO2 : Hid (Arr 24 (wr.setCell ⟨w.heap.size + 1 + 1 + 1, k, none⟩ (.int .u64 (v : Int))).drew (w.heap.size + 1 + 1 + 1) (row 6 (difLo (val xs) (val ys) (2 ^ (64 * (k + 1)))))) := by rw [← S.out.1]; exact HO.out.set k v
        have go := HO2.out.cell (i := k) (by rw [length_row]; exact hlt)
        rw [← S.out.1, lm_set _ _ _ _ (by rw [length_row]; exact hlt), if_pos rfl] at go
        have HB2 := Lib.hid (HB.out.trans B1)
        clear HO HB B1 hca hcb hco hfo f1 f2
        go_wp2_with fail
        generalize (wr.setCell ⟨w.heap.size + 1 + 1 + 1, k, none⟩ (.int .u64 (v : Int))).drew = W1 at *
        rcases Nat.lt_trichotomy x y with h1 | h1 | h1
        · have E := Lib.hid (MM.out.1 h1)
          have hbb : decide (x < y) = true := decide_eq_true h1
          clear h1
          go_quiet (fail)
          go_wp2
          go_roundw
          case rel => exact ⟨k + 1, by omega, by go_num, by rw [← S.out.2, E.out] <;> rfl, HO2.out, below_drewN HB2.out _⟩
          case measure => simp [intOf]; omega
        · have hbb : decide (x < y) = false := decide_eq_false (by omega)
          have hbc : ((x : Int) == (y : Int)) = true := by simp; omega
          have hbc2 : (x == y) = true := by simp; omega
          rcases (show bo = 1 ∨ bo = 0 by omega) with h2 | h2
          · have E := Lib.hid (MM.out.2.1 h1 h2)
            have hbd : ((bo : Int) == 1) = true := by simp; omega
            clear h1 h2
            go_quiet (fail)
            go_wp2
            go_roundw
            case rel => exact ⟨k + 1, by omega, by go_num, by rw [← S.out.2, E.out] <;> rfl, HO2.out, below_drewN HB2.out _⟩
            case measure => simp [intOf]; omega
          · have E := Lib.hid (MM.out.2.2.1 h1 h2)
            have hbd : ((bo : Int) == 1) = false := by simp; omega
            clear h1 h2
            go_quiet (fail)
            go_wp2
            go_roundw
            case rel => exact ⟨k + 1, by omega, by go_num, by rw [← S.out.2, E.out] <;> rfl, HO2.out, below_drewN HB2.out _⟩
            case measure => simp [intOf]; omega
        · have E := Lib.hid (MM.out.2.2.2 h1)
          have hbb : decide (x < y) = false := decide_eq_false (by omega)
          have hbc : ((x : Int) == (y : Int)) = false := by simp; omega
          have hbc2 : (x == y) = false := by simp; omega
          clear h1
          go_quiet (fail)
          go_wp2
          go_roundw
          case rel => exact ⟨k + 1, by omega, by go_num, by rw [← S.out.2, E.out] <;> rfl, HO2.out, below_drewN HB2.out _⟩
          case measure => simp [intOf]; omega
    · obtain rfl : k = 6 := by omega
      rw [EX.out] at ho
      generalize difHi (val xs) (val ys) (2 ^ (64 * 6)) = hi at *
      have c0 := ho.fpc0
      have c1 := ho.fpc1
      have c2 := ho.fpc2
      have c3 := ho.fpc3
      have c4 := ho.fpc4
      have c5 := ho.fpc5
      have a3 := A3.out.below (by omega) hbl
      have d0 := a3.fpc0
      have d1 := a3.fpc1
      have d2 := a3.fpc2
      have d3 := a3.fpc3
      have d4 := a3.fpc4
      have d5 := a3.fpc5
      have f0 := a3.frozen 0
      have f1 := a3.frozen 1
      have f2 := a3.frozen 2
      have f3 := a3.frozen 3
      have f4 := a3.frozen 4
      have f5 := a3.frozen 5
      have HB := Lib.hid (HB0.out.trans (hbl.mono (show w.heap.size ≤ w.heap.size + 1 + 1 + 1 by omega)))
      clear ho hbl a3
      go_wp2
      refine bodyPost_ret (v := fpV V) (by simp [results, Try.results40, go_sem, d0, d1, d2, d3, d4, d5]) rfl ⟨rfl, ?_⟩
      exact fp_below HB.out (by omega) _ _ _ _ _ _

set_option maxRecDepth 20000 in
set_option maxHeartbeats 4000000 in
theorem r4plus_v (a b : Nat) (w : World) (h : a + b < fpB) (V : Nat) (hv : V = a + b) :
    Calls Try.prog 43 #[fpV a, fpV b] w (Is (fpV V) w) := by
  go_enter Try.func43, Try.ntmps43
  go_wp2_with fail
  obtain ⟨w4, hw4, a1, a2, a3, a4, hb0, hsz⟩ := fp_lay_vvzz 24 w a b
  rw [hw4]
  clear hw4
  have l1 := length_row 6 a
  have l2 := length_row 6 b
  have hx := small_row 6 a
  have hy := small_row 6 b
  have EX := Lib.hid (show addLo (val (row 6 a)) (val (row 6 b)) (2 ^ (64 * 6)) = V by rw [hv, fpsumE h])
  generalize row 6 a = xs at *
  generalize row 6 b = ys at *
  have s1 := Lib.hid hx
  have s2 := Lib.hid hy
  have A1 := Lib.hid a1
  have A2 := Lib.hid a2
  have A3 := Lib.hid a3
  have A4 := Lib.hid a4
  have HB0 := Lib.hid hb0
  have L1 := Lib.hid l1
  have L2 := Lib.hid l2
  clear hx hy a1 a2 a3 a4 hb0 l1 l2 hsz h hv
  go_loopw [6, 7] (fun cr i wr => ∃ k : Nat, k ≤ 6 ∧ i = .int .i64 (k : Int) ∧ cr = .int .u64 ((addHi (val xs) (val ys) (2 ^ (64 * k)) : Nat) : Int) ∧ Arr 24 wr (w.heap.size + 1 + 1 + 1) (row 6 (addLo (val xs) (val ys) (2 ^ (64 * k)))) ∧ Below (w.heap.size + 1 + 1 + 1) w4 wr) (fun _ i _ => 6 - (intOf i).toNat)
  case atStart => exact ⟨0, Nat.zero_le _, rfl, by rw [show 2 ^ (64 * 0) = 1 from rfl, addHi_one]; rfl, by rw [show 2 ^ (64 * 0) = 1 from rfl, addLo_one]; exact A4.out, Below.refl _ _⟩
  case round =>
    obtain ⟨k, hk, rfl, rfl, ho, hbl⟩ := hrel
    clear A4
    by_cases hlt : k < 6
    · have S := Lib.hid (addLimb_step s1.out s2.out (K := 6) hlt)
      have hca := (A1.out.below (by omega) hbl).cell (i := k) (by have := L1.out; omega)
      have hcb := (A2.out.below (by omega) hbl).cell (i := k) (by have := L2.out; omega)
      have hco := ho.cell (i := k) (by rw [length_row]; exact hlt)
      have hfo := ho.frozen k
      have hx := lm_lt s1.out k
      have hy := lm_lt s2.out k
      have hb1 := addHi_le (val xs) (val ys) (2 ^ (64 * k)) (Nat.two_pow_pos _)
      generalize hz : lm (row 6 (addLo (val xs) (val ys) (2 ^ (64 * k)))) k = z at hco
      clear hz
      have HO := Lib.hid ho
      have HB := Lib.hid hbl
      clear ho hbl
      obtain ⟨d, f1, f2⟩ := plus_forms (lm xs k) (lm ys k) (addHi (val xs) (val ys) (2 ^ (64 * k))) hx hy hb1
      have MM := Lib.hid (plus_more (lm xs k) (lm ys k) (addHi (val xs) (val ys) (2 ^ (64 * k))) hx hy hb1)
      have hk4 : (k : Int) < 6 := by omega
      generalize lm xs k = x at *
      generalize lm ys k = y at *
      generalize addHi (val xs) (val ys) (2 ^ (64 * k)) = bo at *
      generalize sumLo x y bo = v at *
      generalize sumHi x y bo = hi at *
      go_wp2_with fail
      have hst : ∀ u, (wr.setCell ⟨w.heap.size + 1 + 1 + 1, k, none⟩ u).drew.cell? ⟨w.heap.size, k, none⟩ = some (.int .u64 (x : Int)) ∧ (wr.setCell ⟨w.heap.size + 1 + 1 + 1, k, none⟩ u).drew.cell? ⟨w.heap.size + 1, k, none⟩ = some (.int .u64 (y : Int)) := fun u => by
        have B1 : Below (w.heap.size + 1 + 1 + 1) wr (wr.setCell ⟨w.heap.size + 1 + 1 + 1, k, none⟩ u).drew := ((Below.refl _ _).setCell (p := ⟨w.heap.size + 1 + 1 + 1, k, none⟩) (Nat.le_refl _) _).drew
        exact ⟨(B1.cell (p := ⟨w.heap.size, k, none⟩) (show w.heap.size < w.heap.size + 1 + 1 + 1 by omega)).trans hca, (B1.cell (p := ⟨w.heap.size + 1, k, none⟩) (show w.heap.size + 1 < w.heap.size + 1 + 1 + 1 by omega)).trans hcb⟩
      go_region_held3 (fun w' => w'.cell? ⟨w.heap.size, k, none⟩ = some (.int .u64 (x : Int)) ∧ w'.cell? ⟨w.heap.size + 1, k, none⟩ = some (.int .u64 (y : Int))) (first | exact ⟨hca, hcb⟩ | exact hst _) (fail)
      all_goals
        clear hst
        have B1 : Below (w.heap.size + 1 + 1 + 1) wr (wr.setCell ⟨w.heap.size + 1 + 1 + 1, k, none⟩ (.int .u64 (v : Int))).drew := ((Below.refl _ _).setCell (p := ⟨w.heap.size + 1 + 1 + 1, k, none⟩) (Nat.le_refl _) _).drew
        have ga := (B1.cell (p := ⟨w.heap.size, k, none⟩) (show w.heap.size < w.heap.size + 1 + 1 + 1 by omega)).trans hca
        have gb := (B1.cell (p := ⟨w.heap.size + 1, k, none⟩) (show w.heap.size + 1 < w.heap.size + 1 + 1 + 1 by omega)).trans hcb
        have HO2 : Hid (Arr 24 (wr.setCell ⟨w.heap.size + 1 + 1 + 1, k, none⟩ (.int .u64 (v : Int))).drew (w.heap.size + 1 + 1 + 1) (row 6 (addLo (val xs) (val ys) (2 ^ (64 * (k + 1)))))) := by rw [← S.out.1]; exact HO.out.set k v
        have go := HO2.out.cell (i := k) (by rw [length_row]; exact hlt)
        rw [← S.out.1, lm_set _ _ _ _ (by rw [length_row]; exact hlt), if_pos rfl] at go
        have HB2 := Lib.hid (HB.out.trans B1)
        clear HO HB B1 hca hcb hco hfo f1 f2
        go_wp2_with fail
        generalize (wr.setCell ⟨w.heap.size + 1 + 1 + 1, k, none⟩ (.int .u64 (v : Int))).drew = W1 at *
        rcases Nat.lt_trichotomy v x with h1 | h1 | h1
        · have E := Lib.hid (MM.out.1 h1)
          have hbb : decide (v < x) = true := decide_eq_true h1
          clear h1
          go_quiet (fail)
          go_wp2
          go_roundw
          case rel => exact ⟨k + 1, by omega, by go_num, by rw [← S.out.2, E.out] <;> rfl, HO2.out, below_drewN HB2.out _⟩
          case measure => simp [intOf]; omega
        · have hbb : decide (v < x) = false := decide_eq_false (by omega)
          have hbc : ((v : Int) == (x : Int)) = true := by simp; omega
          have hbc2 : (v == x) = true := by simp; omega
          rcases (show bo = 1 ∨ bo = 0 by omega) with h2 | h2
          · have E := Lib.hid (MM.out.2.1 h1 h2)
            have hbd : ((bo : Int) == 1) = true := by simp; omega
            clear h1 h2
            go_quiet (fail)
            go_wp2
            go_roundw
            case rel => exact ⟨k + 1, by omega, by go_num, by rw [← S.out.2, E.out] <;> rfl, HO2.out, below_drewN HB2.out _⟩
            case measure => simp [intOf]; omega
          · have E := Lib.hid (MM.out.2.2.1 h1 h2)
            have hbd : ((bo : Int) == 1) = false := by simp; omega
            clear h1 h2
            go_quiet (fail)
            go_wp2
            go_roundw
            case rel => exact ⟨k + 1, by omega, by go_num, by rw [← S.out.2, E.out] <;> rfl, HO2.out, below_drewN HB2.out _⟩
            case measure => simp [intOf]; omega
        · have E := Lib.hid (MM.out.2.2.2 h1)
          have hbb : decide (v < x) = false := decide_eq_false (by omega)
          have hbc : ((v : Int) == (x : Int)) = false := by simp; omega
          have hbc2 : (v == x) = false := by simp; omega
          clear h1
          go_quiet (fail)
          go_wp2
          go_roundw
          case rel => exact ⟨k + 1, by omega, by go_num, by rw [← S.out.2, E.out] <;> rfl, HO2.out, below_drewN HB2.out _⟩
          case measure => simp [intOf]; omega
    · obtain rfl : k = 6 := by omega
      rw [EX.out] at ho
      generalize addHi (val xs) (val ys) (2 ^ (64 * 6)) = hi at *
      have c0 := ho.fpc0
      have c1 := ho.fpc1
      have c2 := ho.fpc2
      have c3 := ho.fpc3
      have c4 := ho.fpc4
      have c5 := ho.fpc5
      have a3 := A3.out.below (by omega) hbl
      have d0 := a3.fpc0
      have d1 := a3.fpc1
      have d2 := a3.fpc2
      have d3 := a3.fpc3
      have d4 := a3.fpc4
      have d5 := a3.fpc5
      have f0 := a3.frozen 0
      have f1 := a3.frozen 1
      have f2 := a3.frozen 2
      have f3 := a3.frozen 3
      have f4 := a3.frozen 4
      have f5 := a3.frozen 5
      have HB := Lib.hid (HB0.out.trans (hbl.mono (show w.heap.size ≤ w.heap.size + 1 + 1 + 1 by omega)))
      clear ho hbl a3
      go_wp2
      refine bodyPost_ret (v := fpV V) (by simp [results, Try.results43, go_sem, d0, d1, d2, d3, d4, d5]) rfl ⟨rfl, ?_⟩
      exact fp_below HB.out (by omega) _ _ _ _ _ _
end Go.Proofs.Ytmhieifjmgcbkaa
