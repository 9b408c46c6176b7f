/- What is proved here: the law FpAdds. -/
import Derived.Test.YthmdfjlmmfphiaaLw1Fp
import Derived.Test.YthmdfjlmmfphiaaPairFp
import Derived.Deep.CutRange
namespace Go.Proofs.Ythmdfjlmmfphiaa
open Go.RowKit

set_option maxRecDepth 20000 in
set_option maxHeartbeats 4000000 in
theorem fpAdds_v (a b : Nat) (w : World) (ha : a < fpB) (hb : b < fpB) :
    Calls Try.prog 4 #[fpV a, fpV b] w (Is (.bool true) w) := by
  obtain ⟨w3, hw3, a1, a2, hb0, hsz⟩ := fp_lay_vv 24 w a b
  have l1 : w.heap.size < w3.heap.size := by omega
  have l2 : w.heap.size + 1 < w3.heap.size := by omega
  have HW := Lib.hid hw3
  have A1 := Lib.hid a1
  have A2 := Lib.hid a2
  have HB0 := Lib.hid hb0
  have HA := Lib.hid ha
  have HB := Lib.hid hb
  obtain ⟨x, hx⟩ : ∃ x, x = a % pN := ⟨_, rfl⟩
  obtain ⟨y, hy⟩ : ∃ y, y = b % pN := ⟨_, rfl⟩
  have HX := Lib.hid hx
  have HY := Lib.hid hy
  have HXM := Lib.hid (show x < pN by rw [hx]; exact fpM_mod a)
  have HYM := Lib.hid (show y < pN by rw [hy]; exact fpM_mod b)
  obtain ⟨v, hv⟩ : ∃ v, v = (a + b) % pN := ⟨_, rfl⟩
  have HV := Lib.hid hv
  have HV2 := Lib.hid (show v = (x + y) % pN by rw [hv, hx, hy, ← Nat.add_mod])
  obtain ⟨u, hu⟩ : ∃ u, u = (a + (pN - b % pN)) % pN := ⟨_, rfl⟩
  have HU := Lib.hid hu
  have HU2 := Lib.hid (show u = (x + (pN - y)) % pN by rw [hu, hx, hy, Nat.mod_add_mod])
  obtain ⟨z, hz⟩ : ∃ z, z = (pN - a % pN) % pN := ⟨_, rfl⟩
  have HZ := Lib.hid hz
  have HZ2 := Lib.hid (show z = (pN - x) % pN by rw [hz, hx])
  have hq1 := fp_refl v
  have hq2 := fp_refl u
  have hq3 := fp_refl z
  clear hv hu hz
  clear hw3 a1 a2 hb0 hsz ha hb hx hy
  go_enter Try.func4, Try.ntmps4
  go_wp2_with fail
  rw [HW.out]
  clear HW
  go_upto_region 1 with fail
  go_cut [5, 6] from 7 to 10 (fun p q wx => ∃ g h, p = .pointer (some ⟨g, 0, none⟩) ∧ q = .pointer (some ⟨h, 0, none⟩) ∧ Arr 24 wx g (row 6 x) ∧ Arr 24 wx h (row 6 y) ∧ Below w3.heap.size w3 wx)
  case first =>
    clear hq1 hq2 hq3
    have mk : ∀ Y : World, Below w3.heap.size w3 Y → (Y.cell? ⟨w.heap.size, 0, none⟩ = some (.int .u64 ((lb a 0 : Nat) : Int)) ∧ Y.cell? ⟨w.heap.size, 1, none⟩ = some (.int .u64 ((lb a 1 : Nat) : Int)) ∧ Y.cell? ⟨w.heap.size, 2, none⟩ = some (.int .u64 ((lb a 2 : Nat) : Int)) ∧ Y.cell? ⟨w.heap.size, 3, none⟩ = some (.int .u64 ((lb a 3 : Nat) : Int)) ∧ Y.cell? ⟨w.heap.size, 4, none⟩ = some (.int .u64 ((lb a 4 : Nat) : Int)) ∧ Y.cell? ⟨w.heap.size, 5, none⟩ = some (.int .u64 ((lb a 5 : Nat) : Int)) ∧ Y.cell? ⟨w.heap.size + 1, 0, none⟩ = some (.int .u64 ((lb b 0 : Nat) : Int)) ∧ Y.cell? ⟨w.heap.size + 1, 1, none⟩ = some (.int .u64 ((lb b 1 : Nat) : Int)) ∧ Y.cell? ⟨w.heap.size + 1, 2, none⟩ = some (.int .u64 ((lb b 2 : Nat) : Int)) ∧ Y.cell? ⟨w.heap.size + 1, 3, none⟩ = some (.int .u64 ((lb b 3 : Nat) : Int)) ∧ Y.cell? ⟨w.heap.size + 1, 4, none⟩ = some (.int .u64 ((lb b 4 : Nat) : Int)) ∧ Y.cell? ⟨w.heap.size + 1, 5, none⟩ = some (.int .u64 ((lb b 5 : Nat) : Int)) ∧ Below w3.heap.size w3 Y) := fun Y hb => by
      have qa := A1.out.keep hb
      have qb := A2.out.keep hb
      exact ⟨qa.fpc0, qa.fpc1, qa.fpc2, qa.fpc3, qa.fpc4, qa.fpc5, qb.fpc0, qb.fpc1, qb.fpc2, qb.fpc3, qb.fpc4, qb.fpc5, hb⟩
    have ca0 := A1.out.fpc0
    have ca1 := A1.out.fpc1
    have ca2 := A1.out.fpc2
    have ca3 := A1.out.fpc3
    have ca4 := A1.out.fpc4
    have ca5 := A1.out.fpc5
    have cb0 := A2.out.fpc0
    have cb1 := A2.out.fpc1
    have cb2 := A2.out.fpc2
    have cb3 := A2.out.fpc3
    have cb4 := A2.out.fpc4
    have cb5 := A2.out.fpc5
    go_region_held3 (fun w' => w'.cell? ⟨w.heap.size, 0, none⟩ = some (.int .u64 ((lb a 0 : Nat) : Int)) ∧ w'.cell? ⟨w.heap.size, 1, none⟩ = some (.int .u64 ((lb a 1 : Nat) : Int)) ∧ w'.cell? ⟨w.heap.size, 2, none⟩ = some (.int .u64 ((lb a 2 : Nat) : Int)) ∧ w'.cell? ⟨w.heap.size, 3, none⟩ = some (.int .u64 ((lb a 3 : Nat) : Int)) ∧ w'.cell? ⟨w.heap.size, 4, none⟩ = some (.int .u64 ((lb a 4 : Nat) : Int)) ∧ w'.cell? ⟨w.heap.size, 5, none⟩ = some (.int .u64 ((lb a 5 : Nat) : Int)) ∧ w'.cell? ⟨w.heap.size + 1, 0, none⟩ = some (.int .u64 ((lb b 0 : Nat) : Int)) ∧ w'.cell? ⟨w.heap.size + 1, 1, none⟩ = some (.int .u64 ((lb b 1 : Nat) : Int)) ∧ w'.cell? ⟨w.heap.size + 1, 2, none⟩ = some (.int .u64 ((lb b 2 : Nat) : Int)) ∧ w'.cell? ⟨w.heap.size + 1, 3, none⟩ = some (.int .u64 ((lb b 3 : Nat) : Int)) ∧ w'.cell? ⟨w.heap.size + 1, 4, none⟩ = some (.int .u64 ((lb b 4 : Nat) : Int)) ∧ w'.cell? ⟨w.heap.size + 1, 5, none⟩ = some (.int .u64 ((lb b 5 : Nat) : Int)) ∧ Below w3.heap.size w3 w')
      ((refine mk _ ?_; (repeat' (first | with_reducible exact HB2.out | with_reducible exact HB1.out | with_reducible exact Below.refl _ _ | with_reducible refine Below.alloc ?_ (by first | with_reducible exact s2 | with_reducible exact s1 | with_reducible exact Nat.le_refl _ | (simp <;> omega)) _ | with_reducible refine Below.setCell ?_ (by first | with_reducible exact s2 | with_reducible exact s1 | with_reducible exact Nat.le_refl _ | (simp <;> omega)) _ | with_reducible refine Below.drew ?_))))
      (first
        | (go_at_call 17; (with_reducible refine (r4Clean_v a _ HA.out x HX.out).mono ?_); rintro e Y1 ⟨rfl, hb1⟩; (try (have za : Arr 24 Y1 (w3.heap.size) (row 6 0) := Arr.keep (by first | exact fp_zero 24 w3.drew | exact (fp_zero 24 w3.drew).alloc _ | fail) hb1; have zac0 := za.fpc0; have zac1 := za.fpc1; have zac2 := za.fpc2; have zac3 := za.fpc3; have zac4 := za.fpc4; have zac5 := za.fpc5; have zacf0 := za.frozen 0; have zacf1 := za.frozen 1; have zacf2 := za.frozen 2; have zacf3 := za.frozen 3; have zacf4 := za.frozen 4; have zacf5 := za.frozen 5; have zal := za.lt; have zaH := Lib.hid za; clear za)); (try (have zb : Arr 24 Y1 (w3.heap.size + 1) (row 6 0) := Arr.keep (by first | exact fp_zero2 24 w3.drew _ | fail) hb1; have zbc0 := zb.fpc0; have zbc1 := zb.fpc1; have zbc2 := zb.fpc2; have zbc3 := zb.fpc3; have zbc4 := zb.fpc4; have zbc5 := zb.fpc5; have zbcf0 := zb.frozen 0; have zbcf1 := zb.frozen 1; have zbcf2 := zb.frozen 2; have zbcf3 := zb.frozen 3; have zbcf4 := zb.frozen 4; have zbcf5 := zb.frozen 5; have zbl := zb.lt; have zbH := Lib.hid zb; clear zb)); have hb1' : Below w3.heap.size w3 Y1 := below_then (by repeat' (first | with_reducible exact Below.refl _ _ | with_reducible refine Below.alloc ?_ (by first | with_reducible exact s2 | with_reducible exact s1 | with_reducible exact Nat.le_refl _ | (simp <;> omega)) _ | with_reducible refine Below.drew ?_)) hb1; have s1 := hb1'.size; have HB1 := Lib.hid hb1'; clear hb1'; clear hb1)
        | (go_at_call 17; (with_reducible refine (r4Clean_v b _ HB.out y HY.out).mono ?_); rintro e Y2 ⟨rfl, hb2⟩; (try (have ya : Arr 24 Y2 (w3.heap.size) (row 6 0) := Arr.keep (by first | exact zaH.out | exact zaH.out.alloc _ | exact (zaH.out.alloc _).alloc _ | fail) hb2; have yac0 := ya.fpc0; have yac1 := ya.fpc1; have yac2 := ya.fpc2; have yac3 := ya.fpc3; have yac4 := ya.fpc4; have yac5 := ya.fpc5; have yacf0 := ya.frozen 0; have yacf1 := ya.frozen 1; have yacf2 := ya.frozen 2; have yacf3 := ya.frozen 3; have yacf4 := ya.frozen 4; have yacf5 := ya.frozen 5; have yal := ya.lt; have yaH := Lib.hid ya; clear ya)); (try (have yb : Arr 24 Y2 (w3.heap.size + 1) (row 6 0) := Arr.keep (by first | exact zbH.out | fail) hb2; have ybc0 := yb.fpc0; have ybc1 := yb.fpc1; have ybc2 := yb.fpc2; have ybc3 := yb.fpc3; have ybc4 := yb.fpc4; have ybc5 := yb.fpc5; have ybcf0 := yb.frozen 0; have ybcf1 := yb.frozen 1; have ybcf2 := yb.frozen 2; have ybcf3 := yb.frozen 3; have ybcf4 := yb.frozen 4; have ybcf5 := yb.frozen 5; have ybl := yb.lt; have ybH := Lib.hid yb; clear yb)); (try (have yc : Arr 24 Y2 (Y1.heap.size) (row 6 0) := Arr.keep (by first | exact fp_zero 24 Y1 | exact (fp_zero 24 Y1).alloc _ | fail) hb2; have ycc0 := yc.fpc0; have ycc1 := yc.fpc1; have ycc2 := yc.fpc2; have ycc3 := yc.fpc3; have ycc4 := yc.fpc4; have ycc5 := yc.fpc5; have yccf0 := yc.frozen 0; have yccf1 := yc.frozen 1; have yccf2 := yc.frozen 2; have yccf3 := yc.frozen 3; have yccf4 := yc.frozen 4; have yccf5 := yc.frozen 5; have ycl := yc.lt; have ycH := Lib.hid yc; clear yc)); (try (have yd : Arr 24 Y2 (Y1.heap.size + 1) (row 6 0) := Arr.keep (by first | exact fp_zero2 24 Y1 _ | fail) hb2; have ydc0 := yd.fpc0; have ydc1 := yd.fpc1; have ydc2 := yd.fpc2; have ydc3 := yd.fpc3; have ydc4 := yd.fpc4; have ydc5 := yd.fpc5; have ydcf0 := yd.frozen 0; have ydcf1 := yd.frozen 1; have ydcf2 := yd.frozen 2; have ydcf3 := yd.frozen 3; have ydcf4 := yd.frozen 4; have ydcf5 := yd.frozen 5; have ydl := yd.lt; have ydH := Lib.hid yd; clear yd)); have hb2' : Below w3.heap.size w3 Y2 := below_then (by repeat' (first | with_reducible exact HB1.out | with_reducible refine Below.alloc ?_ (by first | with_reducible exact s2 | with_reducible exact s1 | with_reducible exact Nat.le_refl _ | (simp <;> omega)) _ | with_reducible refine Below.drew ?_)) hb2; have s2 := hb2'.size; have HB2 := Lib.hid hb2'; clear hb2'; (try (have ne1 : w3.heap.size ≠ Y1.heap.size := by omega; have ne2 : Y1.heap.size ≠ w3.heap.size := by omega)); (try (have ne3 : w3.heap.size ≠ Y2.heap.size := by omega; have ne4 : Y2.heap.size ≠ w3.heap.size := by omega)); (try (have ne5 : Y1.heap.size ≠ Y2.heap.size := by omega; have ne6 : Y2.heap.size ≠ Y1.heap.size := by omega)); clear hb2))
    all_goals
      go_wp2_with fail
      go_meet
      refine ⟨_, _, rfl, rfl, ?_, ?_, ?_⟩
      · (repeat' (first | with_reducible exact yaH.out | with_reducible exact ybH.out | with_reducible exact ycH.out | with_reducible exact ydH.out | (with_reducible refine fp_new_at ?_; first | with_reducible rfl | (simp; done)) | with_reducible refine Arr.fpstore (v := 0) ?_ _ | with_reducible refine Arr.fpother ?_ (by first | with_reducible assumption | exact Nat.ne_of_lt (Nat.lt_succ_self _) | exact Nat.ne_of_gt (Nat.lt_succ_self _) | omega) _ _ _ _ _ _ | with_reducible refine Arr.alloc ?_ _))
      · (repeat' (first | with_reducible exact yaH.out | with_reducible exact ybH.out | with_reducible exact ycH.out | with_reducible exact ydH.out | (with_reducible refine fp_new_at ?_; first | with_reducible rfl | (simp; done)) | with_reducible refine Arr.fpstore (v := 0) ?_ _ | with_reducible refine Arr.fpother ?_ (by first | with_reducible assumption | exact Nat.ne_of_lt (Nat.lt_succ_self _) | exact Nat.ne_of_gt (Nat.lt_succ_self _) | omega) _ _ _ _ _ _ | with_reducible refine Arr.alloc ?_ _))
      · (repeat' (first | with_reducible exact HB2.out | with_reducible exact HB1.out | with_reducible exact Below.refl _ _ | with_reducible refine Below.alloc ?_ (by first | with_reducible exact s2 | with_reducible exact s1 | with_reducible exact Nat.le_refl _ | (simp <;> omega)) _ | with_reducible refine Below.setCell ?_ (by first | with_reducible exact s2 | with_reducible exact s1 | with_reducible exact Nat.le_refl _ | (simp <;> omega)) _ | with_reducible refine Below.drew ?_))
  case rest =>
    obtain ⟨g, h, rfl, rfl, o3, o4, ob⟩ := hcut
    have O1 := Lib.hid (A1.out.keep ob)
    have O2 := Lib.hid (A2.out.keep ob)
    have O3 := Lib.hid o3
    have O4 := Lib.hid o4
    have OB := Lib.hid (below_then HB0.out ob)
    clear o3 o4 ob A1 A2 HB0
    go_wp2_with fail
    have mk : ∀ Y : World, Below wc.heap.size wc Y → (Y.cell? ⟨w.heap.size, 0, none⟩ = some (.int .u64 ((lb a 0 : Nat) : Int)) ∧ Y.cell? ⟨w.heap.size, 1, none⟩ = some (.int .u64 ((lb a 1 : Nat) : Int)) ∧ Y.cell? ⟨w.heap.size, 2, none⟩ = some (.int .u64 ((lb a 2 : Nat) : Int)) ∧ Y.cell? ⟨w.heap.size, 3, none⟩ = some (.int .u64 ((lb a 3 : Nat) : Int)) ∧ Y.cell? ⟨w.heap.size, 4, none⟩ = some (.int .u64 ((lb a 4 : Nat) : Int)) ∧ Y.cell? ⟨w.heap.size, 5, none⟩ = some (.int .u64 ((lb a 5 : Nat) : Int)) ∧ Y.cell? ⟨w.heap.size + 1, 0, none⟩ = some (.int .u64 ((lb b 0 : Nat) : Int)) ∧ Y.cell? ⟨w.heap.size + 1, 1, none⟩ = some (.int .u64 ((lb b 1 : Nat) : Int)) ∧ Y.cell? ⟨w.heap.size + 1, 2, none⟩ = some (.int .u64 ((lb b 2 : Nat) : Int)) ∧ Y.cell? ⟨w.heap.size + 1, 3, none⟩ = some (.int .u64 ((lb b 3 : Nat) : Int)) ∧ Y.cell? ⟨w.heap.size + 1, 4, none⟩ = some (.int .u64 ((lb b 4 : Nat) : Int)) ∧ Y.cell? ⟨w.heap.size + 1, 5, none⟩ = some (.int .u64 ((lb b 5 : Nat) : Int)) ∧ Y.cell? ⟨g, 0, none⟩ = some (.int .u64 ((lb x 0 : Nat) : Int)) ∧ Y.cell? ⟨g, 1, none⟩ = some (.int .u64 ((lb x 1 : Nat) : Int)) ∧ Y.cell? ⟨g, 2, none⟩ = some (.int .u64 ((lb x 2 : Nat) : Int)) ∧ Y.cell? ⟨g, 3, none⟩ = some (.int .u64 ((lb x 3 : Nat) : Int)) ∧ Y.cell? ⟨g, 4, none⟩ = some (.int .u64 ((lb x 4 : Nat) : Int)) ∧ Y.cell? ⟨g, 5, none⟩ = some (.int .u64 ((lb x 5 : Nat) : Int)) ∧ Y.cell? ⟨h, 0, none⟩ = some (.int .u64 ((lb y 0 : Nat) : Int)) ∧ Y.cell? ⟨h, 1, none⟩ = some (.int .u64 ((lb y 1 : Nat) : Int)) ∧ Y.cell? ⟨h, 2, none⟩ = some (.int .u64 ((lb y 2 : Nat) : Int)) ∧ Y.cell? ⟨h, 3, none⟩ = some (.int .u64 ((lb y 3 : Nat) : Int)) ∧ Y.cell? ⟨h, 4, none⟩ = some (.int .u64 ((lb y 4 : Nat) : Int)) ∧ Y.cell? ⟨h, 5, none⟩ = some (.int .u64 ((lb y 5 : Nat) : Int)) ∧ Below wc.heap.size wc Y) := fun Y hb => by
      have qa := O1.out.keep hb
      have qb := O2.out.keep hb
      have qx := O3.out.keep hb
      have qy := O4.out.keep hb
      exact ⟨qa.fpc0, qa.fpc1, qa.fpc2, qa.fpc3, qa.fpc4, qa.fpc5, qb.fpc0, qb.fpc1, qb.fpc2, qb.fpc3, qb.fpc4, qb.fpc5, qx.fpc0, qx.fpc1, qx.fpc2, qx.fpc3, qx.fpc4, qx.fpc5, qy.fpc0, qy.fpc1, qy.fpc2, qy.fpc3, qy.fpc4, qy.fpc5, hb⟩
    have un : ∀ Y : World, (Y.cell? ⟨w.heap.size, 0, none⟩ = some (.int .u64 ((lb a 0 : Nat) : Int)) ∧ Y.cell? ⟨w.heap.size, 1, none⟩ = some (.int .u64 ((lb a 1 : Nat) : Int)) ∧ Y.cell? ⟨w.heap.size, 2, none⟩ = some (.int .u64 ((lb a 2 : Nat) : Int)) ∧ Y.cell? ⟨w.heap.size, 3, none⟩ = some (.int .u64 ((lb a 3 : Nat) : Int)) ∧ Y.cell? ⟨w.heap.size, 4, none⟩ = some (.int .u64 ((lb a 4 : Nat) : Int)) ∧ Y.cell? ⟨w.heap.size, 5, none⟩ = some (.int .u64 ((lb a 5 : Nat) : Int)) ∧ Y.cell? ⟨w.heap.size + 1, 0, none⟩ = some (.int .u64 ((lb b 0 : Nat) : Int)) ∧ Y.cell? ⟨w.heap.size + 1, 1, none⟩ = some (.int .u64 ((lb b 1 : Nat) : Int)) ∧ Y.cell? ⟨w.heap.size + 1, 2, none⟩ = some (.int .u64 ((lb b 2 : Nat) : Int)) ∧ Y.cell? ⟨w.heap.size + 1, 3, none⟩ = some (.int .u64 ((lb b 3 : Nat) : Int)) ∧ Y.cell? ⟨w.heap.size + 1, 4, none⟩ = some (.int .u64 ((lb b 4 : Nat) : Int)) ∧ Y.cell? ⟨w.heap.size + 1, 5, none⟩ = some (.int .u64 ((lb b 5 : Nat) : Int)) ∧ Y.cell? ⟨g, 0, none⟩ = some (.int .u64 ((lb x 0 : Nat) : Int)) ∧ Y.cell? ⟨g, 1, none⟩ = some (.int .u64 ((lb x 1 : Nat) : Int)) ∧ Y.cell? ⟨g, 2, none⟩ = some (.int .u64 ((lb x 2 : Nat) : Int)) ∧ Y.cell? ⟨g, 3, none⟩ = some (.int .u64 ((lb x 3 : Nat) : Int)) ∧ Y.cell? ⟨g, 4, none⟩ = some (.int .u64 ((lb x 4 : Nat) : Int)) ∧ Y.cell? ⟨g, 5, none⟩ = some (.int .u64 ((lb x 5 : Nat) : Int)) ∧ Y.cell? ⟨h, 0, none⟩ = some (.int .u64 ((lb y 0 : Nat) : Int)) ∧ Y.cell? ⟨h, 1, none⟩ = some (.int .u64 ((lb y 1 : Nat) : Int)) ∧ Y.cell? ⟨h, 2, none⟩ = some (.int .u64 ((lb y 2 : Nat) : Int)) ∧ Y.cell? ⟨h, 3, none⟩ = some (.int .u64 ((lb y 3 : Nat) : Int)) ∧ Y.cell? ⟨h, 4, none⟩ = some (.int .u64 ((lb y 4 : Nat) : Int)) ∧ Y.cell? ⟨h, 5, none⟩ = some (.int .u64 ((lb y 5 : Nat) : Int)) ∧ Below wc.heap.size wc Y) → Below wc.heap.size wc Y := fun Y h => h.2.2.2.2.2.2.2.2.2.2.2.2.2.2.2.2.2.2.2.2.2.2.2.2
    have hS0 := mk _ (Below.refl _ _).drew
    go_region_held3 (fun w' => w'.cell? ⟨w.heap.size, 0, none⟩ = some (.int .u64 ((lb a 0 : Nat) : Int)) ∧ w'.cell? ⟨w.heap.size, 1, none⟩ = some (.int .u64 ((lb a 1 : Nat) : Int)) ∧ w'.cell? ⟨w.heap.size, 2, none⟩ = some (.int .u64 ((lb a 2 : Nat) : Int)) ∧ w'.cell? ⟨w.heap.size, 3, none⟩ = some (.int .u64 ((lb a 3 : Nat) : Int)) ∧ w'.cell? ⟨w.heap.size, 4, none⟩ = some (.int .u64 ((lb a 4 : Nat) : Int)) ∧ w'.cell? ⟨w.heap.size, 5, none⟩ = some (.int .u64 ((lb a 5 : Nat) : Int)) ∧ w'.cell? ⟨w.heap.size + 1, 0, none⟩ = some (.int .u64 ((lb b 0 : Nat) : Int)) ∧ w'.cell? ⟨w.heap.size + 1, 1, none⟩ = some (.int .u64 ((lb b 1 : Nat) : Int)) ∧ w'.cell? ⟨w.heap.size + 1, 2, none⟩ = some (.int .u64 ((lb b 2 : Nat) : Int)) ∧ w'.cell? ⟨w.heap.size + 1, 3, none⟩ = some (.int .u64 ((lb b 3 : Nat) : Int)) ∧ w'.cell? ⟨w.heap.size + 1, 4, none⟩ = some (.int .u64 ((lb b 4 : Nat) : Int)) ∧ w'.cell? ⟨w.heap.size + 1, 5, none⟩ = some (.int .u64 ((lb b 5 : Nat) : Int)) ∧ w'.cell? ⟨g, 0, none⟩ = some (.int .u64 ((lb x 0 : Nat) : Int)) ∧ w'.cell? ⟨g, 1, none⟩ = some (.int .u64 ((lb x 1 : Nat) : Int)) ∧ w'.cell? ⟨g, 2, none⟩ = some (.int .u64 ((lb x 2 : Nat) : Int)) ∧ w'.cell? ⟨g, 3, none⟩ = some (.int .u64 ((lb x 3 : Nat) : Int)) ∧ w'.cell? ⟨g, 4, none⟩ = some (.int .u64 ((lb x 4 : Nat) : Int)) ∧ w'.cell? ⟨g, 5, none⟩ = some (.int .u64 ((lb x 5 : Nat) : Int)) ∧ w'.cell? ⟨h, 0, none⟩ = some (.int .u64 ((lb y 0 : Nat) : Int)) ∧ w'.cell? ⟨h, 1, none⟩ = some (.int .u64 ((lb y 1 : Nat) : Int)) ∧ w'.cell? ⟨h, 2, none⟩ = some (.int .u64 ((lb y 2 : Nat) : Int)) ∧ w'.cell? ⟨h, 3, none⟩ = some (.int .u64 ((lb y 3 : Nat) : Int)) ∧ w'.cell? ⟨h, 4, none⟩ = some (.int .u64 ((lb y 4 : Nat) : Int)) ∧ w'.cell? ⟨h, 5, none⟩ = some (.int .u64 ((lb y 5 : Nat) : Int)) ∧ Below wc.heap.size wc w')
      (first | with_reducible exact hS7 | with_reducible exact hS6 | with_reducible exact hS5 | with_reducible exact hS4 | with_reducible exact hS3 | with_reducible exact hS2 | with_reducible exact hS1 | with_reducible exact hS0)
      (first
        | (go_at_call 12; ((with_reducible refine (fpalive_v _).mono ?_); rintro e y1 ⟨rfl, hb1⟩; have hS1 := mk _ (below_then (un _ (by with_reducible assumption)) hb1); clear hb1))
        | (go_at_call 20; ((with_reducible refine (fpAdd_v a b _ HA.out HB.out v HV.out).mono ?_); rintro e y2 ⟨rfl, hb2⟩; have hS2 := mk _ (below_then (un _ (by with_reducible assumption)) hb2); clear hb2))
        | (go_at_call 21; ((with_reducible refine (r4Add_v x y _ (fpsum_lt HXM.out HYM.out) v HV2.out).mono ?_); rintro e y3 ⟨rfl, hb3⟩; have hS3 := mk _ (below_then (un _ (by with_reducible assumption)) hb3); clear hb3))
        | (go_at_call 22; ((with_reducible refine (fpSub_v a b _ HA.out HB.out u HU.out).mono ?_); rintro e y4 ⟨rfl, hb4⟩; have hS4 := mk _ (below_then (un _ (by with_reducible assumption)) hb4); clear hb4))
        | (go_at_call 23; ((with_reducible refine (r4Sub_v x y _ HXM.out HYM.out u HU2.out).mono ?_); rintro e y5 ⟨rfl, hb5⟩; have hS5 := mk _ (below_then (un _ (by with_reducible assumption)) hb5); clear hb5))
        | (go_at_call 24; ((with_reducible refine (fpNeg_v a _ HA.out z HZ.out).mono ?_); rintro e y6 ⟨rfl, hb6⟩; have hS6 := mk _ (below_then (un _ (by with_reducible assumption)) hb6); clear hb6))
        | (go_at_call 25; ((with_reducible refine (r4Neg_v x _ HXM.out z HZ2.out).mono ?_); rintro e y7 ⟨rfl, hb7⟩; have hS7 := mk _ (below_then (un _ (by with_reducible assumption)) hb7); clear hb7)))
    have HBE := Lib.hid (below_then OB.out hS7.2.2.2.2.2.2.2.2.2.2.2.2.2.2.2.2.2.2.2.2.2.2.2.2)
    clear mk un hS0 hS1 hS2 hS3 hS4 hS5 hS6 hS7
    go_wp2
    go_ret
    exact ⟨rfl, HBE.out⟩
end Go.Proofs.Ythmdfjlmmfphiaa
