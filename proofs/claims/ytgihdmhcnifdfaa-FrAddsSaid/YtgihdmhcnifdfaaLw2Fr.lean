/- What is proved here: the law FrAdds. -/
import Derived.Test.YtgihdmhcnifdfaaLw1Fr
import Derived.Test.YtgihdmhcnifdfaaPairFr
import Derived.Deep.CutRange
namespace Go.Proofs.Ytgihdmhcnifdfaa
open Go.RowKit

set_option maxRecDepth 20000 in
set_option maxHeartbeats 4000000 in
theorem frAdds_v (a b : Nat) (w : World) (ha : a < frB) (hb : b < frB) :
    Calls Try.prog 4 #[frV a, frV b] w (Is (.bool true) w) := by
  obtain ⟨w3, hw3, a1, a2, hb0, hsz⟩ := fr_lay_vv 24 w a b
  have l1 : w.heap.size < w3.heap.size := by omega
  have l2 : w.heap.size + 1 < w3.heap.size := by omega
  have HW := Lib.hid hw3
  have A1 := Lib.hid a1
  have A2 := Lib.hid a2
  have HB0 := Lib.hid hb0
  have HA := Lib.hid ha
  have HB := Lib.hid hb
  obtain ⟨x, hx⟩ : ∃ x, x = a % rN := ⟨_, rfl⟩
  obtain ⟨y, hy⟩ : ∃ y, y = b % rN := ⟨_, rfl⟩
  have HX := Lib.hid hx
  have HY := Lib.hid hy
  have HXM := Lib.hid (show x < rN by rw [hx]; exact frM_mod a)
  have HYM := Lib.hid (show y < rN by rw [hy]; exact frM_mod b)
  obtain ⟨v, hv⟩ : ∃ v, v = (a + b) % rN := ⟨_, rfl⟩
  have HV := Lib.hid hv
  have HV2 := Lib.hid (show v = (x + y) % rN by rw [hv, hx, hy, ← Nat.add_mod])
  obtain ⟨u, hu⟩ : ∃ u, u = (a + (rN - b % rN)) % rN := ⟨_, rfl⟩
  have HU := Lib.hid hu
  have HU2 := Lib.hid (show u = (x + (rN - y)) % rN by rw [hu, hx, hy, Nat.mod_add_mod])
  obtain ⟨z, hz⟩ : ∃ z, z = (rN - a % rN) % rN := ⟨_, rfl⟩
  have HZ := Lib.hid hz
  have HZ2 := Lib.hid (show z = (rN - x) % rN by rw [hz, hx])
  have hq1 := fr_refl v
  have hq2 := fr_refl u
  have hq3 := fr_refl z
  clear hv hu hz
  clear hw3 a1 a2 hb0 hsz ha hb hx hy
  go_enter Try.func4, Try.ntmps4
  go_wp2_with fail
  rw [HW.out]
  clear HW
  go_upto_region 1 with fail
  go_cut [5, 6] from 7 to 10 (fun p q wx => ∃ g h, p = .pointer (some ⟨g, 0, none⟩) ∧ q = .pointer (some ⟨h, 0, none⟩) ∧ Arr 24 wx g (row 4 x) ∧ Arr 24 wx h (row 4 y) ∧ Below w3.heap.size w3 wx)
  case first =>
    clear hq1 hq2 hq3
    have mk : ∀ Y : World, Below w3.heap.size w3 Y → (Y.cell? ⟨w.heap.size, 0, none⟩ = some (.int .u64 ((lb a 0 : Nat) : Int)) ∧ Y.cell? ⟨w.heap.size, 1, none⟩ = some (.int .u64 ((lb a 1 : Nat) : Int)) ∧ Y.cell? ⟨w.heap.size, 2, none⟩ = some (.int .u64 ((lb a 2 : Nat) : Int)) ∧ Y.cell? ⟨w.heap.size, 3, none⟩ = some (.int .u64 ((lb a 3 : Nat) : Int)) ∧ Y.cell? ⟨w.heap.size + 1, 0, none⟩ = some (.int .u64 ((lb b 0 : Nat) : Int)) ∧ Y.cell? ⟨w.heap.size + 1, 1, none⟩ = some (.int .u64 ((lb b 1 : Nat) : Int)) ∧ Y.cell? ⟨w.heap.size + 1, 2, none⟩ = some (.int .u64 ((lb b 2 : Nat) : Int)) ∧ Y.cell? ⟨w.heap.size + 1, 3, none⟩ = some (.int .u64 ((lb b 3 : Nat) : Int)) ∧ Below w3.heap.size w3 Y) := fun Y hb => by
      have qa := A1.out.keep hb
      have qb := A2.out.keep hb
      exact ⟨qa.frc0, qa.frc1, qa.frc2, qa.frc3, qb.frc0, qb.frc1, qb.frc2, qb.frc3, hb⟩
    have ca0 := A1.out.frc0
    have ca1 := A1.out.frc1
    have ca2 := A1.out.frc2
    have ca3 := A1.out.frc3
    have cb0 := A2.out.frc0
    have cb1 := A2.out.frc1
    have cb2 := A2.out.frc2
    have cb3 := A2.out.frc3
    go_region_held3 (fun w' => w'.cell? ⟨w.heap.size, 0, none⟩ = some (.int .u64 ((lb a 0 : Nat) : Int)) ∧ w'.cell? ⟨w.heap.size, 1, none⟩ = some (.int .u64 ((lb a 1 : Nat) : Int)) ∧ w'.cell? ⟨w.heap.size, 2, none⟩ = some (.int .u64 ((lb a 2 : Nat) : Int)) ∧ w'.cell? ⟨w.heap.size, 3, none⟩ = some (.int .u64 ((lb a 3 : Nat) : Int)) ∧ w'.cell? ⟨w.heap.size + 1, 0, none⟩ = some (.int .u64 ((lb b 0 : Nat) : Int)) ∧ w'.cell? ⟨w.heap.size + 1, 1, none⟩ = some (.int .u64 ((lb b 1 : Nat) : Int)) ∧ w'.cell? ⟨w.heap.size + 1, 2, none⟩ = some (.int .u64 ((lb b 2 : Nat) : Int)) ∧ w'.cell? ⟨w.heap.size + 1, 3, none⟩ = some (.int .u64 ((lb b 3 : Nat) : Int)) ∧ Below w3.heap.size w3 w')
      ((refine mk _ ?_; (repeat' (first | with_reducible exact HB2.out | with_reducible exact HB1.out | with_reducible exact Below.refl _ _ | with_reducible refine Below.alloc ?_ (by first | with_reducible exact s2 | with_reducible exact s1 | with_reducible exact Nat.le_refl _ | (simp <;> omega)) _ | with_reducible refine Below.setCell ?_ (by first | with_reducible exact s2 | with_reducible exact s1 | with_reducible exact Nat.le_refl _ | (simp <;> omega)) _ | with_reducible refine Below.drew ?_))))
      (first
        | (go_at_call 17; (with_reducible refine (r3Clean_v a _ HA.out x HX.out).mono ?_); rintro e Y1 ⟨rfl, hb1⟩; (try (have za : Arr 24 Y1 (w3.heap.size) (row 4 0) := Arr.keep (by first | exact fr_zero 24 w3.drew | exact (fr_zero 24 w3.drew).alloc _ | fail) hb1; have zac0 := za.frc0; have zac1 := za.frc1; have zac2 := za.frc2; have zac3 := za.frc3; have zacf0 := za.frozen 0; have zacf1 := za.frozen 1; have zacf2 := za.frozen 2; have zacf3 := za.frozen 3; have zal := za.lt; have zaH := Lib.hid za; clear za)); (try (have zb : Arr 24 Y1 (w3.heap.size + 1) (row 4 0) := Arr.keep (by first | exact fr_zero2 24 w3.drew _ | fail) hb1; have zbc0 := zb.frc0; have zbc1 := zb.frc1; have zbc2 := zb.frc2; have zbc3 := zb.frc3; have zbcf0 := zb.frozen 0; have zbcf1 := zb.frozen 1; have zbcf2 := zb.frozen 2; have zbcf3 := zb.frozen 3; have zbl := zb.lt; have zbH := Lib.hid zb; clear zb)); have hb1' : Below w3.heap.size w3 Y1 := below_then (by repeat' (first | with_reducible exact Below.refl _ _ | with_reducible refine Below.alloc ?_ (by first | with_reducible exact s2 | with_reducible exact s1 | with_reducible exact Nat.le_refl _ | (simp <;> omega)) _ | with_reducible refine Below.drew ?_)) hb1; have s1 := hb1'.size; have HB1 := Lib.hid hb1'; clear hb1'; clear hb1)
        | (go_at_call 17; (with_reducible refine (r3Clean_v b _ HB.out y HY.out).mono ?_); rintro e Y2 ⟨rfl, hb2⟩; (try (have ya : Arr 24 Y2 (w3.heap.size) (row 4 0) := Arr.keep (by first | exact zaH.out | exact zaH.out.alloc _ | exact (zaH.out.alloc _).alloc _ | fail) hb2; have yac0 := ya.frc0; have yac1 := ya.frc1; have yac2 := ya.frc2; have yac3 := ya.frc3; have yacf0 := ya.frozen 0; have yacf1 := ya.frozen 1; have yacf2 := ya.frozen 2; have yacf3 := ya.frozen 3; have yal := ya.lt; have yaH := Lib.hid ya; clear ya)); (try (have yb : Arr 24 Y2 (w3.heap.size + 1) (row 4 0) := Arr.keep (by first | exact zbH.out | fail) hb2; have ybc0 := yb.frc0; have ybc1 := yb.frc1; have ybc2 := yb.frc2; have ybc3 := yb.frc3; have ybcf0 := yb.frozen 0; have ybcf1 := yb.frozen 1; have ybcf2 := yb.frozen 2; have ybcf3 := yb.frozen 3; have ybl := yb.lt; have ybH := Lib.hid yb; clear yb)); (try (have yc : Arr 24 Y2 (Y1.heap.size) (row 4 0) := Arr.keep (by first | exact fr_zero 24 Y1 | exact (fr_zero 24 Y1).alloc _ | fail) hb2; have ycc0 := yc.frc0; have ycc1 := yc.frc1; have ycc2 := yc.frc2; have ycc3 := yc.frc3; have yccf0 := yc.frozen 0; have yccf1 := yc.frozen 1; have yccf2 := yc.frozen 2; have yccf3 := yc.frozen 3; have ycl := yc.lt; have ycH := Lib.hid yc; clear yc)); (try (have yd : Arr 24 Y2 (Y1.heap.size + 1) (row 4 0) := Arr.keep (by first | exact fr_zero2 24 Y1 _ | fail) hb2; have ydc0 := yd.frc0; have ydc1 := yd.frc1; have ydc2 := yd.frc2; have ydc3 := yd.frc3; have ydcf0 := yd.frozen 0; have ydcf1 := yd.frozen 1; have ydcf2 := yd.frozen 2; have ydcf3 := yd.frozen 3; have ydl := yd.lt; have ydH := Lib.hid yd; clear yd)); have hb2' : Below w3.heap.size w3 Y2 := below_then (by repeat' (first | with_reducible exact HB1.out | with_reducible refine Below.alloc ?_ (by first | with_reducible exact s2 | with_reducible exact s1 | with_reducible exact Nat.le_refl _ | (simp <;> omega)) _ | with_reducible refine Below.drew ?_)) hb2; have s2 := hb2'.size; have HB2 := Lib.hid hb2'; clear hb2'; (try (have ne1 : w3.heap.size ≠ Y1.heap.size := by omega; have ne2 : Y1.heap.size ≠ w3.heap.size := by omega)); (try (have ne3 : w3.heap.size ≠ Y2.heap.size := by omega; have ne4 : Y2.heap.size ≠ w3.heap.size := by omega)); (try (have ne5 : Y1.heap.size ≠ Y2.heap.size := by omega; have ne6 : Y2.heap.size ≠ Y1.heap.size := by omega)); clear hb2))
    all_goals
      go_wp2_with fail
      go_meet
      refine ⟨_, _, rfl, rfl, ?_, ?_, ?_⟩
      · (repeat' (first | with_reducible exact yaH.out | with_reducible exact ybH.out | with_reducible exact ycH.out | with_reducible exact ydH.out | (with_reducible refine fr_new_at ?_; first | with_reducible rfl | (simp; done)) | with_reducible refine Arr.frstore (v := 0) ?_ _ | with_reducible refine Arr.frother ?_ (by first | with_reducible assumption | exact Nat.ne_of_lt (Nat.lt_succ_self _) | exact Nat.ne_of_gt (Nat.lt_succ_self _) | omega) _ _ _ _ | with_reducible refine Arr.alloc ?_ _))
      · (repeat' (first | with_reducible exact yaH.out | with_reducible exact ybH.out | with_reducible exact ycH.out | with_reducible exact ydH.out | (with_reducible refine fr_new_at ?_; first | with_reducible rfl | (simp; done)) | with_reducible refine Arr.frstore (v := 0) ?_ _ | with_reducible refine Arr.frother ?_ (by first | with_reducible assumption | exact Nat.ne_of_lt (Nat.lt_succ_self _) | exact Nat.ne_of_gt (Nat.lt_succ_self _) | omega) _ _ _ _ | with_reducible refine Arr.alloc ?_ _))
      · (repeat' (first | with_reducible exact HB2.out | with_reducible exact HB1.out | with_reducible exact Below.refl _ _ | with_reducible refine Below.alloc ?_ (by first | with_reducible exact s2 | with_reducible exact s1 | with_reducible exact Nat.le_refl _ | (simp <;> omega)) _ | with_reducible refine Below.setCell ?_ (by first | with_reducible exact s2 | with_reducible exact s1 | with_reducible exact Nat.le_refl _ | (simp <;> omega)) _ | with_reducible refine Below.drew ?_))
  case rest =>
    obtain ⟨g, h, rfl, rfl, o3, o4, ob⟩ := hcut
    have O1 := Lib.hid (A1.out.keep ob)
    have O2 := Lib.hid (A2.out.keep ob)
    have O3 := Lib.hid o3
    have O4 := Lib.hid o4
    have OB := Lib.hid (below_then HB0.out ob)
    clear o3 o4 ob A1 A2 HB0
    go_wp2_with fail
    have mk : ∀ Y : World, Below wc.heap.size wc Y → (Y.cell? ⟨w.heap.size, 0, none⟩ = some (.int .u64 ((lb a 0 : Nat) : Int)) ∧ Y.cell? ⟨w.heap.size, 1, none⟩ = some (.int .u64 ((lb a 1 : Nat) : Int)) ∧ Y.cell? ⟨w.heap.size, 2, none⟩ = some (.int .u64 ((lb a 2 : Nat) : Int)) ∧ Y.cell? ⟨w.heap.size, 3, none⟩ = some (.int .u64 ((lb a 3 : Nat) : Int)) ∧ Y.cell? ⟨w.heap.size + 1, 0, none⟩ = some (.int .u64 ((lb b 0 : Nat) : Int)) ∧ Y.cell? ⟨w.heap.size + 1, 1, none⟩ = some (.int .u64 ((lb b 1 : Nat) : Int)) ∧ Y.cell? ⟨w.heap.size + 1, 2, none⟩ = some (.int .u64 ((lb b 2 : Nat) : Int)) ∧ Y.cell? ⟨w.heap.size + 1, 3, none⟩ = some (.int .u64 ((lb b 3 : Nat) : Int)) ∧ Y.cell? ⟨g, 0, none⟩ = some (.int .u64 ((lb x 0 : Nat) : Int)) ∧ Y.cell? ⟨g, 1, none⟩ = some (.int .u64 ((lb x 1 : Nat) : Int)) ∧ Y.cell? ⟨g, 2, none⟩ = some (.int .u64 ((lb x 2 : Nat) : Int)) ∧ Y.cell? ⟨g, 3, none⟩ = some (.int .u64 ((lb x 3 : Nat) : Int)) ∧ Y.cell? ⟨h, 0, none⟩ = some (.int .u64 ((lb y 0 : Nat) : Int)) ∧ Y.cell? ⟨h, 1, none⟩ = some (.int .u64 ((lb y 1 : Nat) : Int)) ∧ Y.cell? ⟨h, 2, none⟩ = some (.int .u64 ((lb y 2 : Nat) : Int)) ∧ Y.cell? ⟨h, 3, none⟩ = some (.int .u64 ((lb y 3 : Nat) : Int)) ∧ Below wc.heap.size wc Y) := fun Y hb => by
      have qa := O1.out.keep hb
      have qb := O2.out.keep hb
      have qx := O3.out.keep hb
      have qy := O4.out.keep hb
      exact ⟨qa.frc0, qa.frc1, qa.frc2, qa.frc3, qb.frc0, qb.frc1, qb.frc2, qb.frc3, qx.frc0, qx.frc1, qx.frc2, qx.frc3, qy.frc0, qy.frc1, qy.frc2, qy.frc3, hb⟩
    have un : ∀ Y : World, (Y.cell? ⟨w.heap.size, 0, none⟩ = some (.int .u64 ((lb a 0 : Nat) : Int)) ∧ Y.cell? ⟨w.heap.size, 1, none⟩ = some (.int .u64 ((lb a 1 : Nat) : Int)) ∧ Y.cell? ⟨w.heap.size, 2, none⟩ = some (.int .u64 ((lb a 2 : Nat) : Int)) ∧ Y.cell? ⟨w.heap.size, 3, none⟩ = some (.int .u64 ((lb a 3 : Nat) : Int)) ∧ Y.cell? ⟨w.heap.size + 1, 0, none⟩ = some (.int .u64 ((lb b 0 : Nat) : Int)) ∧ Y.cell? ⟨w.heap.size + 1, 1, none⟩ = some (.int .u64 ((lb b 1 : Nat) : Int)) ∧ Y.cell? ⟨w.heap.size + 1, 2, none⟩ = some (.int .u64 ((lb b 2 : Nat) : Int)) ∧ Y.cell? ⟨w.heap.size + 1, 3, none⟩ = some (.int .u64 ((lb b 3 : Nat) : Int)) ∧ Y.cell? ⟨g, 0, none⟩ = some (.int .u64 ((lb x 0 : Nat) : Int)) ∧ Y.cell? ⟨g, 1, none⟩ = some (.int .u64 ((lb x 1 : Nat) : Int)) ∧ Y.cell? ⟨g, 2, none⟩ = some (.int .u64 ((lb x 2 : Nat) : Int)) ∧ Y.cell? ⟨g, 3, none⟩ = some (.int .u64 ((lb x 3 : Nat) : Int)) ∧ Y.cell? ⟨h, 0, none⟩ = some (.int .u64 ((lb y 0 : Nat) : Int)) ∧ Y.cell? ⟨h, 1, none⟩ = some (.int .u64 ((lb y 1 : Nat) : Int)) ∧ Y.cell? ⟨h, 2, none⟩ = some (.int .u64 ((lb y 2 : Nat) : Int)) ∧ Y.cell? ⟨h, 3, none⟩ = some (.int .u64 ((lb y 3 : Nat) : Int)) ∧ Below wc.heap.size wc Y) → Below wc.heap.size wc Y := fun Y h => h.2.2.2.2.2.2.2.2.2.2.2.2.2.2.2.2
    have hS0 := mk _ (Below.refl _ _).drew
    go_region_held3 (fun w' => w'.cell? ⟨w.heap.size, 0, none⟩ = some (.int .u64 ((lb a 0 : Nat) : Int)) ∧ w'.cell? ⟨w.heap.size, 1, none⟩ = some (.int .u64 ((lb a 1 : Nat) : Int)) ∧ w'.cell? ⟨w.heap.size, 2, none⟩ = some (.int .u64 ((lb a 2 : Nat) : Int)) ∧ w'.cell? ⟨w.heap.size, 3, none⟩ = some (.int .u64 ((lb a 3 : Nat) : Int)) ∧ w'.cell? ⟨w.heap.size + 1, 0, none⟩ = some (.int .u64 ((lb b 0 : Nat) : Int)) ∧ w'.cell? ⟨w.heap.size + 1, 1, none⟩ = some (.int .u64 ((lb b 1 : Nat) : Int)) ∧ w'.cell? ⟨w.heap.size + 1, 2, none⟩ = some (.int .u64 ((lb b 2 : Nat) : Int)) ∧ w'.cell? ⟨w.heap.size + 1, 3, none⟩ = some (.int .u64 ((lb b 3 : Nat) : Int)) ∧ w'.cell? ⟨g, 0, none⟩ = some (.int .u64 ((lb x 0 : Nat) : Int)) ∧ w'.cell? ⟨g, 1, none⟩ = some (.int .u64 ((lb x 1 : Nat) : Int)) ∧ w'.cell? ⟨g, 2, none⟩ = some (.int .u64 ((lb x 2 : Nat) : Int)) ∧ w'.cell? ⟨g, 3, none⟩ = some (.int .u64 ((lb x 3 : Nat) : Int)) ∧ w'.cell? ⟨h, 0, none⟩ = some (.int .u64 ((lb y 0 : Nat) : Int)) ∧ w'.cell? ⟨h, 1, none⟩ = some (.int .u64 ((lb y 1 : Nat) : Int)) ∧ w'.cell? ⟨h, 2, none⟩ = some (.int .u64 ((lb y 2 : Nat) : Int)) ∧ w'.cell? ⟨h, 3, none⟩ = some (.int .u64 ((lb y 3 : Nat) : Int)) ∧ Below wc.heap.size wc w')
      (first | with_reducible exact hS7 | with_reducible exact hS6 | with_reducible exact hS5 | with_reducible exact hS4 | with_reducible exact hS3 | with_reducible exact hS2 | with_reducible exact hS1 | with_reducible exact hS0)
      (first
        | (go_at_call 12; ((with_reducible refine (fralive_v _).mono ?_); rintro e y1 ⟨rfl, hb1⟩; have hS1 := mk _ (below_then (un _ (by with_reducible assumption)) hb1); clear hb1))
        | (go_at_call 20; ((with_reducible refine (frAdd_v a b _ HA.out HB.out v HV.out).mono ?_); rintro e y2 ⟨rfl, hb2⟩; have hS2 := mk _ (below_then (un _ (by with_reducible assumption)) hb2); clear hb2))
        | (go_at_call 21; ((with_reducible refine (r3Add_v x y _ (frsum_lt HXM.out HYM.out) v HV2.out).mono ?_); rintro e y3 ⟨rfl, hb3⟩; have hS3 := mk _ (below_then (un _ (by with_reducible assumption)) hb3); clear hb3))
        | (go_at_call 22; ((with_reducible refine (frSub_v a b _ HA.out HB.out u HU.out).mono ?_); rintro e y4 ⟨rfl, hb4⟩; have hS4 := mk _ (below_then (un _ (by with_reducible assumption)) hb4); clear hb4))
        | (go_at_call 23; ((with_reducible refine (r3Sub_v x y _ HXM.out HYM.out u HU2.out).mono ?_); rintro e y5 ⟨rfl, hb5⟩; have hS5 := mk _ (below_then (un _ (by with_reducible assumption)) hb5); clear hb5))
        | (go_at_call 24; ((with_reducible refine (frNeg_v a _ HA.out z HZ.out).mono ?_); rintro e y6 ⟨rfl, hb6⟩; have hS6 := mk _ (below_then (un _ (by with_reducible assumption)) hb6); clear hb6))
        | (go_at_call 25; ((with_reducible refine (r3Neg_v x _ HXM.out z HZ2.out).mono ?_); rintro e y7 ⟨rfl, hb7⟩; have hS7 := mk _ (below_then (un _ (by with_reducible assumption)) hb7); clear hb7)))
    have HBE := Lib.hid (below_then OB.out hS7.2.2.2.2.2.2.2.2.2.2.2.2.2.2.2.2)
    clear mk un hS0 hS1 hS2 hS3 hS4 hS5 hS6 hS7
    go_wp2
    go_ret
    exact ⟨rfl, HBE.out⟩
end Go.Proofs.Ytgihdmhcnifdfaa
