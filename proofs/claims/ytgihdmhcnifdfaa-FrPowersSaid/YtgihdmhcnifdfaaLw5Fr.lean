/- What is proved here: the law FrPowers. -/
import Derived.Test.YtgihdmhcnifdfaaLw1Fr
import Derived.Test.YtgihdmhcnifdfaaPairFr
import Derived.Deep.CutRange
namespace Go.Proofs.Ytgihdmhcnifdfaa
open Go.RowKit

theorem fr_lay_small (t : TypeId) (w : World) (U : Nat) (h : U < 2 ^ 64) : ∃ w', w.alloc (.cells #[.int .u64 (U : Int), .int .u64 0, .int .u64 0, .int .u64 0] t) = w' ∧ Arr t w' w.heap.size (row 4 U) ∧ Below w.heap.size w w' := by
  obtain ⟨w', h1, h2, h3, _⟩ := fr_lay_v t w U
  have e := fr_small h
  rw [Value.agg.injEq] at e
  rw [e] at h1
  exact ⟨w', h1, h2, h3⟩

theorem frpow_self (a : Nat) : a % rN = a ^ rN % rN := by
  rw [Nat.pow_mod, r_self (a % rN) (frM_mod a)]

set_option maxRecDepth 20000 in
set_option maxHeartbeats 4000000 in
theorem frPowers_v (a : Nat) (s t : Int) (w : World) (ha : a < frB) (h0 : 0 ≤ s) (h1 : s ≤ 4294967295) (h2 : 0 ≤ t) (h3 : t ≤ 4294967295) :
    Calls Try.prog 11 #[frV a, .int .u32 s, .int .u32 t] w (Is (.bool true) w) := by
  obtain ⟨S, rfl⟩ := Int.eq_ofNat_of_zero_le h0
  obtain ⟨T, rfl⟩ := Int.eq_ofNat_of_zero_le h2
  have lS : S < 4294967296 := by omega
  have lT : T < 4294967296 := by omega
  obtain ⟨U, hU⟩ : ∃ U, U = S + T := ⟨_, rfl⟩
  obtain ⟨Q, hQ⟩ : ∃ Q, Q = S * T := ⟨_, rfl⟩
  have lU : U < 2 ^ 64 := by omega
  have lQ : Q < 2 ^ 64 := by
    rw [hQ]
    exact Nat.lt_of_le_of_lt (Nat.mul_le_mul (Nat.le_of_lt_succ lS) (Nat.le_of_lt_succ lT)) (by decide)
  have iU : (S : Int) + (T : Int) = (U : Int) := by omega
  have iQ : (S : Int) * (T : Int) = (Q : Int) := by rw [hQ]; exact (Int.natCast_mul S T).symm
  have wU : IntKind.u64.wrap ((S : Int) + (T : Int)) = (U : Int) := by rw [iU, IntKind.wrap_u64]; omega
  have wQ : IntKind.u64.wrap ((S : Int) * (T : Int)) = (Q : Int) := by rw [iQ, IntKind.wrap_u64]; omega
  have w1' : IntKind.u64.wrap (S : Int) = (S : Int) := by rw [IntKind.wrap_u64]; omega
  have w2' : IntKind.u64.wrap (T : Int) = (T : Int) := by rw [IntKind.wrap_u64]; omega
  have bS : S < 2 ^ 64 := by omega
  have bT : T < 2 ^ 64 := by omega
  obtain ⟨w3, hw3, a1, hb0, hsz⟩ := fr_lay_v 24 w a
  have HW := Lib.hid hw3
  have A1 := Lib.hid a1
  have HB0 := Lib.hid hb0
  have l1 : w.heap.size < w3.heap.size := by omega
  have La := Lib.hid ha
  obtain ⟨x, hx⟩ : ∃ x, x = a ^ S % rN := ⟨_, rfl⟩
  obtain ⟨y, hy⟩ : ∃ y, y = a ^ T % rN := ⟨_, rfl⟩
  have Lx := Lib.hid (show x < frB by rw [hx]; exact frM_modB _)
  have Ly := Lib.hid (show y < frB by rw [hy]; exact frM_modB _)
  obtain ⟨p, hp⟩ : ∃ p, p = x * y % rN := ⟨_, rfl⟩
  obtain ⟨k, hk⟩ : ∃ k, k = x ^ T % rN := ⟨_, rfl⟩
  obtain ⟨z, hz⟩ : ∃ z, z = a % rN := ⟨_, rfl⟩
  have C1 := fun W => Lib.hid (frPow_v a S W ha (fr_ltB bS) x hx)
  rw [fr_small bS] at C1
  have C2 := fun W => Lib.hid (frPow_v a T W ha (fr_ltB bT) y hy)
  rw [fr_small bT] at C2
  have C3 := fun W => Lib.hid (frPow_v x T W Lx.out (fr_ltB bT) k hk)
  rw [fr_small bT] at C3
  have C4 := fun W => Lib.hid (frPow_v a 0 W ha (fr_ltB (by decide)) 1 (by rw [Nat.pow_zero]; decide +kernel))
  rw [fr_lit0] at C4
  have C5 := fun W => Lib.hid (frPow_v a U W ha (fr_ltB lU) p (by rw [hp, hx, hy, hU, ← Nat.mul_mod, Nat.pow_add]))
  have C6 := fun W => Lib.hid (frPow_v a Q W ha (fr_ltB lQ) k (by rw [hk, hx, hQ, ← Nat.pow_mod, Nat.pow_mul]))
  have C7 := fun W => Lib.hid (frPow_v a rN W ha frM_lt z (by rw [hz]; exact frpow_self a))
  have Hp := Lib.hid hp
  have Hz := Lib.hid hz
  have e1 := fr_refl p
  have e2 := fr_refl k
  have e3 := fr_refl z
  have e4 := fr_eq1 1 (fr_ltB (by decide)) true (decide_eq_true rfl).symm
  have HlU := Lib.hid lU
  have HlQ := Lib.hid lQ
  clear hw3 a1 hb0 hsz ha hx hy hp hk hz hU hQ iU iQ lU lQ h0 h1 h2 h3 bS bT
  go_enter Try.func11, Try.ntmps11
  go_wp2_with fail
  rw [HW.out]
  clear HW
  go_upto_region 1 with fail
  go_cut [7, 8] from 11 to 20 (fun p q wx => ∃ g h, p = .pointer (some ⟨g, 0, none⟩) ∧ q = .pointer (some ⟨h, 0, none⟩) ∧ Arr 24 wx g (row 4 x) ∧ Arr 24 wx h (row 4 y) ∧ Below w3.heap.size w3 wx)
  case first =>
    clear e1 e2 e3 e4 wU wQ
    have mk : ∀ Y : World, Below w3.heap.size w3 Y → (Y.cell? ⟨w.heap.size, 0, none⟩ = some (.int .u64 ((lb a 0 : Nat) : Int)) ∧ Y.cell? ⟨w.heap.size, 1, none⟩ = some (.int .u64 ((lb a 1 : Nat) : Int)) ∧ Y.cell? ⟨w.heap.size, 2, none⟩ = some (.int .u64 ((lb a 2 : Nat) : Int)) ∧ Y.cell? ⟨w.heap.size, 3, none⟩ = some (.int .u64 ((lb a 3 : Nat) : Int)) ∧ Below w3.heap.size w3 Y) := fun Y hb => by
      have qa := A1.out.keep hb
      exact ⟨qa.frc0, qa.frc1, qa.frc2, qa.frc3, hb⟩
    have ca0 := A1.out.frc0
    have ca1 := A1.out.frc1
    have ca2 := A1.out.frc2
    have ca3 := A1.out.frc3
    go_region_held3 (fun w' => w'.cell? ⟨w.heap.size, 0, none⟩ = some (.int .u64 ((lb a 0 : Nat) : Int)) ∧ w'.cell? ⟨w.heap.size, 1, none⟩ = some (.int .u64 ((lb a 1 : Nat) : Int)) ∧ w'.cell? ⟨w.heap.size, 2, none⟩ = some (.int .u64 ((lb a 2 : Nat) : Int)) ∧ w'.cell? ⟨w.heap.size, 3, none⟩ = some (.int .u64 ((lb a 3 : Nat) : Int)) ∧ Below w3.heap.size w3 w')
      ((refine mk _ ?_; (repeat' (first | with_reducible exact HB2.out | with_reducible exact HB1.out | with_reducible exact Below.refl _ _ | with_reducible refine Below.alloc ?_ (by first | with_reducible exact s2 | with_reducible exact s1 | with_reducible exact Nat.le_refl _ | (simp <;> omega)) _ | with_reducible refine Below.setCell ?_ (by first | with_reducible exact s2 | with_reducible exact s1 | with_reducible exact Nat.le_refl _ | (simp <;> omega)) _ | with_reducible refine Below.drew ?_))))
      (first
        | (go_at_call 30; (with_reducible refine ((C1 _).out).mono ?_); rintro e Y1 ⟨rfl, hb1⟩; (try (have za : Arr 24 Y1 (w3.heap.size) (row 4 0) := Arr.keep (by first | exact fr_zero 24 w3.drew | exact (fr_zero 24 w3.drew).alloc _ | fail) hb1; have zac0 := za.frc0; have zac1 := za.frc1; have zac2 := za.frc2; have zac3 := za.frc3; have zacf0 := za.frozen 0; have zacf1 := za.frozen 1; have zacf2 := za.frozen 2; have zacf3 := za.frozen 3; have zal := za.lt; have zaH := Lib.hid za; clear za)); (try (have zb : Arr 24 Y1 (w3.heap.size + 1) (row 4 0) := Arr.keep (by first | exact fr_zero2 24 w3.drew _ | fail) hb1; have zbc0 := zb.frc0; have zbc1 := zb.frc1; have zbc2 := zb.frc2; have zbc3 := zb.frc3; have zbcf0 := zb.frozen 0; have zbcf1 := zb.frozen 1; have zbcf2 := zb.frozen 2; have zbcf3 := zb.frozen 3; have zbl := zb.lt; have zbH := Lib.hid zb; clear zb)); have hb1' : Below w3.heap.size w3 Y1 := below_then (by repeat' (first | with_reducible exact Below.refl _ _ | with_reducible refine Below.alloc ?_ (by first | with_reducible exact s2 | with_reducible exact s1 | with_reducible exact Nat.le_refl _ | (simp <;> omega)) _ | with_reducible refine Below.drew ?_)) hb1; have s1 := hb1'.size; have HB1 := Lib.hid hb1'; clear hb1'; clear hb1)
        | (go_at_call 30; (with_reducible refine ((C2 _).out).mono ?_); rintro e Y2 ⟨rfl, hb2⟩; (try (have ya : Arr 24 Y2 (w3.heap.size) (row 4 0) := Arr.keep (by first | exact zaH.out | exact zaH.out.alloc _ | exact (zaH.out.alloc _).alloc _ | fail) hb2; have yac0 := ya.frc0; have yac1 := ya.frc1; have yac2 := ya.frc2; have yac3 := ya.frc3; have yacf0 := ya.frozen 0; have yacf1 := ya.frozen 1; have yacf2 := ya.frozen 2; have yacf3 := ya.frozen 3; have yal := ya.lt; have yaH := Lib.hid ya; clear ya)); (try (have yb : Arr 24 Y2 (w3.heap.size + 1) (row 4 0) := Arr.keep (by first | exact zbH.out | fail) hb2; have ybc0 := yb.frc0; have ybc1 := yb.frc1; have ybc2 := yb.frc2; have ybc3 := yb.frc3; have ybcf0 := yb.frozen 0; have ybcf1 := yb.frozen 1; have ybcf2 := yb.frozen 2; have ybcf3 := yb.frozen 3; have ybl := yb.lt; have ybH := Lib.hid yb; clear yb)); (try (have yc : Arr 24 Y2 (Y1.heap.size) (row 4 0) := Arr.keep (by first | exact fr_zero 24 Y1 | exact (fr_zero 24 Y1).alloc _ | fail) hb2; have ycc0 := yc.frc0; have ycc1 := yc.frc1; have ycc2 := yc.frc2; have ycc3 := yc.frc3; have yccf0 := yc.frozen 0; have yccf1 := yc.frozen 1; have yccf2 := yc.frozen 2; have yccf3 := yc.frozen 3; have ycl := yc.lt; have ycH := Lib.hid yc; clear yc)); (try (have yd : Arr 24 Y2 (Y1.heap.size + 1) (row 4 0) := Arr.keep (by first | exact fr_zero2 24 Y1 _ | fail) hb2; have ydc0 := yd.frc0; have ydc1 := yd.frc1; have ydc2 := yd.frc2; have ydc3 := yd.frc3; have ydcf0 := yd.frozen 0; have ydcf1 := yd.frozen 1; have ydcf2 := yd.frozen 2; have ydcf3 := yd.frozen 3; have ydl := yd.lt; have ydH := Lib.hid yd; clear yd)); have hb2' : Below w3.heap.size w3 Y2 := below_then (by repeat' (first | with_reducible exact HB1.out | with_reducible refine Below.alloc ?_ (by first | with_reducible exact s2 | with_reducible exact s1 | with_reducible exact Nat.le_refl _ | (simp <;> omega)) _ | with_reducible refine Below.drew ?_)) hb2; have s2 := hb2'.size; have HB2 := Lib.hid hb2'; clear hb2'; (try (have ne1 : w3.heap.size ≠ Y1.heap.size := by omega; have ne2 : Y1.heap.size ≠ w3.heap.size := by omega)); (try (have ne3 : w3.heap.size ≠ Y2.heap.size := by omega; have ne4 : Y2.heap.size ≠ w3.heap.size := by omega)); (try (have ne5 : Y1.heap.size ≠ Y2.heap.size := by omega; have ne6 : Y2.heap.size ≠ Y1.heap.size := by omega)); clear hb2))
    all_goals
      go_wp2_with fail
      go_meet
      refine ⟨_, _, rfl, rfl, ?_, ?_, ?_⟩
      · (repeat' (first | with_reducible exact yaH.out | with_reducible exact ybH.out | with_reducible exact ycH.out | with_reducible exact ydH.out | (with_reducible refine fr_new_at ?_; first | with_reducible rfl | (simp; done)) | with_reducible refine Arr.frstore (v := 0) ?_ _ | with_reducible refine Arr.frother ?_ (by first | with_reducible assumption | exact Nat.ne_of_lt (Nat.lt_succ_self _) | exact Nat.ne_of_gt (Nat.lt_succ_self _) | omega) _ _ _ _ | with_reducible refine Arr.alloc ?_ _))
      · (repeat' (first | with_reducible exact yaH.out | with_reducible exact ybH.out | with_reducible exact ycH.out | with_reducible exact ydH.out | (with_reducible refine fr_new_at ?_; first | with_reducible rfl | (simp; done)) | with_reducible refine Arr.frstore (v := 0) ?_ _ | with_reducible refine Arr.frother ?_ (by first | with_reducible assumption | exact Nat.ne_of_lt (Nat.lt_succ_self _) | exact Nat.ne_of_gt (Nat.lt_succ_self _) | omega) _ _ _ _ | with_reducible refine Arr.alloc ?_ _))
      · (repeat' (first | with_reducible exact HB2.out | with_reducible exact HB1.out | with_reducible exact Below.refl _ _ | with_reducible refine Below.alloc ?_ (by first | with_reducible exact s2 | with_reducible exact s1 | with_reducible exact Nat.le_refl _ | (simp <;> omega)) _ | with_reducible refine Below.setCell ?_ (by first | with_reducible exact s2 | with_reducible exact s1 | with_reducible exact Nat.le_refl _ | (simp <;> omega)) _ | with_reducible refine Below.drew ?_))
  case rest =>
    obtain ⟨g, h, rfl, rfl, o3, o4, ob⟩ := hcut
    have O1 := Lib.hid (A1.out.keep ob)
    have O3 := Lib.hid o3
    have O4 := Lib.hid o4
    have OB := Lib.hid (below_then HB0.out ob)
    clear o3 o4 ob A1 HB0
    obtain ⟨w5, hw5, o5, hb5⟩ := fr_lay_small 24 wc U HlU.out
    obtain ⟨w6, hw6, o6, hb6⟩ := fr_lay_small 24 w5 Q HlQ.out
    have HW5 := Lib.hid hw5
    have HW6 := Lib.hid hw6
    have hs5 : w5.heap.size = wc.heap.size + 1 := by rw [← hw5]; simp
    have hbb := below_then hb5 hb6
    have P1 := Lib.hid (O1.out.keep hbb)
    have P3 := Lib.hid (O3.out.keep hbb)
    have P4 := Lib.hid (O4.out.keep hbb)
    have P5 := Lib.hid (o5.keep hb6)
    have P6 := Lib.hid (hs5 ▸ o6)
    have PB := Lib.hid (below_then OB.out hbb)
    clear hw5 hw6 o5 o6 hb5 hb6 hbb hs5 O1 O3 O4 OB
    go_wp2_with fail
    rw [HW5.out, HW6.out]
    clear HW5 HW6 wU wQ
    have mk : ∀ Y : World, Below w6.heap.size w6 Y → (Y.cell? ⟨w.heap.size, 0, none⟩ = some (.int .u64 ((lb a 0 : Nat) : Int)) ∧ Y.cell? ⟨w.heap.size, 1, none⟩ = some (.int .u64 ((lb a 1 : Nat) : Int)) ∧ Y.cell? ⟨w.heap.size, 2, none⟩ = some (.int .u64 ((lb a 2 : Nat) : Int)) ∧ Y.cell? ⟨w.heap.size, 3, none⟩ = some (.int .u64 ((lb a 3 : Nat) : Int)) ∧ Y.cell? ⟨g, 0, none⟩ = some (.int .u64 ((lb x 0 : Nat) : Int)) ∧ Y.cell? ⟨g, 1, none⟩ = some (.int .u64 ((lb x 1 : Nat) : Int)) ∧ Y.cell? ⟨g, 2, none⟩ = some (.int .u64 ((lb x 2 : Nat) : Int)) ∧ Y.cell? ⟨g, 3, none⟩ = some (.int .u64 ((lb x 3 : Nat) : Int)) ∧ Y.cell? ⟨h, 0, none⟩ = some (.int .u64 ((lb y 0 : Nat) : Int)) ∧ Y.cell? ⟨h, 1, none⟩ = some (.int .u64 ((lb y 1 : Nat) : Int)) ∧ Y.cell? ⟨h, 2, none⟩ = some (.int .u64 ((lb y 2 : Nat) : Int)) ∧ Y.cell? ⟨h, 3, none⟩ = some (.int .u64 ((lb y 3 : Nat) : Int)) ∧ Y.cell? ⟨wc.heap.size, 0, none⟩ = some (.int .u64 ((lb U 0 : Nat) : Int)) ∧ Y.cell? ⟨wc.heap.size, 1, none⟩ = some (.int .u64 ((lb U 1 : Nat) : Int)) ∧ Y.cell? ⟨wc.heap.size, 2, none⟩ = some (.int .u64 ((lb U 2 : Nat) : Int)) ∧ Y.cell? ⟨wc.heap.size, 3, none⟩ = some (.int .u64 ((lb U 3 : Nat) : Int)) ∧ Y.cell? ⟨wc.heap.size + 1, 0, none⟩ = some (.int .u64 ((lb Q 0 : Nat) : Int)) ∧ Y.cell? ⟨wc.heap.size + 1, 1, none⟩ = some (.int .u64 ((lb Q 1 : Nat) : Int)) ∧ Y.cell? ⟨wc.heap.size + 1, 2, none⟩ = some (.int .u64 ((lb Q 2 : Nat) : Int)) ∧ Y.cell? ⟨wc.heap.size + 1, 3, none⟩ = some (.int .u64 ((lb Q 3 : Nat) : Int)) ∧ Below w6.heap.size w6 Y) := fun Y hb => by
      have qa := P1.out.keep hb
      have qx := P3.out.keep hb
      have qy := P4.out.keep hb
      have qu := P5.out.keep hb
      have qq := P6.out.keep hb
      exact ⟨qa.frc0, qa.frc1, qa.frc2, qa.frc3, qx.frc0, qx.frc1, qx.frc2, qx.frc3, qy.frc0, qy.frc1, qy.frc2, qy.frc3, qu.frc0, qu.frc1, qu.frc2, qu.frc3, qq.frc0, qq.frc1, qq.frc2, qq.frc3, hb⟩
    have un : ∀ Y : World, (Y.cell? ⟨w.heap.size, 0, none⟩ = some (.int .u64 ((lb a 0 : Nat) : Int)) ∧ Y.cell? ⟨w.heap.size, 1, none⟩ = some (.int .u64 ((lb a 1 : Nat) : Int)) ∧ Y.cell? ⟨w.heap.size, 2, none⟩ = some (.int .u64 ((lb a 2 : Nat) : Int)) ∧ Y.cell? ⟨w.heap.size, 3, none⟩ = some (.int .u64 ((lb a 3 : Nat) : Int)) ∧ Y.cell? ⟨g, 0, none⟩ = some (.int .u64 ((lb x 0 : Nat) : Int)) ∧ Y.cell? ⟨g, 1, none⟩ = some (.int .u64 ((lb x 1 : Nat) : Int)) ∧ Y.cell? ⟨g, 2, none⟩ = some (.int .u64 ((lb x 2 : Nat) : Int)) ∧ Y.cell? ⟨g, 3, none⟩ = some (.int .u64 ((lb x 3 : Nat) : Int)) ∧ Y.cell? ⟨h, 0, none⟩ = some (.int .u64 ((lb y 0 : Nat) : Int)) ∧ Y.cell? ⟨h, 1, none⟩ = some (.int .u64 ((lb y 1 : Nat) : Int)) ∧ Y.cell? ⟨h, 2, none⟩ = some (.int .u64 ((lb y 2 : Nat) : Int)) ∧ Y.cell? ⟨h, 3, none⟩ = some (.int .u64 ((lb y 3 : Nat) : Int)) ∧ Y.cell? ⟨wc.heap.size, 0, none⟩ = some (.int .u64 ((lb U 0 : Nat) : Int)) ∧ Y.cell? ⟨wc.heap.size, 1, none⟩ = some (.int .u64 ((lb U 1 : Nat) : Int)) ∧ Y.cell? ⟨wc.heap.size, 2, none⟩ = some (.int .u64 ((lb U 2 : Nat) : Int)) ∧ Y.cell? ⟨wc.heap.size, 3, none⟩ = some (.int .u64 ((lb U 3 : Nat) : Int)) ∧ Y.cell? ⟨wc.heap.size + 1, 0, none⟩ = some (.int .u64 ((lb Q 0 : Nat) : Int)) ∧ Y.cell? ⟨wc.heap.size + 1, 1, none⟩ = some (.int .u64 ((lb Q 1 : Nat) : Int)) ∧ Y.cell? ⟨wc.heap.size + 1, 2, none⟩ = some (.int .u64 ((lb Q 2 : Nat) : Int)) ∧ Y.cell? ⟨wc.heap.size + 1, 3, none⟩ = some (.int .u64 ((lb Q 3 : Nat) : Int)) ∧ Below w6.heap.size w6 Y) → Below w6.heap.size w6 Y := fun Y h => h.2.2.2.2.2.2.2.2.2.2.2.2.2.2.2.2.2.2.2.2
    have hS0 := mk _ (Below.refl _ _).drew
    go_region_held3 (fun w' => w'.cell? ⟨w.heap.size, 0, none⟩ = some (.int .u64 ((lb a 0 : Nat) : Int)) ∧ w'.cell? ⟨w.heap.size, 1, none⟩ = some (.int .u64 ((lb a 1 : Nat) : Int)) ∧ w'.cell? ⟨w.heap.size, 2, none⟩ = some (.int .u64 ((lb a 2 : Nat) : Int)) ∧ w'.cell? ⟨w.heap.size, 3, none⟩ = some (.int .u64 ((lb a 3 : Nat) : Int)) ∧ w'.cell? ⟨g, 0, none⟩ = some (.int .u64 ((lb x 0 : Nat) : Int)) ∧ w'.cell? ⟨g, 1, none⟩ = some (.int .u64 ((lb x 1 : Nat) : Int)) ∧ w'.cell? ⟨g, 2, none⟩ = some (.int .u64 ((lb x 2 : Nat) : Int)) ∧ w'.cell? ⟨g, 3, none⟩ = some (.int .u64 ((lb x 3 : Nat) : Int)) ∧ w'.cell? ⟨h, 0, none⟩ = some (.int .u64 ((lb y 0 : Nat) : Int)) ∧ w'.cell? ⟨h, 1, none⟩ = some (.int .u64 ((lb y 1 : Nat) : Int)) ∧ w'.cell? ⟨h, 2, none⟩ = some (.int .u64 ((lb y 2 : Nat) : Int)) ∧ w'.cell? ⟨h, 3, none⟩ = some (.int .u64 ((lb y 3 : Nat) : Int)) ∧ w'.cell? ⟨wc.heap.size, 0, none⟩ = some (.int .u64 ((lb U 0 : Nat) : Int)) ∧ w'.cell? ⟨wc.heap.size, 1, none⟩ = some (.int .u64 ((lb U 1 : Nat) : Int)) ∧ w'.cell? ⟨wc.heap.size, 2, none⟩ = some (.int .u64 ((lb U 2 : Nat) : Int)) ∧ w'.cell? ⟨wc.heap.size, 3, none⟩ = some (.int .u64 ((lb U 3 : Nat) : Int)) ∧ w'.cell? ⟨wc.heap.size + 1, 0, none⟩ = some (.int .u64 ((lb Q 0 : Nat) : Int)) ∧ w'.cell? ⟨wc.heap.size + 1, 1, none⟩ = some (.int .u64 ((lb Q 1 : Nat) : Int)) ∧ w'.cell? ⟨wc.heap.size + 1, 2, none⟩ = some (.int .u64 ((lb Q 2 : Nat) : Int)) ∧ w'.cell? ⟨wc.heap.size + 1, 3, none⟩ = some (.int .u64 ((lb Q 3 : Nat) : Int)) ∧ Below w6.heap.size w6 w')
      (first | with_reducible exact hS9 | with_reducible exact hS8 | with_reducible exact hS7 | with_reducible exact hS6 | with_reducible exact hS5 | with_reducible exact hS4 | with_reducible exact hS3 | with_reducible exact hS2 | with_reducible exact hS1 | with_reducible exact hS0)
      (first
        | (go_at_call 12; ((with_reducible refine (fralive_v _).mono ?_); rintro e y1 ⟨rfl, hb1⟩; have hS1 := mk _ (below_then (un _ (by with_reducible assumption)) hb1); clear hb1))
        | (go_at_call 26; ((with_reducible refine (frMul_v x y _ Lx.out Ly.out p Hp.out).mono ?_); rintro e y2 ⟨rfl, hb2⟩; have hS2 := mk _ (below_then (un _ (by with_reducible assumption)) hb2); clear hb2))
        | (go_at_call 30; (first | ((with_reducible refine ((C5 _).out).mono ?_); rintro e y3 ⟨rfl, hb3⟩; have hS3 := mk _ (below_then (un _ (by with_reducible assumption)) hb3); clear hb3) | ((with_reducible refine ((C3 _).out).mono ?_); rintro e y4 ⟨rfl, hb4⟩; have hS4 := mk _ (below_then (un _ (by with_reducible assumption)) hb4); clear hb4) | ((with_reducible refine ((C6 _).out).mono ?_); rintro e y5 ⟨rfl, hb5⟩; have hS5 := mk _ (below_then (un _ (by with_reducible assumption)) hb5); clear hb5) | ((with_reducible refine ((C7 _).out).mono ?_); rintro e y7 ⟨rfl, hb7⟩; have hS7 := mk _ (below_then (un _ (by with_reducible assumption)) hb7); clear hb7) | ((with_reducible refine ((C4 _).out).mono ?_); rintro e y9 ⟨rfl, hb9⟩; have hS9 := mk _ (below_then (un _ (by with_reducible assumption)) hb9); clear hb9)))
        | (go_at_call 15; ((with_reducible refine (r3R_v _).mono ?_); rintro e y6 ⟨rfl, hb6⟩; have hS6 := mk _ (below_then (un _ (by with_reducible assumption)) hb6); clear hb6))
        | (go_at_call 16; ((with_reducible refine (frClean_v a _ La.out z Hz.out).mono ?_); rintro e y8 ⟨rfl, hb8⟩; have hS8 := mk _ (below_then (un _ (by with_reducible assumption)) hb8); clear hb8)))
    have HBE := Lib.hid (below_then PB.out hS9.2.2.2.2.2.2.2.2.2.2.2.2.2.2.2.2.2.2.2.2)
    clear mk un hS0 hS1 hS2 hS3 hS4 hS5 hS6 hS7 hS8 hS9
    go_wp2
    go_ret
    exact ⟨rfl, HBE.out⟩
end Go.Proofs.Ytgihdmhcnifdfaa
