/- What is proved here: the law FpBack. -/
import Derived.Test.YthmdfjlmmfphiaaLw1Fp
import Derived.Test.YthmdfjlmmfphiaaFn7Fp
import Derived.BigGuard
import Derived.Deep.RegionHeld3
namespace Go.Proofs.Ythmdfjlmmfphiaa
open Go.RowKit

attribute [local go_sem] undef

theorem fpback_bl (x : Nat) : bl ⟨(be 48 x).toArray⟩ = be 48 x := by simp [bl]

theorem fpback_size (x : Nat) : (⟨(be 48 x).toArray⟩ : ByteArray).size = 48 := by
  rw [← length_bl, fpback_bl, length_be]

theorem fpback_val {x : Nat} (h : x < pN) : bval (bl ⟨(be 48 x).toArray⟩) = x := by
  rw [fpback_bl, bval_be, Nat.mod_eq_of_lt (Nat.lt_of_lt_of_le h (by decide +kernel))]

theorem fpback_V {x : Nat} (h : x < pN) : x = fpGotV ⟨(be 48 x).toArray⟩ := by
  rw [fpGotV, fpback_val h, if_pos ⟨fpback_size x, h⟩]

theorem fpback_E {x : Nat} (h : x < pN) : 0 = fpGotE ⟨(be 48 x).toArray⟩ := by
  rw [fpGotE, if_pos (fpback_size x), fpback_val h, if_pos h]

theorem fpback_ok {s : ByteArray} (h : fpGotE s = 0) : s.size = 48 ∧ bval (bl s) < pN ∧ fpGotV s = bval (bl s) := by
  unfold fpGotE at h
  by_cases h1 : s.size = 48
  · rw [if_pos h1] at h
    by_cases h2 : bval (bl s) < pN
    · exact ⟨h1, h2, by rw [fpGotV, if_pos ⟨h1, h2⟩]⟩
    · rw [if_neg h2] at h; cases h
  · rw [if_neg h1] at h; cases h

theorem fpback_put {s : ByteArray} (h : fpGotE s = 0) : (⟨(be 48 (fpGotV s % pN)).toArray⟩ : ByteArray) = s := by
  obtain ⟨h1, h2, h3⟩ := fpback_ok h
  rw [h3, Nat.mod_eq_of_lt h2]
  have e := be_bval (bl s)
  rw [length_bl, h1] at e
  rw [e]
  cases s
  simp [bl]

set_option maxRecDepth 20000 in
set_option maxHeartbeats 4000000 in
theorem fpBack_v (a : Nat) (s : ByteArray) (w : World) (ha : a < fpB) (_hs : s.size ≤ maxLen) :
    Calls Try.prog 11 #[fpV a, .string s] w (Is (.bool true) w) := by
  obtain ⟨w1, hw1, a1, hb0, hsz⟩ := fp_lay_v 24 w a
  have HW := Lib.hid hw1
  have A1 := Lib.hid a1
  have HB0 := Lib.hid hb0
  have La := Lib.hid ha
  obtain ⟨z, hz⟩ : ∃ z, z = a % pN := ⟨_, rfl⟩
  have hzM : z < pN := by rw [hz]; exact fpM_mod a
  obtain ⟨x, hx⟩ : ∃ x : ByteArray, x = ⟨(be 48 z).toArray⟩ := ⟨_, rfl⟩
  have HP : Hid (∀ W, Calls Try.prog 38 #[fpV a] W (Is (.string x) W)) := (fun W => by rw [hx, hz]; exact fpPut_v a W ha)
  have HG : Hid (∀ W, Calls Try.prog 36 #[.string x] W (Is (.tuple #[fpV z, .int .i64 0]) W)) := (fun W => fpGet_v x W z (by rw [hx]; exact fpback_V hzM) 0 (by rw [hx]; exact fpback_E hzM))
  obtain ⟨v, hv⟩ : ∃ v, v = fpGotV s := ⟨_, rfl⟩
  obtain ⟨c, hc⟩ : ∃ c, c = fpGotE s := ⟨_, rfl⟩
  have HG2 : Hid (∀ W, Calls Try.prog 36 #[.string s] W (Is (.tuple #[fpV v, .int .i64 c]) W)) := (fun W => fpGet_v s W v hv c hc)
  have LvM := Lib.hid (show v < pN by rw [hv]; exact fpGot_lt s)
  have Lv := Lib.hid (Nat.lt_trans LvM.out fpM_lt)
  have HPv : Hid (c = 0 → ∀ W, Calls Try.prog 38 #[fpV v] W (Is (.string s) W)) := (fun h W => by
    have hp := fpPut_v v W (Nat.lt_trans (by rw [hv]; exact fpGot_lt s) fpM_lt)
    unfold MakesT at hp
    rw [hv, fpback_put (hc ▸ h)] at hp
    rw [hv]
    exact hp)
  have Hr := Lib.hid (show true = decide (v < pN) from (decide_eq_true LvM.out).symm)
  have Hz := Lib.hid hz
  have e1 := fp_refl z
  clear hw1 a1 hb0 hsz ha hz hzM hx hv hc
  go_enter Try.func11, Try.ntmps11
  go_wp2_with fail
  rw [HW.out]
  clear HW
  refine (HP.out _).mono ?_
  rintro e w2 ⟨rfl, hb2⟩
  have B1 := Lib.hid (A1.out.keep hb2)
  have BB := Lib.hid (below_then HB0.out hb2)
  clear hb2 A1 HB0
  go_wp2_with fail
  refine (HG.out _).mono ?_
  rintro e w3 ⟨rfl, hb3⟩
  obtain ⟨w4, hw4, o4, hb4, _⟩ := fp_lay_v 24 w3 z
  have HW4 := Lib.hid hw4
  have hbb := below_then hb3 hb4
  have C1 := Lib.hid (B1.out.keep hbb)
  have C2 := Lib.hid o4
  have CB := Lib.hid (below_then BB.out hbb)
  clear hw4 o4 hb3 hb4 hbb B1 BB HP HG
  go_wp2_with fail
  rw [HW4.out]
  clear HW4
  refine (HG2.out _).mono ?_
  rintro e w5 ⟨rfl, hb5⟩
  obtain ⟨w6, hw6, o6, hb6, _⟩ := fp_lay_v 24 w5 v
  have HW6 := Lib.hid hw6
  have hbb := below_then hb5 hb6
  have D1 := Lib.hid (C1.out.keep hbb)
  have D2 := Lib.hid (C2.out.keep hbb)
  have D3 := Lib.hid o6
  have DB := Lib.hid (below_then CB.out hbb)
  clear hw6 o6 hb5 hb6 hbb C1 C2 CB HG2
  go_wp2_with fail
  rw [HW6.out]
  clear HW6
  by_cases h0 : c = 0
  · have HPs := Lib.hid (HPv.out h0)
    clear HPv
    subst h0
    have mk : ∀ Y : World, Below w6.heap.size w6 Y → (Y.cell? ⟨w.heap.size, 0, none⟩ = some (.int .u64 ((lb a 0 : Nat) : Int)) ∧ Y.cell? ⟨w.heap.size, 1, none⟩ = some (.int .u64 ((lb a 1 : Nat) : Int)) ∧ Y.cell? ⟨w.heap.size, 2, none⟩ = some (.int .u64 ((lb a 2 : Nat) : Int)) ∧ Y.cell? ⟨w.heap.size, 3, none⟩ = some (.int .u64 ((lb a 3 : Nat) : Int)) ∧ Y.cell? ⟨w.heap.size, 4, none⟩ = some (.int .u64 ((lb a 4 : Nat) : Int)) ∧ Y.cell? ⟨w.heap.size, 5, none⟩ = some (.int .u64 ((lb a 5 : Nat) : Int)) ∧ Y.cell? ⟨w3.heap.size, 0, none⟩ = some (.int .u64 ((lb z 0 : Nat) : Int)) ∧ Y.cell? ⟨w3.heap.size, 1, none⟩ = some (.int .u64 ((lb z 1 : Nat) : Int)) ∧ Y.cell? ⟨w3.heap.size, 2, none⟩ = some (.int .u64 ((lb z 2 : Nat) : Int)) ∧ Y.cell? ⟨w3.heap.size, 3, none⟩ = some (.int .u64 ((lb z 3 : Nat) : Int)) ∧ Y.cell? ⟨w3.heap.size, 4, none⟩ = some (.int .u64 ((lb z 4 : Nat) : Int)) ∧ Y.cell? ⟨w3.heap.size, 5, none⟩ = some (.int .u64 ((lb z 5 : Nat) : Int)) ∧ Y.cell? ⟨w5.heap.size, 0, none⟩ = some (.int .u64 ((lb v 0 : Nat) : Int)) ∧ Y.cell? ⟨w5.heap.size, 1, none⟩ = some (.int .u64 ((lb v 1 : Nat) : Int)) ∧ Y.cell? ⟨w5.heap.size, 2, none⟩ = some (.int .u64 ((lb v 2 : Nat) : Int)) ∧ Y.cell? ⟨w5.heap.size, 3, none⟩ = some (.int .u64 ((lb v 3 : Nat) : Int)) ∧ Y.cell? ⟨w5.heap.size, 4, none⟩ = some (.int .u64 ((lb v 4 : Nat) : Int)) ∧ Y.cell? ⟨w5.heap.size, 5, none⟩ = some (.int .u64 ((lb v 5 : Nat) : Int)) ∧ Below w6.heap.size w6 Y) := fun Y hb => by
      have qa := D1.out.keep hb
      have qz := D2.out.keep hb
      have qv := D3.out.keep hb
      exact ⟨qa.fpc0, qa.fpc1, qa.fpc2, qa.fpc3, qa.fpc4, qa.fpc5, qz.fpc0, qz.fpc1, qz.fpc2, qz.fpc3, qz.fpc4, qz.fpc5, qv.fpc0, qv.fpc1, qv.fpc2, qv.fpc3, qv.fpc4, qv.fpc5, hb⟩
    have un : ∀ Y : World, (Y.cell? ⟨w.heap.size, 0, none⟩ = some (.int .u64 ((lb a 0 : Nat) : Int)) ∧ Y.cell? ⟨w.heap.size, 1, none⟩ = some (.int .u64 ((lb a 1 : Nat) : Int)) ∧ Y.cell? ⟨w.heap.size, 2, none⟩ = some (.int .u64 ((lb a 2 : Nat) : Int)) ∧ Y.cell? ⟨w.heap.size, 3, none⟩ = some (.int .u64 ((lb a 3 : Nat) : Int)) ∧ Y.cell? ⟨w.heap.size, 4, none⟩ = some (.int .u64 ((lb a 4 : Nat) : Int)) ∧ Y.cell? ⟨w.heap.size, 5, none⟩ = some (.int .u64 ((lb a 5 : Nat) : Int)) ∧ Y.cell? ⟨w3.heap.size, 0, none⟩ = some (.int .u64 ((lb z 0 : Nat) : Int)) ∧ Y.cell? ⟨w3.heap.size, 1, none⟩ = some (.int .u64 ((lb z 1 : Nat) : Int)) ∧ Y.cell? ⟨w3.heap.size, 2, none⟩ = some (.int .u64 ((lb z 2 : Nat) : Int)) ∧ Y.cell? ⟨w3.heap.size, 3, none⟩ = some (.int .u64 ((lb z 3 : Nat) : Int)) ∧ Y.cell? ⟨w3.heap.size, 4, none⟩ = some (.int .u64 ((lb z 4 : Nat) : Int)) ∧ Y.cell? ⟨w3.heap.size, 5, none⟩ = some (.int .u64 ((lb z 5 : Nat) : Int)) ∧ Y.cell? ⟨w5.heap.size, 0, none⟩ = some (.int .u64 ((lb v 0 : Nat) : Int)) ∧ Y.cell? ⟨w5.heap.size, 1, none⟩ = some (.int .u64 ((lb v 1 : Nat) : Int)) ∧ Y.cell? ⟨w5.heap.size, 2, none⟩ = some (.int .u64 ((lb v 2 : Nat) : Int)) ∧ Y.cell? ⟨w5.heap.size, 3, none⟩ = some (.int .u64 ((lb v 3 : Nat) : Int)) ∧ Y.cell? ⟨w5.heap.size, 4, none⟩ = some (.int .u64 ((lb v 4 : Nat) : Int)) ∧ Y.cell? ⟨w5.heap.size, 5, none⟩ = some (.int .u64 ((lb v 5 : Nat) : Int)) ∧ Below w6.heap.size w6 Y) → Below w6.heap.size w6 Y := fun Y h => h.2.2.2.2.2.2.2.2.2.2.2.2.2.2.2.2.2.2
    have hS0 := mk _ (Below.refl _ _).drew
    go_region_held3 (fun w' => w'.cell? ⟨w.heap.size, 0, none⟩ = some (.int .u64 ((lb a 0 : Nat) : Int)) ∧ w'.cell? ⟨w.heap.size, 1, none⟩ = some (.int .u64 ((lb a 1 : Nat) : Int)) ∧ w'.cell? ⟨w.heap.size, 2, none⟩ = some (.int .u64 ((lb a 2 : Nat) : Int)) ∧ w'.cell? ⟨w.heap.size, 3, none⟩ = some (.int .u64 ((lb a 3 : Nat) : Int)) ∧ w'.cell? ⟨w.heap.size, 4, none⟩ = some (.int .u64 ((lb a 4 : Nat) : Int)) ∧ w'.cell? ⟨w.heap.size, 5, none⟩ = some (.int .u64 ((lb a 5 : Nat) : Int)) ∧ w'.cell? ⟨w3.heap.size, 0, none⟩ = some (.int .u64 ((lb z 0 : Nat) : Int)) ∧ w'.cell? ⟨w3.heap.size, 1, none⟩ = some (.int .u64 ((lb z 1 : Nat) : Int)) ∧ w'.cell? ⟨w3.heap.size, 2, none⟩ = some (.int .u64 ((lb z 2 : Nat) : Int)) ∧ w'.cell? ⟨w3.heap.size, 3, none⟩ = some (.int .u64 ((lb z 3 : Nat) : Int)) ∧ w'.cell? ⟨w3.heap.size, 4, none⟩ = some (.int .u64 ((lb z 4 : Nat) : Int)) ∧ w'.cell? ⟨w3.heap.size, 5, none⟩ = some (.int .u64 ((lb z 5 : Nat) : Int)) ∧ w'.cell? ⟨w5.heap.size, 0, none⟩ = some (.int .u64 ((lb v 0 : Nat) : Int)) ∧ w'.cell? ⟨w5.heap.size, 1, none⟩ = some (.int .u64 ((lb v 1 : Nat) : Int)) ∧ w'.cell? ⟨w5.heap.size, 2, none⟩ = some (.int .u64 ((lb v 2 : Nat) : Int)) ∧ w'.cell? ⟨w5.heap.size, 3, none⟩ = some (.int .u64 ((lb v 3 : Nat) : Int)) ∧ w'.cell? ⟨w5.heap.size, 4, none⟩ = some (.int .u64 ((lb v 4 : Nat) : Int)) ∧ w'.cell? ⟨w5.heap.size, 5, none⟩ = some (.int .u64 ((lb v 5 : Nat) : Int)) ∧ Below w6.heap.size w6 w')
      (first | with_reducible exact hS4 | with_reducible exact hS3 | with_reducible exact hS2 | with_reducible exact hS1 | with_reducible exact hS0)
      (first
        | (go_at_call 12; ((with_reducible refine (fpalive_v _).mono ?_); rintro e y1 ⟨rfl, hb1⟩; have hS1 := mk _ (below_then (un _ (by with_reducible assumption)) hb1); clear hb1))
        | (go_at_call 16; ((with_reducible refine (fpClean_v a _ La.out z Hz.out).mono ?_); rintro e y2 ⟨rfl, hb2⟩; have hS2 := mk _ (below_then (un _ (by with_reducible assumption)) hb2); clear hb2))
        | (go_at_call 38; ((with_reducible refine (HPs.out _).mono ?_); rintro e y3 ⟨rfl, hb3⟩; have hS3 := mk _ (below_then (un _ (by with_reducible assumption)) hb3); clear hb3))
        | (go_at_call 13; ((with_reducible refine (fpRight_v v _ Lv.out true Hr.out).mono ?_); rintro e y4 ⟨rfl, hb4⟩; have hS4 := mk _ (below_then (un _ (by with_reducible assumption)) hb4); clear hb4)))
    have HBE := Lib.hid (below_then DB.out hS4.2.2.2.2.2.2.2.2.2.2.2.2.2.2.2.2.2.2)
    clear mk un hS0 hS1 hS2 hS3 hS4
    go_wp2
    go_ret
    exact ⟨rfl, HBE.out⟩
  · have hcb : (c != 0) = true := by simp [h0]
    clear HPv h0
    first | go_region_with (first
      | (go_at_call 12; refine (fpalive_v _).mono ?_; rintro e y1 ⟨rfl, hb1⟩; have hb1' : Below w6.heap.size w6 y1 := (Below.refl w6.heap.size w6).drew.trans hb1; have k0 := (D1.out.keep hb1').fpc0; have k1 := (D1.out.keep hb1').fpc1; have k2 := (D1.out.keep hb1').fpc2; have k3 := (D1.out.keep hb1').fpc3; have k4 := (D1.out.keep hb1').fpc4; have k5 := (D1.out.keep hb1').fpc5; have l0 := (D2.out.keep hb1').fpc0; have l1 := (D2.out.keep hb1').fpc1; have l2 := (D2.out.keep hb1').fpc2; have l3 := (D2.out.keep hb1').fpc3; have l4 := (D2.out.keep hb1').fpc4; have l5 := (D2.out.keep hb1').fpc5; have HB1 := Lib.hid hb1'; clear hb1 hb1')
      | (go_at_call 16; refine (fpClean_v a _ La.out z Hz.out).mono ?_; rintro e y2 ⟨rfl, hb2⟩; have hb2' := below_then HB1.out hb2; have m0 := (D2.out.keep hb2').fpc0; have m1 := (D2.out.keep hb2').fpc1; have m2 := (D2.out.keep hb2').fpc2; have m3 := (D2.out.keep hb2').fpc3; have m4 := (D2.out.keep hb2').fpc4; have m5 := (D2.out.keep hb2').fpc5; have HB2 := Lib.hid (below_then DB.out hb2'); clear hb2 hb2')) | fail
    all_goals
      go_wp2
      go_ret
      exact ⟨rfl, HB2.out⟩
end Go.Proofs.Ythmdfjlmmfphiaa
