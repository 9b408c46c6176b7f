/- What is proved here: the law FpBytes. -/
import Derived.Test.YthmdfjlmmfphiaaLw1Fp
import Derived.Test.YthmdfjlmmfphiaaFn7Fp
import Derived.Test.YthmdfjlmmfphiaaRef5Fp
import Derived.Test.YthmdfjlmmfphiaaRef6Fp
namespace Go.Proofs.Ythmdfjlmmfphiaa
open Go.RowKit

set_option maxRecDepth 20000 in
set_option maxHeartbeats 4000000 in
theorem fpBytes_v (a : Nat) (s : ByteArray) (w : World) (ha : a < fpB) (_hs : s.size ≤ maxLen) :
    Calls Try.prog 8 #[fpV a, .string s] w (Is (.bool true) w) := by
  obtain ⟨w1, hw1, a1, hb0, hsz⟩ := fp_lay_v 24 w a
  have HW := Lib.hid hw1
  have A1 := Lib.hid a1
  have HB0 := Lib.hid hb0
  have La := Lib.hid ha
  obtain ⟨z, hz⟩ : ∃ z, z = a % pN := ⟨_, rfl⟩
  have hzB : z < fpB := by rw [hz]; exact fpM_modB a
  obtain ⟨x, hx⟩ : ∃ x : ByteArray, x = ⟨(be 48 z).toArray⟩ := ⟨_, rfl⟩
  have HP : Hid (∀ W, Calls Try.prog 38 #[fpV a] W (Is (.string x) W)) := (fun W => by rw [hx, hz]; exact fpPut_v a W ha)
  have HP2 : Hid (∀ W, Calls Try.prog 39 #[fpV z] W (Is (.string x) W)) := (fun W => by rw [hx]; exact r4Put_v z W hzB)
  obtain ⟨v, hv⟩ : ∃ v, v = fpGotV s := ⟨_, rfl⟩
  obtain ⟨c, hc⟩ : ∃ c, c = fpGotE s := ⟨_, rfl⟩
  have HG1 : Hid (∀ W, Calls Try.prog 36 #[.string s] W (Is (.tuple #[fpV v, .int .i64 c]) W)) := (fun W => fpGet_v s W v hv c hc)
  have HG2 : Hid (∀ W, Calls Try.prog 37 #[.string s] W (Is (.tuple #[fpV v, .int .i64 c]) W)) := (fun W => r4Get_v s W v hv c hc)
  have Hz := Lib.hid hz
  have e1 := fp_refl v
  clear hw1 a1 hb0 hsz ha hz hzB hx hv hc
  go_enter Try.func8, Try.ntmps8
  go_wp2_with fail
  rw [HW.out]
  clear HW
  refine (HG1.out _).mono ?_
  rintro e w3 ⟨rfl, hb3⟩
  obtain ⟨w4, hw4, o4, hb4, _⟩ := fp_lay_v 24 w3 v
  have HW4 := Lib.hid hw4
  have hbb := below_then hb3 hb4
  have C1 := Lib.hid (A1.out.keep hbb)
  have C2 := Lib.hid o4
  have CB := Lib.hid (below_then HB0.out hbb)
  clear hw4 o4 hb3 hb4 hbb A1 HB0 HG1
  go_wp2_with fail
  rw [HW4.out]
  clear HW4
  refine (HG2.out _).mono ?_
  rintro e w5 ⟨rfl, hb5⟩
  obtain ⟨w6, hw6, o6, hb6, _⟩ := fp_lay_v 24 w5 v
  have HW6 := Lib.hid hw6
  have hbb := below_then hb5 hb6
  have D1 := Lib.hid (C1.out.keep hbb)
  have D2 := Lib.hid (C2.out.keep hbb)
  have D3 := Lib.hid o6
  have DB := Lib.hid (below_then CB.out hbb)
  clear hw6 o6 hb5 hb6 hbb C1 C2 CB HG2
  go_wp2_with fail
  rw [HW6.out]
  clear HW6
  have mk : ∀ Y : World, Below w6.heap.size w6 Y → (Y.cell? ⟨w.heap.size, 0, none⟩ = some (.int .u64 ((lb a 0 : Nat) : Int)) ∧ Y.cell? ⟨w.heap.size, 1, none⟩ = some (.int .u64 ((lb a 1 : Nat) : Int)) ∧ Y.cell? ⟨w.heap.size, 2, none⟩ = some (.int .u64 ((lb a 2 : Nat) : Int)) ∧ Y.cell? ⟨w.heap.size, 3, none⟩ = some (.int .u64 ((lb a 3 : Nat) : Int)) ∧ Y.cell? ⟨w.heap.size, 4, none⟩ = some (.int .u64 ((lb a 4 : Nat) : Int)) ∧ Y.cell? ⟨w.heap.size, 5, none⟩ = some (.int .u64 ((lb a 5 : Nat) : Int)) ∧ Y.cell? ⟨w3.heap.size, 0, none⟩ = some (.int .u64 ((lb v 0 : Nat) : Int)) ∧ Y.cell? ⟨w3.heap.size, 1, none⟩ = some (.int .u64 ((lb v 1 : Nat) : Int)) ∧ Y.cell? ⟨w3.heap.size, 2, none⟩ = some (.int .u64 ((lb v 2 : Nat) : Int)) ∧ Y.cell? ⟨w3.heap.size, 3, none⟩ = some (.int .u64 ((lb v 3 : Nat) : Int)) ∧ Y.cell? ⟨w3.heap.size, 4, none⟩ = some (.int .u64 ((lb v 4 : Nat) : Int)) ∧ Y.cell? ⟨w3.heap.size, 5, none⟩ = some (.int .u64 ((lb v 5 : Nat) : Int)) ∧ Y.cell? ⟨w5.heap.size, 0, none⟩ = some (.int .u64 ((lb v 0 : Nat) : Int)) ∧ Y.cell? ⟨w5.heap.size, 1, none⟩ = some (.int .u64 ((lb v 1 : Nat) : Int)) ∧ Y.cell? ⟨w5.heap.size, 2, none⟩ = some (.int .u64 ((lb v 2 : Nat) : Int)) ∧ Y.cell? ⟨w5.heap.size, 3, none⟩ = some (.int .u64 ((lb v 3 : Nat) : Int)) ∧ Y.cell? ⟨w5.heap.size, 4, none⟩ = some (.int .u64 ((lb v 4 : Nat) : Int)) ∧ Y.cell? ⟨w5.heap.size, 5, none⟩ = some (.int .u64 ((lb v 5 : Nat) : Int)) ∧ Below w6.heap.size w6 Y) := fun Y hb => by
    have qa := D1.out.keep hb
    have qz := D2.out.keep hb
    have qv := D3.out.keep hb
    exact ⟨qa.fpc0, qa.fpc1, qa.fpc2, qa.fpc3, qa.fpc4, qa.fpc5, qz.fpc0, qz.fpc1, qz.fpc2, qz.fpc3, qz.fpc4, qz.fpc5, qv.fpc0, qv.fpc1, qv.fpc2, qv.fpc3, qv.fpc4, qv.fpc5, hb⟩
  have un : ∀ Y : World, (Y.cell? ⟨w.heap.size, 0, none⟩ = some (.int .u64 ((lb a 0 : Nat) : Int)) ∧ Y.cell? ⟨w.heap.size, 1, none⟩ = some (.int .u64 ((lb a 1 : Nat) : Int)) ∧ Y.cell? ⟨w.heap.size, 2, none⟩ = some (.int .u64 ((lb a 2 : Nat) : Int)) ∧ Y.cell? ⟨w.heap.size, 3, none⟩ = some (.int .u64 ((lb a 3 : Nat) : Int)) ∧ Y.cell? ⟨w.heap.size, 4, none⟩ = some (.int .u64 ((lb a 4 : Nat) : Int)) ∧ Y.cell? ⟨w.heap.size, 5, none⟩ = some (.int .u64 ((lb a 5 : Nat) : Int)) ∧ Y.cell? ⟨w3.heap.size, 0, none⟩ = some (.int .u64 ((lb v 0 : Nat) : Int)) ∧ Y.cell? ⟨w3.heap.size, 1, none⟩ = some (.int .u64 ((lb v 1 : Nat) : Int)) ∧ Y.cell? ⟨w3.heap.size, 2, none⟩ = some (.int .u64 ((lb v 2 : Nat) : Int)) ∧ Y.cell? ⟨w3.heap.size, 3, none⟩ = some (.int .u64 ((lb v 3 : Nat) : Int)) ∧ Y.cell? ⟨w3.heap.size, 4, none⟩ = some (.int .u64 ((lb v 4 : Nat) : Int)) ∧ Y.cell? ⟨w3.heap.size, 5, none⟩ = some (.int .u64 ((lb v 5 : Nat) : Int)) ∧ Y.cell? ⟨w5.heap.size, 0, none⟩ = some (.int .u64 ((lb v 0 : Nat) : Int)) ∧ Y.cell? ⟨w5.heap.size, 1, none⟩ = some (.int .u64 ((lb v 1 : Nat) : Int)) ∧ Y.cell? ⟨w5.heap.size, 2, none⟩ = some (.int .u64 ((lb v 2 : Nat) : Int)) ∧ Y.cell? ⟨w5.heap.size, 3, none⟩ = some (.int .u64 ((lb v 3 : Nat) : Int)) ∧ Y.cell? ⟨w5.heap.size, 4, none⟩ = some (.int .u64 ((lb v 4 : Nat) : Int)) ∧ Y.cell? ⟨w5.heap.size, 5, none⟩ = some (.int .u64 ((lb v 5 : Nat) : Int)) ∧ Below w6.heap.size w6 Y) → Below w6.heap.size w6 Y := fun Y h => h.2.2.2.2.2.2.2.2.2.2.2.2.2.2.2.2.2.2
  have hS0 := mk _ (Below.refl _ _).drew
  go_region_held3 (fun w' => w'.cell? ⟨w.heap.size, 0, none⟩ = some (.int .u64 ((lb a 0 : Nat) : Int)) ∧ w'.cell? ⟨w.heap.size, 1, none⟩ = some (.int .u64 ((lb a 1 : Nat) : Int)) ∧ w'.cell? ⟨w.heap.size, 2, none⟩ = some (.int .u64 ((lb a 2 : Nat) : Int)) ∧ w'.cell? ⟨w.heap.size, 3, none⟩ = some (.int .u64 ((lb a 3 : Nat) : Int)) ∧ w'.cell? ⟨w.heap.size, 4, none⟩ = some (.int .u64 ((lb a 4 : Nat) : Int)) ∧ w'.cell? ⟨w.heap.size, 5, none⟩ = some (.int .u64 ((lb a 5 : Nat) : Int)) ∧ w'.cell? ⟨w3.heap.size, 0, none⟩ = some (.int .u64 ((lb v 0 : Nat) : Int)) ∧ w'.cell? ⟨w3.heap.size, 1, none⟩ = some (.int .u64 ((lb v 1 : Nat) : Int)) ∧ w'.cell? ⟨w3.heap.size, 2, none⟩ = some (.int .u64 ((lb v 2 : Nat) : Int)) ∧ w'.cell? ⟨w3.heap.size, 3, none⟩ = some (.int .u64 ((lb v 3 : Nat) : Int)) ∧ w'.cell? ⟨w3.heap.size, 4, none⟩ = some (.int .u64 ((lb v 4 : Nat) : Int)) ∧ w'.cell? ⟨w3.heap.size, 5, none⟩ = some (.int .u64 ((lb v 5 : Nat) : Int)) ∧ w'.cell? ⟨w5.heap.size, 0, none⟩ = some (.int .u64 ((lb v 0 : Nat) : Int)) ∧ w'.cell? ⟨w5.heap.size, 1, none⟩ = some (.int .u64 ((lb v 1 : Nat) : Int)) ∧ w'.cell? ⟨w5.heap.size, 2, none⟩ = some (.int .u64 ((lb v 2 : Nat) : Int)) ∧ w'.cell? ⟨w5.heap.size, 3, none⟩ = some (.int .u64 ((lb v 3 : Nat) : Int)) ∧ w'.cell? ⟨w5.heap.size, 4, none⟩ = some (.int .u64 ((lb v 4 : Nat) : Int)) ∧ w'.cell? ⟨w5.heap.size, 5, none⟩ = some (.int .u64 ((lb v 5 : Nat) : Int)) ∧ Below w6.heap.size w6 w')
    (first | with_reducible exact hS4 | with_reducible exact hS3 | with_reducible exact hS2 | with_reducible exact hS1 | with_reducible exact hS0)
    (first
      | (go_at_call 12; ((with_reducible refine (fpalive_v _).mono ?_); rintro e y1 ⟨rfl, hb1⟩; have hS1 := mk _ (below_then (un _ (by with_reducible assumption)) hb1); clear hb1))
      | (go_at_call 38; ((with_reducible refine (HP.out _).mono ?_); rintro e y2 ⟨rfl, hb2⟩; have hS2 := mk _ (below_then (un _ (by with_reducible assumption)) hb2); clear hb2))
      | (go_at_call 17; ((with_reducible refine (r4Clean_v a _ La.out z Hz.out).mono ?_); rintro e y3 ⟨rfl, hb3⟩; have hS3 := mk _ (below_then (un _ (by with_reducible assumption)) hb3); clear hb3))
      | (go_at_call 39; ((with_reducible refine (HP2.out _).mono ?_); rintro e y4 ⟨rfl, hb4⟩; have hS4 := mk _ (below_then (un _ (by with_reducible assumption)) hb4); clear hb4)))
  have HBE := Lib.hid (below_then DB.out hS4.2.2.2.2.2.2.2.2.2.2.2.2.2.2.2.2.2.2)
  clear mk un hS0 hS1 hS2 hS3 hS4
  go_wp2
  go_ret
  exact ⟨rfl, HBE.out⟩
end Go.Proofs.Ythmdfjlmmfphiaa
