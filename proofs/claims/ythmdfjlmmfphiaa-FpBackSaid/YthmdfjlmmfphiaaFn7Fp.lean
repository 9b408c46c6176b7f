/- What is proved here: the contract of fp.Get. -/
import Derived.Test.YthmdfjlmmfphiaaFn1Fp
import Derived.Test.YthmdfjlmmfphiaaGet
import Derived.Test.YthmdfjlmmfphiaaPut
namespace Go.Proofs.Ythmdfjlmmfphiaa
open Go.RowKit

/-- What bytes are read as. -/
def fpGotV (s : ByteArray) : Nat := if s.size = 48 ∧ bval (bl s) < pN then bval (bl s) else 0
/-- Why they are refused. -/
def fpGotE (s : ByteArray) : Int := if s.size = 48 then (if bval (bl s) < pN then 0 else 20) else 3

theorem fpGot_lt (s : ByteArray) : fpGotV s < pN := by
  unfold fpGotV
  split
  · next h => exact h.2
  · exact fpM_pos

theorem fpGot_bytes {s : ByteArray} (h : s.size = 48) : bval (bl s) < fpB := by
  have := bval_lt (bl s)
  rw [length_bl, h] at this
  exact Nat.lt_of_lt_of_le this (by decide +kernel)

set_option maxRecDepth 20000 in
set_option maxHeartbeats 4000000 in
theorem fpGet_v (s : ByteArray) (w : World) (v : Nat) (hv : v = fpGotV s) (c : Int) (hc : c = fpGotE s) :
    Calls Try.prog 36 #[.string s] w (Is (.tuple #[fpV v, .int .i64 c]) w) := by
  by_cases hs : s.size = 48
  · have h1 : (s.size : Int) = 48 := by omega
    have e8 : ((s.size : Int) != 48) = false := by simp [h1]
    obtain ⟨V, hV⟩ : ∃ V, V = bval (bl s) := ⟨_, rfl⟩
    have HVB := Lib.hid (show V < fpB by rw [hV]; exact fpGot_bytes hs)
    obtain ⟨w1, hw1, z1, hb1, hs1⟩ := fp_lay_z 24 w
    have HW := Lib.hid hw1
    have Z1 := Lib.hid z1
    have HB1 := Lib.hid hb1
    have HR : Hid (∀ r : Bool, r = decide (V < pN) → v = (if r then V else 0) ∧ c = if r then 0 else 20) := (fun r hr => by
      rw [hv, hc, fpGotV, fpGotE, if_pos hs, ← hV]
      by_cases h : V < pN
      · rw [if_pos ⟨hs, h⟩, if_pos h, hr, decide_eq_true h]; exact ⟨rfl, rfl⟩
      · rw [if_neg (fun q => h q.2), if_neg h, hr, decide_eq_false h]; exact ⟨rfl, rfl⟩)
    have HG := fun W => Lib.hid (get_any s 6 W hs (by decide))
    rw [← hV] at HG
    clear hw1 z1 hb1 hv hc h1 hV hs hs1
    go_enter Try.func36, Try.ntmps36
    go_wp2_with fail
    rw [HW.out]
    refine (HG _).out.mono ?_
    rintro e w2 ⟨g, rfl, ho, hg, hb2⟩
    have V2 := Lib.hid ho.vrow
    have Z2 := Lib.hid (Z1.out.keep hb2)
    have HB2 := Lib.hid (below_then HB1.out hb2)
    clear ho hg hb2 HW HG
    go_wp2_with fail
    refine (fpnumber_v _ 6 6 V _ rfl V2.out).mono ?_
    rintro e w4 ⟨rfl, hb4⟩
    obtain ⟨w5, hw5, o5, hb5, hs5⟩ := fp_lay_v 24 w4 V
    have HW5 := Lib.hid hw5
    have O5 := Lib.hid o5
    have hbb := below_then hb4 hb5
    have Z5 := Lib.hid (Z2.out.keep hbb)
    have HB5 := Lib.hid (below_then HB2.out hbb)
    clear hw5 o5 hb4 hb5 hs5 hbb
    go_wp2_with fail
    rw [HW5.out]
    clear HW5
    obtain ⟨r, hr⟩ : ∃ r, r = decide (V < pN) := ⟨_, rfl⟩
    obtain ⟨hv2, hc2⟩ := HR.out r hr
    refine (fpRight_v V _ HVB.out r hr).mono ?_
    rintro e w6 ⟨rfl, hb6⟩
    have O6 := Lib.hid (O5.out.keep hb6)
    have Z6 := Lib.hid (Z5.out.keep hb6)
    have HB6 := Lib.hid (below_then HB5.out hb6)
    clear hr hb6 O5 Z5 HB5 HR
    cases r
    · have HE := Lib.hid (show fpV v = .agg #[.int .u64 0, .int .u64 0, .int .u64 0, .int .u64 0, .int .u64 0, .int .u64 0] by rw [hv2]; exact fp_lit0)
      have HC := Lib.hid (show c = 20 from hc2)
      clear hv2 hc2 O6
      have ZE := Z6.out
      have m0 := ZE.fpc0
      have m1 := ZE.fpc1
      have m2 := ZE.fpc2
      have m3 := ZE.fpc3
      have m4 := ZE.fpc4
      have m5 := ZE.fpc5
      have q0 := ZE.frozen 0
      have q1 := ZE.frozen 1
      have q2 := ZE.frozen 2
      have q3 := ZE.frozen 3
      have q4 := ZE.frozen 4
      have q5 := ZE.frozen 5
      clear ZE
      go_wp2
      refine bodyPost_ret (v := .tuple #[.agg #[.int .u64 0, .int .u64 0, .int .u64 0, .int .u64 0, .int .u64 0, .int .u64 0], .int .i64 20]) (by simp [results, Try.results36, go_sem, m0, m1, m2, m3, m4, m5]) rfl ⟨by rw [HE.out, HC.out], ?_⟩
      exact fp_below HB6.out (by omega) _ _ _ _ _ _
    · have HE := Lib.hid (show v = V from hv2)
      have HC := Lib.hid (show c = 0 from hc2)
      have o6 := O6.out
      have c0 := o6.fpc0
      have c1 := o6.fpc1
      have c2 := o6.fpc2
      have c3 := o6.fpc3
      have c4 := o6.fpc4
      have c5 := o6.fpc5
      clear hv2 hc2 O6 o6
      have ZE := Z6.out
      have m0 := ZE.fpc0
      have m1 := ZE.fpc1
      have m2 := ZE.fpc2
      have m3 := ZE.fpc3
      have m4 := ZE.fpc4
      have m5 := ZE.fpc5
      have q0 := ZE.frozen 0
      have q1 := ZE.frozen 1
      have q2 := ZE.frozen 2
      have q3 := ZE.frozen 3
      have q4 := ZE.frozen 4
      have q5 := ZE.frozen 5
      clear ZE
      go_wp2
      refine bodyPost_ret (v := .tuple #[fpV V, .int .i64 0]) (by simp [results, Try.results36, go_sem, m0, m1, m2, m3, m4, m5]) rfl ⟨by rw [HE.out, HC.out], ?_⟩
      exact fp_below HB6.out (by omega) _ _ _ _ _ _
  · have e8 : ((s.size : Int) != 48) = true := by simp; omega
    have HE := Lib.hid (show fpV v = .agg #[.int .u64 0, .int .u64 0, .int .u64 0, .int .u64 0, .int .u64 0, .int .u64 0] by rw [hv, fpGotV, if_neg (fun h => hs h.1)]; exact fp_lit0)
    have HC := Lib.hid (show c = 3 by rw [hc, fpGotE, if_neg hs])
    have hb := Lib.hid (below_alloc w (.cells #[.int .u64 0, .int .u64 0, .int .u64 0, .int .u64 0, .int .u64 0, .int .u64 0] 24))
    clear hv hc hs
    go_enter Try.func36, Try.ntmps36
    go_wp2
    refine bodyPost_ret (v := .tuple #[.agg #[.int .u64 0, .int .u64 0, .int .u64 0, .int .u64 0, .int .u64 0, .int .u64 0], .int .i64 3]) (by simp [results, Try.results36, go_sem]) rfl ⟨by rw [HE.out, HC.out], ?_⟩
    exact hb.out
end Go.Proofs.Ythmdfjlmmfphiaa
