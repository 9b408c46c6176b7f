/- What is proved here: the contract of fr.Get. -/
import Derived.Test.YtlpaegmnahcbjaaFn1Fr
import Derived.Test.YtlpaegmnahcbjaaGet
import Derived.Test.YtlpaegmnahcbjaaPut
namespace Go.Proofs.Ytlpaegmnahcbjaa
open Go.RowKit

/-- What bytes are read as. -/
def frGotV (s : ByteArray) : Nat := if s.size = 32 ∧ bval (bl s) < rN then bval (bl s) else 0
/-- Why they are refused. -/
def frGotE (s : ByteArray) : Int := if s.size = 32 then (if bval (bl s) < rN then 0 else 20) else 3

theorem frGot_lt (s : ByteArray) : frGotV s < rN := by
  unfold frGotV
  split
  · next h => exact h.2
  · exact frM_pos

theorem frGot_bytes {s : ByteArray} (h : s.size = 32) : bval (bl s) < frB := by
  have := bval_lt (bl s)
  rw [length_bl, h] at this
  exact Nat.lt_of_lt_of_le this (by decide +kernel)

set_option maxRecDepth 20000 in
set_option maxHeartbeats 4000000 in
theorem frread_v (s : ByteArray) (w : World) (hs : s.size = 32) (v : Nat) (hv : v = bval (bl s)) : Calls Try.prog 15 #[.string s] w (Is (frV v) w) := by
  obtain ⟨w1, hw1, z1, hb1, _⟩ := fr_lay_z 24 w
  have HW := Lib.hid hw1
  have Z1 := Lib.hid z1
  have HB1 := Lib.hid hb1
  have HG := fun W => Lib.hid (get_any s 4 W hs (by decide))
  rw [← hv] at HG
  clear hw1 z1 hb1 hv
  go_enter Try.func15, Try.ntmps15
  go_wp2_with fail
  rw [HW.out]
  refine (HG _).out.mono ?_
  rintro e w2 ⟨g, rfl, ho, hg, hb2⟩
  have V2 := Lib.hid ho.vrow
  have Z2 := Lib.hid (Z1.out.keep hb2)
  have HB2 := Lib.hid (below_then HB1.out hb2)
  clear ho hg hb2 HW HG
  go_wp2_with fail
  refine (frnumber_v _ 4 4 v _ rfl V2.out).mono ?_
  rintro e w3 ⟨rfl, hb3⟩
  have ZE := Z2.out.keep hb3
  have m0 := ZE.frc0
  have m1 := ZE.frc1
  have m2 := ZE.frc2
  have m3 := ZE.frc3
  have q0 := ZE.frozen 0
  have q1 := ZE.frozen 1
  have q2 := ZE.frozen 2
  have q3 := ZE.frozen 3
  have HBE := Lib.hid (below_then HB2.out hb3)
  clear hb3 ZE
  go_wp2
  refine bodyPost_ret (v := frV v) (by simp [results, Try.results15, go_sem, m0, m1, m2, m3]) rfl ⟨rfl, ?_⟩
  exact fr_below HBE.out (by omega) _ _ _ _

set_option maxRecDepth 20000 in
set_option maxHeartbeats 4000000 in
theorem frGet_v (s : ByteArray) (w : World) (v : Nat) (hv : v = frGotV s) (c : Int) (hc : c = frGotE s) :
    Calls Try.prog 5 #[.string s] w (Is (.tuple #[frV v, .int .i64 c]) w) := by
  by_cases hs : s.size = 32
  · have h1 : (s.size : Int) = 32 := by omega
    have e8 : ((s.size : Int) != 32) = false := by simp [h1]
    obtain ⟨V, hV⟩ : ∃ V, V = bval (bl s) := ⟨_, rfl⟩
    have HVB := Lib.hid (show V < frB by rw [hV]; exact frGot_bytes hs)
    obtain ⟨w1, hw1, z1, hb1, hs1⟩ := fr_lay_z 24 w
    have HW := Lib.hid hw1
    have Z1 := Lib.hid z1
    have HB1 := Lib.hid hb1
    have HR : Hid (∀ r : Bool, r = decide (V < rN) → v = (if r then V else 0) ∧ c = if r then 0 else 20) := (fun r hr => by
      rw [hv, hc, frGotV, frGotE, if_pos hs, ← hV]
      by_cases h : V < rN
      · rw [if_pos ⟨hs, h⟩, if_pos h, hr, decide_eq_true h]; exact ⟨rfl, rfl⟩
      · rw [if_neg (fun q => h q.2), if_neg h, hr, decide_eq_false h]; exact ⟨rfl, rfl⟩)
    have HG := fun W => Lib.hid (frread_v s W hs V hV)
    clear hw1 z1 hb1 hv hc h1 hV hs hs1
    go_enter Try.func5, Try.ntmps5
    go_wp2_with fail
    rw [HW.out]
    refine (HG _).out.mono ?_
    rintro e w4 ⟨rfl, hb4⟩
    have Z2 := Z1
    have HB2 := HB1
    obtain ⟨w5, hw5, o5, hb5, hs5⟩ := fr_lay_v 24 w4 V
    have HW5 := Lib.hid hw5
    have O5 := Lib.hid o5
    have hbb := below_then hb4 hb5
    have Z5 := Lib.hid (Z2.out.keep hbb)
    have HB5 := Lib.hid (below_then HB2.out hbb)
    clear hw5 o5 hb4 hb5 hs5 hbb
    go_wp2_with fail
    rw [HW5.out]
    clear HW5
    obtain ⟨r, hr⟩ : ∃ r, r = decide (V < rN) := ⟨_, rfl⟩
    obtain ⟨hv2, hc2⟩ := HR.out r hr
    refine (frRight_v V _ HVB.out r hr).mono ?_
    rintro e w6 ⟨rfl, hb6⟩
    have O6 := Lib.hid (O5.out.keep hb6)
    have Z6 := Lib.hid (Z5.out.keep hb6)
    have HB6 := Lib.hid (below_then HB5.out hb6)
    clear hr hb6 O5 Z5 HB5 HR
    cases r
    · have HE := Lib.hid (show frV v = .agg #[.int .u64 0, .int .u64 0, .int .u64 0, .int .u64 0] by rw [hv2]; exact fr_lit0)
      have HC := Lib.hid (show c = 20 from hc2)
      clear hv2 hc2 O6
      have ZE := Z6.out
      have m0 := ZE.frc0
      have m1 := ZE.frc1
      have m2 := ZE.frc2
      have m3 := ZE.frc3
      have q0 := ZE.frozen 0
      have q1 := ZE.frozen 1
      have q2 := ZE.frozen 2
      have q3 := ZE.frozen 3
      clear ZE
      go_wp2
      refine bodyPost_ret (v := .tuple #[.agg #[.int .u64 0, .int .u64 0, .int .u64 0, .int .u64 0], .int .i64 20]) (by simp [results, Try.results5, go_sem, m0, m1, m2, m3]) rfl ⟨by rw [HE.out, HC.out], ?_⟩
      exact fr_below HB6.out (by omega) _ _ _ _
    · have HE := Lib.hid (show v = V from hv2)
      have HC := Lib.hid (show c = 0 from hc2)
      have o6 := O6.out
      have c0 := o6.frc0
      have c1 := o6.frc1
      have c2 := o6.frc2
      have c3 := o6.frc3
      clear hv2 hc2 O6 o6
      have ZE := Z6.out
      have m0 := ZE.frc0
      have m1 := ZE.frc1
      have m2 := ZE.frc2
      have m3 := ZE.frc3
      have q0 := ZE.frozen 0
      have q1 := ZE.frozen 1
      have q2 := ZE.frozen 2
      have q3 := ZE.frozen 3
      clear ZE
      go_wp2
      refine bodyPost_ret (v := .tuple #[frV V, .int .i64 0]) (by simp [results, Try.results5, go_sem, m0, m1, m2, m3]) rfl ⟨by rw [HE.out, HC.out], ?_⟩
      exact fr_below HB6.out (by omega) _ _ _ _
  · have e8 : ((s.size : Int) != 32) = true := by simp; omega
    have HE := Lib.hid (show frV v = .agg #[.int .u64 0, .int .u64 0, .int .u64 0, .int .u64 0] by rw [hv, frGotV, if_neg (fun h => hs h.1)]; exact fr_lit0)
    have HC := Lib.hid (show c = 3 by rw [hc, frGotE, if_neg hs])
    have hb := Lib.hid (below_alloc w (.cells #[.int .u64 0, .int .u64 0, .int .u64 0, .int .u64 0] 24))
    clear hv hc hs
    go_enter Try.func5, Try.ntmps5
    go_wp2
    refine bodyPost_ret (v := .tuple #[.agg #[.int .u64 0, .int .u64 0, .int .u64 0, .int .u64 0], .int .i64 3]) (by simp [results, Try.results5, go_sem]) rfl ⟨by rw [HE.out, HC.out], ?_⟩
    exact hb.out
end Go.Proofs.Ytlpaegmnahcbjaa
