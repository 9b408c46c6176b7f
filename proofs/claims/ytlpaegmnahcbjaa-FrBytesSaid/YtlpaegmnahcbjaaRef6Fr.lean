/- What is proved here: the contract of the reference's Get (layer 3). -/
import Derived.Test.YtlpaegmnahcbjaaRef1Fr
import Derived.Test.YtlpaegmnahcbjaaFn7Fr
import Derived.Test.YtlpaegmnahcbjaaRefGet
namespace Go.Proofs.Ytlpaegmnahcbjaa
open Go.RowKit

theorem arr_other {t : TypeId} {w : World} {g b : Nat} {xs : List Nat} (h : Arr t w g xs) (hne : g ≠ b) (i : Nat) (u : Value) : Arr t (w.setCell ⟨b, i, none⟩ u) g xs := by
  unfold Arr
  rw [Below.heap_setCell _ _ _ g hne]
  exact h

set_option maxRecDepth 20000 in
set_option maxHeartbeats 4000000 in
theorem r3Get_v (s : ByteArray) (w : World) (v : Nat) (hv : v = frGotV s) (c : Int) (hc : c = frGotE s) :
    Calls Try.prog 6 #[.string s] w (Is (.tuple #[frV v, .int .i64 c]) w) := by
  by_cases hs : s.size = 32
  · have HS := Lib.hid hs
    have h1 : (s.size : Int) = 32 := by omega
    have HVV := Lib.hid hv
    have HCC := Lib.hid hc
    obtain ⟨w2, hw2, a1, a2, hb0, hsz⟩ := fr_lay_zz 24 w
    have HW := Lib.hid hw2
    have A1 := Lib.hid a1
    have A2 := Lib.hid a2
    have HB0 := Lib.hid hb0
    clear hs hw2 a1 a2 hb0 hv hc
    go_enter Try.func6, Try.ntmps6
    go_wp2
    rw [HW.out]
    clear HW
    go_loopw [5, 6] (fun i _ wr => ∃ (k : Nat) (us : List Nat), k ≤ 32 ∧ i = .int .i64 (k : Nat) ∧ GettingB (bl s) 4 k us ∧ Arr 24 wr (w.heap.size + 1) us ∧ Arr 24 wr w.heap.size (row 4 0) ∧ Below w.heap.size w wr) (fun i _ _ => 32 - (intOf i).toNat)
    case atStart => exact ⟨0, row 4 0, Nat.zero_le _, rfl, by have h := GettingB.start (bl s) 4; rwa [← row_zero] at h, A2.out, A1.out, HB0.out⟩
    case round =>
      clear A1 A2 HB0
      obtain ⟨k, us, hk, rfl, hG, ho, hr, hbl⟩ := hrel
      by_cases hlt : k < 32
      · have hlt2 : k < s.size := by have := HS.out; omega
        obtain ⟨p, hp⟩ : ∃ p : Nat, p + 1 + k = 8 * 4 := ⟨8 * 4 - 1 - k, by omega⟩
        have hpi : 31 - (k : Int) = (p : Int) := by omega
        have HP := Lib.hid hp
        obtain ⟨g1, g2⟩ := hG.step hp (by rw [length_bl]; exact HS.out) (bl_take s k hlt2)
        have A1 := Lib.hid (add_byte (lm us (p / 8)) s[k].toNat (8 * (p % 8)) g1 (UInt8.toNat_lt _))
        have G2 := Lib.hid g2
        have hcell := ho.cell (i := p / 8) (by rw [hG.len]; omega)
        have hfr := ho.frozen (p / 8)
        have hpm : (p : Int) / 8 < 4 := by omega
        have HO := Lib.hid ho
        have HR := Lib.hid (arr_other hr (Nat.ne_of_lt (Nat.lt_succ_self w.heap.size)) (p / 8))
        have HB := Lib.hid hbl
        clear ho hr hbl hG g1 g2 hp
        go_wp2
        clear hpi
        go_region
        go_wp2
        go_roundw
        case rel => exact ⟨k + 1, _, by omega, by go_num, G2.out, by rw [A1.out]; exact HO.out.set _ _, HR.out _, (HB.out.setCell (Nat.le_succ _) _).drew⟩
        case measure => simp [intOf]; omega
      · obtain rfl : k = 32 := by omega
        have hvl : val us = bval (bl s) := by
          have e := hG.num
          rw [Nat.sub_self, Nat.pow_zero, Nat.mul_one, List.take_of_length_le (by rw [length_bl, HS.out]; decide)] at e
          exact e
        have hrow := row_val hG.small
        rw [hG.len, hvl] at hrow
        rw [← hrow] at ho
        have HVB := Lib.hid (frGot_bytes HS.out)
        have HV2 := HVV.out
        have HC2 := HCC.out
        rw [frGotV] at HV2
        rw [frGotE, if_pos HS.out] at HC2
        clear hG hvl hrow HVV HCC
        generalize bval (bl s) = V at *
        have c0 : wr.drew.cell? ⟨w.heap.size + 1, 0, none⟩ = _ := ho.frc0
        have c1 : wr.drew.cell? ⟨w.heap.size + 1, 1, none⟩ = _ := ho.frc1
        have c2 : wr.drew.cell? ⟨w.heap.size + 1, 2, none⟩ = _ := ho.frc2
        have c3 : wr.drew.cell? ⟨w.heap.size + 1, 3, none⟩ = _ := ho.frc3
        have HO := Lib.hid ho
        have HR := Lib.hid hr
        have HB := Lib.hid hbl
        clear ho hr hbl hk hlt
        by_cases hlt : V < rN
        · have HL := Lib.hid (show true = decide (V < rN) from (decide_eq_true hlt).symm)
          have HE := Lib.hid (show v = V by rw [HV2, if_pos ⟨HS.out, hlt⟩])
          have HC := Lib.hid (show c = 0 by rw [HC2, if_pos hlt])
          clear hlt HV2 HC2
          go_wp2_with fail
          go_region_with (first
            | (go_at_call 18; refine (r3R_v _).mono ?_; rintro e Y1 ⟨rfl, hb1⟩; have hb1' : Below wr.heap.size wr Y1 := (Below.refl wr.heap.size wr).drew.trans hb1; have k0 := (HO.out.keep hb1').frc0; have k1 := (HO.out.keep hb1').frc1; have k2 := (HO.out.keep hb1').frc2; have k3 := (HO.out.keep hb1').frc3; have HB1 := Lib.hid hb1'; clear hb1 hb1')
            | (go_at_call 17; refine (r3Less_v V rN _ HVB.out frM_lt true HL.out).mono ?_; rintro e Y2 ⟨rfl, hb2⟩; have hb2' : Below wr.heap.size wr Y2 := below_then HB1.out hb2; have l0 := (HO.out.keep hb2').frc0; have l1 := (HO.out.keep hb2').frc1; have l2 := (HO.out.keep hb2').frc2; have l3 := (HO.out.keep hb2').frc3; have z0 := (HR.out.keep hb2').frc0; have z1 := (HR.out.keep hb2').frc1; have z2 := (HR.out.keep hb2').frc2; have z3 := (HR.out.keep hb2').frc3; have q0 := (HR.out.keep hb2').frozen 0; have q1 := (HR.out.keep hb2').frozen 1; have q2 := (HR.out.keep hb2').frozen 2; have q3 := (HR.out.keep hb2').frozen 3; have HB3 := Lib.hid (below_then HB.out hb2'); clear hb2 hb2'))
          all_goals
            go_wp2
            refine bodyPost_ret (v := .tuple #[frV V, .int .i64 0]) (by simp [results, Try.results6, go_sem, z0, z1, z2, z3]) rfl ⟨by rw [HE.out, HC.out], ?_⟩
            exact fr_below HB3.out (Nat.le_refl _) _ _ _ _
        · have HL := Lib.hid (show false = decide (V < rN) from (decide_eq_false hlt).symm)
          have HE := Lib.hid (show frV v = .agg #[.int .u64 0, .int .u64 0, .int .u64 0, .int .u64 0] by rw [HV2, if_neg (fun h => hlt h.2)]; exact fr_lit0)
          have HC := Lib.hid (show c = 20 by rw [HC2, if_neg hlt])
          clear hlt HV2 HC2
          go_wp2_with fail
          go_region_with (first
            | (go_at_call 18; refine (r3R_v _).mono ?_; rintro e Y1 ⟨rfl, hb1⟩; have hb1' : Below wr.heap.size wr Y1 := (Below.refl wr.heap.size wr).drew.trans hb1; have k0 := (HO.out.keep hb1').frc0; have k1 := (HO.out.keep hb1').frc1; have k2 := (HO.out.keep hb1').frc2; have k3 := (HO.out.keep hb1').frc3; have HB1 := Lib.hid hb1'; clear hb1 hb1')
            | (go_at_call 17; refine (r3Less_v V rN _ HVB.out frM_lt false HL.out).mono ?_; rintro e Y2 ⟨rfl, hb2⟩; have hb2' : Below wr.heap.size wr Y2 := below_then HB1.out hb2; have l0 := (HO.out.keep hb2').frc0; have l1 := (HO.out.keep hb2').frc1; have l2 := (HO.out.keep hb2').frc2; have l3 := (HO.out.keep hb2').frc3; have z0 := (HR.out.keep hb2').frc0; have z1 := (HR.out.keep hb2').frc1; have z2 := (HR.out.keep hb2').frc2; have z3 := (HR.out.keep hb2').frc3; have q0 := (HR.out.keep hb2').frozen 0; have q1 := (HR.out.keep hb2').frozen 1; have q2 := (HR.out.keep hb2').frozen 2; have q3 := (HR.out.keep hb2').frozen 3; have HB3 := Lib.hid (below_then HB.out hb2'); clear hb2 hb2'))
          all_goals
            go_wp2
            refine bodyPost_ret (v := .tuple #[.agg #[.int .u64 0, .int .u64 0, .int .u64 0, .int .u64 0], .int .i64 20]) (by simp [results, Try.results6, go_sem, z0, z1, z2, z3]) rfl ⟨by rw [HE.out, HC.out], ?_⟩
            exact fr_below HB3.out (Nat.le_refl _) _ _ _ _
  · have e8 : ((s.size : Int) != 32) = true := by simp; omega
    have HE := Lib.hid (show frV v = .agg #[.int .u64 0, .int .u64 0, .int .u64 0, .int .u64 0] by rw [hv, frGotV, if_neg (fun h => hs h.1)]; exact fr_lit0)
    have HC := Lib.hid (show c = 3 by rw [hc, frGotE, if_neg hs])
    have hb := Lib.hid (below_alloc w (.cells #[.int .u64 0, .int .u64 0, .int .u64 0, .int .u64 0] 24))
    clear hv hc hs
    go_enter Try.func6, Try.ntmps6
    go_wp2
    refine bodyPost_ret (v := .tuple #[.agg #[.int .u64 0, .int .u64 0, .int .u64 0, .int .u64 0], .int .i64 3]) (by simp [results, Try.results6, go_sem]) rfl ⟨by rw [HE.out, HC.out], ?_⟩
    exact hb.out
end Go.Proofs.Ytlpaegmnahcbjaa
