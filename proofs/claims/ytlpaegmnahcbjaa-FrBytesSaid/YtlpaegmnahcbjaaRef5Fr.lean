/- What is proved here: contracts of the reference's Put and Get (layer 3). -/
import Derived.Test.YtlpaegmnahcbjaaRef1Fr
import Derived.Test.YtlpaegmnahcbjaaFn7Fr
import Derived.Test.YtlpaegmnahcbjaaRefGet
import Derived.Test.YtlpaegmnahcbjaaPut
namespace Go.Proofs.Ytlpaegmnahcbjaa
open Go.RowKit

set_option maxRecDepth 20000 in
set_option maxHeartbeats 4000000 in
theorem r3Put_v (a : Nat) (w : World) (ha : a < frB) :
    Calls Try.prog 9 #[frV a] w (MakesT (be 32 a) w) := by
  obtain ⟨w1, hw1, a1, hb1, hs1⟩ := fr_lay_v 24 w a
  have HW := Lib.hid hw1
  have A1 := Lib.hid a1
  have HB1 := Lib.hid hb1
  have hbe : be 32 a = be 32 (val (row 4 a)) := by rw [frval ha]
  rw [hbe]
  have hx := small_row 4 a
  have hln := length_row 4 a
  clear hw1 a1 hb1 ha hbe
  go_enter Try.func9, Try.ntmps9
  have HO0 := Lib.hid (ownBS_empty w1 w1.heap.size (Nat.le_refl _))
  have HB0 := Lib.hid (below_alloc w1 (.cells #[] 5))
  go_wp2
  simp only [HW.out]
  rw [← hs1]
  clear HW
  generalize row 4 a = zs at *
  have HX := Lib.hid hx
  have HLN := Lib.hid hln
  clear hx hln
  go_loopw [3, 4] (fun u i wr => ∃ k : Nat, k ≤ 32 ∧ i = .int .i64 ((k : Int) - 1) ∧ OwnBS wr w1.heap.size u (be (32 - k) (val zs / 256 ^ (32 - (32 - k)))) ∧ Below w1.heap.size w1 wr) (fun _ i _ => ((intOf i) + 1).toNat)
  case atStart => exact ⟨32, Nat.le_refl _, by go_num, by rw [Nat.sub_self]; exact HO0.out, HB0.out⟩
  case round =>
    clear HO0 HB0
    obtain ⟨k, hk, rfl, ho, hbl⟩ := hrel
    by_cases hlt : 1 ≤ k
    · obtain ⟨q, rfl⟩ : ∃ q, k = q + 1 := ⟨k - 1, by omega⟩
      have S := Lib.hid (be_step (val zs) 32 (32 - (q + 1)) (by omega))
      have a2 := A1.out.keep hbl
      have hc := a2.cell (i := q / 8) (by rw [HLN.out]; omega)
      have hx := lm_lt HX.out (q / 8)
      have X := Lib.hid (lm_val HX.out (q / 8))
      have hsz := hbl.size
      have hq4 : (q : Int) / 8 < 4 := by omega
      have HO := Lib.hid ho
      have HB := Lib.hid hbl
      have HH := Lib.hid hs1
      clear ho hbl a2 hs1
      have Y := Lib.hid (ref_byte (lm zs (q / 8)) (8 * (q % 8)))
      have HY : Hid (0 ≤ ((lm zs (q / 8) : Int) / 2 ^ (8 * (q % 8))).tmod 256 % 256 ∧ ((lm zs (q / 8) : Int) / 2 ^ (8 * (q % 8))).tmod 256 % 256 < 256) :=
        ⟨Int.emod_nonneg _ (by decide), Int.emod_lt_of_pos _ (by decide)⟩
      go_wp2_with (at_builtin; refine wpList_append_byte _ rfl (.tmp 10) (.tmp 22) rfl w1.heap.size _ _ rfl _ HO.out rfl HY.out (by rw [length_be]; omega) (by omega) ?_; intro v' w' ho' hb')
      have HO' : Hid (OwnBS w' w1.heap.size v' (be (32 - q) (val zs / 256 ^ (32 - (32 - q))))) := by
        have h := ho'
        have s1 := S.out
        rw [show 32 - 1 - (32 - (q + 1)) = q by omega, show 32 - (q + 1) + 1 = 32 - q by omega] at s1
        rw [Y.out, Int.toNat_natCast, X.out, byte_of_limb, s1] at h
        exact h
      have HB' := Lib.hid (HB.out.trans hb')
      clear ho' hb'
      go_roundw
      case rel => exact ⟨q, by omega, by go_num, HO'.out, HB'.out⟩
      case measure => simp [intOf]
    · obtain rfl : k = 0 := by omega
      have hconv : (convert 43 9 u3).run Try.prog wr = .ok (.string ⟨(be 32 (val zs)).toArray⟩) wr := by
        have h := ho
        rw [Nat.sub_zero, Nat.sub_self, Nat.pow_zero, Nat.div_one] at h
        exact h.str
      have HB := Lib.hid (below_then HB1.out hbl)
      clear ho hbl
      generalize be 32 (val zs) = t at *
      go_wp2
      go_ret
      exact ⟨rfl, HB.out⟩
end Go.Proofs.Ytlpaegmnahcbjaa
