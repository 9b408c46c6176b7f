/- What is proved here: the law package's alive (layer 3); the laws FrRights and FrPows. -/
import Derived.Test.YtlpaegmnahcbjaaFn6Fr
import Derived.Test.YtlpaegmnahcbjaaFn5Fr
namespace Go.Proofs.Ytlpaegmnahcbjaa
open Go.RowKit

theorem fr_refl (v : Nat) (W : World) : (Op.equalIn 10000 24 (.agg #[.int .u64 ((lb v 0 : Nat) : Int), .int .u64 ((lb v 1 : Nat) : Int), .int .u64 ((lb v 2 : Nat) : Int), .int .u64 ((lb v 3 : Nat) : Int)]) (.agg #[.int .u64 ((lb v 0 : Nat) : Int), .int .u64 ((lb v 1 : Nat) : Int), .int .u64 ((lb v 2 : Nat) : Int), .int .u64 ((lb v 3 : Nat) : Int)])).run Try.prog W = .ok true W := by
  obtain ⟨i, hi, _, _, _⟩ := info_parts Try.infoU
  rw [show (10000 : Nat) = 9999 + 1 from rfl, run_equalIn_array W 9999 _ _ Try.underlying24 hi, show List.range 4 = [0, 1, 2, 3] from rfl, fr_step _ _ _ _ _ (by decide), fr_step _ _ _ _ _ (by decide), fr_step _ _ _ _ _ (by decide), fr_step _ _ _ _ _ (by decide)]
  simp [Op.eqItems, go_sem]

theorem fr_lit2 : frV 2 = .agg #[.int .u64 2, .int .u64 0, .int .u64 0, .int .u64 0] := fr_small (by decide)

set_option maxRecDepth 20000 in
set_option maxHeartbeats 4000000 in
theorem fralive_v (w : World) : Calls Try.prog 7 #[] w (Is (.bool true) w) := by
  have HA := Lib.hid (frAdd_v 1 1 w (fr_ltB (by decide)) (fr_ltB (by decide)) 2 (by decide +kernel))
  rw [fr_lit1, fr_lit2] at HA
  have hq := fr_refl 2
  rw [show Value.agg #[.int .u64 ((lb 2 0 : Nat) : Int), .int .u64 ((lb 2 1 : Nat) : Int), .int .u64 ((lb 2 2 : Nat) : Int), .int .u64 ((lb 2 3 : Nat) : Int)] = .agg #[.int .u64 2, .int .u64 0, .int .u64 0, .int .u64 0] from fr_lit2] at hq
  go_enter Try.func7, Try.ntmps7
  go_wp2_with fail
  refine HA.out.mono ?_
  rintro e w2 ⟨rfl, hb2⟩
  have HB2 := Lib.hid hb2
  clear hb2 HA
  go_wp2
  go_ret
  exact ⟨rfl, HB2.out⟩
end Go.Proofs.Ytlpaegmnahcbjaa
