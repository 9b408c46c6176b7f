/- What is proved here: the law package's alive (layer 4); the laws FpRights and FpPows. -/
import Derived.Test.YtgkdkahgiihlfaaFn6Fp
import Derived.Test.YtgkdkahgiihlfaaFn5Fp
namespace Go.Proofs.Ytgkdkahgiihlfaa
open Go.RowKit

theorem fp_refl (v : Nat) (W : World) : (Op.equalIn 10000 24 (.agg #[.int .u64 ((lb v 0 : Nat) : Int), .int .u64 ((lb v 1 : Nat) : Int), .int .u64 ((lb v 2 : Nat) : Int), .int .u64 ((lb v 3 : Nat) : Int), .int .u64 ((lb v 4 : Nat) : Int), .int .u64 ((lb v 5 : Nat) : Int)]) (.agg #[.int .u64 ((lb v 0 : Nat) : Int), .int .u64 ((lb v 1 : Nat) : Int), .int .u64 ((lb v 2 : Nat) : Int), .int .u64 ((lb v 3 : Nat) : Int), .int .u64 ((lb v 4 : Nat) : Int), .int .u64 ((lb v 5 : Nat) : Int)])).run Try.prog W = .ok true W := by
  obtain ⟨i, hi, _, _, _⟩ := info_parts Try.infoU
  rw [show (10000 : Nat) = 9999 + 1 from rfl, run_equalIn_array W 9999 _ _ Try.underlying24 hi, show List.range 6 = [0, 1, 2, 3, 4, 5] from rfl, fp_step _ _ _ _ _ (by decide), fp_step _ _ _ _ _ (by decide), fp_step _ _ _ _ _ (by decide), fp_step _ _ _ _ _ (by decide), fp_step _ _ _ _ _ (by decide), fp_step _ _ _ _ _ (by decide)]
  simp [Op.eqItems, go_sem]

theorem fp_lit2 : fpV 2 = .agg #[.int .u64 2, .int .u64 0, .int .u64 0, .int .u64 0, .int .u64 0, .int .u64 0] := fp_small (by decide)

set_option maxRecDepth 20000 in
set_option maxHeartbeats 4000000 in
theorem fpalive_v (w : World) : Calls Try.prog 16 #[] w (Is (.bool true) w) := by
  have HA := Lib.hid (fpAdd_v 1 1 w (fp_ltB (by decide)) (fp_ltB (by decide)) 2 (by decide +kernel))
  rw [fp_lit1, fp_lit2] at HA
  have hq := fp_refl 2
  rw [show Value.agg #[.int .u64 ((lb 2 0 : Nat) : Int), .int .u64 ((lb 2 1 : Nat) : Int), .int .u64 ((lb 2 2 : Nat) : Int), .int .u64 ((lb 2 3 : Nat) : Int), .int .u64 ((lb 2 4 : Nat) : Int), .int .u64 ((lb 2 5 : Nat) : Int)] = .agg #[.int .u64 2, .int .u64 0, .int .u64 0, .int .u64 0, .int .u64 0, .int .u64 0] from fp_lit2] at hq
  go_enter Try.func16, Try.ntmps16
  go_wp2_with fail
  refine HA.out.mono ?_
  rintro e w2 ⟨rfl, hb2⟩
  have HB2 := Lib.hid hb2
  clear hb2 HA
  go_wp2
  go_ret
  exact ⟨rfl, HB2.out⟩
end Go.Proofs.Ytgkdkahgiihlfaa
