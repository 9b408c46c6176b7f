/- What is proved here: sums and differences of limbs, as the references reckon them. -/
import Derived.Test.YtmhieifjmgcbkaaNum
import Derived.Test.YtmhieifjmgcbkaaRefRem
namespace Go.Proofs.Ytmhieifjmgcbkaa
open Go.RowKit

theorem minus_forms (x y b : Nat) (hx : x < 2 ^ 64) (hy : y < 2 ^ 64) (hb : b ≤ 1) : ∃ d : Nat, IntKind.u64.wrap ((x : Int) - (y : Int)) = (d : Int) ∧ IntKind.u64.wrap ((d : Int) - (b : Int)) = ((subLo x y b : Nat) : Int) := by
  refine ⟨(x + 2 ^ 64 - y) % 2 ^ 64, by rw [IntKind.wrap_u64]; omega, ?_⟩
  rw [IntKind.wrap_u64]
  unfold subLo
  omega

theorem plus_forms (x y b : Nat) (_hx : x < 2 ^ 64) (_hy : y < 2 ^ 64) (_hb : b ≤ 1) : ∃ d : Nat, IntKind.u64.wrap ((x : Int) + (y : Int)) = (d : Int) ∧ IntKind.u64.wrap ((d : Int) + (b : Int)) = ((sumLo x y b : Nat) : Int) := by
  refine ⟨(x + y) % 2 ^ 64, by rw [IntKind.wrap_u64]; omega, ?_⟩
  rw [IntKind.wrap_u64]
  unfold sumLo
  omega

theorem minus_more (x y b : Nat) (_hx : x < 2 ^ 64) (_hy : y < 2 ^ 64) (hb : b ≤ 1) : (x < y → subHi x y b = 1) ∧ (x = y → b = 1 → subHi x y b = 1) ∧ (x = y → b = 0 → subHi x y b = 0) ∧ (y < x → subHi x y b = 0) := by
  unfold subHi
  refine ⟨fun h => if_pos (by omega), fun h h2 => if_pos (by omega), fun h h2 => if_neg (by omega), fun h => if_neg (by omega)⟩

theorem plus_more (x y b : Nat) (hx : x < 2 ^ 64) (hy : y < 2 ^ 64) (hb : b ≤ 1) : (sumLo x y b < x → sumHi x y b = 1) ∧ (sumLo x y b = x → b = 1 → sumHi x y b = 1) ∧ (sumLo x y b = x → b = 0 → sumHi x y b = 0) ∧ (x < sumLo x y b → sumHi x y b = 0) := by
  unfold sumHi sumLo
  refine ⟨fun h => by omega, fun h h2 => by omega, fun h h2 => by omega, fun h => by omega⟩
end Go.Proofs.Ytmhieifjmgcbkaa
