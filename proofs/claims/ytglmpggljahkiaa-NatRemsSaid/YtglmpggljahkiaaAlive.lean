/- What is proved here: the law package's alive answers true, and nothing that was in memory changes. -/
import Derived.Test.YtglmpggljahkiaaAdd
namespace Go.Proofs.Ytglmpggljahkiaa
open Go.RowKit

theorem one_row : row 1 (val [1] + val [1]) = [2] := by decide
theorem one_carry : (val [1] + val [1]) / 2 ^ (64 * 1) = 0 := by decide

theorem small_one : Small [1] := by intro x hx; simp at hx; subst hx; decide

set_option maxHeartbeats 400000 in
theorem alive_any (w : World) :
    Calls Try.prog 12 #[] w fun e w' => e = .returned (.bool true) ∧ Below w.heap.size w w' := by
  go_enter Try.func12, Try.ntmps12
  go_wp2_with fail
  have o1 : Own ((w.alloc (Obj.cells #[Value.int IntKind.u64 1] 27)).alloc (Obj.cells #[Value.int IntKind.u64 1] 27)) w.heap.size [1] := (own_lit w [1]).alloc _
  have o2 : Own ((w.alloc (Obj.cells #[Value.int IntKind.u64 1] 27)).alloc (Obj.cells #[Value.int IntKind.u64 1] 27)) (w.heap.size + 1) [1] := by
    have := own_lit (w.alloc (Obj.cells #[Value.int IntKind.u64 1] 27)) [1]
    rwa [show (w.alloc (Obj.cells #[Value.int IntKind.u64 1] 27)).heap.size = w.heap.size + 1 by simp] at this
  refine (add_any _ 1 1 [1] _ 1 1 [1] _ (Nat.le_refl _) (by unfold maxLen; omega) (Nat.le_refl _) (by unfold maxLen; omega) (o1.view small_one) (o2.view small_one)).mono ?_
  rintro e w' ⟨g, rfl, ho, hg, hb⟩
  have hbw : Hid (Below w.heap.size w w') := ((below_alloc w _).trans (((Below.refl _ _).alloc (by simp) _))).trans (hb.mono (by simp; omega))
  have hc := ho.cell (i := 0) (by decide)
  clear ho hb o1 o2
  rw [show lm (row (max (min 1 16) (min 1 16)) (val (List.take 16 [1]) + val (List.take 16 [1]))) 0 = 2 from by decide] at hc
  rw [show (val (List.take 16 [1]) + val (List.take 16 [1])) / 2 ^ (64 * max (min 1 16) (min 1 16)) = 0 from by decide]
  rw [show max (min 1 16) (min 1 16) = 1 from rfl]
  go_wp2
  go_ret
  exact ⟨rfl, hbw.out⟩
end Go.Proofs.Ytglmpggljahkiaa
