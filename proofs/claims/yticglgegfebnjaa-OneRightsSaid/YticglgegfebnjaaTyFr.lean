/- What is proved here: numbers modulo r as rows of four limbs; the calls of package fr on them; reckoning modulo r; arguments of this type are numbers. -/
import Derived.Test.YticglgegfebnjaaAgg
import Derived.Test.YticglgegfebnjaaNumFr
import Derived.Test.YticglgegfebnjaaMontFns
import Derived.Test.YticglgegfebnjaaPrime
import Derived.BigQuiet
import Derived.Deep.CutBlock
import Derived.Test.YticglgegfebnjaaPow
import Derived.Test.YticglgegfebnjaaPut
import Derived.OpenShut
import Derived.ChangeOld
import Derived.ProofKit
namespace Go.Proofs.Yticglgegfebnjaa
open Go.RowKit

theorem flFr : Flat 41 (4 * 1) := ⟨Try.isAgg41, Try.sizeOf41⟩
theorem cells0R (n : Nat) : cellsOf (List.replicate n 0) = List.replicate n (Value.int .u64 0) := by simp [cellsOf]

theorem zFr (w : World) : (zeroValue 41).run Try.prog w = .ok (lv (rows 4 [0])) w := by
  rw [Try.zeroValue41 w, show [0] = List.replicate 1 0 from rfl, rows_zero, lv, cells0R]
  rfl
theorem nv4R (v : Nat) : nv 4 [v] = frV v := by rw [nv_row, fr_cells]
end Go.Proofs.Yticglgegfebnjaa
