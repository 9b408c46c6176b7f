/- What is proved here: rows in blocks of whatever type; a contract of mont.addStep: one step of a product that drops its lowest limb; a law for copying a row. -/
import Derived.Test.YtodabjelnllkgaaMath
import Derived.Test.YtodabjelnllkgaaShort
import Derived.Test.YtodabjelnllkgaaRem
import Derived.Test.YtodabjelnllkgaaDiv64
import Derived.Deep.LoopGhost
import Derived.WalkSmall
import Derived.Laws.CopyOwn
namespace Go.Proofs.Ytodabjelnllkgaa
open Go.RowKit

/-- Block g of the world is a whole row, the limbs xs, of whatever type it was laid at. -/
def OwnT (t : TypeId) (w : World) (g : Nat) (xs : List Nat) : Prop := w.heap[g]? = some (.cells (cellsOf xs).toArray t (0, 0))

theorem OwnT.lt {t : TypeId} {w : World} {g : Nat} {xs : List Nat} (h : OwnT t w g xs) : g < w.heap.size := by
  rcases Nat.lt_or_ge g w.heap.size with hl | hl
  · exact hl
  · unfold OwnT at h; rw [Array.getElem?_eq_none hl] at h; cases h

theorem lm_pad {zs : List Nat} (pad : List Nat) {i : Nat} (hi : i < zs.length) : lm (zs ++ pad) i = lm zs i := by
  simp [lm, List.getElem?_append_left hi]

theorem OwnT.cell {t : TypeId} {w : World} {g : Nat} {xs pad : List Nat} (h : OwnT t w g (xs ++ pad)) {i : Nat} (hi : i < xs.length) : w.cell? ⟨g, i, none⟩ = some (.int .u64 ((lm xs i : Nat) : Int)) := by
  rw [cell_of_row w g i _ _ (0, 0) h, ← lm_pad pad hi]
  simpa using cellsOf_get (xs := xs ++ pad) (i := i) (by simp; omega)

theorem OwnT.frozen {t : TypeId} {w : World} {g : Nat} {xs : List Nat} (h : OwnT t w g xs) (i : Nat) : w.frozen? ⟨g, i, none⟩ = false := frozen_of_row w g i _ _ h

theorem OwnT.set {t : TypeId} {w : World} {g : Nat} {xs pad : List Nat} (h : OwnT t w g (xs ++ pad)) (i x : Nat) (hi : i < xs.length) : OwnT t (w.setCell ⟨g, i, none⟩ (.int .u64 (x : Int))) g (xs.set i x ++ pad) := by
  rw [← List.set_append_left _ _ hi]
  unfold OwnT
  rw [heap_setCell_same w g i _ _ _ h]
  simp [cellsOf, List.map_set]

theorem OwnT.below {t : TypeId} {w w' : World} {g : Nat} {xs : List Nat} (h : OwnT t w g xs) {B : Nat} (hB : g < B) (hb : Below B w w') : OwnT t w' g xs := by
  unfold OwnT; rw [hb.block g hB]; exact h

theorem OwnT.view {t : TypeId} {w : World} {g : Nat} {xs pad : List Nat} (h : OwnT t w g (xs ++ pad)) (hs : Small xs) : View w (some ⟨g, 0, none⟩) xs.length xs :=
  ⟨rfl, hs, fun i hi => ⟨g, 0, rfl, h.lt, by rw [Nat.zero_add]; exact h.cell hi⟩⟩
end Go.Proofs.Ytodabjelnllkgaa
