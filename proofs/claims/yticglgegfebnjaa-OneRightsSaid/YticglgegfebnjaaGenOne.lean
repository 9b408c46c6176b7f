/- What is proved here: r times the generator of the first curve is at infinity. -/
import Derived.Test.YticglgegfebnjaaField
import Derived.Test.YticglgegfebnjaaCurve
namespace Go.Proofs.Yticglgegfebnjaa
open Go.RowKit Cv

theorem four_ne : (4 : Zp) ≠ 0 := by decide +kernel
/-- The first curve. -/
def C1 : Cu Zp (4 : Zp) := ⟨FdP, four_ne⟩
abbrev E1 : Type := EP (4 : Zp)

def codP : Cod Zp Nat := ⟨fz, pAdd, pSub, pMul, fun a => einv pN 800 a pN 1 0, 1, fun a b => a % pN == b % pN, fz_add, fz_sub, fz_mul, rfl, fun _ _ h => fz_ext (by simpa using h)⟩

def g1x : Nat := 0x17F1D3A73197D7942695638C4FA9AC0FC3688C4F9774B905A14E3A3F171BAC586C55E83FF97A1AEFFB3AF00ADB22C6BB
def g1y : Nat := 0x08B3F481E3AAA0F1A09E30ED741D8AE4FCF5E095D5D00AF600DB18CB2C04B3EDD03CC744A2888AE40CAA232946C5E7E1

theorem g1_on : On (4 : Zp) (.aff (fz g1x) (fz g1y)) := by
  show fz g1y * fz g1y = fz g1x * fz g1x * fz g1x + fz 4
  rw [← fz_mul, ← fz_mul, ← fz_mul, ← fz_add]
  exact congrArg fz (by decide +kernel)
def G1 : E1 := ⟨.aff (fz g1x) (fz g1y), g1_on⟩

theorem g1_go : codP.go (g1x, g1y) 260 (rN - 1) = some (g1x, pN - g1y) := by decide +kernel

theorem fz_minus {a : Nat} (h : a < pN) : fz (pN - a) = -fz a := by
  rw [← fz_neg]
  exact fz_ext (by rw [pNeg, Nat.mod_mod, Nat.mod_eq_of_lt h])

theorem g1_order : EP.times C1 rN G1 = EP.zero := by
  have h := Cod.go_ok codP C1 (G := G1) (g := (g1x, g1y)) rfl 260 (rN - 1) _ g1_go
  have e : rN = rN - 1 + 1 := by decide +kernel
  rw [e]
  show (EP.times C1 (rN - 1) G1).add C1 G1 = _
  refine EP.of_sum C1 ?_
  rw [h]
  exact .inl ⟨rfl, fz_minus (by decide +kernel), rfl⟩

end Go.Proofs.Yticglgegfebnjaa
