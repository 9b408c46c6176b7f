/- What is proved here: r times the generator of the first curve is at infinity. -/
import Derived.Test.YticglgegfebnjaaField
import Derived.Test.YticglgegfebnjaaCurve
namespace Go.Proofs.Yticglgegfebnjaa
open Go.RowKit Cv

theorem four_ne : (4 : Zp) ≠ 0 := by decide +kernel
/-- The first curve. -/
def C1 : Cu Zp (4 : Zp) := ⟨FdP, four_ne⟩
abbrev E1 : Type := EP (4 : Zp)

def g1x : Nat := 0x17F1D3A73197D7942695638C4FA9AC0FC3688C4F9774B905A14E3A3F171BAC586C55E83FF97A1AEFFB3AF00ADB22C6BB
def g1y : Nat := 0x08B3F481E3AAA0F1A09E30ED741D8AE4FCF5E095D5D00AF600DB18CB2C04B3EDD03CC744A2888AE40CAA232946C5E7E1

theorem fz_minus {a : Nat} (h : a < pN) : fz (pN - a) = -fz a := by
  rw [← fz_neg]
  exact fz_ext (by rw [pNeg, Nat.mod_mod, Nat.mod_eq_of_lt h])
end Go.Proofs.Yticglgegfebnjaa
