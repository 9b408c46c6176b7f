/- What is proved here: mont.bitsDown and the iterator that it answers: the bits of a number are handed on, from its highest 1 down. -/
import Derived.RangeFuncNested
import Derived.RangeFuncBound
import Derived.RangeFuncCalls
import Derived.RangeFuncLeaves
import Derived.RangeFuncFrom
import Derived.Shelf.Abstract
import Derived.Shelf.RegionOpen
import Derived.WalkKit
import Derived.WalkSmall
import Derived.OwnWalkIn
import Derived.TacticsInMore
import Derived.LoopNIn
import Derived.LoopIn
import Derived.Test.YtodabjelnllkgaaShort
namespace Go.Proofs.Ytodabjelnllkgaa
open Go.RowKit Go.Shelf

attribute [local go_sem] Oper.semAt_some

/-- The number whose bits were handed on. -/
def numOf : List Nat → Nat := List.foldl (fun s x => 2 * s + (if x = 1 then 1 else 0)) 0
theorem numOf_snoc (pre : List Nat) (x : Nat) : numOf (pre ++ [x]) = 2 * numOf pre + (if x = 1 then 1 else 0) := by simp [numOf]

/-- What a round must keep for the iterator: all below n₀, and the box of the number. -/
def KeepsE (n₀ eb : Nat) (W W' : World) : Prop := Below n₀ W W' ∧ W'.heap[eb]? = W.heap[eb]?

theorem keepsE_t {n₀ eb : Nat} {A B C : World} (h : KeepsE n₀ eb A B) (k : KeepsE n₀ eb B C) : KeepsE n₀ eb A C := ⟨h.1.trans k.1, k.2.trans h.2⟩

theorem keepsE_b {n₀ eb : Nat} {w : World} (hn : n₀ ≤ w.heap.size) (he : eb < w.heap.size) (W : World) (l : Nat) (o o' : Obj) (hl : w.heap.size ≤ l) (h : W.heap[l]? = some o) (h1 : o.isCells = false) (h2 : o.isWalk = false) : KeepsE n₀ eb W (W.putObj l o') :=
  ⟨belowK_b hn W l o o' hl h h1 h2, by
    have hg := grownBy_putObj' W l o'
    exact hg.block eb (by have := (Array.getElem?_eq_some_iff.1 h).1; omega) (fun e => by cases e; omega)⟩

theorem and_one_limb (x r : Nat) (hx : x < 2 ^ 64) : bits BinOp.and IntKind.u64 ((x : Int) / 2 ^ r) 1 = ((x / 2 ^ r % 2 : Nat) : Int) := by
  have e : (x : Int) / 2 ^ r = ((x / 2 ^ r : Nat) : Int) := by simp
  have hl : x / 2 ^ r < 2 ^ 64 := Nat.lt_of_le_of_lt (Nat.div_le_self _ _) hx
  rw [e]
  generalize x / 2 ^ r = y at *
  rw [and_one_u64 _ (by omega) (by omega)]
  omega

theorem num_step {pre : List Nat} {E q bt : Nat} (h : numOf pre = E / 2 ^ (q + 1)) (hb : E / 2 ^ q % 2 = bt) : numOf (pre ++ [bt]) = E / 2 ^ q := by
  rw [numOf_snoc, h, ← hb]
  have e : E / 2 ^ q = 2 * (E / 2 ^ (q + 1)) + E / 2 ^ q % 2 := by
    rw [Nat.pow_succ, ← Nat.div_div_eq_div_mul]; omega
  split <;> omega
end Go.Proofs.Ytodabjelnllkgaa
