/- What is proved here: two arrays that are made in whatever order (layer 3). -/
import Derived.Test.YtgihdmhcnifdfaaNumFr
namespace Go.Proofs.Ytgihdmhcnifdfaa
open Go.RowKit

theorem below_a1 (w : World) (o : Obj) : Below w.heap.size w (w.drew.alloc o) := (Below.refl _ _).drew.alloc (Nat.le_refl _) _
theorem below_a2 (w : World) (o o' : Obj) : Below w.heap.size w ((w.drew.alloc o).alloc o') := (below_a1 w o).alloc (by simp) _
theorem fr_zero2 (t : TypeId) (w : World) (o : Obj) : Arr t ((w.alloc o).alloc (.cells #[.int .u64 0, .int .u64 0, .int .u64 0, .int .u64 0] t)) (w.heap.size + 1) (row 4 0) := by
  have := fr_zero t (w.alloc o)
  rwa [World.size_alloc] at this

theorem fr_new_at {t : TypeId} {w : World} {v g : Nat} (h : w.heap.size = g) : Arr t (w.alloc (.cells #[.int .u64 ((lb v 0 : Nat) : Int), .int .u64 ((lb v 1 : Nat) : Int), .int .u64 ((lb v 2 : Nat) : Int), .int .u64 ((lb v 3 : Nat) : Int)] t)) g (row 4 v) := by
  subst h
  exact fr_new t w v
end Go.Proofs.Ytgihdmhcnifdfaa
