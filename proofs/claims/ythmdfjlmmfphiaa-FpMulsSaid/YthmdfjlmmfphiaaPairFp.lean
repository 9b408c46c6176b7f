/- What is proved here: two arrays that are made in whatever order (layer 4). -/
import Derived.Test.YthmdfjlmmfphiaaNumFp
namespace Go.Proofs.Ythmdfjlmmfphiaa
open Go.RowKit

theorem fpbelow_a1 (w : World) (o : Obj) : Below w.heap.size w (w.drew.alloc o) := (Below.refl _ _).drew.alloc (Nat.le_refl _) _
theorem fpbelow_a2 (w : World) (o o' : Obj) : Below w.heap.size w ((w.drew.alloc o).alloc o') := (fpbelow_a1 w o).alloc (by simp) _
theorem fp_zero2 (t : TypeId) (w : World) (o : Obj) : Arr t ((w.alloc o).alloc (.cells #[.int .u64 0, .int .u64 0, .int .u64 0, .int .u64 0, .int .u64 0, .int .u64 0] t)) (w.heap.size + 1) (row 6 0) := by
  have := fp_zero t (w.alloc o)
  rwa [World.size_alloc] at this

theorem fp_new_at {t : TypeId} {w : World} {v g : Nat} (h : w.heap.size = g) : Arr t (w.alloc (.cells #[.int .u64 ((lb v 0 : Nat) : Int), .int .u64 ((lb v 1 : Nat) : Int), .int .u64 ((lb v 2 : Nat) : Int), .int .u64 ((lb v 3 : Nat) : Int), .int .u64 ((lb v 4 : Nat) : Int), .int .u64 ((lb v 5 : Nat) : Int)] t)) g (row 6 v) := by
  subst h
  exact fp_new t w v
end Go.Proofs.Ythmdfjlmmfphiaa
