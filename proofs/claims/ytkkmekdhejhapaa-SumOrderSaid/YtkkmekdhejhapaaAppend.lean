/- What is proved here: what appending a row of limbs to a row that the call has made itself leaves; a contract of the law package's cut. -/
import Derived.Test.YtkkmekdhejhapaaOwn
import Derived.Laws.AppendOwnNone
namespace Go.Proofs.Ytkkmekdhejhapaa
open Go.RowKit
def OwnS (w : World) (base : Nat) (v : Value) (xs : List Nat) : Prop := w.ownsRow base 24 1 v xs.length (cellsOf xs)
theorem OwnS.alloc {w : World} {base : Nat} {v : Value} {xs : List Nat} (h : OwnS w base v xs) (o : Obj) : OwnS (w.alloc o) base v xs := World.ownsRow.alloc h o
end Go.Proofs.Ytkkmekdhejhapaa
