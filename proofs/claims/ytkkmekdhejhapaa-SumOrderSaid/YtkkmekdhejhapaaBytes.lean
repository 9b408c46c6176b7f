/- What is proved here: plain facts on bytes, the highest first, and the number that they are; rows of bytes that a call has made itself. -/
import Derived.Test.YtkkmekdhejhapaaOwn
import Derived.Laws.IdiomStrings
import Derived.Laws.BytesString
namespace Go.Proofs.Ytkkmekdhejhapaa
open Go.RowKit
def bval : List UInt8 → Nat
  | [] => 0
  | b :: l => b.toNat * 256 ^ l.length + bval l
theorem bval_append (l l' : List UInt8) : bval (l ++ l') = bval l * 256 ^ l'.length + bval l' := by
  induction l with
  | nil => simp [bval]
  | cons b l ih =>
    simp only [List.cons_append, bval, ih, List.length_append, Nat.pow_add, Nat.add_mul, Nat.mul_assoc]
    omega
theorem bval_lt (l : List UInt8) : bval l < 256 ^ l.length := by
  induction l with
  | nil => simp [bval]
  | cons b l ih =>
    have hb : b.toNat < 256 := UInt8.toNat_lt b
    simp only [bval, List.length_cons, Nat.pow_succ]
    have : (b.toNat + 1) * 256 ^ l.length ≤ 256 * 256 ^ l.length := Nat.mul_le_mul_right _ (by omega)
    rw [Nat.add_mul] at this
    omega
def bcells (l : List UInt8) : List Value := l.map fun b => Value.int .u8 (b.toNat : Int)
def OwnBS (w : World) (base : Nat) (v : Value) (l : List UInt8) : Prop := w.ownsRow base 5 1 v l.length (bcells l)
end Go.Proofs.Ytkkmekdhejhapaa
