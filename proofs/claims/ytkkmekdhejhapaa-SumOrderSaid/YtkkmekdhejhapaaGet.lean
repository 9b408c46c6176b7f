/- What is proved here: contracts of nat.getLimb, nat.Get and of the reference's Get: the number whose bytes, the highest first, a text is. -/
import Derived.Test.YtkkmekdhejhapaaBytes
import Derived.Laws.Bits64b
import Derived.BigRegion
namespace Go.Proofs.Ytkkmekdhejhapaa
open Go.RowKit
structure Getting (L : List UInt8) (m k : Nat) (zs : List Nat) : Prop where
  len : zs.length = m
  small : Small zs
  num : val zs = bval (L.take (8 * k)) * 2 ^ (64 * (m - k))
theorem Getting.start (L : List UInt8) (m : Nat) : Getting L m 0 (List.replicate m 0) :=
  ⟨by simp, fun x hx => by rw [(List.mem_replicate.1 hx).2]; decide, by rw [val_zeros]; simp [bval]⟩
theorem Getting.step {L : List UInt8} {m k : Nat} {zs : List Nat} (h : Getting L m k zs) (hk : k < m) (hL : L.length = 8 * m) {x : Nat} (hx : x = bval ((L.drop (8 * k)).take 8)) :
    Getting L m (k + 1) (zs.set (m - 1 - k) x) := by
  have hlen : ((L.drop (8 * k)).take 8).length = 8 := by rw [List.length_take, List.length_drop]; omega
  have hxl : x < 2 ^ 64 := by
    rw [hx]
    have := bval_lt ((L.drop (8 * k)).take 8)
    rw [hlen] at this
    exact this
  have hj : m - 1 - k < zs.length := by rw [h.len]; omega
  have e1 : 64 * (m - k) = 64 * (m - 1 - k) + 64 := by omega
  have h0 : lm zs (m - 1 - k) = 0 := by
    rw [lm_val h.small, h.num, e1, Nat.pow_add, ← Nat.mul_assoc, Nat.mul_right_comm, Nat.mul_div_cancel _ (Nat.two_pow_pos _), Nat.mul_mod_left]
  have hv := val_set zs (m - 1 - k) x hj
  rw [h0] at hv
  have et : L.take (8 * (k + 1)) = L.take (8 * k) ++ (L.drop (8 * k)).take 8 := by
    rw [show 8 * (k + 1) = 8 * k + 8 by omega, List.take_add]
  refine ⟨by simpa using h.len, h.small.set _ hxl, ?_⟩
  rw [et, bval_append, hlen, ← hx, show m - (k + 1) = m - 1 - k by omega]
  rw [h.num, e1, Nat.pow_add] at hv
  have e2 : (256 : Nat) ^ 8 = 2 ^ 64 := by decide
  rw [e2, Nat.add_mul, Nat.mul_assoc, Nat.mul_comm (2 ^ 64)]
  omega
theorem Getting.done {L : List UInt8} {m : Nat} {zs : List Nat} (h : Getting L m m zs) (hL : L.length = 8 * m) : zs = row m (bval L) := by
  have e := h.num
  rw [Nat.sub_self, Nat.mul_zero, Nat.pow_zero, Nat.mul_one, List.take_of_length_le (by omega)] at e
  rw [← e, ← h.len, row_val h.small]
def MakesE (K v : Nat) (w : World) (e : Ending) (w' : World) : Prop :=
  ∃ g : Nat, e = .returned (.tuple #[.slice (some ⟨g, 0, none⟩) K K, .int .i64 0]) ∧ Own w' g (row K v) ∧ w.heap.size ≤ g ∧ Below w.heap.size w w'
end Go.Proofs.Ytkkmekdhejhapaa
