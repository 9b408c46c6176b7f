/- What is proved here: a contract of the reference's Get: the number whose bytes, the highest first, a text is. -/
import Derived.Test.YtlpaegmnahcbjaaGet
namespace Go.Proofs.Ytlpaegmnahcbjaa
open Go.RowKit

/-- How far the bytes L of m limbs have been read, i of them, the highest first. -/
structure GettingB (L : List UInt8) (m i : Nat) (zs : List Nat) : Prop where
  len : zs.length = m
  small : Small zs
  num : val zs = bval (L.take i) * 256 ^ (8 * m - i)

theorem GettingB.start (L : List UInt8) (m : Nat) : GettingB L m 0 (List.replicate m 0) :=
  ⟨by simp, fun x hx => by rw [(List.mem_replicate.1 hx).2]; decide, by rw [val_zeros]; simp [bval]⟩

theorem gap (B r b : Nat) (hr : r < 8) (hb : b < 256) : B * 2 ^ (8 * (r + 1)) % 2 ^ 64 + b * 2 ^ (8 * r) < 2 ^ 64 := by
  have e : (2 : Nat) ^ 64 = 2 ^ (8 * (r + 1)) * 2 ^ (64 - 8 * (r + 1)) := by rw [← Nat.pow_add]; congr 1; omega
  have e2 : (2 : Nat) ^ (8 * (r + 1)) = 256 * 2 ^ (8 * r) := by rw [show 8 * (r + 1) = 8 + 8 * r by omega, Nat.pow_add]
  rw [e, Nat.mul_comm B, Nat.mul_mod_mul_left]
  have h1 := Nat.mod_lt B (Nat.two_pow_pos (64 - 8 * (r + 1)))
  generalize B % 2 ^ (64 - 8 * (r + 1)) = q at *
  generalize 2 ^ (64 - 8 * (r + 1)) = M at *
  have h2 : 2 ^ (8 * (r + 1)) * (q + 1) ≤ 2 ^ (8 * (r + 1)) * M := Nat.mul_le_mul_left _ h1
  have h3 : (b + 1) * 2 ^ (8 * r) ≤ 256 * 2 ^ (8 * r) := Nat.mul_le_mul_right _ (by omega)
  have h4 := Nat.two_pow_pos (8 * r)
  rw [Nat.mul_add] at h2
  rw [Nat.add_mul] at h3
  rw [e2] at *
  omega

theorem GettingB.step {L : List UInt8} {m i p : Nat} {zs : List Nat} (h : GettingB L m i zs) (hp : p + 1 + i = 8 * m) (_hL : L.length = 8 * m) {b : UInt8} (hb : L.take (i + 1) = L.take i ++ [b]) :
    lm zs (p / 8) + b.toNat * 2 ^ (8 * (p % 8)) < 2 ^ 64 ∧ GettingB L m (i + 1) (zs.set (p / 8) (lm zs (p / 8) + b.toNat * 2 ^ (8 * (p % 8)))) := by
  have hbl : b.toNat < 256 := UInt8.toNat_lt b
  have hr : p % 8 < 8 := Nat.mod_lt _ (by decide)
  have hj : p / 8 < zs.length := by rw [h.len]; omega
  have e1 : 256 ^ (8 * m - i) = 2 ^ (8 * (p % 8 + 1)) * 2 ^ (64 * (p / 8)) := by
    rw [pow256, ← Nat.pow_add]; congr 1; omega
  have e2 : 256 ^ (8 * m - (i + 1)) = 2 ^ (8 * (p % 8)) * 2 ^ (64 * (p / 8)) := by
    rw [pow256, ← Nat.pow_add]; congr 1; omega
  have h0 : lm zs (p / 8) = bval (L.take i) * 2 ^ (8 * (p % 8 + 1)) % 2 ^ 64 := by
    rw [lm_val h.small, h.num, e1, ← Nat.mul_assoc, Nat.mul_div_cancel _ (Nat.two_pow_pos _)]
  have hlt : lm zs (p / 8) + b.toNat * 2 ^ (8 * (p % 8)) < 2 ^ 64 := by rw [h0]; exact gap _ _ _ hr hbl
  refine ⟨hlt, by simpa using h.len, h.small.set _ hlt, ?_⟩
  have hv := val_set zs (p / 8) (lm zs (p / 8) + b.toNat * 2 ^ (8 * (p % 8))) hj
  rw [hb, bval_snoc, e2]
  rw [h.num, e1, show 2 ^ (8 * (p % 8 + 1)) = 256 * 2 ^ (8 * (p % 8)) by rw [show 8 * (p % 8 + 1) = 8 + 8 * (p % 8) by omega, Nat.pow_add]] at hv
  rw [Nat.add_mul] at hv
  rw [Nat.add_mul, ← Nat.mul_assoc b.toNat]
  have e3 : bval (L.take i) * 256 * (2 ^ (8 * (p % 8)) * 2 ^ (64 * (p / 8))) = bval (L.take i) * (256 * 2 ^ (8 * (p % 8)) * 2 ^ (64 * (p / 8))) := by
    simp only [Nat.mul_assoc]
  rw [e3]
  omega

theorem GettingB.done {L : List UInt8} {m : Nat} {zs : List Nat} (h : GettingB L m (8 * m) zs) (hL : L.length = 8 * m) : zs = row m (bval L) := by
  have e := h.num
  rw [Nat.sub_self, Nat.pow_zero, Nat.mul_one, List.take_of_length_le (by omega)] at e
  rw [← e, ← h.len, row_val h.small]

theorem add_byte (o b r : Nat) (h : o + b * 2 ^ r < 2 ^ 64) (hb : b < 256) : IntKind.u64.wrap ((o : Int) + IntKind.u64.wrap (IntKind.u64.wrap (b : Int) * 2 ^ r)) = ((o + b * 2 ^ r : Nat) : Int) := by
  have e1 : IntKind.u64.wrap (b : Int) = (b : Int) := by rw [IntKind.wrap_u64]; omega
  have e2 : (b : Int) * 2 ^ r = ((b * 2 ^ r : Nat) : Int) := by simp
  rw [e1, e2, IntKind.wrap_u64, IntKind.wrap_u64]
  omega
end Go.Proofs.Ytlpaegmnahcbjaa
