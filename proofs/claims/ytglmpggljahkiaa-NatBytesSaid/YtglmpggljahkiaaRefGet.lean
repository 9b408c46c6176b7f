/- What is proved here: a contract of the reference's Get: the number whose bytes, the highest first, a text is. -/
import Derived.Test.YtglmpggljahkiaaGet
namespace Go.Proofs.Ytglmpggljahkiaa
open Go.RowKit

/-- How far the bytes L of m limbs have been read, i of them, the highest first. -/
structure GettingB (L : List UInt8) (m i : Nat) (zs : List Nat) : Prop where
  len : zs.length = m
  small : Small zs
  num : val zs = bval (L.take i) * 256 ^ (8 * m - i)

theorem GettingB.start (L : List UInt8) (m : Nat) : GettingB L m 0 (List.replicate m 0) :=
  ⟨by simp, fun x hx => by rw [(List.mem_replicate.1 hx).2]; decide, by rw [val_zeros]; simp [bval]⟩

theorem gap (B r b : Nat) (hr : r < 8) (hb : b < 256) : B * 2 ^ (8 * (r + 1)) % 2 ^ 64 + b * 2 ^ (8 * r) < 2 ^ 64 := by
  have e : (2 : Nat) ^ 64 = 2 ^ (8 * (r + 1)) * 2 ^ (64 - 8 * (r + 1)) := by rw [← Nat.pow_add]; congr 1; omega
  have e2 : (2 : Nat) ^ (8 * (r + 1)) = 256 * 2 ^ (8 * r) := by rw [show 8 * (r + 1) = 8 + 8 * r by omega, Nat.pow_add]
  rw [e, Nat.mul_comm B, Nat.mul_mod_mul_left]
  have h1 := Nat.mod_lt B (Nat.two_pow_pos (64 - 8 * (r + 1)))
  generalize B % 2 ^ (64 - 8 * (r + 1)) = q at *
  generalize 2 ^ (64 - 8 * (r + 1)) = M at *
  have h2 : 2 ^ (8 * (r + 1)) * (q + 1) ≤ 2 ^ (8 * (r + 1)) * M := Nat.mul_le_mul_left _ h1
  have h3 : (b + 1) * 2 ^ (8 * r) ≤ 256 * 2 ^ (8 * r) := Nat.mul_le_mul_right _ (by omega)
  have h4 := Nat.two_pow_pos (8 * r)
  rw [Nat.mul_add] at h2
  rw [Nat.add_mul] at h3
  rw [e2] at *
  omega

theorem GettingB.step {L : List UInt8} {m i p : Nat} {zs : List Nat} (h : GettingB L m i zs) (hp : p + 1 + i = 8 * m) (_hL : L.length = 8 * m) {b : UInt8} (hb : L.take (i + 1) = L.take i ++ [b]) :
    lm zs (p / 8) + b.toNat * 2 ^ (8 * (p % 8)) < 2 ^ 64 ∧ GettingB L m (i + 1) (zs.set (p / 8) (lm zs (p / 8) + b.toNat * 2 ^ (8 * (p % 8)))) := by
  have hbl : b.toNat < 256 := UInt8.toNat_lt b
  have hr : p % 8 < 8 := Nat.mod_lt _ (by decide)
  have hj : p / 8 < zs.length := by rw [h.len]; omega
  have e1 : 256 ^ (8 * m - i) = 2 ^ (8 * (p % 8 + 1)) * 2 ^ (64 * (p / 8)) := by
    rw [pow256, ← Nat.pow_add]; congr 1; omega
  have e2 : 256 ^ (8 * m - (i + 1)) = 2 ^ (8 * (p % 8)) * 2 ^ (64 * (p / 8)) := by
    rw [pow256, ← Nat.pow_add]; congr 1; omega
  have h0 : lm zs (p / 8) = bval (L.take i) * 2 ^ (8 * (p % 8 + 1)) % 2 ^ 64 := by
    rw [lm_val h.small, h.num, e1, ← Nat.mul_assoc, Nat.mul_div_cancel _ (Nat.two_pow_pos _)]
  have hlt : lm zs (p / 8) + b.toNat * 2 ^ (8 * (p % 8)) < 2 ^ 64 := by rw [h0]; exact gap _ _ _ hr hbl
  refine ⟨hlt, by simpa using h.len, h.small.set _ hlt, ?_⟩
  have hv := val_set zs (p / 8) (lm zs (p / 8) + b.toNat * 2 ^ (8 * (p % 8))) hj
  rw [hb, bval_snoc, e2]
  rw [h.num, e1, show 2 ^ (8 * (p % 8 + 1)) = 256 * 2 ^ (8 * (p % 8)) by rw [show 8 * (p % 8 + 1) = 8 + 8 * (p % 8) by omega, Nat.pow_add]] at hv
  rw [Nat.add_mul] at hv
  rw [Nat.add_mul, ← Nat.mul_assoc b.toNat]
  have e3 : bval (L.take i) * 256 * (2 ^ (8 * (p % 8)) * 2 ^ (64 * (p / 8))) = bval (L.take i) * (256 * 2 ^ (8 * (p % 8)) * 2 ^ (64 * (p / 8))) := by
    simp only [Nat.mul_assoc]
  rw [e3]
  omega

theorem GettingB.done {L : List UInt8} {m : Nat} {zs : List Nat} (h : GettingB L m (8 * m) zs) (hL : L.length = 8 * m) : zs = row m (bval L) := by
  have e := h.num
  rw [Nat.sub_self, Nat.pow_zero, Nat.mul_one, List.take_of_length_le (by omega)] at e
  rw [← e, ← h.len, row_val h.small]

theorem add_byte (o b r : Nat) (h : o + b * 2 ^ r < 2 ^ 64) (hb : b < 256) : IntKind.u64.wrap ((o : Int) + IntKind.u64.wrap (IntKind.u64.wrap (b : Int) * 2 ^ r)) = ((o + b * 2 ^ r : Nat) : Int) := by
  have e1 : IntKind.u64.wrap (b : Int) = (b : Int) := by rw [IntKind.wrap_u64]; omega
  have e2 : (b : Int) * 2 ^ r = ((b * 2 ^ r : Nat) : Int) := by simp
  rw [e1, e2, IntKind.wrap_u64, IntKind.wrap_u64]
  omega

set_option maxHeartbeats 2000000 in
theorem refGet_any (s : ByteArray) (m : Nat) (w : World) (hs : s.size = 8 * m) (hm : m ≤ 16) :
    Calls Try.prog 27 #[.string s] w (MakesE m (bval (bl s)) w) := by
  have HS := Lib.hid hs
  have h1 : (s.size : Int) = 8 * (m : Int) := by omega
  have e8 : ((8 * (m : Int)) % 8 != 0) = false := by simp
  have e9 : (8 * (m : Int)) / 8 = (m : Int) := by omega
  have e10 : ¬ (128 : Int) < 8 * (m : Int) := by omega
  clear hs
  go_enter Try.func27, Try.ntmps27
  go_wp2_with (at_make; refine wpList_make_limbs _ rfl _ _ rfl m _ _ rfl rfl (by omega) (by omega) (by omega) ?_; intro w1 ho hbl)
  have HO0 := Lib.hid ho
  have HB0 := Lib.hid hbl
  clear ho hbl e8 e9 e10
  go_loopw [5] (fun i wr => ∃ k us, k ≤ 8 * m ∧ i = .int .i64 (k : Nat) ∧ GettingB (bl s) m k us ∧ Own wr w.heap.size us ∧ Below w.heap.size w wr) (fun i _ => 8 * m - (intOf i).toNat)
  case atStart => exact ⟨0, _, Nat.zero_le _, rfl, GettingB.start _ _, HO0.out, HB0.out⟩
  case round =>
    clear HO0 HB0
    obtain ⟨k, us, hk, rfl, hG, ho, hbl⟩ := hrel
    by_cases hlt : k < 8 * m
    · have hlt2 : k < s.size := by have := HS.out; omega
      have hlti : (k : Int) < 8 * (m : Int) := by omega
      obtain ⟨p, hp⟩ : ∃ p : Nat, p + 1 + k = 8 * m := ⟨8 * m - 1 - k, by omega⟩
      have hpi : 8 * (m : Int) - 1 - (k : Int) = (p : Int) := by omega
      have HP := Lib.hid hp
      obtain ⟨g1, g2⟩ := hG.step hp (by rw [length_bl]; exact HS.out) (bl_take s k hlt2)
      have A1 := Lib.hid (add_byte (lm us (p / 8)) s[k].toNat (8 * (p % 8)) g1 (UInt8.toNat_lt _))
      have G2 := Lib.hid g2
      have hcell := ho.cell (i := p / 8) (by rw [hG.len]; omega)
      have hfr := ho.frozen (p / 8)
      have hpm : p / 8 < m := by omega
      have HO := Lib.hid ho
      have HB := Lib.hid hbl
      clear ho hbl hG g1 g2 hp
      go_wp2
      clear hpi
      go_region
      go_wp2
      go_roundw
      case rel => exact ⟨k + 1, _, by omega, by go_num, G2.out, by rw [A1.out]; exact (HO.out.set _ _).drew, (HB.out.setCell (Nat.le_refl _) _).drew⟩
      case measure => simp [intOf]; omega
    · obtain rfl : k = 8 * m := by omega
      have G := Lib.hid (hG.done (by rw [length_bl]; exact HS.out))
      have HO := Lib.hid ho
      have HB := Lib.hid hbl
      clear ho hbl hG
      go_wp2
      go_ret2
      exact ⟨_, rfl, by rw [← G.out]; exact HO.out, Nat.le_refl _, HB.out⟩

/-- Another length is refused. -/
theorem refGet_bad (s : ByteArray) (w : World) (hs : s.size ≤ maxLen) (h : s.size % 8 ≠ 0 ∨ 128 < s.size) :
    Calls Try.prog 27 #[.string s] w fun e w' => e = .returned (.tuple #[.slice none 0 0, .int .i64 3]) ∧ w = w' := by
  unfold maxLen at hs
  by_cases h1 : s.size % 8 = 0
  · have h2 : (128 : Int) < (s.size : Int) := by omega
    have e8 : ((s.size : Int) % 8 != 0) = false := by simp; omega
    clear h h1
    go_enter Try.func27, Try.ntmps27
    go_wp2
    go_ret2
    exact ⟨rfl, rfl⟩
  · have e8 : ((s.size : Int) % 8 != 0) = true := by simp; omega
    clear h h1
    go_enter Try.func27, Try.ntmps27
    go_wp2
    go_ret2
    exact ⟨rfl, rfl⟩
end Go.Proofs.Ytglmpggljahkiaa
