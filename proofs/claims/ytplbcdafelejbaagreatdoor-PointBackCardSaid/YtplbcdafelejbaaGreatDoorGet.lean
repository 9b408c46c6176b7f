/- What is proved here: contracts of nat.getLimb, nat.Get and of the reference's Get: the number whose bytes, the highest first, a text is. -/
import Derived.Test.YtplbcdafelejbaaGreatDoorBytes
import Derived.Laws.Bits64b
import Derived.BigRegion
namespace Go.Proofs.YtplbcdafelejbaaGreatDoor
open Go.RowKit
def bl (s : ByteArray) : List UInt8 := s.data.toList
theorem length_bl (s : ByteArray) : (bl s).length = s.size := Array.length_toList
theorem bl_take (s : ByteArray) (k : Nat) (h : k < s.size) : (bl s).take (k + 1) = (bl s).take k ++ [s[k]] := by
  rw [List.take_succ_eq_append_getElem (by rw [length_bl]; exact h)]
  rfl
theorem or_byte (v b : Nat) (hv : v * 256 < 2 ^ 64) (hb : b < 256) : bits BinOp.or IntKind.u64 (IntKind.u64.wrap ((v : Int) * 256)) (IntKind.u64.wrap (b : Int)) = ((v * 256 + b : Nat) : Int) := by
  have e1 : IntKind.u64.wrap ((v : Int) * 256) = ((v * 256 : Nat) : Int) := by rw [IntKind.wrap_u64]; omega
  have e2 : IntKind.u64.wrap (b : Int) = (b : Int) := by rw [IntKind.wrap_u64]; omega
  rw [e1, e2, bits_or_u64_nat _ _ (by omega) (by omega)]
  congr 1
  have := Nat.shiftLeft_add_eq_or_of_lt (i := 8) (b := b) (by omega) v
  rw [Nat.shiftLeft_eq] at this
  exact this.symm
theorem bval_le (l : List UInt8) (h : l.length ≤ 7) : bval l * 256 < 2 ^ 64 := by
  have h1 := bval_lt l
  have h2 : 256 ^ l.length ≤ 256 ^ 7 := Nat.pow_le_pow_right (by decide) h
  have h3 : (256 : Nat) ^ 7 * 256 = 2 ^ 64 := by decide
  omega
set_option maxHeartbeats 400000 in
theorem getLimb_any (s : ByteArray) (w : World) (hs : s.size ≤ 8) :
    Calls Tryz.prog 164 #[.string s] w fun e w' => e = .returned (.int .u64 ((bval (bl s) : Nat) : Int)) ∧ w = w' := by
  go_enter Tryz.func164, Tryz.ntmps164
  go_wp2
  go_loop [3, 7] (fun x i => ∃ k : Nat, k ≤ s.size ∧ i = .int .i64 k ∧ x = .int .u64 ((bval ((bl s).take k) : Nat) : Int)) (fun _ i => s.size - (intOf i).toNat)
  case atStart => exact ⟨0, Nat.zero_le _, rfl, rfl⟩
  case round =>
    obtain ⟨k, hk, rfl, rfl⟩ := hrel
    by_cases hlt : k < s.size
    · have E := Lib.hid (or_byte (bval ((bl s).take k)) s[k].toNat (bval_le _ (by rw [List.length_take]; omega)) (UInt8.toNat_lt _))
      have T := Lib.hid (bl_take s k hlt)
      go_wp2
      go_round
      case rel => exact ⟨k + 1, by omega, by go_num, by rw [E.out, T.out, bval_snoc]⟩
      case measure => simp [intOf]; omega
    · have T := Lib.hid (show (bl s).take k = bl s from List.take_of_length_le (by rw [length_bl]; omega))
      go_wp2
      go_ret
      exact ⟨ret_int (by rw [T.out]), rfl⟩
structure Getting (L : List UInt8) (m k : Nat) (zs : List Nat) : Prop where
  len : zs.length = m
  small : Small zs
  num : val zs = bval (L.take (8 * k)) * 2 ^ (64 * (m - k))
theorem Getting.start (L : List UInt8) (m : Nat) : Getting L m 0 (List.replicate m 0) :=
  ⟨by simp, fun x hx => by rw [(List.mem_replicate.1 hx).2]; decide, by rw [val_zeros]; simp [bval]⟩
theorem Getting.step {L : List UInt8} {m k : Nat} {zs : List Nat} (h : Getting L m k zs) (hk : k < m) (hL : L.length = 8 * m) {x : Nat} (hx : x = bval ((L.drop (8 * k)).take 8)) :
    Getting L m (k + 1) (zs.set (m - 1 - k) x) := by
  have hlen : ((L.drop (8 * k)).take 8).length = 8 := by rw [List.length_take, List.length_drop]; omega
  have hxl : x < 2 ^ 64 := by
    rw [hx]
    have := bval_lt ((L.drop (8 * k)).take 8)
    rw [hlen] at this
    exact this
  have hj : m - 1 - k < zs.length := by rw [h.len]; omega
  have e1 : 64 * (m - k) = 64 * (m - 1 - k) + 64 := by omega
  have h0 : lm zs (m - 1 - k) = 0 := by
    rw [lm_val h.small, h.num, e1, Nat.pow_add, ← Nat.mul_assoc, Nat.mul_right_comm, Nat.mul_div_cancel _ (Nat.two_pow_pos _), Nat.mul_mod_left]
  have hv := val_set zs (m - 1 - k) x hj
  rw [h0] at hv
  have et : L.take (8 * (k + 1)) = L.take (8 * k) ++ (L.drop (8 * k)).take 8 := by
    rw [show 8 * (k + 1) = 8 * k + 8 by omega, List.take_add]
  refine ⟨by simpa using h.len, h.small.set _ hxl, ?_⟩
  rw [et, bval_append, hlen, ← hx, show m - (k + 1) = m - 1 - k by omega]
  rw [h.num, e1, Nat.pow_add] at hv
  have e2 : (256 : Nat) ^ 8 = 2 ^ 64 := by decide
  rw [e2, Nat.add_mul, Nat.mul_assoc, Nat.mul_comm (2 ^ 64)]
  omega
theorem Getting.done {L : List UInt8} {m : Nat} {zs : List Nat} (h : Getting L m m zs) (hL : L.length = 8 * m) : zs = row m (bval L) := by
  have e := h.num
  rw [Nat.sub_self, Nat.mul_zero, Nat.pow_zero, Nat.mul_one, List.take_of_length_le (by omega)] at e
  rw [← e, ← h.len, row_val h.small]
def MakesE (K v : Nat) (w : World) (e : Ending) (w' : World) : Prop :=
  ∃ g : Nat, e = .returned (.tuple #[.slice (some ⟨g, 0, none⟩) K K, .int .i64 0]) ∧ Own w' g (row K v) ∧ w.heap.size ≤ g ∧ Below w.heap.size w w'
theorem bl_extract (s : ByteArray) (k : Nat) : bl (s.extract (8 * k) (8 * (k + 1))) = ((bl s).drop (8 * k)).take 8 := by
  simp only [bl, ByteArray.data_extract, Array.toList_extract, List.extract_eq_take_drop]
  congr 1
  omega
set_option maxHeartbeats 1000000 in
theorem get_any (s : ByteArray) (m : Nat) (w : World) (hs : s.size = 8 * m) (hm : m ≤ 16) :
    Calls Tryz.prog 124 #[.string s] w (MakesE m (bval (bl s)) w) := by
  have HS := Lib.hid hs
  have h1 : (s.size : Int) = 8 * (m : Int) := by omega
  have e8 : ((8 * (m : Int)) % 8 != 0) = false := by simp
  have e9 : (8 * (m : Int)) / 8 = (m : Int) := by omega
  have e10 : ¬ (128 : Int) < 8 * (m : Int) := by omega
  clear hs
  go_enter Tryz.func124, Tryz.ntmps124
  go_wp2_with (at_make; refine wpList_make_limbs _ rfl _ _ rfl m _ _ rfl rfl (by omega) (by omega) (by omega) ?_; intro w1 ho hbl)
  have HO0 := Lib.hid ho
  have HB0 := Lib.hid hbl
  clear ho hbl e8 e9 e10
  go_loopw [21] (fun i wr => ∃ k us, k ≤ m ∧ i = .int .i64 (k : Nat) ∧ Getting (bl s) m k us ∧ Own wr w.heap.size us ∧ Below w.heap.size w wr) (fun i _ => m - (intOf i).toNat)
  case atStart => exact ⟨0, _, Nat.zero_le _, rfl, Getting.start _ _, HO0.out, HB0.out⟩
  case round =>
    clear HO0 HB0
    obtain ⟨k, us, hk, rfl, hG, ho, hbl⟩ := hrel
    by_cases hlt : k < m
    · have G := Lib.hid (hG.step hlt (by rw [length_bl]; exact HS.out) rfl)
      have hcell := ho.cell (i := m - 1 - k) (by rw [hG.len]; omega)
      have hfr := ho.frozen (m - 1 - k)
      have X := Lib.hid (bl_extract s k)
      have hz8 : (s.extract (8 * k) (8 * (k + 1))).size ≤ 8 := by simp; omega
      have HO := Lib.hid ho
      have HB := Lib.hid hbl
      clear ho hbl hG
      go_wp2_with fail
      refine (getLimb_any _ _ hz8).mono ?_
      rintro e w' ⟨rfl, rfl⟩
      rw [X.out]
      clear X hz8
      go_wp2
      go_roundw
      case rel => exact ⟨k + 1, _, by omega, by go_num, G.out, HO.out.set _ _, HB.out.setCell (Nat.le_refl _) _⟩
      case measure => simp [intOf]; omega
    · obtain rfl : k = m := by omega
      have G := Lib.hid (hG.done (by rw [length_bl]; exact HS.out))
      have HO := Lib.hid ho
      have HB := Lib.hid hbl
      clear ho hbl hG
      go_wp2
      go_ret2
      exact ⟨_, rfl, by rw [← G.out]; exact HO.out, Nat.le_refl _, HB.out⟩
end Go.Proofs.YtplbcdafelejbaaGreatDoor
