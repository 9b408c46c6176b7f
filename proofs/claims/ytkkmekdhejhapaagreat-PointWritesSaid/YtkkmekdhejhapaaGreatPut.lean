/- What is proved here: contracts of nat.putLimb, nat.Put and of the reference's Put: a number's bytes, the highest first. -/
import Derived.Test.YtkkmekdhejhapaaGreatBytes
namespace Go.Proofs.YtkkmekdhejhapaaGreat
open Go.RowKit
def MakesB (base : Nat) (l : List UInt8) (w : World) (e : Ending) (w' : World) : Prop :=
  ∃ v, e = .returned v ∧ OwnBS w' base v l ∧ Below base w w'
theorem limb_byte (x k : Nat) : ((x : Int) / 2 ^ (8 * (7 - k)) % 256).toNat = x / 256 ^ (8 - 1 - k) % 256 := by
  rw [pow256, show 8 - 1 - k = 7 - k by omega]
  have : ((x : Int) / 2 ^ (8 * (7 - k)) % 256) = ((x / 2 ^ (8 * (7 - k)) % 256 : Nat) : Int) := by simp
  rw [this, Int.toNat_natCast]
set_option maxHeartbeats 1000000 in
theorem putLimb_any (base : Nat) (v : Value) (l : List UInt8) (x : Nat) (w : World) (_hx : x < 2 ^ 64) (ho : OwnBS w base v l) (hl : l.length ≤ 200) (hb : base ≤ w.heap.size) :
    Calls Tryz.prog 180 #[v, .int .u64 (x : Int)] w (MakesB base (l ++ be 8 x) w) := by
  go_enter Tryz.func180, Tryz.ntmps180
  go_wp2
  have HO0 := Lib.hid ho
  clear ho
  go_loopw [0, 6] (fun u i wr => ∃ k : Nat, k ≤ 8 ∧ i = .int .i64 k ∧ OwnBS wr base u (l ++ be k (x / 256 ^ (8 - k))) ∧ Below base w wr) (fun _ i _ => 8 - (intOf i).toNat)
  case atStart => exact ⟨0, Nat.zero_le _, rfl, by simpa [be] using HO0.out, Below.refl _ _⟩
  case round =>
    clear HO0
    obtain ⟨k, hk, rfl, ho, hbl⟩ := hrel
    by_cases hlt : k < 8
    · have S := Lib.hid (be_step x 8 k hlt)
      have B1 := Lib.hid (limb_byte x k)
      have hsz := hbl.size
      have hll : (l ++ be k (x / 256 ^ (8 - k))).length ≤ 1000 := by rw [List.length_append, length_be]; omega
      have hby : 0 ≤ (x : Int) / 2 ^ (8 * (7 - k)) % 256 ∧ (x : Int) / 2 ^ (8 * (7 - k)) % 256 < 256 := ⟨Int.emod_nonneg _ (by decide), Int.emod_lt_of_pos _ (by decide)⟩
      have HY := Lib.hid hby
      have HO := Lib.hid ho
      have HB := Lib.hid hbl
      have HL := Lib.hid hll
      clear ho hbl hll hby
      go_wp2_with (at_builtin; refine wpList_append_byte _ rfl (.tmp 9) (.tmp 16) rfl base _ _ rfl _ HO.out rfl HY.out HL.out (by omega) ?_; intro v' w' ho' hb')
      have HO' : Hid (OwnBS w' base v' (l ++ be (k + 1) (x / 256 ^ (8 - (k + 1))))) := by
        have h := ho'
        rw [B1.out, List.append_assoc, S.out] at h
        exact h
      have HB' := Lib.hid (HB.out.trans hb')
      clear ho' hb'
      go_roundw
      case rel => exact ⟨k + 1, by omega, by go_num, HO'.out, HB'.out⟩
      case measure => simp [intOf]; omega
    · obtain rfl : k = 8 := by omega
      have HO : Hid (OwnBS wr base u0 (l ++ be 8 x)) := by
        have h := ho
        rw [show 8 - 8 = 0 from rfl, Nat.pow_zero, Nat.div_one] at h
        exact h
      have HB := Lib.hid hbl
      clear ho hbl
      go_wp2
      go_ret
      exact ⟨_, rfl, HO.out, HB.out⟩
def MakesT (l : List UInt8) (w : World) (e : Ending) (w' : World) : Prop :=
  e = .returned (.string ⟨l.toArray⟩) ∧ Below w.heap.size w w'
set_option maxHeartbeats 1000000 in
theorem put_any (a : Option Addr) (n c : Nat) (xs : List Nat) (w : World) (hn : n ≤ c) (hm : c ≤ maxLen) (hv : View w a n xs) :
    Calls Tryz.prog 130 #[.slice a n c] w (MakesT (be (8 * min n 16) (val (xs.take 16))) w) := by
  have v1 := hv.take 16
  clear hv
  generalize xs.take 16 = zs at *
  have b1 : min n 16 ≤ 16 := by omega
  obtain ⟨i0, hi, hz0, hz1, hz2⟩ := info_parts Tryz.infoB
  go_enter Tryz.func130, Tryz.ntmps130
  go_wp2_with fail
  refine (cut_any _ _ _ _ hn hm).mono ?_
  rintro e w' ⟨rfl, rfl⟩
  clear hn hm
  generalize min n 16 = m at *
  have Z := Lib.hid (show be (8 * 0) (val zs / 2 ^ (64 * (m - 0))) = [] from rfl)
  go_wp2_with (at_make; refine wpList_make_own _ rfl _ _ 114 rfl w.heap.size 5 i0 (.int .u8 0) 1 Tryz.underlying114 hi hz0 hz1 _ _ _ (8 * m) rfl rfl (by omega) (by rw [hz2]; omega) (by unfold maxLen; omega) (Nat.le_refl _) ?_; intro w1 hown hgrow)
  have HO0 : Hid (OwnBS w1 w.heap.size (.slice (some ⟨w.heap.size, 0, none⟩) 0 (8 * m)) []) := hown
  have HB0 := Lib.hid ((Below.refl w.heap.size w).grown hgrow (Nat.le_refl _) (fun k hk => by cases hk))
  clear hown hgrow hi hz0 hz1 hz2
  go_loopw [3, 13] (fun u i wr => ∃ k : Nat, k ≤ m ∧ i = .int .i64 k ∧ OwnBS wr w.heap.size u (be (8 * k) (val zs / 2 ^ (64 * (m - k)))) ∧ Below w.heap.size w wr) (fun _ i _ => m - (intOf i).toNat)
  case atStart => exact ⟨0, Nat.zero_le _, rfl, by rw [Z.out]; exact HO0.out, HB0.out⟩
  case round =>
    clear HO0 HB0
    obtain ⟨k, hk, rfl, ho, hbl⟩ := hrel
    by_cases hlt : k < m
    · have S := Lib.hid (be_limb (val zs) m k hlt)
      have u1 := v1.below (Nat.le_refl _) hbl
      obtain ⟨b, off, rfl, _, hc⟩ := u1.cell (m - 1 - k) (by omega)
      have hx := u1.lt (m - 1 - k)
      have X := Lib.hid (lm_val v1.small (m - 1 - k))
      have hsz := hbl.size
      have HO := Lib.hid ho
      have HB := Lib.hid hbl
      clear ho hbl u1
      go_wp2_with fail
      refine (putLimb_any w.heap.size _ _ _ _ hx HO.out (by rw [length_be]; omega) hsz).mono ?_
      rintro e w2 ⟨v2, rfl, ho2, hb2⟩
      have HO2 : Hid (OwnBS w2 w.heap.size v2 (be (8 * (k + 1)) (val zs / 2 ^ (64 * (m - (k + 1)))))) := by
        have h := ho2
        rw [X.out, S.out] at h
        exact h
      have HB2 := Lib.hid (HB.out.trans hb2)
      clear ho2 hb2 HO HB
      go_wp2
      go_roundw
      case rel => exact ⟨k + 1, by omega, by go_num, HO2.out, HB2.out⟩
      case measure => simp [intOf]; omega
    · obtain rfl : k = m := by omega
      have hconv : (convert 114 9 u3).run Tryz.prog wr = .ok (.string ⟨(be (8 * k) (val zs)).toArray⟩) wr := by
        have h := ho
        rw [Nat.sub_self, Nat.mul_zero, Nat.pow_zero, Nat.div_one] at h
        exact h.str
      have HB := Lib.hid hbl
      clear ho hbl
      generalize be (8 * k) (val zs) = t at *
      go_wp2
      go_ret
      exact ⟨rfl, HB.out⟩
theorem OwnBS.alloc {w : World} {base : Nat} {v : Value} {l : List UInt8} (h : OwnBS w base v l) (o : Obj) : OwnBS (w.alloc o) base v l := World.ownsRow.alloc h o
theorem ownBS_empty (w : World) (base : Nat) (hb : base ≤ w.heap.size) : OwnBS (w.alloc (.cells #[] 5)) base (.slice (some ⟨w.heap.size, 0, none⟩) 0 0) [] :=
  World.ownsRow_lit w #[] 0 hb (Nat.zero_le _) (by simp)
theorem byte_of_limb (V q : Nat) : V / 2 ^ (64 * (q / 8)) % 2 ^ 64 / 2 ^ (8 * (q % 8)) % 256 = V / 256 ^ q % 256 := by
  have hr : q % 8 < 8 := Nat.mod_lt _ (by decide)
  have e : (2 : Nat) ^ 64 = 2 ^ (8 * (q % 8)) * (256 * 2 ^ (56 - 8 * (q % 8))) := by
    rw [show 256 = 2 ^ 8 from rfl, ← Nat.pow_add, ← Nat.pow_add]; congr 1; omega
  have e2 : 256 ^ q = 2 ^ (64 * (q / 8)) * 2 ^ (8 * (q % 8)) := by rw [pow256, ← Nat.pow_add]; congr 1; omega
  rw [e2, ← Nat.div_div_eq_div_mul]
  generalize V / 2 ^ (64 * (q / 8)) = U
  rw [e, Nat.mod_mul_right_div_self, Nat.mod_mul_right_mod]
theorem ref_byte (x s : Nat) : ((x : Int) / 2 ^ s).tmod 256 % 256 = ((x / 2 ^ s % 256 : Nat) : Int) := by
  rw [Int.tmod_eq_emod_of_nonneg (Int.ediv_nonneg (by omega) (Int.le_of_lt (Int.pow_pos (by decide)))), Int.emod_emod_of_dvd _ (Int.dvd_refl _)]
  simp
end Go.Proofs.YtkkmekdhejhapaaGreat
