/- What is proved here: contracts of mont.settle and multiply: the product of two elements of a modulus, divided by the width's power of 2, is put into its place. -/
import Derived.Test.YtkkmekdhejhapaaMontMul
namespace Go.Proofs.Ytkkmekdhejhapaa
open Go.RowKit
theorem below_but {w w1 w2 : World} {g : Nat} (h : Below w.heap.size w w1) (k : w1.grownBy w2 (some g)) : w.grownBy w2 (some g) :=
  ⟨k.os.trans h.os, k.tape.trans h.tape, k.output.trans h.output, Nat.le_trans h.size k.size, fun i hi hne => (k.block i (Nat.lt_of_lt_of_le hi h.size) hne).trans (h.block i hi)⟩
def Puts (g K v : Nat) (w : World) (e : Ending) (w' : World) : Prop := e = .returned (.tuple #[]) ∧ Own w' g (row K v) ∧ Below g w w' ∧ w.grownBy w' (some g)
set_option maxHeartbeats 4000000 in
theorem settle_any (gz K cz : Nat) (ds : List Nat) (sa : Option Addr) (cs : Nat) (ss : List Nat) (am : Option Addr) (cm : Nat) (ms : List Nat) (w : World) (hK : 1 ≤ K) (hK8 : K ≤ 8) (hcs : K + 1 ≤ cs) (_hcsm : cs ≤ maxLen)
    (hz : Own w gz ds) (hzl : ds.length = K) (hvs : View w sa (K + 1) ss) (hvm : View w am K ms) (h2 : val ss < 2 * val ms) :
    Calls Try.prog 98 #[.slice (some ⟨gz, 0, none⟩) K cz, .slice sa (K + 1 : Nat) cs, .slice am K cm] w (Puts gz K (val ss % val ms) w) := by
  unfold maxLen at _hcsm
  obtain ⟨b1, o1, rfl, hb1, _⟩ := hvs.cell 0 (by omega)
  obtain ⟨b2, o2, rfl, hb2, _⟩ := hvm.cell 0 (by omega)
  have hK0 : (0 : Int) < (K : Int) := by omega
  have hK8i : (K : Int) ≤ 8 := by omega
  have hp2 := Lib.hid (settled hvs.small (by rw [hvs.len]) h2 (val_lt_of hvm.small (K := K) (by rw [hvm.len]; exact Nat.le_refl _)))
  have hmm := Lib.hid (Nat.mod_eq_of_lt (val_lt_of hvm.small (K := K) (by rw [hvm.len]; exact Nat.le_refl _)))
  have hM0 : Hid (0 < val ms) := by rcases Nat.eq_zero_or_pos (val ms) with h | h; rw [h] at h2; omega; exact h
  have HZ := Lib.hid hz
  clear hz h2
  go_enter Try.func98, Try.ntmps98
  go_wp2_with fail
  have o0 : OwnT 132 (w.alloc (.cells #[.int .u64 0, .int .u64 0, .int .u64 0, .int .u64 0, .int .u64 0, .int .u64 0, .int .u64 0, .int .u64 0] 132)) w.heap.size (List.replicate K 0 ++ List.replicate (8 - K) 0) := by
    rw [List.replicate_append_replicate, show K + (8 - K) = 8 by omega]
    exact heap_alloc_new w _
  have bl0 : Below w.heap.size w (w.alloc (.cells #[.int .u64 0, .int .u64 0, .int .u64 0, .int .u64 0, .int .u64 0, .int .u64 0, .int .u64 0, .int .u64 0] 132)) := below_alloc w _
  have HO0 := Lib.hid o0
  have HB0 := Lib.hid bl0
  clear o0 bl0
  generalize w.alloc (.cells #[.int .u64 0, .int .u64 0, .int .u64 0, .int .u64 0, .int .u64 0, .int .u64 0, .int .u64 0, .int .u64 0] 132) = w1 at *
  go_loopw [8, 15] (fun cr i wr => ∃ k : Nat, k ≤ K ∧ i = .int .i64 k ∧ cr = .int .u64 ((difHi (val ss) (val ms) (2 ^ (64 * k)) : Nat) : Int) ∧ OwnT 132 wr w.heap.size (row K (difLo (val ss) (val ms) (2 ^ (64 * k))) ++ List.replicate (8 - K) 0) ∧ Below w.heap.size w wr) (fun _ i _ => K - (intOf i).toNat)
  case atStart => exact ⟨0, Nat.zero_le _, rfl, by rw [show 2 ^ (64 * 0) = 1 from rfl, difHi_one]; rfl, by rw [show 2 ^ (64 * 0) = 1 from rfl, difLo_one, row_zero]; exact HO0.out, HB0.out⟩
  case round =>
    obtain ⟨k, hk, rfl, rfl, ho, hbl⟩ := hrel
    clear HO0 HB0
    by_cases hlt : k < K
    · have S := Lib.hid (subLimb_step hvs.small hvm.small hlt)
      obtain ⟨_, _, e1, _, hcs'⟩ := (hvs.below (Nat.le_refl _) hbl).cell k (by omega)
      cases e1
      obtain ⟨_, _, e2, _, hcm'⟩ := (hvm.below (Nat.le_refl _) hbl).cell k hlt
      cases e2
      have hcell := ho.cell (i := k) (by rw [length_row]; exact hlt)
      have hfr := ho.frozen k
      have hc1 := difHi_le (val ss) (val ms) (2 ^ (64 * k))
      generalize hx : lm (row K (difLo (val ss) (val ms) (2 ^ (64 * k)))) k = x at hcell
      clear hx
      have HO := Lib.hid ho
      have HB := Lib.hid hbl
      clear ho hbl
      have hi1 : (k : Int) < (K : Int) := by omega
      have hi2 : (k : Int) < (K : Int) + 1 := by omega
      go_wp2_with fail
      go_region_with (simp only [sub64_run _ _ _ hc1])
      all_goals
        go_wp2
        go_roundw
        case rel => exact ⟨k + 1, by omega, by go_num, by rw [← S.out.2], by rw [← S.out.1]; exact HO.out.set _ _ (by rw [length_row]; exact hlt), (HB.out.setCell (p := ⟨w.heap.size, k, none⟩) (Nat.le_refl _) _).drew⟩
        case measure => simp [intOf]; omega
    · obtain rfl : k = K := by omega
      obtain ⟨_, _, e1, _, hcs'⟩ := (hvs.below (Nat.le_refl _) hbl).cell k (by omega)
      cases e1
      have hz1 := HZ.out.below HZ.out.lt hbl
      have hb1' := hbl
      have HLT := Lib.hid HZ.out.lt
      have hd : difHi (val ss) (val ms) (2 ^ (64 * k)) = if val ss % 2 ^ (64 * k) < val ms then 1 else 0 := by unfold difHi; rw [hmm.out]
      have hd2 : difLo (val ss) (val ms) (2 ^ (64 * k)) = (val ss % 2 ^ (64 * k) + 2 ^ (64 * k) - val ms) % 2 ^ (64 * k) := by unfold difLo; rw [hmm.out]
      rw [← hd, ← hd2] at hp2
      have hi2 : (k : Int) < (k : Int) + 1 := by omega
      by_cases hq : lm ss k < difHi (val ss) (val ms) (2 ^ (64 * k))
      · have v1 := (hvs.below (Nat.le_refl _) hbl).take k
        rw [show min (k + 1) k = k by omega] at v1
        have hres : row k (val ss % val ms) = ss.take k := by
          rw [← hp2.out.1 hq]
          have := row_val v1.small
          rwa [v1.len] at this
        have HR := Lib.hid hres
        have V1 := Lib.hid v1
        have HZ1 := Lib.hid hz1
        have HB1 := Lib.hid hb1'
        clear hp2 hd hd2 hres v1 hz1 hb1' ho hbl HZ
        generalize difHi (val ss) (val ms) (2 ^ (64 * k)) = bw at *
        generalize lm ss k = sk at *
        have hqi : (sk : Int) < (bw : Int) := by omega
        have hkc : (k : Int) ≤ (cs : Int) := by omega
        go_wp2_with (with_reducible refine wpList_copy_row _ w rfl (.tmp 46) (.tmp 47) rfl gz k _ ds (ss.take k) _ _ rfl rfl HZ1.out hzl V1.out hK HB1.out ?_; intro w3 ho3 hb3)
        go_end0
        exact ⟨rfl, by rw [HR.out]; exact ho3, but_below hb3 HLT.out, hb3⟩
      · have v1 := ho.view (small_row k _)
        rw [length_row] at v1
        have hres := hp2.out.2 hq
        have HR := Lib.hid hres
        have V1 := Lib.hid v1
        have HZ1 := Lib.hid hz1
        have HB1 := Lib.hid hb1'
        clear hp2 hd hd2 hres v1 hz1 hb1' ho hbl HZ
        generalize difHi (val ss) (val ms) (2 ^ (64 * k)) = bw at *
        generalize lm ss k = sk at *
        have hqi : ¬ (sk : Int) < (bw : Int) := by omega
        go_wp2_with (with_reducible refine wpList_copy_row _ w rfl (.tmp 46) (.tmp 47) rfl gz k _ ds (row k (difLo (val ss) (val ms) (2 ^ (64 * k)))) _ _ rfl rfl HZ1.out hzl V1.out hK HB1.out ?_; intro w3 ho3 hb3)
        go_end0
        exact ⟨rfl, by rw [← HR.out]; exact ho3, but_below hb3 HLT.out, hb3⟩
set_option maxHeartbeats 4000000 in
theorem multiply_any (gz K cz : Nat) (ds : List Nat) (a : Option Addr) (ca : Nat) (xs : List Nat) (b : Option Addr) (cb : Nat) (ys : List Nat) (am : Option Addr) (cm : Nat) (ms : List Nat) (neg : Nat) (w : World) (hcb : K ≤ cb) (hcbm : cb ≤ maxLen)
    (hz : Own w gz ds) (hzl : ds.length = K) (hva : View w a K xs) (hvb : View w b K ys) (hvm : View w am K ms) (hM : IsMod K ms) (hy : val ys < val ms) (hn : NegOf (lm ms 0) neg) :
    Calls Try.prog 77 #[.slice (some ⟨gz, 0, none⟩) K cz, .slice a K ca, .slice b K cb, .slice am K cm, .int .u64 (neg : Int)] w
      fun e w' => ∃ v, Puts gz K v w e w' ∧ v < val ms ∧ v * 2 ^ (64 * K) % val ms = val xs * val ys % val ms := by
  obtain ⟨hK, hK8, hodd, hM1⟩ := hM
  have hneg := hn.1
  have hn1 := hn.2.2 (by rw [lm0_odd hvm.small]; exact hodd)
  have HN1 := Lib.hid hn1
  have HNeg := Lib.hid hneg
  clear hn hn1 hneg
  obtain ⟨b1, o1, rfl, _, _⟩ := hva.cell 0 (by omega)
  have hK8i : (K : Int) + 1 ≤ 9 := by omega
  have hK0i : 0 ≤ (K : Int) + 1 := by omega
  have hKt : ((K : Int) + 1).toNat = K + 1 := by omega
  have pA := Lib.hid (val_lt_of hva.small (K := K) (by rw [hva.len]; exact Nat.le_refl _))
  have HZ := Lib.hid hz
  have HZL := Lib.hid hzl
  clear hz hzl
  go_enter Try.func77, Try.ntmps77
  go_wp2_with fail
  have o0 : OwnT 125 (w.alloc (.cells #[.int .u64 0, .int .u64 0, .int .u64 0, .int .u64 0, .int .u64 0, .int .u64 0, .int .u64 0, .int .u64 0, .int .u64 0] 125)) w.heap.size (List.replicate (K + 1) 0 ++ List.replicate (8 - K) 0) := by
    rw [List.replicate_append_replicate, show K + 1 + (8 - K) = 9 by omega]
    exact heap_alloc_new w _
  have bl0 : Below w.heap.size w (w.alloc (.cells #[.int .u64 0, .int .u64 0, .int .u64 0, .int .u64 0, .int .u64 0, .int .u64 0, .int .u64 0, .int .u64 0, .int .u64 0] 125)) := below_alloc w _
  have HO0 := Lib.hid o0
  have HB0 := Lib.hid bl0
  clear o0 bl0
  generalize w.alloc (.cells #[.int .u64 0, .int .u64 0, .int .u64 0, .int .u64 0, .int .u64 0, .int .u64 0, .int .u64 0, .int .u64 0, .int .u64 0] 125) = w1 at *
  go_loopw [19] (fun i wr => ∃ (k : Nat) (ss : List Nat), k ≤ K ∧ i = .int .i64 k ∧ Reducing (val xs) (val ys) (val ms) K k ss ∧ OwnT 125 wr w.heap.size (ss ++ List.replicate (8 - K) 0) ∧ Below w.heap.size w wr) (fun i _ => K - (intOf i).toNat)
  case atStart => exact ⟨0, _, Nat.zero_le _, rfl, Reducing.start (by omega), HO0.out, HB0.out⟩
  case round =>
    obtain ⟨k, ss, hk, rfl, hR, ho, hbl⟩ := hrel
    clear HO0 HB0
    by_cases hlt : k < K
    · obtain ⟨_, _, e1, _, hca'⟩ := (hva.below (Nat.le_refl _) hbl).cell k hlt
      cases e1
      have hl := hva.lt k
      have hi1 : (k : Int) < (K : Int) := by omega
      have HX := Lib.hid (lm_val hva.small k)
      have u1 := Lib.hid (hvb.viewB (Nat.le_refl _) hbl)
      have u2 := Lib.hid (hvm.viewB (Nat.le_refl _) hbl)
      have HR := Lib.hid hR
      have HO := Lib.hid ho
      have HB := Lib.hid hbl
      clear hR ho hbl
      generalize lm xs k = x at *
      go_wp2_with fail
      refine (addStep_any 125 w.heap.size K 9 cb cm x neg ss ys ms (List.replicate (8 - K) 0) _ _ _ hK hK8 HR.out.len (by omega) (by unfold maxLen; omega) hcb hcbm HR.out.small HO.out u1.out u2.out hl HNeg.out HN1.out).mono ?_
      rintro e w2 ⟨q, us, rfl, hq, hul, hus, hsum, ho2, hb2⟩
      have HR2 := Lib.hid (HR.out.step hy HX.out hq hul hus hsum)
      have HO2 := Lib.hid ho2
      have HB2 := Lib.hid (HB.out.trans hb2)
      clear hq hul hus hsum ho2 hb2
      go_wp2
      go_roundw
      case rel => exact ⟨k + 1, us, by omega, by go_num, HR2.out, HO2.out, HB2.out⟩
      case measure => simp [intOf]; omega
    · obtain rfl : k = K := by omega
      have v1 := ho.view hR.small
      rw [hR.len] at v1
      have V1 := Lib.hid v1
      have V2 := Lib.hid (hvm.below (Nat.le_refl _) hbl)
      have HD := Lib.hid (hR.done pA.out)
      have HL := Lib.hid hR.lt
      have HZ1 := Lib.hid (HZ.out.below HZ.out.lt hbl)
      have HLT := Lib.hid HZ.out.lt
      have HB1 := Lib.hid hbl
      clear v1 hR ho hbl HZ
      go_wp2_with fail
      refine (settle_any gz k _ ds _ _ ss _ _ ms _ hK hK8 (by omega) (by unfold maxLen; omega) HZ1.out HZL.out V1.out V2.out HL.out).mono ?_
      rintro e w3 ⟨rfl, ho3, _, hg3⟩
      have HO3 := Lib.hid ho3
      have HB3 := Lib.hid (below_but HB1.out hg3)
      clear ho3 hg3
      go_wp2
      go_end0
      exact ⟨_, ⟨rfl, HO3.out, but_below HB3.out HLT.out, HB3.out⟩, Nat.mod_lt _ (by omega), HD.out⟩
end Go.Proofs.Ytkkmekdhejhapaa
