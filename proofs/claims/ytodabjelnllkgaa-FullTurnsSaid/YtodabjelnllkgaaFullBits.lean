/- What is proved here: full.bitsDown and the iterator that it answers: the bits of a number of six limbs are handed on, from its highest 1 down. -/
import Derived.Test.YtodabjelnllkgaaBitsDown
import Derived.Test.YtodabjelnllkgaaNumFp
namespace Go.Proofs.Ytodabjelnllkgaa
open Go.RowKit Go.Shelf

attribute [local go_sem] Oper.semAt_some

theorem lb_bit (v q : Nat) : lb v (q / 64) / 2 ^ (q % 64) % 2 = v / 2 ^ q % 2 := by
  have h : Nat.testBit (lb v (q / 64)) (q % 64) = Nat.testBit v q := by
    rw [lb, Nat.testBit_mod_two_pow, Nat.testBit_div_two_pow, show q % 64 + 64 * (q / 64) = q by omega]
    simp [Nat.mod_lt]
  rw [Nat.testBit_eq_decide_div_mod_eq, Nat.testBit_eq_decide_div_mod_eq] at h
  have h' := of_decide_eq_true (p := (lb v (q / 64) / 2 ^ (q % 64) % 2 = 1 ↔ v / 2 ^ q % 2 = 1)) (by simpa using h)
  omega

set_option maxRecDepth 100000 in
set_option maxHeartbeats 2000000 in
theorem fullBits1_stops (n : Nat) (hn : 1 ≤ n) (eb n₀ v : Nat) (w : World) (hv : v < fpB) (heb : eb < w.heap.size) (_hn₀ : n₀ ≤ w.heap.size)
    (hc : Arr 24 w eb (row 6 v)) :
    SeqStopsK Fence.wide n Try.prog 57 #[.pointer (some ⟨eb, 0, none⟩)] (fun x : Nat => #[Value.int .u64 (x : Int)]) (KeepsE n₀ eb) (fun ys => numOf ys = v) (fun _ => True) 384 w := fun l J Jx W hW _ _ hY h0 => by
  have hcW : Arr 24 W eb (row 6 v) := (hW.block eb heb).trans hc
  have HCW := Lib.hid hcW
  obtain ⟨T, hT⟩ : ∃ T, T = 64 * 6 := ⟨_, rfl⟩
  have HN0 : Hid (v / 2 ^ T = 0) := by
    rw [hT]
    exact Lib.hid (Nat.div_eq_of_lt (by rw [← fpB_eq]; exact hv))
  clear hcW hW hc hv
  refine callsIn_of_wp Try.func57 rfl trivial ?_ rfl
  simp only [Try.ntmps57, List.size_toArray, List.length_cons, List.length_nil, Nat.reduceAdd, Nat.reduceSub, Array.replicate_succ, Array.replicate_zero, List.push_toArray, List.append_toArray, List.nil_append, List.cons_append]
  gi_wp2_with fail
  gi_loopw [3, 4] (fun b i wr => ∃ (k : Nat) (pre : List Nat), pre.length + k ≤ 384 ∧ i = .int .i64 ((k : Int) - 1) ∧ b = .bool (decide (v / 2 ^ k ≠ 0)) ∧ numOf pre = v / 2 ^ k ∧ J pre wr ∧ KeepsE n₀ eb W wr) (fun _ i _ => ((intOf i) + 1).toNat)
  case atStart => exact ⟨T, [], by simp; omega, by simp [hT], by rw [HN0.out]; rfl, by rw [HN0.out]; rfl, h0, Below.refl _ _, rfl⟩
  case round =>
    obtain ⟨k, pre, hk, rfl, rfl, hnum, hJs, hnx⟩ := hrel
    have hcx : Arr 24 wr eb (row 6 v) := hnx.2.trans HCW.out
    by_cases hlt : 1 ≤ k
    · obtain ⟨q, rfl⟩ : ∃ q, k = q + 1 := ⟨k - 1, by omega⟩
      have hce := hcx.rc (q / 64) (by omega)
      have hsm := lb_lt v (q / 64)
      have HNum := Lib.hid hnum
      have HNX := Lib.hid hnx
      have HB := Lib.hid (lb_bit v q)
      clear hnum hnx hcx
      generalize lb v (q / 64) = x at *
      obtain ⟨bt, hbt⟩ : ∃ bt, bt = x / 2 ^ (q % 64) % 2 := ⟨_, rfl⟩
      have hbit : bits BinOp.and IntKind.u64 ((x : Int) / 2 ^ (q % 64)) 1 = (bt : Int) := by rw [hbt]; exact and_one_limb x (q % 64) hsm
      have HBT : Hid (v / 2 ^ q % 2 = bt) := Lib.hid (HB.out.symm.trans hbt.symm)
      have HSn := Lib.hid (num_step HNum.out HBT.out)
      have HD : Hid (v / 2 ^ (q + 1) = v / 2 ^ q / 2) := by rw [Nat.pow_succ, ← Nat.div_div_eq_div_mul]; exact Lib.hid rfl
      clear hbt HB
      by_cases hbg : v / 2 ^ (q + 1) = 0
      · rw [decide_eq_false (by omega)]
        by_cases h1 : bt = 1
        · have hb1 : ((bt : Int) == 1) = true := by simp; omega
          have H1 := Lib.hid h1
          clear h1
          obtain ⟨fn, tmps, assign, body, hy, hR⟩ := hY pre bt wr hJs (by omega)
          gi_wp2
          refine hR.mono ?_
          rintro e W3 (⟨rfl, hJ3, hk3⟩ | ⟨rfl, hJx3⟩)
          · gi_wp2
            go_roundw
            case rel => exact ⟨q, pre ++ [bt], by simp; omega, by go_num, by rw [decide_eq_true (by have := HD.out; have := HBT.out; have := H1.out; omega)], HSn.out, hJ3, keepsE_t HNX.out hk3⟩
            case measure => simp [intOf]
          · gi_wp2
            refine bodyPost_ret (results_none rfl _ _ _) rfl ?_
            exact ⟨⟨_, rfl⟩, .inr ⟨_, trivial, hJx3⟩⟩
        · have hb1 : ((bt : Int) == 1) = false := by simp; omega
          have H1 := Lib.hid h1
          clear h1
          gi_wp2
          refine ⟨nofun, ?_⟩
          gi_wp2
          go_roundw
          case rel => exact ⟨q, pre, by omega, by go_num, by rw [decide_eq_false (by have := H1.out; have := HD.out; have := HBT.out; omega)], by have := H1.out; have := HNum.out; have := HD.out; have := HBT.out; omega, hJs, HNX.out⟩
          case measure => simp [intOf]
      · rw [decide_eq_true hbg]
        obtain ⟨fn, tmps, assign, body, hy, hR⟩ := hY pre bt wr hJs (by omega)
        gi_wp2
        refine hR.mono ?_
        rintro e W3 (⟨rfl, hJ3, hk3⟩ | ⟨rfl, hJx3⟩)
        · gi_wp2
          go_roundw
          case rel => exact ⟨q, pre ++ [bt], by simp; omega, by go_num, by rw [decide_eq_true (by have := HD.out; have := HBT.out; omega)], HSn.out, hJ3, keepsE_t HNX.out hk3⟩
          case measure => simp [intOf]
        · gi_wp2
          refine bodyPost_ret (results_none rfl _ _ _) rfl ?_
          exact ⟨⟨_, rfl⟩, .inr ⟨_, trivial, hJx3⟩⟩
    · obtain rfl : k = 0 := by omega
      gi_wp2
      go_end0
      exact ⟨⟨_, rfl⟩, .inl ⟨pre, by rw [hnum]; simp, hJs⟩⟩
end Go.Proofs.Ytodabjelnllkgaa
