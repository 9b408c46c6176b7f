/- What is proved here: mont.bitsDown and the iterator that it answers: the bits of a number are handed on, from its highest 1 down. -/
import Derived.RangeFuncNested
import Derived.RangeFuncBound
import Derived.RangeFuncCalls
import Derived.RangeFuncLeaves
import Derived.RangeFuncFrom
import Derived.Shelf.Abstract
import Derived.Shelf.RegionOpen
import Derived.WalkKit
import Derived.WalkSmall
import Derived.OwnWalkIn
import Derived.TacticsInMore
import Derived.LoopNIn
import Derived.LoopIn
import Derived.Test.YtkkmekdhejhapaaGreatShort
namespace Go.Proofs.YtkkmekdhejhapaaGreat
open Go.RowKit Go.Shelf
attribute [local go_sem] Oper.semAt_some
def numOf : List Nat → Nat := List.foldl (fun s x => 2 * s + (if x = 1 then 1 else 0)) 0
theorem numOf_snoc (pre : List Nat) (x : Nat) : numOf (pre ++ [x]) = 2 * numOf pre + (if x = 1 then 1 else 0) := by simp [numOf]
def KeepsE (n₀ eb : Nat) (W W' : World) : Prop := Below n₀ W W' ∧ W'.heap[eb]? = W.heap[eb]?
theorem keepsE_t {n₀ eb : Nat} {A B C : World} (h : KeepsE n₀ eb A B) (k : KeepsE n₀ eb B C) : KeepsE n₀ eb A C := ⟨h.1.trans k.1, k.2.trans h.2⟩
theorem keepsE_b {n₀ eb : Nat} {w : World} (hn : n₀ ≤ w.heap.size) (he : eb < w.heap.size) (W : World) (l : Nat) (o o' : Obj) (hl : w.heap.size ≤ l) (h : W.heap[l]? = some o) (h1 : o.isCells = false) (h2 : o.isWalk = false) : KeepsE n₀ eb W (W.putObj l o') :=
  ⟨belowK_b hn W l o o' hl h h1 h2, by
    have hg := grownBy_putObj' W l o'
    exact hg.block eb (by have := (Array.getElem?_eq_some_iff.1 h).1; omega) (fun e => by cases e; omega)⟩
theorem cell_box {W : World} {eb : Nat} {v : Value} {t : TypeId} (h : W.heap[eb]? = some (.cells #[v] t (0, 0))) : W.cell? ⟨eb, 0, none⟩ = some v := by
  rw [cell_of_row W eb 0 _ _ (0, 0) h]; rfl
theorem and_one_limb (x r : Nat) (hx : x < 2 ^ 64) : bits BinOp.and IntKind.u64 ((x : Int) / 2 ^ r) 1 = ((x / 2 ^ r % 2 : Nat) : Int) := by
  have e : (x : Int) / 2 ^ r = ((x / 2 ^ r : Nat) : Int) := by simp
  have hl : x / 2 ^ r < 2 ^ 64 := Nat.lt_of_le_of_lt (Nat.div_le_self _ _) hx
  rw [e]
  generalize x / 2 ^ r = y at *
  rw [and_one_u64 _ (by omega) (by omega)]
  omega
theorem num_step {pre : List Nat} {E q bt : Nat} (h : numOf pre = E / 2 ^ (q + 1)) (hb : E / 2 ^ q % 2 = bt) : numOf (pre ++ [bt]) = E / 2 ^ q := by
  rw [numOf_snoc, h, ← hb]
  have e : E / 2 ^ q = 2 * (E / 2 ^ (q + 1)) + E / 2 ^ q % 2 := by
    rw [Nat.pow_succ, ← Nat.div_div_eq_div_mul]; omega
  split <;> omega
theorem div_nbits2 (v : Nat) : v / 2 ^ nbits v = 0 := by
  apply Nat.div_eq_of_lt
  unfold nbits
  split
  · next h => rw [h]; decide
  · exact Nat.lt_log2_self
set_option maxRecDepth 100000 in
set_option maxHeartbeats 2000000 in
theorem bitsDown1_stops (n : Nat) (hn : 1 ≤ n) (eb n₀ : Nat) (ae : Option Addr) (ne ce : Nat) (es : List Nat) (w : World) (hne : ne ≤ ce) (hme : ce ≤ maxLen) (h16 : ne ≤ 16) (heb : eb < w.heap.size) (hn₀ : n₀ ≤ w.heap.size)
    (hc : w.heap[eb]? = some (.cells #[.slice ae ne ce] 103 (0, 0))) (hv : ViewB n₀ w ae ne es) :
    SeqStopsK Fence.wide n Tryz.prog 176 #[.pointer (some ⟨eb, 0, none⟩)] (fun x : Nat => #[Value.int .u64 (x : Int)]) (KeepsE n₀ eb) (fun ys => numOf ys = val es) (fun _ => True) (nbits (val es)) w := fun l J Jx W hW _ _ hY h0 => by
  have hcW : W.heap[eb]? = some (.cells #[.slice ae ne ce] 103 (0, 0)) := (hW.block eb heb).trans hc
  have hvW : ViewB n₀ W ae ne es := hv.below (Nat.le_refl _) (hW.mono hn₀)
  have hc0 := cell_box hcW
  have pE := Lib.hid (val_lt_of hv.small (K := ne) (by rw [hv.len]; exact Nat.le_refl _))
  have hnb : nbits (val es) ≤ 64 * ne := nbits_le pE.out
  have HCW := Lib.hid hcW
  have HVW := Lib.hid hvW
  clear hcW hvW hW hc hv
  refine callsIn_of_wp Tryz.func176 rfl trivial ?_ rfl
  simp only [Tryz.ntmps176, List.size_toArray, List.length_cons, List.length_nil, Nat.reduceAdd, Nat.reduceSub, Array.replicate_succ, Array.replicate_zero, List.push_toArray, List.append_toArray, List.nil_append, List.cons_append]
  gi_wp2_with (refine ⟨trivial, ?_⟩; gi_at_call 174; refine (callsIn_wide.2 (bits_short _ ne ce es _ hne hme HVW.out.view h16 rfl)).mono ?_; rintro e w' ⟨rfl, rfl⟩)
  generalize hN : nbits (val es) = N at *
  have HN0 : Hid (val es / 2 ^ N = 0) := by rw [← hN]; exact div_nbits2 _
  clear hN
  gi_loopw [3] (fun i wr => ∃ (k : Nat) (pre : List Nat), pre.length + k = N ∧ i = .int .i64 ((k : Int) - 1) ∧ numOf pre = val es / 2 ^ k ∧ J pre wr ∧ KeepsE n₀ eb W wr) (fun i _ => ((intOf i) + 1).toNat)
  case atStart => exact ⟨N, [], by simp, rfl, HN0.out.symm, h0, Below.refl _ _, rfl⟩
  case round =>
    obtain ⟨k, pre, hk, rfl, hnum, hJs, hnx⟩ := hrel
    have hcx := cell_box (hnx.2.trans HCW.out)
    have hvx := HVW.out.below (Nat.le_refl _) hnx.1
    by_cases hlt : 1 ≤ k
    · obtain ⟨q, rfl⟩ : ∃ q, k = q + 1 := ⟨k - 1, by omega⟩
      obtain ⟨b, off, rfl, _, hce⟩ := hvx.cell (q / 64) (by omega)
      have hsm := hvx.lt (q / 64)
      have HNum := Lib.hid hnum
      have HNX := Lib.hid hnx
      have HB : Hid (val es / 2 ^ q % 2 = lm es (q / 64) / 2 ^ (q % 64) % 2) := (bitOf_val hvx.small q).symm
      clear hnum hnx hvx
      generalize lm es (q / 64) = x at *
      obtain ⟨bt, hbt⟩ : ∃ bt, bt = x / 2 ^ (q % 64) % 2 := ⟨_, rfl⟩
      have hbit : bits BinOp.and IntKind.u64 ((x : Int) / 2 ^ (q % 64)) 1 = (bt : Int) := by rw [hbt]; exact and_one_limb x (q % 64) hsm
      have HBT := Lib.hid (HB.out.trans hbt.symm)
      have HSn := Lib.hid (num_step HNum.out HBT.out)
      clear hbt HB
      obtain ⟨fn, tmps, assign, body, hy, hR⟩ := hY pre bt wr hJs (by omega)
      gi_wp2
      refine hR.mono ?_
      rintro e W3 (⟨rfl, hJ3, hk3⟩ | ⟨rfl, hJx3⟩)
      · gi_wp2
        go_roundw
        case rel => exact ⟨q, pre ++ [bt], by simp; omega, by go_num, HSn.out, hJ3, keepsE_t HNX.out hk3⟩
        case measure => simp [intOf]
      · gi_wp2
        refine bodyPost_ret (results_none rfl _ _ _) rfl ?_
        exact ⟨⟨_, rfl⟩, .inr ⟨_, trivial, hJx3⟩⟩
    · obtain rfl : k = 0 := by omega
      gi_wp2
      go_end0
      exact ⟨⟨_, rfl⟩, .inl ⟨pre, by rw [hnum]; simp, hJs⟩⟩
theorem bitsDown_any (ae : Option Addr) (ne ce : Nat) (w : World) :
    Calls Tryz.prog 127 #[.slice ae ne ce] w fun e w' => e = .returned (.func (.func 176) #[] #[.pointer (some ⟨w.heap.size, 0, none⟩)]) ∧ w' = w.alloc (.cells #[.slice ae ne ce] 103) := by
  go_enter Tryz.func127, Tryz.ntmps127
  go_wp2
  go_ret
  exact ⟨rfl, rfl⟩
end Go.Proofs.YtkkmekdhejhapaaGreat
