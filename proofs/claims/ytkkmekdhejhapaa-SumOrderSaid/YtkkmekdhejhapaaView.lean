/- What is proved here: plain facts on rows of limbs as they lie in memory; contracts of the small functions that only read (nat.cut, nat.limb, the reference's Cut, wide, Bit). No conditions but those that each theorem names. -/
import Derived.Test.YtkkmekdhejhapaaProg
import Derived.Test.YtkkmekdhejhapaaMath
import Derived.WalkKit
import Derived.WalkSpells
import Derived.Deep.QuietTactic
import Derived.BigQuiet
import Derived.Lib.Hide
namespace Go.Proofs.Ytkkmekdhejhapaa
open Go.RowKit
structure View (w : World) (a : Option Addr) (n : Nat) (xs : List Nat) : Prop where
  len : xs.length = n
  small : Small xs
  cell : ∀ i, i < n → ∃ b off, a = some ⟨b, off, none⟩ ∧ b < w.heap.size ∧ w.cell? ⟨b, off + i, none⟩ = some (.int .u64 ((lm xs i : Nat) : Int))
theorem View.lt {w : World} {a : Option Addr} {n : Nat} {xs : List Nat} (h : View w a n xs) (i : Nat) : lm xs i < 2 ^ 64 := lm_lt h.small i
theorem View.below {w w' : World} {a : Option Addr} {n : Nat} {xs : List Nat} (h : View w a n xs) {B : Nat} (hB : w.heap.size ≤ B) (hb : Below B w w') : View w' a n xs :=
  ⟨h.len, h.small, fun i hi => by
    obtain ⟨b, off, e, hlt, hc⟩ := h.cell i hi
    exact ⟨b, off, e, Nat.lt_of_lt_of_le hlt hb.size, (hb.cell (show b < B by omega)).trans hc⟩⟩
theorem View.take {w : World} {a : Option Addr} {n : Nat} {xs : List Nat} (h : View w a n xs) (k : Nat) : View w a (min n k) (xs.take k) :=
  ⟨by rw [List.length_take, h.len]; omega, h.small.take k, fun i hi => by
    obtain ⟨b, off, e, hlt, hc⟩ := h.cell i (by omega)
    refine ⟨b, off, e, hlt, hc.trans ?_⟩
    rw [lm_take (by omega)]⟩
structure ViewB (B : Nat) (w : World) (a : Option Addr) (n : Nat) (xs : List Nat) : Prop where
  len : xs.length = n
  small : Small xs
  cell : ∀ i, i < n → ∃ b off, a = some ⟨b, off, none⟩ ∧ b < B ∧ w.cell? ⟨b, off + i, none⟩ = some (.int .u64 ((lm xs i : Nat) : Int))
theorem cell_lt {w : World} {b o : Nat} {v : Value} (h : w.cell? ⟨b, o, none⟩ = some v) : b < w.heap.size := by
  rcases Nat.lt_or_ge b w.heap.size with g | g
  · exact g
  · simp [World.cell?, Array.getElem?_eq_none g] at h
theorem ViewB.lt {B : Nat} {w : World} {a : Option Addr} {n : Nat} {xs : List Nat} (h : ViewB B w a n xs) (i : Nat) : lm xs i < 2 ^ 64 := lm_lt h.small i
theorem View.viewB {w w' : World} {a : Option Addr} {n : Nat} {xs : List Nat} (h : View w a n xs) {B : Nat} (hB : w.heap.size ≤ B) (hb : Below B w w') : ViewB B w' a n xs :=
  ⟨h.len, h.small, fun i hi => by
    obtain ⟨b, off, e, hlt, hc⟩ := h.cell i hi
    exact ⟨b, off, e, by omega, (hb.cell (show b < B by omega)).trans hc⟩⟩
theorem ViewB.view {B : Nat} {w : World} {a : Option Addr} {n : Nat} {xs : List Nat} (h : ViewB B w a n xs) : View w a n xs :=
  ⟨h.len, h.small, fun i hi => by
    obtain ⟨b, off, e, _, hc⟩ := h.cell i hi
    exact ⟨b, off, e, cell_lt hc, hc⟩⟩
theorem ViewB.below {B : Nat} {w w' : World} {a : Option Addr} {n : Nat} {xs : List Nat} (h : ViewB B w a n xs) {B' : Nat} (hB : B ≤ B') (hb : Below B' w w') : ViewB B w' a n xs :=
  ⟨h.len, h.small, fun i hi => by
    obtain ⟨b, off, e, hlt, hc⟩ := h.cell i hi
    exact ⟨b, off, e, hlt, (hb.cell (show b < B' by omega)).trans hc⟩⟩
theorem ret_int {k : IntKind} {a b : Int} (h : a = b) : Ending.returned (.int k a) = .returned (.int k b) := by rw [h]
theorem cut_any (a : Option Addr) (n c : Nat) (w : World) (hn : n ≤ c) (hm : c ≤ maxLen) :
    Calls Try.prog 49 #[.slice a n c] w fun e w' => e = .returned (.slice a (min n 16 : Nat) (min n 16 : Nat)) ∧ w = w' := by
  unfold maxLen at hm
  by_cases h : n ≤ 16
  · have H := Lib.hid (show min n 16 = n by omega)
    go_enter Try.func49, Try.ntmps49
    go_wp2
    go_ret
    rw [H.out]
    exact ⟨rfl, rfl⟩
  · have H := Lib.hid (show min n 16 = 16 by omega)
    have h' : ¬ (n : Int) ≤ 16 := by omega
    go_enter Try.func49, Try.ntmps49
    go_wp2
    go_ret
    rw [H.out]
    exact ⟨rfl, rfl⟩
theorem limb_any (a : Option Addr) (n c : Nat) (i : Int) (xs : List Nat) (w : World) (h0 : 0 ≤ i) (hm : n ≤ maxLen) (hv : View w a n xs) :
    Calls Try.prog 51 #[.slice a n c, .int .i64 i] w fun e w' => e = .returned (.int .u64 ((lm xs i.toNat : Nat) : Int)) ∧ w = w' := by
  unfold maxLen at hm
  by_cases h : i < n
  · obtain ⟨b, off, rfl, _, hc⟩ := hv.cell i.toNat (by omega)
    go_enter Try.func51, Try.ntmps51
    go_wp2
    go_ret
    exact ⟨rfl, rfl⟩
  · have hl := hv.len
    have H := Lib.hid (show lm xs i.toNat = 0 from lm_zero (by omega))
    clear hl hv
    go_enter Try.func51, Try.ntmps51
    go_wp2
    go_ret
    rw [H.out]
    exact ⟨rfl, rfl⟩
end Go.Proofs.Ytkkmekdhejhapaa
