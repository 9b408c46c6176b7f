/- What is proved here: an array of 6 limbs that came in as an argument is a number. -/
import Derived.Test.YthmdfjlmmfphiaaNumFp
import Derived.OpenShut
import Derived.ChangeOld
import Derived.ProofKit
namespace Go.Proofs.Ythmdfjlmmfphiaa
open Go.RowKit

theorem fp_of_limbs {x0 x1 x2 x3 x4 x5 : Nat} (h : Small [x0, x1, x2, x3, x4, x5]) : ∃ a, a < fpB ∧ fpV a = .agg #[.int .u64 (x0 : Int), .int .u64 (x1 : Int), .int .u64 (x2 : Int), .int .u64 (x3 : Int), .int .u64 (x4 : Int), .int .u64 (x5 : Int)] := by
  have hl := val_lt_of (K := 6) h (by simp)
  have hr := row_val h
  refine ⟨val [x0, x1, x2, x3, x4, x5], Nat.lt_of_lt_of_eq hl fpB_eq.symm, ?_⟩
  rw [show ([x0, x1, x2, x3, x4, x5] : List Nat).length = 6 from rfl, fprow] at hr
  generalize val [x0, x1, x2, x3, x4, x5] = a at *
  simp only [List.cons.injEq, and_true] at hr
  obtain ⟨e0, e1, e2, e3, e4, e5⟩ := hr
  show Value.agg #[.int .u64 ((lb a 0 : Nat) : Int), .int .u64 ((lb a 1 : Nat) : Int), .int .u64 ((lb a 2 : Nat) : Int), .int .u64 ((lb a 3 : Nat) : Int), .int .u64 ((lb a 4 : Nat) : Int), .int .u64 ((lb a 5 : Nat) : Int)] = _
  rw [e0, e1, e2, e3, e4, e5]

set_option maxRecDepth 20000 in
theorem open_fp {H : Type} {enc : TypeId × Value → H} {w : World} {r : Reach} {b0 base : Nat} {sp : Nat → Bool} {held : Bool} {v : Value} {d : DataW H} {ps : List MemPlace}
    (hval : Value.okWide Try.prog w r b0 24 v) (hd : DataW.Trod enc Try.prog w base sp held 24 v d ps) : ∃ a, a < fpB ∧ v = fpV a := by
  have hc : Try.prog.cellsOf 22 = 1 := by kernel_rfl
  have hc2 : Try.prog.cellsOf 24 = 6 := by kernel_rfl
  simp only [Value.okWide, Try.underlying24] at hval
  obtain ⟨cs, rfl, hs, _⟩ := hval
  obtain ⟨fuel, hf⟩ := hd
  obtain ⟨xs, m, _, _, hl, hx, hi⟩ := DataW.trod_array Try.underlying24 hf
  rw [hc2] at hs
  have hcs : (Value.cells (.agg cs)).toList = cs.toList := rfl
  rw [hcs] at hi
  have key : ∀ i, i < 6 → ∃ x : Nat, x < 2 ^ 64 ∧ cs.toList[i]? = some (.int .u64 (x : Int)) := by
    intro i hlt
    have h := hi i hlt
    rw [hc, Nat.mul_one, List.getElem?_eq_getElem (by omega : i < xs.length)] at h
    obtain ⟨k, e, _, hw⟩ := DataW.trod_int Try.underlying22 h
    have hb := Go.bounds_u64 hw
    refine ⟨k.toNat, by omega, ?_⟩
    have e2 : (cs.toList.drop i)[0]? = some (.int .u64 k) := by
      rw [← List.getElem?_take_of_lt (show 0 < 1 by decide), e]; rfl
    rw [List.getElem?_drop, Nat.add_zero] at e2
    rw [e2, Int.toNat_of_nonneg hb.1]
  obtain ⟨x0, l0, c0⟩ := key 0 (by decide)
  obtain ⟨x1, l1, c1⟩ := key 1 (by decide)
  obtain ⟨x2, l2, c2⟩ := key 2 (by decide)
  obtain ⟨x3, l3, c3⟩ := key 3 (by decide)
  obtain ⟨x4, l4, c4⟩ := key 4 (by decide)
  obtain ⟨x5, l5, c5⟩ := key 5 (by decide)
  have hcs2 : cs = #[.int .u64 (x0 : Int), .int .u64 (x1 : Int), .int .u64 (x2 : Int), .int .u64 (x3 : Int), .int .u64 (x4 : Int), .int .u64 (x5 : Int)] := by
    apply Array.toList_inj.1
    apply List.ext_getElem?
    intro i
    by_cases hlt : i < 6
    · have : i = 0 ∨ i = 1 ∨ i = 2 ∨ i = 3 ∨ i = 4 ∨ i = 5 := by omega
      rcases this with rfl | rfl | rfl | rfl | rfl | rfl
      · rw [c0]; rfl
      · rw [c1]; rfl
      · rw [c2]; rfl
      · rw [c3]; rfl
      · rw [c4]; rfl
      · rw [c5]; rfl
    · rw [List.getElem?_eq_none (by simp; omega), List.getElem?_eq_none (by simp; omega)]
  obtain ⟨a, ha, hv⟩ := fp_of_limbs (show Small [x0, x1, x2, x3, x4, x5] from by
    intro x hx
    simp only [List.mem_cons, List.not_mem_nil, or_false] at hx
    rcases hx with rfl | rfl | rfl | rfl | rfl | rfl <;> assumption)
  exact ⟨a, ha, by rw [hcs2, hv]⟩
end Go.Proofs.Ythmdfjlmmfphiaa
