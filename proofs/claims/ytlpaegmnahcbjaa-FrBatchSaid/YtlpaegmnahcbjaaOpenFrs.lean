/- What is proved here: a slice of numbers that came in as an argument. -/
import Derived.Test.YtlpaegmnahcbjaaLwFr6
import Derived.OpenShut
import Derived.ChangeOld
import Derived.ProofKit
namespace Go.Proofs.Ytlpaegmnahcbjaa
open Go.RowKit
open Go.ChangeShapes Go.WideShapes Go.ChangeAt

set_option maxRecDepth 20000 in
theorem open_frs {H : Type} {enc : TypeId × Value → H} {w : World} {r : Reach} {b0 base : Nat} {sp : Nat → Bool} {held : Bool} {v : Value} {d : DataW H} {ps : List MemPlace}
    (hval : Value.okWide Try.prog w r b0 33 v) (hd : DataW.Trod enc Try.prog w base sp held 33 v d ps) :
    ∃ (a : Option Addr) (m c : Nat) (A : Nat → Nat), v = .slice a m c ∧ m ≤ c ∧ (∀ i, i < m → A i < frB) ∧ Nums w a m A := by
  obtain ⟨a, m, c, rfl⟩ := okWide_slice Try.underlying33 hval
  obtain ⟨fuel, hf⟩ := hd
  rcases DataW.trod_slice Try.underlying33 hf with ⟨hcs, _⟩ | ⟨x, len, cap, elems, rest, n, _, hcs, _, _, hl, _, hlen, hel, _⟩
  · simp [Value.cells] at hcs
    obtain ⟨rfl, rfl, rfl⟩ := hcs
    exact ⟨none, 0, 0, fun _ => 0, rfl, Nat.le_refl _, fun i hi => absurd hi (Nat.not_lt_zero i), fun i hi => absurd hi (Nat.not_lt_zero i)⟩
  · simp [Value.cells] at hcs
    obtain ⟨rfl, rfl, rfl⟩ := hcs
    have hc : Try.prog.cellsOf 24 = 4 := by kernel_rfl
    have cells : ∀ i, i < m → ∃ xs : List Nat, xs.length = 4 ∧ Small xs ∧ w.cells? base (x.add (i * 4)) 4 = some (cellsOf xs) := fun i hi => by
      have h1 := hel i hi
      rw [hc, List.getElem?_eq_getElem (by omega : i < elems.length)] at h1
      obtain ⟨cs, hcs, htr⟩ := Option.bind_eq_some_iff.1 h1
      obtain ⟨h4, hlimb⟩ := opens_fr htr
      obtain ⟨xs, hx1, hx2, rfl⟩ := limbs_ofR h4 hlimb
      exact ⟨xs, hx1, hx2, hcs⟩
    have key : ∀ i, ∃ y, i < m → y < frB ∧ ∃ g o, some x = some ⟨g, o, none⟩ ∧ g < w.heap.size ∧ w.rangeAt g (o + 4 * i) (cellsOf (row 4 y)) := fun i => by
      by_cases hi : i < m
      · obtain ⟨xs, hx1, hx2, hx3⟩ := cells i hi
        obtain ⟨ys, hy1, _, hy3⟩ := cells 0 (by omega)
        obtain ⟨_, hyl, hyc⟩ := World.cells?_some hy3
        have h0 := hyc 0 (by decide)
        obtain ⟨b, off, spot⟩ := x
        have hspot : spot = none := by
          have h00 : w.cell? ⟨b, off, spot⟩ = some (.int .u64 ((lm ys 0 : Nat) : Int)) := by
            have e : ((⟨b, off, spot⟩ : Addr).add (0 * 4)).add 0 = ⟨b, off, spot⟩ := by simp [Addr.add]
            rw [e] at h0
            rw [h0]
            match ys, hy1 with
            | y :: _, _ => rfl
          simpa using World.cell?_spot h00
        subst hspot
        obtain ⟨_, _, hxc⟩ := World.cells?_some hx3
        have hrow : row 4 (val xs) = xs := by
          have := row_val hx2
          rwa [hx1] at this
        refine ⟨val xs, fun _ => ⟨?_, b, off, rfl, ?_, ?_⟩⟩
        · rw [frB_eq]
          exact val_lt_of (K := 4) hx2 (Nat.le_of_eq hx1)
        · have hb := World.cells?_block hx3 (by decide)
          rwa [Addr.add_mid] at hb
        · intro j u hu
          rw [hrow] at hu
          have hj : j < 4 := by
            have := (List.getElem?_eq_some_iff.1 hu).1
            rw [cellsOf_len, hx1] at this
            exact this
          have h1 := hxc j hj
          rw [Addr.add_mid, Addr.add_mid, hu, Nat.mul_comm i 4] at h1
          exact h1
      · exact ⟨0, fun h => absurd h hi⟩
    obtain ⟨A, hA⟩ := Classical.skolem.1 key
    exact ⟨some x, m, c, A, rfl, hl, fun i hi => (hA i hi).1, fun i hi => (hA i hi).2⟩

end Go.Proofs.Ytlpaegmnahcbjaa
