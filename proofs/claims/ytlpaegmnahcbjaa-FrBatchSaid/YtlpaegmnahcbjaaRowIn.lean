/- What is proved here: a slice of limbs that came in as an argument is a view of some list of limbs. -/
import Derived.Test.YtlpaegmnahcbjaaView
import Derived.OpenShut
namespace Go.Proofs.Ytlpaegmnahcbjaa
open Go.RowKit

theorem row_view {w : World} {a : Option Addr} {len cap : Nat} {zs : List Int}
    (h : (a = none ∧ len = 0 ∧ cap = 0 ∧ zs = []) ∨
      ∃ x, a = some x ∧ len ≤ cap ∧ cap ≤ maxLen ∧ zs.length = cap ∧ (∀ i, i < zs.length → w.cell? (x.add i) = some (.int .u64 (zs.getD i 0))) ∧ ∀ n ∈ zs, (Lit.int .u64 n).wf = true) :
    ∃ xs, View w a len xs ∧ len ≤ cap ∧ cap ≤ maxLen := by
  rcases h with ⟨rfl, rfl, rfl, rfl⟩ | ⟨x, rfl, hl, hm, hz, hc, hw⟩
  · exact ⟨[], ⟨rfl, fun y hy => (by cases hy), fun i hi => absurd hi (by omega)⟩, Nat.le_refl _, Nat.zero_le _⟩
  · have hb : ∀ n ∈ zs, 0 ≤ n ∧ n ≤ 18446744073709551615 := fun n hn => by
      have := hw n hn
      have := bounds_u64 this
      omega
    refine ⟨(zs.take len).map Int.toNat, ⟨by simp; omega, ?_, ?_⟩, hl, hm⟩
    · intro y hy
      simp only [List.mem_map] at hy
      obtain ⟨n, hn, rfl⟩ := hy
      have := hb n (List.mem_of_mem_take hn)
      omega
    · intro i hi
      obtain ⟨b, off, rfl, hc'⟩ := ints_at hc (by omega)
      have c := hc' i (by omega)
      have hlt : b < w.heap.size := by
        rcases Nat.lt_or_ge b w.heap.size with g | g
        · exact g
        · simp [World.cell?, Array.getElem?_eq_none g] at c
      refine ⟨b, off, rfl, hlt, ?_⟩
      have e : ((lm ((zs.take len).map Int.toNat) i : Nat) : Int) = zs.getD i 0 := by
        have h1 : i < zs.length := by omega
        have := hb _ (List.getElem_mem h1)
        simp [lm, h1, hi]
        omega
      rw [e]
      exact c

theorem row_nil {w : World} {a : Option Addr} {len cap : Nat} {zs : List Int}
    (h : (a = none ∧ len = 0 ∧ cap = 0 ∧ zs = []) ∨
      ∃ x, a = some x ∧ len ≤ cap ∧ cap ≤ maxLen ∧ zs.length = cap ∧ (∀ i, i < zs.length → w.cell? (x.add i) = some (.int .u64 (zs.getD i 0))) ∧ ∀ n ∈ zs, (Lit.int .u64 n).wf = true) : a = none → cap = 0 := by
  rcases h with ⟨rfl, rfl, rfl, rfl⟩ | ⟨x, rfl, _⟩
  · exact fun _ => rfl
  · intro e; cases e
end Go.Proofs.Ytlpaegmnahcbjaa
