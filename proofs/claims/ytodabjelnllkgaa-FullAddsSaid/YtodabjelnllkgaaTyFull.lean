/- What is proved here: the type api.Fp12 as a row of limbs; a part of a struct's value; arrays of written limbs. -/
import Derived.Test.YtodabjelnllkgaaTySext
namespace Go.Proofs.Ytodabjelnllkgaa
open Go.RowKit

/-- One part alone, the rest 0. -/
theorem bd12A (a b c d e f : Nat) : Instr.fill ((List.toArray [(0, 36), (36, 36)])[·]?) (cellsOf (List.replicate 72 0)).toArray [(0, nv 6 [a, b, c, d, e, f])] = some (cellsOf (rows 6 [a, b, c, d, e, f, 0, 0, 0, 0, 0, 0])).toArray := by
  rw [nv, fill_cons (off := 0) (n := 36) rfl (rows_len 6 [a, b, c, d, e, f]) (by simp), Instr.fill, show [a, b, c, d, e, f, 0, 0, 0, 0, 0, 0] = [a, b, c, d, e, f] ++ List.replicate 6 0 from rfl, rows_app, rows_zero]
  congr 3
theorem fpB_allL {l : List Nat} (h : ∀ x ∈ l, x < fpB) : ∀ x ∈ l, x < 2 ^ (64 * 6) := fun x hx => Nat.lt_of_lt_of_eq (h x hx) fpB_eq

theorem all_cons {a : Nat} {l : List Nat} (ha : a < fpB) (h : ∀ x ∈ l, x < fpB) : ∀ x ∈ a :: l, x < fpB := fun x hx => by
  rcases List.mem_cons.1 hx with rfl | hx
  · exact ha
  · exact h x hx
theorem all_nil : ∀ x ∈ ([] : List Nat), x < fpB := fun _ hx => absurd hx List.not_mem_nil

theorem flFp12 : Flat 30 (6 * 12) := ⟨Try.isAgg30, Try.sizeOf30⟩

theorem fp12_fields : Try.prog.underlying 30 = some (.struct (List.toArray [⟨"A", 28, 0, false, "", "", 0⟩, ⟨"B", 28, 36, false, "", "", 288⟩])) := Try.underlying30

theorem faFp12_0 : FieldAt 30 0 0 := ⟨_, _, 35, fp12_fields, rfl, rfl, Try.sizeOf28⟩
theorem faFp12_1 : FieldAt 30 1 36 := ⟨_, _, 35, fp12_fields, rfl, rfl, Try.sizeOf28⟩

theorem eqFp12 : EqF 30 72 5 := EqF.struct Try.eqGuardType30 fp12_fields Try.stoodInHeld30
  (.cons (n := 36) (m := 36) (by decide) rfl flFp6 eqFp6 (.cons (n := 36) (m := 0) (by decide) rfl flFp6 eqFp6 (.nil _)))

theorem zFp12 (w : World) : (zeroValue 30).run Try.prog w = .ok (lv (rows 6 [0, 0, 0, 0, 0, 0, 0, 0, 0, 0, 0, 0])) w := by
  rw [Try.zeroValue30 w, show [0, 0, 0, 0, 0, 0, 0, 0, 0, 0, 0, 0] = List.replicate 12 0 from rfl, rows_zero, lv, cells0]
  rfl

theorem stFp12 : Struct 30 72 [(0, 36), (36, 36)] := by
  refine ⟨_, fp12_fields, fun w => ?_, fun w => ?_⟩
  · rw [Try.zeroValue30 w, lv, cells0]; rfl
  · simp [Sem.run_bind, Try.sizeOf28]

theorem opens_fp12 : OpensN 30 72 := opens_struct fp12_fields (by kernel_rfl) fun i hi => by
  rcases Nat.lt_or_ge i 36 with h | h
  · exact ⟨0, _, 36, rfl, opens_fp6, by kernel_rfl, Nat.zero_le _, by simpa using h⟩
  · exact ⟨1, _, 36, rfl, opens_fp6, by kernel_rfl, h, by simpa using hi⟩

set_option maxRecDepth 20000 in
theorem open_fp12 {H : Type} {enc : TypeId × Value → H} {w : World} {r : Reach} {b0 base : Nat} {sp : Nat → Bool} {held : Bool} {v : Value} {d : DataW H} {ps : List MemPlace}
    (hval : Value.okWide Try.prog w r b0 30 v) (hd : DataW.Trod enc Try.prog w base sp held 30 v d ps) : ∃ l : List Nat, l.length = 12 ∧ (∀ x ∈ l, x < fpB) ∧ v = nv 6 l := by
  simp only [Value.okWide, Try.underlying30] at hval
  obtain ⟨cs, rfl, hs, _⟩ := hval
  obtain ⟨l, h1, h2, h3⟩ := open_nv (K := 6) (k := 12) opens_fp12 rfl hd
  exact ⟨l, h1, fun x hx => Nat.lt_of_lt_of_eq (h2 x hx) fpB_eq.symm, h3⟩

/-- Twelve numbers. -/
structure N12 where
  n0 : Nat
  n1 : Nat
  n2 : Nat
  n3 : Nat
  n4 : Nat
  n5 : Nat
  n6 : Nat
  n7 : Nat
  n8 : Nat
  n9 : Nat
  n10 : Nat
  n11 : Nat
def N12.l (z : N12) : List Nat := [z.n0, z.n1, z.n2, z.n3, z.n4, z.n5, z.n6, z.n7, z.n8, z.n9, z.n10, z.n11]

set_option maxRecDepth 20000 in
theorem open_n12 {H : Type} {enc : TypeId × Value → H} {w : World} {r : Reach} {b0 base : Nat} {sp : Nat → Bool} {held : Bool} {v : Value} {d : DataW H} {ps : List MemPlace}
    (hval : Value.okWide Try.prog w r b0 30 v) (hd : DataW.Trod enc Try.prog w base sp held 30 v d ps) : ∃ z : N12, (∀ x ∈ z.l, x < fpB) ∧ v = nv 6 z.l := by
  obtain ⟨l, h1, h2, h3⟩ := open_fp12 hval hd
  match l, h1, h2, h3 with
  | [a, b, c, d, e, f, g, h, i, j, k, m], _, h2, h3 => exact ⟨⟨a, b, c, d, e, f, g, h, i, j, k, m⟩, h2, h3⟩

end Go.Proofs.Ytodabjelnllkgaa
