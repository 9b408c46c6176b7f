/- What is proved here: what operations on whole numbers of the machine yield; a loop by an invariant over the round's number. -/
import Derived.Test.YtodabjelnllkgaaAgg
namespace Go.Proofs.Ytodabjelnllkgaa
open Go.RowKit

/-- A property that holds for all, kept shut. -/
theorem wp_loop_by {P : Program} {c : Code} {Q : Exit → Act → World → Prop} {a : Act} {w : World} (n : Nat) (I : Nat → Act → World → Prop) (h0 : I 0 a w)
    (hstep : ∀ k, k < n → ∀ a w, I k a w → ∀ K : Act → World → Prop, Shut (∀ a' w', I (k + 1) a' w' → K a' w') → c.wp P (Exit.then K Q) a w)
    (hend : ∀ a w, I n a w → ∀ K : Act → World → Prop, c.wp P (Exit.then K Q) a w) : (Code.loop c).wp P Q a w := by
  refine wp_loop_rounds (n + 1) ?_
  have key : ∀ m k, k + m = n → ∀ a w, I k a w → Code.rounds P c Q (m + 1) a w := by
    intro m
    induction m with
    | zero =>
      intro k hk a w h
      obtain rfl : k = n := by omega
      exact hend a w h _
    | succ m ih =>
      intro k hk a w h
      exact hstep k (by omega) a w h _ (fun a' w' h' => ih (k + 1) (by omega) a' w' h')
  exact key n 0 (by omega) a w h0

theorem bk_n {id : Nat} {Q : Exit → Act → World → Prop} {a : Act} {w : World} (h : Q .normal a w) : Exit.inBlock id Q .normal a w := h
theorem th_r {K : Act → World → Prop} {Q : Exit → Act → World → Prop} {a : Act} {w : World} (h : K a w) : Exit.then K Q .normal a w := h
theorem th_e {K : Act → World → Prop} {Q : Exit → Act → World → Prop} {id : Nat} {a : Act} {w : World} (h : Q (.exit id) a w) : Exit.then K Q (.exit id) a w := h
theorem bk_e {id : Nat} {Q : Exit → Act → World → Prop} {a : Act} {w : World} (h : Q .normal a w) : Exit.inBlock id Q (.exit id) a w := by
  show (if id = id then Q .normal a w else Q (.exit id) a w)
  rw [if_pos rfl]
  exact h
section
variable {ρ : Operand → Value} {d : Option Tmp} {ty0 : TypeId} {pos : String} {after : Array Edge} {guard : Option (Nat × Bool)} {w : World}

theorem ex_iadd {t t2 : TypeId} {x y : Operand} {k : IntKind} {a b : Int} (hx : ρ x = .int k a) (hy : ρ y = .int k b) (r : Int) (hr : k.wrap (a + b) = r) :
    (execOp ρ ⟨d, .binOp .add t x y t2, ty0, pos, after, guard⟩).run Try.prog w = .ok (.value (.int k r)) w := by
  subst hr
  simp [execOp, hx, hy, go_sem]

theorem ex_imul {t t2 : TypeId} {x y : Operand} {k : IntKind} {a b : Int} (hx : ρ x = .int k a) (hy : ρ y = .int k b) (r : Int) (hr : k.wrap (a * b) = r) :
    (execOp ρ ⟨d, .binOp .mul t x y t2, ty0, pos, after, guard⟩).run Try.prog w = .ok (.value (.int k r)) w := by
  subst hr
  simp [execOp, hx, hy, go_sem]

theorem ex_ilss {t t2 : TypeId} {x y : Operand} {k : IntKind} {a b : Int} (hx : ρ x = .int k a) (hy : ρ y = .int k b) (r : Bool) (hr : r = decide (a < b)) :
    (execOp ρ ⟨d, .binOp .lss t x y t2, ty0, pos, after, guard⟩).run Try.prog w = .ok (.value (.bool r)) w := by
  subst hr
  simp [execOp, hx, hy, eqGuard, binOp, Op.intCmp]

theorem ex_conv3264 {x : Operand} {a : Int} (hx : ρ x = .int .u32 a) (h0 : 0 ≤ a) (h1 : a < 4294967296) :
    (execOp ρ ⟨d, .convert 37 22 x, ty0, pos, after, guard⟩).run Try.prog w = .ok (.value (.int .u64 a)) w := by
  have h2 : IntKind.u64.wrap a = a := by rw [IntKind.wrap_u64]; omega
  simp [execOp, hx, go_sem, h2]

theorem ex_conv6464 {x : Operand} {a : Int} (hx : ρ x = .int .i64 a) (h0 : 0 ≤ a) (h1 : a < 4294967296) :
    (execOp ρ ⟨d, .convert 3 22 x, ty0, pos, after, guard⟩).run Try.prog w = .ok (.value (.int .u64 a)) w := by
  have h2 : IntKind.u64.wrap a = a := by rw [IntKind.wrap_u64]; omega
  simp [execOp, hx, go_sem, h2]

theorem ex_imax {x y : Operand} {tys : Array TypeId} {a b : Int} (hx : ρ x = .int .i64 a) (hy : ρ y = .int .i64 b) :
    (execOp ρ ⟨d, .call ⟨.builtin .max, #[x, y], tys⟩, ty0, pos, after, guard⟩).run Try.prog w = .ok (.value (.int .i64 (max a b))) w := by
  simp [hx, hy, go_sem]
theorem ex_imin {x y : Operand} {tys : Array TypeId} {a b : Int} (hx : ρ x = .int .i64 a) (hy : ρ y = .int .i64 b) :
    (execOp ρ ⟨d, .call ⟨.builtin .min, #[x, y], tys⟩, ty0, pos, after, guard⟩).run Try.prog w = .ok (.value (.int .i64 (min a b))) w := by
  simp [hx, hy, go_sem]
end

theorem clamp5 (n : Int) : ∃ m : Nat, min (max n 0) 5 = (m : Int) ∧ m ≤ 5 := ⟨(min (max n 0) 5).toNat, by omega, by omega⟩
theorem wrap64 {a : Int} (h0 : 0 ≤ a) (h1 : a < 18446744073709551616) : IntKind.u64.wrap a = a := by rw [IntKind.wrap_u64]; omega
theorem wrapI64 {a : Int} (h0 : -9223372036854775808 ≤ a) (h1 : a < 9223372036854775808) : IntKind.i64.wrap a = a := by rw [IntKind.wrap_i64]; omega
theorem wrap_mul {s t : Nat} (h : s * t < 18446744073709551616) : IntKind.u64.wrap ((s : Int) * (t : Int)) = ((s * t : Nat) : Int) := by
  rw [← Int.natCast_mul]
  generalize s * t = j at *
  exact wrap64 (by omega) (by omega)
theorem u32_mul {s t : Nat} (hs : s < 4294967296) (ht : t < 4294967296) : s * t < 18446744073709551616 := by
  have := Nat.mul_le_mul (Nat.le_of_lt_succ hs) (Nat.le_of_lt_succ ht)
  omega

end Go.Proofs.Ytodabjelnllkgaa
