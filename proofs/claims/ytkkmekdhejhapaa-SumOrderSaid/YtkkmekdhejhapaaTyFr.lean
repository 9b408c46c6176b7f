/- What is proved here: numbers of 4 limbs as array values (api.Fr) and as blocks of memory; numbers modulo r as rows of four limbs; the calls of package fr on them; reckoning modulo r; arguments of this type are numbers. -/
import Derived.ChangeKeysEq
import Derived.Test.YtkkmekdhejhapaaAgg
import Derived.Test.YtkkmekdhejhapaaMontFns
import Derived.Test.YtkkmekdhejhapaaPrime
import Derived.BigQuiet
import Derived.Deep.CutBlock
import Derived.Test.YtkkmekdhejhapaaPow
import Derived.Test.YtkkmekdhejhapaaOwn
import Derived.Test.YtkkmekdhejhapaaCmp
import Derived.WalkSmall
import Derived.Deep.RegionHeld3
import Derived.Test.YtkkmekdhejhapaaMath
import Derived.Test.YtkkmekdhejhapaaPut
import Derived.OpenShut
import Derived.ChangeOld
import Derived.ProofKit
namespace Go.Proofs.Ytkkmekdhejhapaa
section
open Go.RowKit
def frB : Nat := 2 ^ (64 * 4)
theorem frB_eq : frB = 2 ^ (64 * 4) := by delta frB; exact Eq.refl _
abbrev frV (v : Nat) : Value := .agg #[.int .u64 ((lb v 0 : Nat) : Int), .int .u64 ((lb v 1 : Nat) : Int), .int .u64 ((lb v 2 : Nat) : Int), .int .u64 ((lb v 3 : Nat) : Int)]
theorem frrow (v : Nat) : row 4 v = [lb v 0, lb v 1, lb v 2, lb v 3] := by
  have h : (row 4 v).length = 4 := length_row _ _
  apply List.ext_getElem (by rw [h]; rfl)
  intro i h1 h2
  have e := lb_row (K := 4) (v := v) (i := i) (by omega)
  rw [lm, List.getD_eq_getElem?_getD, List.getElem?_eq_getElem h1] at e
  rw [show (row 4 v)[i] = lb v i from e]
  have : i = 0 ∨ i = 1 ∨ i = 2 ∨ i = 3 := by simp at h2; omega
  rcases this with rfl | rfl | rfl | rfl <;> rfl
theorem fr_cells (v : Nat) : (cellsOf (row 4 v)).toArray = #[.int .u64 ((lb v 0 : Nat) : Int), .int .u64 ((lb v 1 : Nat) : Int), .int .u64 ((lb v 2 : Nat) : Int), .int .u64 ((lb v 3 : Nat) : Int)] := by rw [frrow]; rfl
end

section
open Go.RowKit
theorem flFr : Flat 38 (4 * 1) := ⟨Try.isAgg38, Try.sizeOf38⟩
theorem cells0R (n : Nat) : cellsOf (List.replicate n 0) = List.replicate n (Value.int .u64 0) := by simp [cellsOf]
theorem zFr (w : World) : (zeroValue 38).run Try.prog w = .ok (lv (rows 4 [0])) w := by
  rw [Try.zeroValue38 w, show [0] = List.replicate 1 0 from rfl, rows_zero, lv, cells0R]
  rfl
theorem litFr : Value.agg #[.int .u64 0, .int .u64 0, .int .u64 0, .int .u64 0] = nv 4 [0] := by
  rw [nv, show [0] = List.replicate 1 0 from rfl, rows_zero, lv, cells0R]
  rfl
theorem nv4R (v : Nat) : nv 4 [v] = frV v := by rw [nv_row, fr_cells]
def OpensNR (ty : TypeId) (n : Nat) : Prop := ∀ {H : Type} {enc : TypeId × Value → H} {w : World} {base : Nat} {sp : Nat → Bool} {held : Bool} {fuel : Nat} {cs : List Value} {x : DataW H × List MemPlace},
  DataW.trod enc Try.prog w base sp held fuel ty cs = some x → cs.length = n ∧ ∀ i, i < n → ∃ y : Nat, y < 2 ^ 64 ∧ cs[i]? = some (.int .u64 (y : Int))
theorem opens_limbR : OpensNR 24 1 := fun h => by
  obtain ⟨k, rfl, _, hw⟩ := DataW.trod_int Try.underlying24 h
  have hb := Go.bounds_u64 hw
  refine ⟨rfl, fun i hi => ⟨k.toNat, by omega, ?_⟩⟩
  obtain rfl : i = 0 := by omega
  rw [Int.toNat_of_nonneg hb.1]
  rfl
set_option maxRecDepth 20000 in
theorem opens_arrayR {ty : TypeId} {n : Nat} (hu : Try.prog.underlying ty = some (.array n 24)) (hc2 : Try.prog.cellsOf ty = n) : OpensNR ty n := fun {H enc w base sp held fuel cs x} h => by
  have hc : Try.prog.cellsOf 24 = 1 := by kernel_rfl
  obtain ⟨xs, m, _, _, hl, hx, hi⟩ := DataW.trod_array hu h
  refine ⟨by omega, fun i hin => ?_⟩
  have h1 := hi i hin
  rw [hc, Nat.mul_one, List.getElem?_eq_getElem (by omega : i < xs.length)] at h1
  obtain ⟨_, h2⟩ := opens_limbR h1
  obtain ⟨y, hy, he⟩ := h2 0 (by omega)
  refine ⟨y, hy, ?_⟩
  rw [List.getElem?_take_of_lt (by decide), List.getElem?_drop, Nat.add_zero] at he
  exact he
theorem limbs_ofR {cs : List Value} {n : Nat} (hl : cs.length = n) (h : ∀ i, i < n → ∃ y : Nat, y < 2 ^ 64 ∧ cs[i]? = some (.int .u64 (y : Int))) : ∃ xs : List Nat, xs.length = n ∧ Small xs ∧ cs = cellsOf xs := by
  induction cs generalizing n with
  | nil => exact ⟨[], by simpa using hl, (fun x hx => absurd hx List.not_mem_nil), rfl⟩
  | cons c cs ih =>
    cases n with
    | zero => simp at hl
    | succ n =>
      obtain ⟨xs, h1, h2, h3⟩ := ih (n := n) (by simpa using hl) (fun i hi => by
        obtain ⟨y, hy, he⟩ := h (i + 1) (by omega)
        exact ⟨y, hy, by simpa using he⟩)
      obtain ⟨y, hy, he⟩ := h 0 (by omega)
      have hc : c = .int .u64 (y : Int) := by simpa using he
      refine ⟨y :: xs, by simp [h1], ?_, by rw [hc, h3]; rfl⟩
      intro z hz
      rcases List.mem_cons.1 hz with rfl | hz
      · exact hy
      · exact h2 z hz
theorem rows_ofR {K : Nat} : ∀ (k : Nat) (xs : List Nat), xs.length = K * k → Small xs → ∃ l : List Nat, l.length = k ∧ (∀ x ∈ l, x < 2 ^ (64 * K)) ∧ rows K l = xs
  | 0, xs, hl, _ => by
    rw [Nat.mul_zero] at hl
    rw [List.length_eq_zero_iff.1 hl]
    exact ⟨[], rfl, (fun x hx => absurd hx List.not_mem_nil), rfl⟩
  | k + 1, xs, hl, hs => by
    have hlen : (xs.take K).length = K := by rw [List.length_take, hl, Nat.mul_add]; omega
    have hs1 : Small (xs.take K) := fun x hx => hs x (List.mem_of_mem_take hx)
    obtain ⟨l, h1, h2, h3⟩ := rows_ofR (K := K) k (xs.drop K) (by rw [List.length_drop, hl, Nat.mul_add]; omega) (fun x hx => hs x (List.mem_of_mem_drop hx))
    refine ⟨val (xs.take K) :: l, by simp [h1], ?_, ?_⟩
    · intro x hx
      rcases List.mem_cons.1 hx with rfl | hx
      · exact val_lt_of (K := K) hs1 (Nat.le_of_eq hlen)
      · exact h2 x hx
    · have := row_val hs1
      rw [hlen] at this
      rw [rows_cons, this, h3, List.take_append_drop]
theorem open_nvR {ty : TypeId} {K k n : Nat} (ho : OpensNR ty n) (hn : n = K * k) {H : Type} {enc : TypeId × Value → H} {w : World} {base : Nat} {sp : Nat → Bool} {held : Bool} {cs : Array Value} {d : DataW H} {ps : List MemPlace}
    (hd : DataW.Trod enc Try.prog w base sp held ty (.agg cs) d ps) : ∃ l : List Nat, l.length = k ∧ (∀ x ∈ l, x < 2 ^ (64 * K)) ∧ Value.agg cs = nv K l := by
  obtain ⟨fuel, hf⟩ := hd
  obtain ⟨h1, h2⟩ := ho hf
  obtain ⟨xs, h3, h4, h5⟩ := limbs_ofR h1 h2
  obtain ⟨l, h6, h7, h8⟩ := rows_ofR k xs (by rw [h3, hn]) h4
  refine ⟨l, h6, h7, ?_⟩
  have : cs = (cellsOf xs).toArray := by
    apply Array.toList_inj.1
    exact h5
  rw [nv, lv, h8, this]
theorem opens_fr : OpensNR 38 4 := opens_arrayR Try.underlying38 (by kernel_rfl)
set_option maxRecDepth 20000 in
theorem open_fr1 {H : Type} {enc : TypeId × Value → H} {w : World} {r : Reach} {b0 base : Nat} {sp : Nat → Bool} {held : Bool} {v : Value} {d : DataW H} {ps : List MemPlace}
    (hval : Value.okWide Try.prog w r b0 38 v) (hd : DataW.Trod enc Try.prog w base sp held 38 v d ps) : ∃ a, a < frB ∧ v = nv 4 [a] := by
  simp only [Value.okWide, Try.underlying38] at hval
  obtain ⟨cs, rfl, hs, _⟩ := hval
  obtain ⟨l, h1, h2, h3⟩ := open_nvR (K := 4) (k := 1) opens_fr rfl hd
  match l, h1, h2, h3 with
  | [a], _, h2, h3 => exact ⟨a, Nat.lt_of_lt_of_eq (h2 a List.mem_cons_self) frB_eq.symm, h3⟩
theorem ex_zeroR {ρ : Operand → Value} {d : Option Tmp} {ty0 : TypeId} {pos : String} {after : Array Edge} {guard : Option (Nat × Bool)} {w : World} :
    (execOp ρ ⟨d, .build 38 #[], ty0, pos, after, guard⟩).run Try.prog w = .ok (.value (nv 4 [0])) w := by
  rw [← litFr]
  simp [execOp, Instr.build, Instr.fill, Value.cells, go_sem]
end
end Go.Proofs.Ytkkmekdhejhapaa
