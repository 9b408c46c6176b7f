/- What is proved here: the contract of fr.Mul; contracts of fr.Pow and Inv; numbers modulo r as rows of four limbs; the calls of package fr on them; reckoning modulo r; arguments of this type are numbers. -/
import Derived.Test.YtkkmekdhejhapaaGreatFn1Fr
import Derived.Test.YtkkmekdhejhapaaGreatPow
import Derived.Test.YtkkmekdhejhapaaGreatAgg
import Derived.Test.YtkkmekdhejhapaaGreatNum
import Derived.Test.YtkkmekdhejhapaaGreatOwn
import Derived.Test.YtkkmekdhejhapaaGreatCmp
import Derived.WalkSmall
import Derived.Deep.RegionHeld3
import Derived.Test.YtkkmekdhejhapaaGreatMath
import Derived.Deep.CutBlock
import Derived.Test.YtkkmekdhejhapaaGreatPut
import Derived.Test.YtkkmekdhejhapaaGreatPrime
import Derived.OpenShut
import Derived.ChangeOld
import Derived.ProofKit
namespace Go.Proofs.YtkkmekdhejhapaaGreat
section
section
open Go.RowKit
theorem frisMod : IsMod 4 (row 4 rN) := ⟨by decide, by decide, by rw [frval_M]; exact frM_odd, by rw [frval_M]; decide +kernel⟩
end

section
open Go.RowKit
set_option maxRecDepth 20000 in
set_option maxHeartbeats 4000000 in
theorem frPow_v (a b : Nat) (w : World) (ha : a < frB) (hb : b < frB) (v : Nat) (hv : v = a ^ b % rN) :
    Calls Tryz.prog 27 #[frV a, frV b] w (Is (frV v) w) := by
  obtain ⟨x, hx⟩ : ∃ x, x = a % rN := ⟨_, rfl⟩
  have HXM := Lib.hid (show x < rN by rw [hx]; exact frM_mod a)
  have HXB := Lib.hid (Nat.lt_trans HXM.out frM_lt)
  have HV := Lib.hid (show val (row 4 x) ^ val (row 4 b) % val (row 4 rN) = v by rw [frval HXB.out, frval hb, frval_M, hv, hx, ← Nat.pow_mod])
  have HXV := Lib.hid (show val (row 4 x) < val (row 4 rN) by rw [frval HXB.out, frval_M]; exact HXM.out)
  have HX := Lib.hid hx
  have HA := Lib.hid ha
  obtain ⟨w3, hw3, a1, a2, a3, hb0, hsz⟩ := fr_lay_vvz 49 w a b
  have HW := Lib.hid hw3
  have A1 := Lib.hid a1
  have A2 := Lib.hid a2
  have A3 := Lib.hid a3
  have HB0 := Lib.hid hb0
  clear hx ha hb hw3 a1 a2 a3 hb0 hsz hv
  go_enter Tryz.func27, Tryz.ntmps27
  go_wp2_with fail
  rw [HW.out]
  clear HW
  refine (frClean_v a _ HA.out x HX.out).mono ?_
  rintro e Y2 ⟨rfl, hb2⟩
  have p1 := A1.out.keep hb2
  have l0 := p1.frc0
  have l1 := p1.frc1
  have l2 := p1.frc2
  have l3 := p1.frc3
  have q0 := p1.frozen 0
  have q1 := p1.frozen 1
  have q2 := p1.frozen 2
  have q3 := p1.frozen 3
  have hp3 : w.heap.size + 1 + 1 < w3.heap.size := A3.out.lt
  obtain ⟨W, hW, o1, oo, ob, osz⟩ := fr_one p1 x
  have O1 := Lib.hid o1
  have O2 := Lib.hid (oo _ _ _ (by omega : w.heap.size + 1 ≠ w.heap.size) (A2.out.keep hb2))
  have O3 := Lib.hid (oo _ _ _ (by omega : w.heap.size + 1 + 1 ≠ w.heap.size) (A3.out.keep hb2))
  have OB := Lib.hid (ob _ _ (below_then HB0.out hb2) (Nat.le_refl _))
  have HW := Lib.hid hW
  clear hW o1 oo ob osz hb2 p1 A1 A2 A3 HB0 hp3
  go_wp2_with fail
  rw [HW.out]
  clear HW l0 l1 l2 l3 q0 q1 q2 q3
  refine (frorder_v _).mono ?_
  rintro e w5 ⟨rfl, hb5⟩
  obtain ⟨w6, hw6, a6, hb6, hs6⟩ := fr_lay_v 49 w5 rN
  have HW6 := Lib.hid hw6
  have X1 := Lib.hid ((O1.out.keep hb5).keep hb6).vrow
  have X2 := Lib.hid ((O2.out.keep hb5).keep hb6).vrow
  have X3 := Lib.hid ((O3.out.keep hb5).keep hb6)
  have X4 := Lib.hid a6.vrow
  have XB := Lib.hid (below_then OB.out (below_then hb5 hb6))
  clear hw6 a6 hb5 hb6 hs6 O1 O2 O3 OB
  go_wp2_with fail
  rw [HW6.out]
  clear HW6
  go_region_with (go_at_call 68; refine (montPow_any _ 4 _ _ 4 4 _ _ 4 4 _ _ (by decide) (by decide) (by decide) (by decide) (by decide) (by decide) (by decide) X1.out.drew X2.out.drew X4.out.drew frisMod HXV.out).mono ?_; rintro e w7 ⟨g7, rfl, ho7, hg7, hb7⟩; have hb7' : Below w6.heap.size w6 w7 := (Below.refl w6.heap.size w6).drew.trans hb7; rw [HV.out] at ho7; have E1 := Lib.hid ho7.vrow; have E3 := Lib.hid (X3.out.keep hb7'); have EB := Lib.hid (below_then XB.out hb7'); clear ho7 hg7 hb7 hb7')
  all_goals
    go_wp2_with fail
    refine (frnumber_v _ 4 4 v _ rfl E1.out).mono ?_
    rintro e w9 ⟨rfl, hb9⟩
    have ZE := E3.out.keep hb9
    have m0 := ZE.frc0
    have m1 := ZE.frc1
    have m2 := ZE.frc2
    have m3 := ZE.frc3
    have q0 := ZE.frozen 0
    have q1 := ZE.frozen 1
    have q2 := ZE.frozen 2
    have q3 := ZE.frozen 3
    have HBE := Lib.hid (below_then EB.out hb9)
    clear hb9 ZE
    go_wp2
    refine bodyPost_ret (v := frV v) (by simp [results, Tryz.results27, go_sem, m0, m1, m2, m3]) rfl ⟨rfl, ?_⟩
    exact fr_below HBE.out (by omega) _ _ _ _
end
end

section
open Go.RowKit
theorem flFr : Flat 49 (4 * 1) := ⟨Tryz.isAgg49, Tryz.sizeOf49⟩
theorem cells0R (n : Nat) : cellsOf (List.replicate n 0) = List.replicate n (Value.int .u64 0) := by simp [cellsOf]
theorem zFr (w : World) : (zeroValue 49).run Tryz.prog w = .ok (lv (rows 4 [0])) w := by
  rw [Tryz.zeroValue49 w, show [0] = List.replicate 1 0 from rfl, rows_zero, lv, cells0R]
  rfl
theorem nv4R (v : Nat) : nv 4 [v] = frV v := by rw [nv_row, fr_cells]
def OpensNR (ty : TypeId) (n : Nat) : Prop := ∀ {H : Type} {enc : TypeId × Value → H} {w : World} {base : Nat} {sp : Nat → Bool} {held : Bool} {fuel : Nat} {cs : List Value} {x : DataW H × List MemPlace},
  DataW.trod enc Tryz.prog w base sp held fuel ty cs = some x → cs.length = n ∧ ∀ i, i < n → ∃ y : Nat, y < 2 ^ 64 ∧ cs[i]? = some (.int .u64 (y : Int))
theorem opens_limbR : OpensNR 22 1 := fun h => by
  obtain ⟨k, rfl, _, hw⟩ := DataW.trod_int Tryz.underlying22 h
  have hb := Go.bounds_u64 hw
  refine ⟨rfl, fun i hi => ⟨k.toNat, by omega, ?_⟩⟩
  obtain rfl : i = 0 := by omega
  rw [Int.toNat_of_nonneg hb.1]
  rfl
set_option maxRecDepth 20000 in
theorem opens_arrayR {ty : TypeId} {n : Nat} (hu : Tryz.prog.underlying ty = some (.array n 22)) (hc2 : Tryz.prog.cellsOf ty = n) : OpensNR ty n := fun {H enc w base sp held fuel cs x} h => by
  have hc : Tryz.prog.cellsOf 22 = 1 := by kernel_rfl
  obtain ⟨xs, m, _, _, hl, hx, hi⟩ := DataW.trod_array hu h
  refine ⟨by omega, fun i hin => ?_⟩
  have h1 := hi i hin
  rw [hc, Nat.mul_one, List.getElem?_eq_getElem (by omega : i < xs.length)] at h1
  obtain ⟨_, h2⟩ := opens_limbR h1
  obtain ⟨y, hy, he⟩ := h2 0 (by omega)
  refine ⟨y, hy, ?_⟩
  rw [List.getElem?_take_of_lt (by decide), List.getElem?_drop, Nat.add_zero] at he
  exact he
theorem limbs_ofR {cs : List Value} {n : Nat} (hl : cs.length = n) (h : ∀ i, i < n → ∃ y : Nat, y < 2 ^ 64 ∧ cs[i]? = some (.int .u64 (y : Int))) : ∃ xs : List Nat, xs.length = n ∧ Small xs ∧ cs = cellsOf xs := by
  induction cs generalizing n with
  | nil => exact ⟨[], by simpa using hl, (fun x hx => absurd hx List.not_mem_nil), rfl⟩
  | cons c cs ih =>
    cases n with
    | zero => simp at hl
    | succ n =>
      obtain ⟨xs, h1, h2, h3⟩ := ih (n := n) (by simpa using hl) (fun i hi => by
        obtain ⟨y, hy, he⟩ := h (i + 1) (by omega)
        exact ⟨y, hy, by simpa using he⟩)
      obtain ⟨y, hy, he⟩ := h 0 (by omega)
      have hc : c = .int .u64 (y : Int) := by simpa using he
      refine ⟨y :: xs, by simp [h1], ?_, by rw [hc, h3]; rfl⟩
      intro z hz
      rcases List.mem_cons.1 hz with rfl | hz
      · exact hy
      · exact h2 z hz
theorem rows_ofR {K : Nat} : ∀ (k : Nat) (xs : List Nat), xs.length = K * k → Small xs → ∃ l : List Nat, l.length = k ∧ (∀ x ∈ l, x < 2 ^ (64 * K)) ∧ rows K l = xs
  | 0, xs, hl, _ => by
    rw [Nat.mul_zero] at hl
    rw [List.length_eq_zero_iff.1 hl]
    exact ⟨[], rfl, (fun x hx => absurd hx List.not_mem_nil), rfl⟩
  | k + 1, xs, hl, hs => by
    have hlen : (xs.take K).length = K := by rw [List.length_take, hl, Nat.mul_add]; omega
    have hs1 : Small (xs.take K) := fun x hx => hs x (List.mem_of_mem_take hx)
    obtain ⟨l, h1, h2, h3⟩ := rows_ofR (K := K) k (xs.drop K) (by rw [List.length_drop, hl, Nat.mul_add]; omega) (fun x hx => hs x (List.mem_of_mem_drop hx))
    refine ⟨val (xs.take K) :: l, by simp [h1], ?_, ?_⟩
    · intro x hx
      rcases List.mem_cons.1 hx with rfl | hx
      · exact val_lt_of (K := K) hs1 (Nat.le_of_eq hlen)
      · exact h2 x hx
    · have := row_val hs1
      rw [hlen] at this
      rw [rows_cons, this, h3, List.take_append_drop]
theorem open_nvR {ty : TypeId} {K k n : Nat} (ho : OpensNR ty n) (hn : n = K * k) {H : Type} {enc : TypeId × Value → H} {w : World} {base : Nat} {sp : Nat → Bool} {held : Bool} {cs : Array Value} {d : DataW H} {ps : List MemPlace}
    (hd : DataW.Trod enc Tryz.prog w base sp held ty (.agg cs) d ps) : ∃ l : List Nat, l.length = k ∧ (∀ x ∈ l, x < 2 ^ (64 * K)) ∧ Value.agg cs = nv K l := by
  obtain ⟨fuel, hf⟩ := hd
  obtain ⟨h1, h2⟩ := ho hf
  obtain ⟨xs, h3, h4, h5⟩ := limbs_ofR h1 h2
  obtain ⟨l, h6, h7, h8⟩ := rows_ofR k xs (by rw [h3, hn]) h4
  refine ⟨l, h6, h7, ?_⟩
  have : cs = (cellsOf xs).toArray := by
    apply Array.toList_inj.1
    exact h5
  rw [nv, lv, h8, this]
theorem opens_fr : OpensNR 49 4 := opens_arrayR Tryz.underlying49 (by kernel_rfl)
set_option maxRecDepth 20000 in
theorem open_fr1 {H : Type} {enc : TypeId × Value → H} {w : World} {r : Reach} {b0 base : Nat} {sp : Nat → Bool} {held : Bool} {v : Value} {d : DataW H} {ps : List MemPlace}
    (hval : Value.okWide Tryz.prog w r b0 49 v) (hd : DataW.Trod enc Tryz.prog w base sp held 49 v d ps) : ∃ a, a < frB ∧ v = nv 4 [a] := by
  simp only [Value.okWide, Tryz.underlying49] at hval
  obtain ⟨cs, rfl, hs, _⟩ := hval
  obtain ⟨l, h1, h2, h3⟩ := open_nvR (K := 4) (k := 1) opens_fr rfl hd
  match l, h1, h2, h3 with
  | [a], _, h2, h3 => exact ⟨a, Nat.lt_of_lt_of_eq (h2 a List.mem_cons_self) frB_eq.symm, h3⟩
end
end Go.Proofs.YtkkmekdhejhapaaGreat
