/- What is proved here: contracts of fr.Add; a contract of mont.Pow: a power modulo a modulus; everything else is refused; numbers modulo r as rows of four limbs; the calls of package fr on them; reckoning modulo r; arguments of this type are numbers. -/
import Derived.Test.YtkkmekdhejhapaaFn1Fr
import Derived.Test.YtkkmekdhejhapaaMontFns
import Derived.Test.YtkkmekdhejhapaaBitsDown
import Derived.Deep.Cut
import Derived.Deep.CutRange
import Derived.Deep.RegionHeld3
import Derived.Test.YtkkmekdhejhapaaAgg
import Derived.Test.YtkkmekdhejhapaaPut
import Derived.Test.YtkkmekdhejhapaaPrime
import Derived.OpenShut
import Derived.ChangeOld
import Derived.ProofKit
namespace Go.Proofs.Ytkkmekdhejhapaa
section
open Go.RowKit
theorem frsum_lt {x y : Nat} (hx : x < rN) (hy : y < rN) : x + y < frB := by have := frM_two; omega
theorem fr_ltE {x : Nat} (h : x < frB) : x < 2 ^ (64 * 4) := Nat.lt_of_lt_of_eq h frB_eq
set_option maxRecDepth 20000 in
set_option maxHeartbeats 4000000 in
theorem frAdd_v (a b : Nat) (w : World) (ha : a < frB) (hb : b < frB) (v : Nat) (hv : v = (a + b) % rN) :
    Calls Try.prog 14 #[frV a, frV b] w (Is (frV v) w) := by
  obtain ⟨x, hx⟩ : ∃ x, x = a % rN := ⟨_, rfl⟩
  obtain ⟨y, hy⟩ : ∃ y, y = b % rN := ⟨_, rfl⟩
  have HXM := Lib.hid (show x < rN by rw [hx]; exact frM_mod a)
  have HYM := Lib.hid (show y < rN by rw [hy]; exact frM_mod b)
  have HXB := Lib.hid (Nat.lt_trans HXM.out frM_lt)
  have HYB := Lib.hid (Nat.lt_trans HYM.out frM_lt)
  obtain ⟨s, hs⟩ : ∃ s, s = x + y := ⟨_, rfl⟩
  have HSB := Lib.hid (show s < frB by rw [hs]; exact frsum_lt HXM.out HYM.out)
  have HS := Lib.hid hs
  have HV := Lib.hid (show v = s % rN by rw [hv, hs, hx, hy, ← Nat.add_mod])
  clear hs hv
  have HX := Lib.hid hx
  have HY := Lib.hid hy
  have HA := Lib.hid ha
  have HB := Lib.hid hb
  obtain ⟨w3, hw3, a1, a2, a3, hb0, hsz⟩ := fr_lay_vvz 38 w a b
  have HW := Lib.hid hw3
  have A1 := Lib.hid a1
  have A2 := Lib.hid a2
  have A3 := Lib.hid a3
  have HB0 := Lib.hid hb0
  clear hx hy ha hb hw3 a1 a2 a3 hb0 hsz
  go_enter Try.func14, Try.ntmps14
  go_wp2_with fail
  rw [HW.out]
  clear HW
  have c0 : w3.drew.cell? ⟨w.heap.size, 0, none⟩ = _ := A1.out.frc0
  have c1 : w3.drew.cell? ⟨w.heap.size, 1, none⟩ = _ := A1.out.frc1
  have c2 : w3.drew.cell? ⟨w.heap.size, 2, none⟩ = _ := A1.out.frc2
  have c3 : w3.drew.cell? ⟨w.heap.size, 3, none⟩ = _ := A1.out.frc3
  have d0 : w3.drew.cell? ⟨w.heap.size + 1, 0, none⟩ = _ := A2.out.frc0
  have d1 : w3.drew.cell? ⟨w.heap.size + 1, 1, none⟩ = _ := A2.out.frc1
  have d2 : w3.drew.cell? ⟨w.heap.size + 1, 2, none⟩ = _ := A2.out.frc2
  have d3 : w3.drew.cell? ⟨w.heap.size + 1, 3, none⟩ = _ := A2.out.frc3
  go_region_with (go_at_call 28; first
    | ((with_reducible refine (frClean_v a _ HA.out x HX.out).mono ?_); rintro e Y1 ⟨rfl, hb1⟩; have hb1' : Below w3.heap.size w3 Y1 := (Below.refl w3.heap.size w3).drew.trans hb1; have k0 := (A2.out.keep hb1').frc0; have k1 := (A2.out.keep hb1').frc1; have k2 := (A2.out.keep hb1').frc2; have k3 := (A2.out.keep hb1').frc3; have HB1 := Lib.hid hb1'; clear hb1 hb1')
    | ((with_reducible refine (frClean_v b _ HB.out y HY.out).mono ?_); rintro e Y2 ⟨rfl, hb2⟩; have hb2' : Below w3.heap.size w3 Y2 := below_then HB1.out hb2; have p1 := A1.out.keep hb2'; have p2 := A2.out.keep hb2'; have l0 := p1.frc0; have l1 := p1.frc1; have l2 := p1.frc2; have l3 := p1.frc3; have m0 := p2.frc0; have m1 := p2.frc1; have m2 := p2.frc2; have m3 := p2.frc3; have q0 := p1.frozen 0; have q1 := p1.frozen 1; have q2 := p1.frozen 2; have q3 := p1.frozen 3; have s0 := p2.frozen 0; have s1 := p2.frozen 1; have s2 := p2.frozen 2; have s3 := p2.frozen 3; have P1 := Lib.hid p1; have P2 := Lib.hid p2; have HB2 := Lib.hid hb2'; clear hb2 hb2' p1 p2))
  all_goals
    obtain ⟨W, hW, o1, o2, oo, ob, osz⟩ := fr_two P1.out P2.out (by omega : w.heap.size ≠ w.heap.size + 1) x y
    have hp3 : w.heap.size + 1 + 1 < w3.heap.size := A3.out.lt
    have O1 := Lib.hid o1
    have O2 := Lib.hid o2
    have O3 := Lib.hid (oo _ _ _ (by omega : w.heap.size + 1 + 1 ≠ w.heap.size) (by omega : w.heap.size + 1 + 1 ≠ w.heap.size + 1) (A3.out.keep HB2.out))
    have OB := Lib.hid (ob _ _ (below_then HB0.out HB2.out) (Nat.le_refl _) (Nat.le_succ _))
    have HW := Lib.hid hW
    clear hW o1 o2 oo ob osz P1 P2 HB1 HB2 hp3
    go_wp2_with fail
    rw [HW.out]
    clear HW c0 c1 c2 c3 d0 d1 d2 d3 k0 k1 k2 k3 l0 l1 l2 l3 m0 m1 m2 m3 q0 q1 q2 q3 s0 s1 s2 s3
    go_region_with (go_at_call 29; refine (natAdd_of _ _ x y _ (by decide) (fr_ltE HXB.out) (fr_ltE HYB.out) O1.out.vrow.drew O2.out.vrow.drew).mono ?_; rintro e w4 ⟨g, cc, rfl, ho, hg, hb4⟩; have hb4' : Below W.heap.size W w4 := (Below.refl W.heap.size W).drew.trans hb4; rw [← HS.out] at ho; have V4 := Lib.hid ho.vrow; have Z4 := Lib.hid (O3.out.keep hb4'); have HB4 := Lib.hid (below_then OB.out hb4'); clear ho hg hb4 hb4')
    all_goals
      go_wp2_with fail
      refine (frnumber_v _ 4 4 s _ rfl V4.out).mono ?_
      rintro e w5 ⟨rfl, hb5⟩
      have Z5 := Lib.hid (Z4.out.keep hb5)
      have HB5 := Lib.hid (below_then HB4.out hb5)
      clear hb5
      go_wp2_with fail
      refine (frClean_v s _ HSB.out v HV.out).mono ?_
      rintro e w6 ⟨rfl, hb6⟩
      have ZE := Z5.out.keep hb6
      have m0 := ZE.frc0
      have m1 := ZE.frc1
      have m2 := ZE.frc2
      have m3 := ZE.frc3
      have q0 := ZE.frozen 0
      have q1 := ZE.frozen 1
      have q2 := ZE.frozen 2
      have q3 := ZE.frozen 3
      have HBE := Lib.hid (below_then HB5.out hb6)
      clear hb6 ZE
      go_wp2
      refine bodyPost_ret (v := frV v) (by simp [results, Try.results14, go_sem, m0, m1, m2, m3]) rfl ⟨rfl, ?_⟩
      exact fr_below HBE.out (by omega) _ _ _ _
end

section
section
open Go.RowKit Go.Shelf
attribute [local go_sem] Oper.semAt_some
theorem Own.keep {X Y : World} {g : Nat} {xs : List Nat} (h : Own X g xs) (k : Below X.heap.size X Y) : Own Y g xs := h.below h.lt k
end

section
open Go.RowKit
theorem flFr : Flat 38 (4 * 1) := ⟨Try.isAgg38, Try.sizeOf38⟩
theorem cells0R (n : Nat) : cellsOf (List.replicate n 0) = List.replicate n (Value.int .u64 0) := by simp [cellsOf]
theorem zFr (w : World) : (zeroValue 38).run Try.prog w = .ok (lv (rows 4 [0])) w := by
  rw [Try.zeroValue38 w, show [0] = List.replicate 1 0 from rfl, rows_zero, lv, cells0R]
  rfl
theorem nv4R (v : Nat) : nv 4 [v] = frV v := by rw [nv_row, fr_cells]
theorem frAdd_n (a b : Nat) (w : World) (ha : a < frB) (hb : b < frB) (v : Nat) (hv : v = (a + b) % rN) : Calls Try.prog 14 #[nv 4 [a], nv 4 [b]] w (Is (nv 4 [v]) w) := by rw [nv4R, nv4R, nv4R]; exact frAdd_v a b w ha hb v hv
def OpensNR (ty : TypeId) (n : Nat) : Prop := ∀ {H : Type} {enc : TypeId × Value → H} {w : World} {base : Nat} {sp : Nat → Bool} {held : Bool} {fuel : Nat} {cs : List Value} {x : DataW H × List MemPlace},
  DataW.trod enc Try.prog w base sp held fuel ty cs = some x → cs.length = n ∧ ∀ i, i < n → ∃ y : Nat, y < 2 ^ 64 ∧ cs[i]? = some (.int .u64 (y : Int))
theorem opens_limbR : OpensNR 24 1 := fun h => by
  obtain ⟨k, rfl, _, hw⟩ := DataW.trod_int Try.underlying24 h
  have hb := Go.bounds_u64 hw
  refine ⟨rfl, fun i hi => ⟨k.toNat, by omega, ?_⟩⟩
  obtain rfl : i = 0 := by omega
  rw [Int.toNat_of_nonneg hb.1]
  rfl
set_option maxRecDepth 20000 in
theorem opens_arrayR {ty : TypeId} {n : Nat} (hu : Try.prog.underlying ty = some (.array n 24)) (hc2 : Try.prog.cellsOf ty = n) : OpensNR ty n := fun {H enc w base sp held fuel cs x} h => by
  have hc : Try.prog.cellsOf 24 = 1 := by kernel_rfl
  obtain ⟨xs, m, _, _, hl, hx, hi⟩ := DataW.trod_array hu h
  refine ⟨by omega, fun i hin => ?_⟩
  have h1 := hi i hin
  rw [hc, Nat.mul_one, List.getElem?_eq_getElem (by omega : i < xs.length)] at h1
  obtain ⟨_, h2⟩ := opens_limbR h1
  obtain ⟨y, hy, he⟩ := h2 0 (by omega)
  refine ⟨y, hy, ?_⟩
  rw [List.getElem?_take_of_lt (by decide), List.getElem?_drop, Nat.add_zero] at he
  exact he
theorem limbs_ofR {cs : List Value} {n : Nat} (hl : cs.length = n) (h : ∀ i, i < n → ∃ y : Nat, y < 2 ^ 64 ∧ cs[i]? = some (.int .u64 (y : Int))) : ∃ xs : List Nat, xs.length = n ∧ Small xs ∧ cs = cellsOf xs := by
  induction cs generalizing n with
  | nil => exact ⟨[], by simpa using hl, (fun x hx => absurd hx List.not_mem_nil), rfl⟩
  | cons c cs ih =>
    cases n with
    | zero => simp at hl
    | succ n =>
      obtain ⟨xs, h1, h2, h3⟩ := ih (n := n) (by simpa using hl) (fun i hi => by
        obtain ⟨y, hy, he⟩ := h (i + 1) (by omega)
        exact ⟨y, hy, by simpa using he⟩)
      obtain ⟨y, hy, he⟩ := h 0 (by omega)
      have hc : c = .int .u64 (y : Int) := by simpa using he
      refine ⟨y :: xs, by simp [h1], ?_, by rw [hc, h3]; rfl⟩
      intro z hz
      rcases List.mem_cons.1 hz with rfl | hz
      · exact hy
      · exact h2 z hz
theorem rows_ofR {K : Nat} : ∀ (k : Nat) (xs : List Nat), xs.length = K * k → Small xs → ∃ l : List Nat, l.length = k ∧ (∀ x ∈ l, x < 2 ^ (64 * K)) ∧ rows K l = xs
  | 0, xs, hl, _ => by
    rw [Nat.mul_zero] at hl
    rw [List.length_eq_zero_iff.1 hl]
    exact ⟨[], rfl, (fun x hx => absurd hx List.not_mem_nil), rfl⟩
  | k + 1, xs, hl, hs => by
    have hlen : (xs.take K).length = K := by rw [List.length_take, hl, Nat.mul_add]; omega
    have hs1 : Small (xs.take K) := fun x hx => hs x (List.mem_of_mem_take hx)
    obtain ⟨l, h1, h2, h3⟩ := rows_ofR (K := K) k (xs.drop K) (by rw [List.length_drop, hl, Nat.mul_add]; omega) (fun x hx => hs x (List.mem_of_mem_drop hx))
    refine ⟨val (xs.take K) :: l, by simp [h1], ?_, ?_⟩
    · intro x hx
      rcases List.mem_cons.1 hx with rfl | hx
      · exact val_lt_of (K := K) hs1 (Nat.le_of_eq hlen)
      · exact h2 x hx
    · have := row_val hs1
      rw [hlen] at this
      rw [rows_cons, this, h3, List.take_append_drop]
theorem open_nvR {ty : TypeId} {K k n : Nat} (ho : OpensNR ty n) (hn : n = K * k) {H : Type} {enc : TypeId × Value → H} {w : World} {base : Nat} {sp : Nat → Bool} {held : Bool} {cs : Array Value} {d : DataW H} {ps : List MemPlace}
    (hd : DataW.Trod enc Try.prog w base sp held ty (.agg cs) d ps) : ∃ l : List Nat, l.length = k ∧ (∀ x ∈ l, x < 2 ^ (64 * K)) ∧ Value.agg cs = nv K l := by
  obtain ⟨fuel, hf⟩ := hd
  obtain ⟨h1, h2⟩ := ho hf
  obtain ⟨xs, h3, h4, h5⟩ := limbs_ofR h1 h2
  obtain ⟨l, h6, h7, h8⟩ := rows_ofR k xs (by rw [h3, hn]) h4
  refine ⟨l, h6, h7, ?_⟩
  have : cs = (cellsOf xs).toArray := by
    apply Array.toList_inj.1
    exact h5
  rw [nv, lv, h8, this]
theorem opens_fr : OpensNR 38 4 := opens_arrayR Try.underlying38 (by kernel_rfl)
set_option maxRecDepth 20000 in
theorem open_fr1 {H : Type} {enc : TypeId × Value → H} {w : World} {r : Reach} {b0 base : Nat} {sp : Nat → Bool} {held : Bool} {v : Value} {d : DataW H} {ps : List MemPlace}
    (hval : Value.okWide Try.prog w r b0 38 v) (hd : DataW.Trod enc Try.prog w base sp held 38 v d ps) : ∃ a, a < frB ∧ v = nv 4 [a] := by
  simp only [Value.okWide, Try.underlying38] at hval
  obtain ⟨cs, rfl, hs, _⟩ := hval
  obtain ⟨l, h1, h2, h3⟩ := open_nvR (K := 4) (k := 1) opens_fr rfl hd
  match l, h1, h2, h3 with
  | [a], _, h2, h3 => exact ⟨a, Nat.lt_of_lt_of_eq (h2 a List.mem_cons_self) frB_eq.symm, h3⟩
end
end
end Go.Proofs.Ytkkmekdhejhapaa
