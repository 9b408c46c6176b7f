/- What is proved here: rows in blocks of whatever type; a contract of mont.addStep: one step of a product that drops its lowest limb; a law for copying a row. -/
import Derived.Test.YtkkmekdhejhapaaMontRow
import Derived.Test.YtkkmekdhejhapaaDiv64
import Derived.Deep.LoopGhost
import Derived.WalkSmall
import Derived.Laws.CopyOwn
namespace Go.Proofs.Ytkkmekdhejhapaa
open Go.RowKit
def OwnT (t : TypeId) (w : World) (g : Nat) (xs : List Nat) : Prop := w.heap[g]? = some (.cells (cellsOf xs).toArray t (0, 0))
theorem OwnT.lt {t : TypeId} {w : World} {g : Nat} {xs : List Nat} (h : OwnT t w g xs) : g < w.heap.size := by
  rcases Nat.lt_or_ge g w.heap.size with hl | hl
  · exact hl
  · unfold OwnT at h; rw [Array.getElem?_eq_none hl] at h; cases h
theorem lm_pad {zs : List Nat} (pad : List Nat) {i : Nat} (hi : i < zs.length) : lm (zs ++ pad) i = lm zs i := by
  simp [lm, List.getElem?_append_left hi]
theorem OwnT.cell {t : TypeId} {w : World} {g : Nat} {xs pad : List Nat} (h : OwnT t w g (xs ++ pad)) {i : Nat} (hi : i < xs.length) : w.cell? ⟨g, i, none⟩ = some (.int .u64 ((lm xs i : Nat) : Int)) := by
  rw [cell_of_row w g i _ _ (0, 0) h, ← lm_pad pad hi]
  simpa using cellsOf_get (xs := xs ++ pad) (i := i) (by simp; omega)
theorem OwnT.frozen {t : TypeId} {w : World} {g : Nat} {xs : List Nat} (h : OwnT t w g xs) (i : Nat) : w.frozen? ⟨g, i, none⟩ = false := frozen_of_row w g i _ _ h
theorem OwnT.set {t : TypeId} {w : World} {g : Nat} {xs pad : List Nat} (h : OwnT t w g (xs ++ pad)) (i x : Nat) (hi : i < xs.length) : OwnT t (w.setCell ⟨g, i, none⟩ (.int .u64 (x : Int))) g (xs.set i x ++ pad) := by
  rw [← List.set_append_left _ _ hi]
  unfold OwnT
  rw [heap_setCell_same w g i _ _ _ h]
  simp [cellsOf, List.map_set]
theorem OwnT.below {t : TypeId} {w w' : World} {g : Nat} {xs : List Nat} (h : OwnT t w g xs) {B : Nat} (hB : g < B) (hb : Below B w w') : OwnT t w' g xs := by
  unfold OwnT; rw [hb.block g hB]; exact h
theorem OwnT.view {t : TypeId} {w : World} {g : Nat} {xs pad : List Nat} (h : OwnT t w g (xs ++ pad)) (hs : Small xs) : View w (some ⟨g, 0, none⟩) xs.length xs :=
  ⟨rfl, hs, fun i hi => ⟨g, 0, rfl, h.lt, by rw [Nat.zero_add]; exact h.cell hi⟩⟩
def StepsTo (t : TypeId) (g K x : Nat) (ss bs ms pad : List Nat) (w : World) (e : Ending) (w' : World) : Prop :=
  ∃ (q : Nat) (us : List Nat), e = .returned (.tuple #[]) ∧ q < 2 ^ 64 ∧ us.length = K + 1 ∧ Small us ∧ 2 ^ 64 * val us = val ss + x * val bs + q * val ms ∧ OwnT t w' g (us ++ pad) ∧ Below g w w'
theorem top_sum (s u o : Nat) (hs : s < 2 ^ 64) (hu : u < 2 ^ 64) (ho : o < 2 ^ 64) :
    sumLo (sumLo s u 0) o 0 + 2 ^ 64 * (sumHi s u 0 + sumHi (sumLo s u 0) o 0) = s + u + o ∧ sumHi s u 0 ≤ 1 ∧ sumHi (sumLo s u 0) o 0 ≤ 1 := by
  unfold sumLo sumHi; omega
set_option maxHeartbeats 4000000 in
theorem addStep_any (t : TypeId) (g K cp cb cm x neg : Nat) (ss bs ms pad : List Nat) (ab am : Option Addr) (w : World) (hK : 1 ≤ K) (hK8 : K ≤ 8) (hls : ss.length = K + 1) (hcp : K + 1 ≤ cp) (_hcpm : cp ≤ maxLen) (hcb : K ≤ cb) (_hcbm : cb ≤ maxLen)
    (hs : Small ss) (ho : OwnT t w g (ss ++ pad)) (hvb : ViewB g w ab K bs) (hvm : ViewB g w am K ms) (hx : x < 2 ^ 64) (_hneg : neg < 2 ^ 64) (hn : lm ms 0 * neg % 2 ^ 64 = 2 ^ 64 - 1) :
    Calls Try.prog 97 #[.slice (some ⟨g, 0, none⟩) (K + 1 : Nat) cp, .slice ab K cb, .slice am K cm, .int .u64 (x : Int), .int .u64 (neg : Int)] w (StepsTo t g K x ss bs ms pad w) := by
  unfold maxLen at _hcpm _hcbm
  obtain ⟨b1, o1, rfl, hb1, hc1⟩ := hvb.cell 0 (by omega)
  obtain ⟨b2, o2, rfl, hb2, hc2⟩ := hvm.cell 0 (by omega)
  have hc0 := ho.cell (i := 0) (by omega)
  rw [Nat.add_zero] at hc1 hc2
  have l0 := lm_lt hs 0
  have l1 := hvb.lt 0
  have l2 := hvm.lt 0
  have hK0 : (0 : Int) < (K : Int) := by omega
  have hK1 : (0 : Int) < (K : Int) + 1 := by omega
  go_enter Try.func97, Try.ntmps97
  go_wp2_with fail
  have hw1 : IntKind.i64.wrap ((K : Int) + 1) = (K : Int) + 1 := IntWalk.i64_in _ (by omega)
  have hw2 : ((K : Int) + 1).toNat = K + 1 := by omega
  have hw3 : (K : Int) + 1 ≤ (cp : Int) := by omega
  have hw4 : (K : Int) ≤ (cb : Int) := by omega
  go_quiet (fail)
  clear hw1 hw3 hw4
  have HO0 : Hid (OwnT t (w.drewN nq) g (ss ++ pad)) := ho
  have HB0 : Hid (Below g w (w.drewN nq)) := below_drewN (Below.refl _ _) _
  have hc0' : (w.drewN nq).cell? ⟨g, 0, none⟩ = _ := hc0
  have hc1' : (w.drewN nq).cell? ⟨b1, o1, none⟩ = _ := hc1
  have hc2' : (w.drewN nq).cell? ⟨b2, o2, none⟩ = _ := hc2
  clear ho hc0 hc1 hc2
  have hKn : 0 < K := by omega
  have hKn1 : 0 < K + 1 := by omega
  generalize w.drewN nq = w1 at *
  go_wp2_with fail
  go_quiet ((go_at_call 102; exact Calls.quiet_of_same ((mulAdd2_zero _ _ _ _ l1 hx l0).mono fun _ _ h => ⟨h.1, h.2.symm⟩)))
  have HO1 : Hid (OwnT t (w1.drewN nq) g (ss ++ pad)) := HO0.out
  have HB1 : Hid (Below g w (w1.drewN nq)) := below_drewN HB0.out _
  have hc2'' : (w1.drewN nq).cell? ⟨b2, o2, none⟩ = _ := hc2'
  clear HO0 HB0 hc0' hc1' hc2'
  generalize w1.drewN nq = w2 at *
  have st := Stepping.start hs hvb.small hvm.small hx hn rfl
  have hlow := mulLo_lt (lm bs 0) x (lm ss 0) 0
  have hup := st.hup
  generalize mulLo (lm bs 0) x (lm ss 0) 0 = low at *
  generalize mulHi (lm bs 0) x (lm ss 0) 0 = up at *
  have hw : IntKind.u64.wrap ((low : Int) * (neg : Int)) = ((low * neg % 2 ^ 64 : Nat) : Int) := by rw [IntKind.wrap_u64]; simp
  have ht : low * neg % 2 ^ 64 < 2 ^ 64 := Nat.mod_lt _ (by decide)
  generalize low * neg % 2 ^ 64 = tm at *
  have ST := Lib.hid st
  clear st hn hup
  go_wp2_with fail
  refine (mulAdd2_zero _ _ _ _ l2 ht hlow).mono ?_
  rintro e w' ⟨rfl, rfl⟩
  clear hw hlow
  generalize mulHi (lm ms 0) tm low 0 = over at *
  generalize mulLo (lm ms 0) tm low 0 = dm at *
  generalize lm ms 0 = m0 at *
  generalize lm bs 0 = b0 at *
  generalize lm ss 0 = s0 at *
  clear l0 l1 l2 hc2'' _hneg
  have HLS := Lib.hid hls
  have HSS := Lib.hid hs
  clear hls hs
  go_wp2
  go_loopw [11, 14, 16] (fun uv ov iv wr => ∃ (k up over : Nat) (zs : List Nat), k + 1 ≤ K ∧ iv = .int .i64 ((k : Int) + 1) ∧ uv = .int .u64 (up : Int) ∧ ov = .int .u64 (over : Int) ∧ Stepping ss bs ms x tm k up over zs ∧ OwnT t wr g (zs ++ pad) ∧ Below g w wr) (fun _ _ iv _ => K - (intOf iv).toNat)
  case atStart => exact ⟨0, up, over, ss, hK, rfl, rfl, rfl, ST.out, HO1.out, HB1.out⟩
  case round =>
    obtain ⟨k, up, over, zs, hk, rfl, rfl, rfl, hS, ho, hbl⟩ := hrel
    clear HO1 HB1 ST
    have hlz : zs.length = K + 1 := by rw [hS.len]; exact HLS.out
    by_cases hlt : k + 1 < K
    · have hcs := ho.cell (i := k + 1) (by omega)
      have hck := ho.cell (i := k) (by omega)
      have hfk := ho.frozen k
      obtain ⟨_, _, e1, _, hcb'⟩ := (hvb.below (Nat.le_refl _) hbl).cell (k + 1) hlt
      cases e1
      obtain ⟨_, _, e2, _, hcm'⟩ := (hvm.below (Nat.le_refl _) hbl).cell (k + 1) hlt
      cases e2
      have l1 := hvb.lt (k + 1)
      have l2 := hvm.lt (k + 1)
      have l0 := lm_lt hS.small (k + 1)
      have hu := hS.hup
      have hv := hS.hover
      have HSt := Lib.hid (hS.step HSS.out hvb.small hvm.small hx ht (by have := HLS.out; omega))
      have HZ := Lib.hid hlz
      have HO := Lib.hid ho
      have HB := Lib.hid hbl
      clear hS ho hbl hlz
      have hi1 : (k : Int) + 1 < (K : Int) := by omega
      have hi2 : (k : Int) + 1 < (K : Int) + 1 := by omega
      have hi3 : ((k : Int) + 1).toNat = k + 1 := by omega
      have hi4 : (k : Int) < (K : Int) + 1 := by omega
      generalize lm zs (k + 1) = s at *
      generalize lm bs (k + 1) = b at *
      generalize lm ms (k + 1) = m at *
      generalize lm zs k = sk at *
      have hlow := mulLo_lt b x s up
      go_wp2_with fail
      go_quiet ((go_at_call 102; exact Calls.quiet_of_same ((mulAdd2_any _ _ _ _ _ l1 hx l0 hu).mono fun _ _ h => ⟨h.1, h.2.symm⟩)))
      have HO2 : Hid (OwnT t (wr.drewN nq) g (zs ++ pad)) := HO.out
      have HB2 : Hid (Below g w (wr.drewN nq)) := below_drewN HB.out _
      have d1 : (wr.drewN nq).cell? ⟨g, k, none⟩ = _ := hck
      have d2 : (wr.drewN nq).frozen? ⟨g, k, none⟩ = _ := hfk
      have d3 : (wr.drewN nq).cell? ⟨b2, o2 + (k + 1), none⟩ = _ := hcm'
      clear HO HB hck hfk hcm' hcs hcb'
      generalize wr.drewN nq = w3 at *
      generalize mulLo b x s up = low at *
      generalize mulHi b x s up = up' at *
      go_wp2_with fail
      refine (mulAdd2_any _ _ _ _ _ l2 ht hlow hv).mono ?_
      rintro e w' ⟨rfl, rfl⟩
      go_wp2
      go_roundw
      case rel => exact ⟨k + 1, up', _, _, by omega, by go_num, rfl, rfl, HSt.out, HO2.out.set k _ (by have := HZ.out; omega), HB2.out.setCell (Nat.le_refl _) _⟩
      case measure => simp [intOf]; omega
    · obtain rfl : k = K - 1 := by omega
      have hlk := lm_lt HSS.out K
      have hr := hS.rest K (by omega)
      have hcK := ho.cell (i := K) (by omega)
      have hcK1 := ho.cell (i := K - 1) (by omega)
      have hfK := ho.frozen K
      have hfK1 := ho.frozen (K - 1)
      rw [hr] at hcK
      have hu := hS.hup
      have hv := hS.hover
      obtain ⟨e1, e2, e3⟩ := top_sum (lm ss K) up over hlk hu hv
      have hS' := hS
      rw [show K = K - 1 + 1 by omega] at e1
      have D := hS.done HSS.out (by have := HLS.out; omega) (by rw [show K - 1 + 1 = K by omega]; exact val_lt_of hvb.small (by rw [hvb.len]; exact Nat.le_refl _)) (by rw [show K - 1 + 1 = K by omega]; exact val_lt_of hvm.small (by rw [hvm.len]; exact Nat.le_refl _)) (sumLo_lt _ _ _) (by rw [show K - 1 + 1 = K by omega]; omega) e1
      rw [show K - 1 + 1 = K by omega, show K - 1 + 2 = K + 1 by omega] at D
      have o2 := ho.set (K - 1) (sumLo (sumLo (lm ss K) up 0) over 0) (by omega)
      have o3 := o2.set K (sumHi (lm ss K) up 0 + sumHi (sumLo (lm ss K) up 0) over 0) (by simp; omega)
      have hcK2 := o2.cell (i := K) (by simp; omega)
      have hfK2 := o2.frozen K
      have HD := Lib.hid D
      have HO3 := Lib.hid o3
      have HB3 := Lib.hid ((hbl.setCell (p := ⟨g, K - 1, none⟩) (Nat.le_refl _) (.int .u64 ((sumLo (sumLo (lm ss K) up 0) over 0 : Nat) : Int))).setCell (p := ⟨g, K, none⟩) (Nat.le_refl _) (.int .u64 ((sumHi (lm ss K) up 0 + sumHi (sumLo (lm ss K) up 0) over 0 : Nat) : Int)))
      clear D o3 o2 hS hS' hr ho hbl hlz e1 hu hv hlk hvb hvm
      generalize lm ss K = s at *
      have hz1 : ((K - 1 : Nat) : Int) + 1 = (K : Int) := by omega
      have hz2 : ((K : Int) - 1).toNat = K - 1 := by omega
      have hz3 : (0 : Int) ≤ (K : Int) - 1 := by omega
      have hz4 : (K : Int) - 1 < (K : Int) + 1 := by omega
      have hz5 : (K : Int) < (K : Int) + 1 := by omega
      go_wp2_with (simp only [add64_run0])
      go_end0
      rw [Int.natCast_add] at HO3 HB3
      exact ⟨tm, _, rfl, ht, HD.out.2.1, HD.out.2.2, HD.out.1, HO3.out, HB3.out⟩
theorem wpList_copy_row (w w0 : World) {ops : Array Oper} {rest : List Oper} {o : Oper} {a : Act} {Q : Exit → Act → World → Prop} (hgd : o.guard = none) (d s : Operand)
    (ho : o.op = .call { callee := .builtin .copy, args := #[d, s], argTypes := #[64, 64] })
    (g K cd : Nat) (ds xs : List Nat) (ad : Option Addr) (cs : Nat) (hd : a.eval d = .slice (some ⟨g, 0, none⟩) K cd) (hs : a.eval s = .slice ad K cs)
    (hg : Own w g ds) (hl : ds.length = K) (hv : View w ad K xs) (hK : 1 ≤ K) (hb : Below w0.heap.size w0 w)
    (h : ∀ w', Own w' g xs → w0.grownBy w' (some g) → wpList Try.prog ops Q rest (a.put o.dst (goInt K)) w') :
    wpList Try.prog ops Q (o :: rest) a w := by
  have hcl : (cellsOf xs).length = K := by simp [cellsOf, hv.len]
  obtain ⟨b, off, rfl, _, _⟩ := hv.cell 0 (by omega)
  refine wpList_copy_own hgd d s _ _ ho 24 Try.underlying64 Try.sizeU g 0 K cd ⟨b, off, none⟩ K cs hd hs (cellsOf ds).toArray 24 hg (cellsOf xs) (by rw [hcl]; exact (Nat.min_self K).symm) ?_ (by simp [cellsOf, hl, hv.len]) ?_ ?_
  · intro j v hj
    have hjn : j < xs.length := by
      have := (List.getElem?_eq_some_iff.1 hj).1
      rw [hcl, ← hv.len] at this
      exact this
    rw [cellsOf_get hjn] at hj
    cases hj
    obtain ⟨_, _, e, _, hc⟩ := hv.cell j (by rw [← hv.len]; exact hjn)
    cases e
    rw [Go.WideShapes.add_plain]
    exact hc
  · intro v hv'
    simp only [cellsOf, List.mem_map] at hv'
    obtain ⟨y, _, rfl⟩ := hv'
    rfl
  · have e : (cellsOf ds).toArray.toList.take 0 ++ (cellsOf xs ++ (cellsOf ds).toArray.toList.drop (0 + (cellsOf xs).length)) = cellsOf xs := by
      rw [List.take_zero, List.nil_append, Nat.zero_add, hcl, List.drop_eq_nil_of_le (by simp [cellsOf, hl]), List.append_nil]
    rw [e, hcl]
    refine h _ ?_ ⟨hb.os, hb.tape, hb.output, by simpa using hb.size, fun k hk hne => ?_⟩
    · unfold Own
      rw [setRow_heap w g _ _ _ _ hg]
    · rw [setRow_other w g k _ (fun e => hne (by rw [e]))]
      exact hb.block k hk
theorem but_below {w w' : World} {g : Nat} (h : w.grownBy w' (some g)) (hg : g < w.heap.size) : Below g w w' :=
  ⟨h.os, h.tape, h.output, h.size, fun k hk => h.block k (by omega) (fun e => by cases e; omega)⟩
end Go.Proofs.Ytkkmekdhejhapaa
