/- What is proved here: a contract of nat.Rem: what a number leaves, divided by another one, or that 0 is refused. -/
import Derived.Test.YtkkmekdhejhapaaGreatDivide
import Derived.Test.YtkkmekdhejhapaaGreatGet
import Derived.Laws.CopyOwn
namespace Go.Proofs.YtkkmekdhejhapaaGreat
open Go.RowKit
theorem Tryz.sizeU : (Tryz.prog.info? 22).map (·.size) = some 1 := by kernel_rfl
theorem splice_cells (m : Nat) (xs : List Nat) (_h : xs.length ≤ m) : splice (cellsOf (List.replicate m 0)) 0 (cellsOf xs) = cellsOf (xs ++ List.replicate (m - xs.length) 0) := by
  have e : (cellsOf (List.replicate m 0)).drop xs.length = cellsOf (List.replicate (m - xs.length) 0) := by simp [cellsOf]
  unfold splice
  rw [List.take_zero, List.nil_append, Nat.zero_add, show (cellsOf xs).length = xs.length by simp [cellsOf], e]
  simp [cellsOf]
theorem row_pad {n m v : Nat} (h : n ≤ m) (hv : v < 2 ^ (64 * n)) : row n v ++ List.replicate (m - n) 0 = row m v := by
  have hs : Small (row n v ++ List.replicate (m - n) 0) := by
    intro y hy
    rcases List.mem_append.1 hy with h1 | h1
    · exact small_row _ _ y h1
    · rw [(List.mem_replicate.1 h1).2]; decide
  have hl : (row n v ++ List.replicate (m - n) 0).length = m := by rw [List.length_append, length_row, List.length_replicate]; omega
  have e : val (row n v ++ List.replicate (m - n) 0) = v := by rw [val_append, val_zeros, val_row, Nat.mod_eq_of_lt hv, Nat.mul_zero, Nat.add_zero]
  have := row_val hs
  rw [hl, e] at this
  exact this.symm
theorem wpList_copy_limbs (w w0 : World) {ops : Array Oper} {rest : List Oper} {o : Oper} {a : Act} {Q : Exit → Act → World → Prop} (hgd : o.guard = none) (d s : Operand)
    (ho : o.op = .call { callee := .builtin .copy, args := #[d, s], argTypes := #[103, 103] })
    (g m : Nat) (g2 n : Nat) (xs : List Nat) (hd : a.eval d = .slice (some ⟨g, 0, none⟩) m m) (hs : a.eval s = .slice (some ⟨g2, 0, none⟩) n n)
    (hg : Own w g (List.replicate m 0)) (hx : Own w g2 xs) (hl : xs.length = n) (hn : n ≤ m) (B : Nat) (hb : Below B w0 w) (hB : B ≤ g)
    (h : ∀ w', Own w' g (xs ++ List.replicate (m - n) 0) → Below B w0 w' → wpList Tryz.prog ops Q rest (a.put o.dst (goInt n)) w') :
    wpList Tryz.prog ops Q (o :: rest) a w := by
  have hcl : (cellsOf xs).length = n := by simp [cellsOf, hl]
  refine wpList_copy_splice hgd d s _ _ ho 22 Tryz.underlying103 Tryz.sizeU _ _ m m n n hd hs g 0 (cellsOf (List.replicate m 0)) 22 hg (cellsOf xs) (by rw [hcl]; exact (Nat.min_eq_left hn).symm) ?_ (by simp [cellsOf]; omega) ?_ B w0 hb hB ?_
  · intro _
    refine ⟨rfl, _, rfl, fun j v hj => ?_⟩
    have hjn : j < xs.length := by
      have := (List.getElem?_eq_some_iff.1 hj).1
      rw [hcl, ← hl] at this
      exact this
    rw [cellsOf_get hjn] at hj
    cases hj
    rw [Go.WideShapes.add_plain, Nat.zero_add]
    exact hx.cell hjn
  · intro v hv
    simp only [cellsOf, List.mem_map] at hv
    obtain ⟨y, _, rfl⟩ := hv
    rfl
  · intro w' hh hb'
    have hh' := hh.out
    rw [splice_cells m xs (by omega), hl] at hh'
    rw [hcl]
    exact h w' hh' hb'
theorem View.vltv {w : World} {a : Option Addr} {n : Nat} {xs : List Nat} (h : View w a n xs) : val xs < 2 ^ (64 * n) := val_lt_of h.small (by rw [h.len]; exact Nat.le_refl _)
set_option maxHeartbeats 1000000 in
theorem rem_any (a : Option Addr) (n c : Nat) (xs : List Nat) (a' : Option Addr) (n' c' : Nat) (ys : List Nat) (w : World) (hn : n ≤ c) (hm : c ≤ maxLen) (hn' : n' ≤ c') (hm' : c' ≤ maxLen) (hv : View w a n xs) (hv' : View w a' n' ys) (hM : val (ys.take 16) ≠ 0) :
    Calls Tryz.prog 175 #[.slice a n c, .slice a' n' c'] w (MakesE (min n' 16) (val (xs.take 16) % val (ys.take 16)) w) := by
  have v1 := hv.take 16
  have v2 := hv'.take 16
  clear hv hv'
  generalize xs.take 16 = zs at *
  generalize ys.take 16 = ts at *
  have b1 : min n 16 ≤ 16 := by omega
  have b2 : min n' 16 ≤ 16 := by omega
  have HM := Lib.hid hM
  clear hM
  go_enter Tryz.func175, Tryz.ntmps175
  go_wp2_with fail
  refine (cut_any _ _ _ _ hn hm).mono ?_
  rintro e w' ⟨rfl, rfl⟩
  go_wp2_with fail
  refine (cut_any _ _ _ _ hn' hm').mono ?_
  rintro e w' ⟨rfl, rfl⟩
  clear hn hm hn' hm'
  generalize min n 16 = m at *
  generalize min n' 16 = m' at *
  have HL := Lib.hid v2.len
  go_wp2_with fail
  refine (trim_any _ _ _ ts _ (Nat.le_refl _) (by unfold maxLen; omega) v2).mono ?_
  rintro e w' ⟨k, hk, rfl, rfl, hz, hq⟩
  have hk' : k ≤ 16 := by have := HL.out; omega
  have hkm : k ≤ m' := by have := HL.out; omega
  have hk0 : 1 ≤ k := by
    rcases Nat.eq_zero_or_pos k with h0 | h0
    · subst h0
      exact absurd (val_of_zeros v2.small hz) HM.out
    · exact h0
  have hk0i : ((k : Int) == 0) = false := by simp; omega
  have v3 := v2.take k
  rw [show min m' k = k by omega] at v3
  have EV := Lib.hid (val_take ts k hz)
  have htop : lm (ts.take k) (k - 1) ≠ 0 := by
    rw [lm_take (by omega)]
    rcases hq with h | h
    · omega
    · exact h
  have HTop := Lib.hid htop
  clear hk hz hq htop
  go_wp2_with (at_make; refine wpList_make_limbs _ rfl _ _ rfl m' _ _ rfl rfl (by omega) (by omega) (by omega) ?_; intro w1 ho hbl)
  have u1 := v1.below (Nat.le_refl _) hbl
  have u3 := v3.below (Nat.le_refl _) hbl
  have HO0 := Lib.hid ho
  have HB0 := Lib.hid hbl
  clear ho hbl
  refine (divide_any _ _ _ zs _ _ _ (ts.take k) _ b1 hk0 hk' u1 u3 HTop.out).mono ?_
  rintro e w2 ⟨g2, rfl, o2, hg2, hb2⟩
  rw [EV.out] at o2
  have HO2 := Lib.hid o2
  have HO1 := Lib.hid (HO0.out.below HO0.out.lt hb2)
  have HB2 := Lib.hid (below_then HB0.out hb2)
  have hlt : Hid (val zs % val ts < 2 ^ (64 * k)) := Nat.lt_trans (Nat.mod_lt _ (Nat.pos_of_ne_zero HM.out)) (by rw [← EV.out]; exact v3.vltv)
  clear o2 hb2 HO0 HB0 u1 u3
  go_wp2_with (with_reducible refine wpList_copy_limbs _ w rfl (.tmp 20) (.tmp 23) rfl w.heap.size m' g2 k (row k (val zs % val ts)) rfl rfl HO1.out HO2.out (length_row _ _) hkm w.heap.size HB2.out (Nat.le_refl _) ?_; intro w3 ho3 hb3)
  have RP := row_pad hkm hlt.out
  go_ret2
  exact ⟨_, rfl, by rw [← RP]; exact ho3, Nat.le_refl _, hb3⟩
end Go.Proofs.YtkkmekdhejhapaaGreat
