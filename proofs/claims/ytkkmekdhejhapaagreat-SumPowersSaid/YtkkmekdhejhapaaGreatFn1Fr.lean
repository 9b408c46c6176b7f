/- What is proved here: numbers of 4 limbs as array values (api.Fr) and as blocks of memory; contracts of fr.order, square, number, Right, lessOrder and Clean. -/
import Derived.Test.YtkkmekdhejhapaaGreatNum
import Derived.ChangeKeysEq
import Derived.Test.YtkkmekdhejhapaaGreatMontFns
import Derived.Test.YtkkmekdhejhapaaGreatPrime
import Derived.BigQuiet
import Derived.Deep.CutBlock
namespace Go.Proofs.YtkkmekdhejhapaaGreat
section
open Go.RowKit
def frB : Nat := 2 ^ (64 * 4)
theorem frB_eq : frB = 2 ^ (64 * 4) := by delta frB; exact Eq.refl _
abbrev frV (v : Nat) : Value := .agg #[.int .u64 ((lb v 0 : Nat) : Int), .int .u64 ((lb v 1 : Nat) : Int), .int .u64 ((lb v 2 : Nat) : Int), .int .u64 ((lb v 3 : Nat) : Int)]
theorem frrow (v : Nat) : row 4 v = [lb v 0, lb v 1, lb v 2, lb v 3] := by
  have h : (row 4 v).length = 4 := length_row _ _
  apply List.ext_getElem (by rw [h]; rfl)
  intro i h1 h2
  have e := lb_row (K := 4) (v := v) (i := i) (by omega)
  rw [lm, List.getD_eq_getElem?_getD, List.getElem?_eq_getElem h1] at e
  rw [show (row 4 v)[i] = lb v i from e]
  have : i = 0 ∨ i = 1 ∨ i = 2 ∨ i = 3 := by simp at h2; omega
  rcases this with rfl | rfl | rfl | rfl <;> rfl
theorem frval {v : Nat} (h : v < frB) : val (row 4 v) = v := val_row_of (K := 4) (Nat.lt_of_lt_of_eq h frB_eq)
theorem fr_cells (v : Nat) : (cellsOf (row 4 v)).toArray = #[.int .u64 ((lb v 0 : Nat) : Int), .int .u64 ((lb v 1 : Nat) : Int), .int .u64 ((lb v 2 : Nat) : Int), .int .u64 ((lb v 3 : Nat) : Int)] := by rw [frrow]; rfl
theorem fr_new (t : TypeId) (w : World) (v : Nat) : Arr t (w.alloc (.cells #[.int .u64 ((lb v 0 : Nat) : Int), .int .u64 ((lb v 1 : Nat) : Int), .int .u64 ((lb v 2 : Nat) : Int), .int .u64 ((lb v 3 : Nat) : Int)] t)) w.heap.size (row 4 v) := by
  unfold Arr
  rw [fr_cells]
  exact heap_alloc_new w _
theorem frlb_0 (i : Nat) : lb 0 i = 0 := by simp [lb]
theorem fr_zero (t : TypeId) (w : World) : Arr t (w.alloc (.cells #[.int .u64 0, .int .u64 0, .int .u64 0, .int .u64 0] t)) w.heap.size (row 4 0) := by
  have := fr_new t w 0
  simp only [frlb_0] at this
  exact this
theorem Arr.frc0 {t : TypeId} {w : World} {g v : Nat} (h : Arr t w g (row 4 v)) : w.cell? ⟨g, 0, none⟩ = some (.int .u64 ((lb v 0 : Nat) : Int)) := h.rc 0 (by decide)
theorem Arr.frc1 {t : TypeId} {w : World} {g v : Nat} (h : Arr t w g (row 4 v)) : w.cell? ⟨g, 1, none⟩ = some (.int .u64 ((lb v 1 : Nat) : Int)) := h.rc 1 (by decide)
theorem Arr.frc2 {t : TypeId} {w : World} {g v : Nat} (h : Arr t w g (row 4 v)) : w.cell? ⟨g, 2, none⟩ = some (.int .u64 ((lb v 2 : Nat) : Int)) := h.rc 2 (by decide)
theorem Arr.frc3 {t : TypeId} {w : World} {g v : Nat} (h : Arr t w g (row 4 v)) : w.cell? ⟨g, 3, none⟩ = some (.int .u64 ((lb v 3 : Nat) : Int)) := h.rc 3 (by decide)
theorem fr_set (v z : Nat) : ((((row 4 v).set 0 (lb z 0)).set 1 (lb z 1)).set 2 (lb z 2)).set 3 (lb z 3) = row 4 z := by rw [frrow, frrow]; rfl
theorem Arr.frstore {t : TypeId} {w : World} {g v : Nat} (h : Arr t w g (row 4 v)) (z : Nat) : Arr t ((((w.setCell ⟨g, 0, none⟩ (.int .u64 ((lb z 0 : Nat) : Int))).setCell ⟨g, 1, none⟩ (.int .u64 ((lb z 1 : Nat) : Int))).setCell ⟨g, 2, none⟩ (.int .u64 ((lb z 2 : Nat) : Int))).setCell ⟨g, 3, none⟩ (.int .u64 ((lb z 3 : Nat) : Int))) g (row 4 z) := by
  have := (((h.set 0 (lb z 0)).set 1 (lb z 1)).set 2 (lb z 2)).set 3 (lb z 3)
  rwa [fr_set] at this
theorem fr_below {B : Nat} {w0 w : World} (hb : Below B w0 w) {b : Nat} (hg : B ≤ b) (u0 u1 u2 u3 : Value) : Below B w0 ((((w.setCell ⟨b, 0, none⟩ u0).setCell ⟨b, 1, none⟩ u1).setCell ⟨b, 2, none⟩ u2).setCell ⟨b, 3, none⟩ u3) :=
  (((hb.setCell (p := ⟨b, 0, none⟩) hg _).setCell (p := ⟨b, 1, none⟩) hg _).setCell (p := ⟨b, 2, none⟩) hg _).setCell (p := ⟨b, 3, none⟩) hg _
theorem Arr.frother {t : TypeId} {w : World} {g b : Nat} {xs : List Nat} (h : Arr t w g xs) (hne : g ≠ b) (u0 u1 u2 u3 : Value) : Arr t ((((w.setCell ⟨b, 0, none⟩ u0).setCell ⟨b, 1, none⟩ u1).setCell ⟨b, 2, none⟩ u2).setCell ⟨b, 3, none⟩ u3) g xs := by
  unfold Arr
  rw [Below.heap_setCell _ _ _ g hne, Below.heap_setCell _ _ _ g hne, Below.heap_setCell _ _ _ g hne, Below.heap_setCell _ _ _ g hne]
  exact h
theorem fr_lay_v (t : TypeId) (w : World) (v0 : Nat) : ∃ w', w.alloc (.cells #[.int .u64 ((lb v0 0 : Nat) : Int), .int .u64 ((lb v0 1 : Nat) : Int), .int .u64 ((lb v0 2 : Nat) : Int), .int .u64 ((lb v0 3 : Nat) : Int)] t) = w' ∧ Arr t w' (w.heap.size) (row 4 v0) ∧ Below w.heap.size w w' ∧ w'.heap.size = w.heap.size + 1 := by
  have a0 := fr_new t (w) v0
  exact ⟨_, rfl, a0, ((Below.refl w.heap.size w).alloc (by simp <;> omega) (.cells #[.int .u64 ((lb v0 0 : Nat) : Int), .int .u64 ((lb v0 1 : Nat) : Int), .int .u64 ((lb v0 2 : Nat) : Int), .int .u64 ((lb v0 3 : Nat) : Int)] t)), by simp⟩
theorem fr_lay_vz (t : TypeId) (w : World) (v0 : Nat) : ∃ w', (w.alloc (.cells #[.int .u64 ((lb v0 0 : Nat) : Int), .int .u64 ((lb v0 1 : Nat) : Int), .int .u64 ((lb v0 2 : Nat) : Int), .int .u64 ((lb v0 3 : Nat) : Int)] t)).alloc (.cells #[.int .u64 0, .int .u64 0, .int .u64 0, .int .u64 0] t) = w' ∧ Arr t w' (w.heap.size) (row 4 v0) ∧ Arr t w' (w.heap.size + 1) (row 4 0) ∧ Below w.heap.size w w' ∧ w'.heap.size = w.heap.size + 2 := by
  have a0 := fr_new t (w) v0
  have a1 := fr_zero t ((w).alloc (.cells #[.int .u64 ((lb v0 0 : Nat) : Int), .int .u64 ((lb v0 1 : Nat) : Int), .int .u64 ((lb v0 2 : Nat) : Int), .int .u64 ((lb v0 3 : Nat) : Int)] t))
  simp only [World.size_alloc] at a1
  have a0 := a0.alloc (.cells #[.int .u64 0, .int .u64 0, .int .u64 0, .int .u64 0] t)
  exact ⟨_, rfl, a0, a1, (((Below.refl w.heap.size w).alloc (by simp <;> omega) (.cells #[.int .u64 ((lb v0 0 : Nat) : Int), .int .u64 ((lb v0 1 : Nat) : Int), .int .u64 ((lb v0 2 : Nat) : Int), .int .u64 ((lb v0 3 : Nat) : Int)] t)).alloc (by simp <;> omega) (.cells #[.int .u64 0, .int .u64 0, .int .u64 0, .int .u64 0] t)), by simp⟩
theorem fr_lay_vvz (t : TypeId) (w : World) (v0 v1 : Nat) : ∃ w', ((w.alloc (.cells #[.int .u64 ((lb v0 0 : Nat) : Int), .int .u64 ((lb v0 1 : Nat) : Int), .int .u64 ((lb v0 2 : Nat) : Int), .int .u64 ((lb v0 3 : Nat) : Int)] t)).alloc (.cells #[.int .u64 ((lb v1 0 : Nat) : Int), .int .u64 ((lb v1 1 : Nat) : Int), .int .u64 ((lb v1 2 : Nat) : Int), .int .u64 ((lb v1 3 : Nat) : Int)] t)).alloc (.cells #[.int .u64 0, .int .u64 0, .int .u64 0, .int .u64 0] t) = w' ∧ Arr t w' (w.heap.size) (row 4 v0) ∧ Arr t w' (w.heap.size + 1) (row 4 v1) ∧ Arr t w' (w.heap.size + 1 + 1) (row 4 0) ∧ Below w.heap.size w w' ∧ w'.heap.size = w.heap.size + 3 := by
  have a0 := fr_new t (w) v0
  have a1 := fr_new t ((w).alloc (.cells #[.int .u64 ((lb v0 0 : Nat) : Int), .int .u64 ((lb v0 1 : Nat) : Int), .int .u64 ((lb v0 2 : Nat) : Int), .int .u64 ((lb v0 3 : Nat) : Int)] t)) v1
  simp only [World.size_alloc] at a1
  have a0 := a0.alloc (.cells #[.int .u64 ((lb v1 0 : Nat) : Int), .int .u64 ((lb v1 1 : Nat) : Int), .int .u64 ((lb v1 2 : Nat) : Int), .int .u64 ((lb v1 3 : Nat) : Int)] t)
  have a2 := fr_zero t (((w).alloc (.cells #[.int .u64 ((lb v0 0 : Nat) : Int), .int .u64 ((lb v0 1 : Nat) : Int), .int .u64 ((lb v0 2 : Nat) : Int), .int .u64 ((lb v0 3 : Nat) : Int)] t)).alloc (.cells #[.int .u64 ((lb v1 0 : Nat) : Int), .int .u64 ((lb v1 1 : Nat) : Int), .int .u64 ((lb v1 2 : Nat) : Int), .int .u64 ((lb v1 3 : Nat) : Int)] t))
  simp only [World.size_alloc] at a2
  have a0 := a0.alloc (.cells #[.int .u64 0, .int .u64 0, .int .u64 0, .int .u64 0] t)
  have a1 := a1.alloc (.cells #[.int .u64 0, .int .u64 0, .int .u64 0, .int .u64 0] t)
  exact ⟨_, rfl, a0, a1, a2, ((((Below.refl w.heap.size w).alloc (by simp <;> omega) (.cells #[.int .u64 ((lb v0 0 : Nat) : Int), .int .u64 ((lb v0 1 : Nat) : Int), .int .u64 ((lb v0 2 : Nat) : Int), .int .u64 ((lb v0 3 : Nat) : Int)] t)).alloc (by simp <;> omega) (.cells #[.int .u64 ((lb v1 0 : Nat) : Int), .int .u64 ((lb v1 1 : Nat) : Int), .int .u64 ((lb v1 2 : Nat) : Int), .int .u64 ((lb v1 3 : Nat) : Int)] t)).alloc (by simp <;> omega) (.cells #[.int .u64 0, .int .u64 0, .int .u64 0, .int .u64 0] t)), by simp⟩
theorem fr_lay_zz (t : TypeId) (w : World) : ∃ w', (w.alloc (.cells #[.int .u64 0, .int .u64 0, .int .u64 0, .int .u64 0] t)).alloc (.cells #[.int .u64 0, .int .u64 0, .int .u64 0, .int .u64 0] t) = w' ∧ Arr t w' (w.heap.size) (row 4 0) ∧ Arr t w' (w.heap.size + 1) (row 4 0) ∧ Below w.heap.size w w' ∧ w'.heap.size = w.heap.size + 2 := by
  have a0 := fr_zero t (w)
  have a1 := fr_zero t ((w).alloc (.cells #[.int .u64 0, .int .u64 0, .int .u64 0, .int .u64 0] t))
  simp only [World.size_alloc] at a1
  have a0 := a0.alloc (.cells #[.int .u64 0, .int .u64 0, .int .u64 0, .int .u64 0] t)
  exact ⟨_, rfl, a0, a1, (((Below.refl w.heap.size w).alloc (by simp <;> omega) (.cells #[.int .u64 0, .int .u64 0, .int .u64 0, .int .u64 0] t)).alloc (by simp <;> omega) (.cells #[.int .u64 0, .int .u64 0, .int .u64 0, .int .u64 0] t)), by simp⟩
theorem fr_one {t : TypeId} {Y : World} {g u : Nat} (h : Arr t Y g (row 4 u)) (x : Nat) :
    ∃ W, (((Y.setCell ⟨g, 0, none⟩ (.int .u64 ((lb x 0 : Nat) : Int))).setCell ⟨g, 1, none⟩ (.int .u64 ((lb x 1 : Nat) : Int))).setCell ⟨g, 2, none⟩ (.int .u64 ((lb x 2 : Nat) : Int))).setCell ⟨g, 3, none⟩ (.int .u64 ((lb x 3 : Nat) : Int)) = W ∧ Arr t W g (row 4 x) ∧ (∀ t' g' xs, g' ≠ g → Arr t' Y g' xs → Arr t' W g' xs) ∧ (∀ B w0, Below B w0 Y → B ≤ g → Below B w0 W) ∧ W.heap.size = Y.heap.size :=
  ⟨_, rfl, h.frstore x, fun _ _ _ hne ha => ha.frother hne _ _ _ _, fun _ _ hb hg => fr_below hb hg _ _ _ _, by simp⟩
end

section
open Go.RowKit
theorem frM_lt : rN < frB := by decide +kernel
theorem frM_pos : 0 < rN := by decide +kernel
theorem frM_odd : rN % 2 = 1 := by decide +kernel
theorem frM_mod (a : Nat) : a % rN < rN := Nat.mod_lt _ frM_pos
theorem frM_modB (a : Nat) : a % rN < frB := Nat.lt_trans (frM_mod a) frM_lt
theorem frval_M : val (row 4 rN) = rN := frval frM_lt
theorem frM_lit : frV rN = .agg #[.int .u64 18446744069414584321, .int .u64 6034159408538082302, .int .u64 3691218898639771653, .int .u64 8353516859464449352] := by
  show Value.agg #[.int .u64 ((lb rN 0 : Nat) : Int), .int .u64 ((lb rN 1 : Nat) : Int), .int .u64 ((lb rN 2 : Nat) : Int), .int .u64 ((lb rN 3 : Nat) : Int)] = _
  rw [show lb rN 0 = 18446744069414584321 by decide +kernel, show lb rN 1 = 6034159408538082302 by decide +kernel, show lb rN 2 = 3691218898639771653 by decide +kernel, show lb rN 3 = 8353516859464449352 by decide +kernel]
  rfl
theorem frorder_v (w : World) : Calls Tryz.prog 67 #[] w (Is (frV rN) w) := by
  rw [frM_lit]
  go_enter Tryz.func67, Tryz.ntmps67
  go_wp2
  refine bodyPost_ret (v := .agg #[.int .u64 18446744069414584321, .int .u64 6034159408538082302, .int .u64 3691218898639771653, .int .u64 8353516859464449352]) (by simp [results, Tryz.results67, go_sem]) rfl ⟨rfl, below_alloc w _⟩
set_option maxRecDepth 20000 in
set_option maxHeartbeats 1000000 in
theorem frnumber_v (a : Option Addr) (N c v : Nat) (w : World) (hN : N = 4) (hv : View w a N (row 4 v)) :
    Calls Tryz.prog 69 #[.slice a N c] w (Is (frV v) w) := by
  obtain ⟨w2, hw2, a1, a2, hb0, hsz⟩ := fr_lay_zz 49 w
  have HV := Lib.hid (hv.below (Nat.le_refl _) hb0)
  have A1 := Lib.hid a1
  have A2 := Lib.hid a2
  have HB0 := Lib.hid hb0
  have HN := Lib.hid hN
  have HK := Lib.hid (show 1 ≤ 4 by decide)
  have HL := Lib.hid (length_row 4 0)
  subst hw2
  clear a1 a2 hb0 hv hN hsz
  go_enter Tryz.func69, Tryz.ntmps69
  go_wp2_with (with_reducible refine wpList_copy_arr _ rfl (.tmp 4) (.tmp 5) rfl 49 (w.heap.size + 1) N 4 _ (row 4 0) (row 4 v) _ _ rfl rfl HN.out A2.out HL.out HV.out HK.out ?_; intro w3 ho3 hb3; have c0 := ho3.frc0; have c1 := ho3.frc1; have c2 := ho3.frc2; have c3 := ho3.frc3; have a3 := A1.out.below (Nat.lt_succ_self _) hb3; have d0 := a3.frc0; have d1 := a3.frc1; have d2 := a3.frc2; have d3 := a3.frc3; have f0 := a3.frozen 0; have f1 := a3.frozen 1; have f2 := a3.frozen 2; have f3 := a3.frozen 3; have HB3 := Lib.hid (HB0.out.trans (hb3.mono (Nat.le_succ _))); clear ho3 hb3 a3)
  go_wp2
  refine bodyPost_ret (v := frV v) (by simp [results, Tryz.results69, go_sem, d0, d1, d2, d3]) rfl ⟨rfl, ?_⟩
  exact fr_below HB3.out (Nat.le_refl _) _ _ _ _
theorem frCmp_lt (a : Nat) (ha : a < frB) : cmpI (val (row 4 a)) (val (row 4 rN)) = cmpI a rN := by rw [frval ha, frval_M]
theorem frCmpM (a : Nat) : decide (cmpI a rN < 0) = decide (a < rN) := by
  unfold cmpI
  by_cases h : a < rN
  · simp [h]
  · by_cases h' : rN < a <;> simp [h, h']
set_option maxRecDepth 20000 in
set_option maxHeartbeats 1000000 in
theorem frRight_v (a : Nat) (w : World) (ha : a < frB) (r : Bool) (hr : r = decide (a < rN)) :
    Calls Tryz.prog 120 #[frV a] w (Is (.bool r) w) := by
  obtain ⟨w1, hw1, a1, hb1, hs1⟩ := fr_lay_v 49 w a
  have HW := Lib.hid hw1
  have HB1 := Lib.hid hb1
  have A1 := Lib.hid a1
  have HC := Lib.hid (frCmp_lt a ha)
  have HR := Lib.hid (hr.trans (frCmpM a).symm)
  clear hw1 hb1 a1 hr hs1 ha
  go_enter Tryz.func120, Tryz.ntmps120
  go_wp2_with fail
  rw [HW.out]
  refine (frorder_v _).mono ?_
  rintro e w2 ⟨rfl, hb2⟩
  obtain ⟨w3, hw3, a3, hb3, hs3⟩ := fr_lay_v 49 w2 rN
  have HW3 := Lib.hid hw3
  have V1 := Lib.hid ((A1.out.keep hb2).keep hb3).vrow
  have V3 := Lib.hid a3.vrow
  have HB3 := Lib.hid (below_then HB1.out (below_then hb2 hb3))
  clear HW A1 HB1 hb2 a3 hb3 hs3 hw3
  go_wp2_with fail
  rw [HW3.out]
  clear HW3
  obtain ⟨r', hr', hd⟩ : ∃ r' : Int, r' = cmpI (val (row 4 a)) (val (row 4 rN)) ∧ decide (r' < 0) = r := ⟨_, rfl, by rw [HC.out, HR.out]⟩
  have HR' := Lib.hid hr'
  clear hr' HC HR
  go_quiet ((go_at_call 112; exact Calls.quiet_of_same ((cmp_short _ 4 4 _ _ 4 4 _ _ (by decide) (by decide) (by decide) (by decide) (V1.out.drewN _) (V3.out.drewN _) (by decide) (by decide) HR'.out).mono fun _ _ h => ⟨h.1, h.2.symm⟩)))
  go_wp2
  go_ret
  exact ⟨by first | rfl | rw [hd], below_drewN HB3.out _⟩
theorem frlessM {a : Nat} (h : rN ≤ a) (ha : a < frB) : row 4 (val (row 4 a) + 2 ^ (64 * 4) - val (row 4 rN)) = row 4 (a - rN) := by
  rw [frval ha, frval_M, row_sub h]
set_option maxRecDepth 20000 in
set_option maxHeartbeats 1000000 in
theorem frless_v (a : Nat) (w : World) (ha : a < frB) (h : rN ≤ a) (v : Nat) (hv : v = a - rN) :
    Calls Tryz.prog 121 #[frV a] w (Is (frV v) w) := by
  obtain ⟨w1, hw1, a1, z1, hb1, hs1⟩ := fr_lay_vz 49 w a
  have HW := Lib.hid hw1
  have HB1 := Lib.hid hb1
  have A1 := Lib.hid a1
  have Z1 := Lib.hid z1
  have HR := Lib.hid (frlessM h ha)
  have HV := Lib.hid hv
  clear hw1 hb1 a1 z1 hs1 ha h hv
  go_enter Tryz.func121, Tryz.ntmps121
  go_wp2_with fail
  rw [HW.out]
  refine (frorder_v _).mono ?_
  rintro e w2 ⟨rfl, hb2⟩
  obtain ⟨w3, hw3, a3, hb3, hs3⟩ := fr_lay_v 49 w2 rN
  have HW3 := Lib.hid hw3
  have V1 := Lib.hid ((A1.out.keep hb2).keep hb3).vrow
  have Z3 := Lib.hid ((Z1.out.keep hb2).keep hb3)
  have V3 := Lib.hid a3.vrow
  have HB3 := Lib.hid (below_then HB1.out (below_then hb2 hb3))
  clear HW A1 HB1 hb2 a3 hb3 hs3 hw3 Z1
  go_wp2_with fail
  rw [HW3.out]
  clear HW3
  go_region_with (go_at_call 173; refine (sub_short _ 4 4 _ _ 4 4 _ _ (by decide) (by decide) (by decide) (by decide) V1.out.drew V3.out.drew (by decide) (by decide)).mono ?_; rintro e w4 ⟨g, rfl, ho, hg, hb4⟩; have hb4' : Below w3.heap.size w3 w4 := (Below.refl w3.heap.size w3).drew.trans hb4; rw [show max 4 4 = 4 from rfl, HR.out, ← HV.out] at ho; have V4 := Lib.hid ho.vrow; have Z4 := Lib.hid (Z3.out.keep hb4'); have HB4 := Lib.hid (below_then HB3.out hb4'); clear ho hg hb4 hb4')
  all_goals
    go_wp2_with fail
    refine (frnumber_v _ 4 4 v _ rfl V4.out).mono ?_
    rintro e w5 ⟨rfl, hb5⟩
    have Z5 := Z4.out.keep hb5
    have m0 := Z5.frc0
    have m1 := Z5.frc1
    have m2 := Z5.frc2
    have m3 := Z5.frc3
    have q0 := Z5.frozen 0
    have q1 := Z5.frozen 1
    have q2 := Z5.frozen 2
    have q3 := Z5.frozen 3
    have HB5 := Lib.hid (below_then HB4.out hb5)
    clear hb5 Z5
    go_wp2
    refine bodyPost_ret (v := frV v) (by simp [results, Tryz.results121, go_sem, m0, m1, m2, m3]) rfl ⟨rfl, ?_⟩
    exact fr_below HB5.out (by omega) _ _ _ _
set_option maxRecDepth 20000 in
set_option maxHeartbeats 4000000 in
theorem frClean_v (a : Nat) (w : World) (ha : a < frB) (v : Nat) (hv : v = a % rN) :
    Calls Tryz.prog 66 #[frV a] w (Is (frV v) w) := by
  go_enter Tryz.func66, Tryz.ntmps66
  go_wp2_with fail
  obtain ⟨w2, hw2, a1, a2, hb0, hsz⟩ := fr_lay_vz 49 w a
  rw [hw2]
  have HA := Lib.hid ha
  have HV := Lib.hid hv
  have A1 := Lib.hid a1
  have A2 := Lib.hid a2
  have HB0 := Lib.hid hb0
  clear hw2 ha hv a1 a2 hb0 hsz
  go_loopg [] a (fun V wr => V < frB ∧ V % rN = a % rN ∧ Arr 49 wr w.heap.size (row 4 V) ∧ Arr 49 wr (w.heap.size + 1) (row 4 0) ∧ Below w.heap.size w wr)
  case atStart => exact ⟨HA.out, rfl, A1.out, A2.out, HB0.out⟩
  case round =>
    obtain ⟨hlt, hm, ha, hr, hbl⟩ := hrel
    clear A1 A2 HA
    have c0 := ha.frc0
    have c1 := ha.frc1
    have c2 := ha.frc2
    have c3 := ha.frc3
    have hp := ha.lt
    have HM := Lib.hid hm
    have HA := Lib.hid ha
    have HR := Lib.hid hr
    have HB := Lib.hid hbl
    have HL := Lib.hid hlt
    clear hm ha hr hbl hlt
    go_wp2_with fail
    by_cases h : gk < rN
    · refine (frRight_v gk _ HL.out true (decide_eq_true h).symm).mono ?_
      rintro e y2 ⟨rfl, hb2⟩
      have HA2 := HA.out.keep hb2
      have HR2 := HR.out.keep hb2
      have d0 := HA2.frc0
      have d1 := HA2.frc1
      have d2 := HA2.frc2
      have d3 := HA2.frc3
      have e0 := HR2.frc0
      have e1 := HR2.frc1
      have e2 := HR2.frc2
      have e3 := HR2.frc3
      have f0 := HR2.frozen 0
      have f1 := HR2.frozen 1
      have f2 := HR2.frozen 2
      have f3 := HR2.frozen 3
      have HE := Lib.hid (show v = gk from by rw [HV.out, ← HM.out, Nat.mod_eq_of_lt h])
      have HB3 := Lib.hid (below_then HB.out hb2)
      clear h HA2 HR2 hb2 c0 c1 c2 c3
      go_wp2
      refine bodyPost_ret (v := frV gk) (by simp [results, Tryz.results66, go_sem, e0, e1, e2, e3]) rfl ⟨by rw [HE.out], ?_⟩
      exact fr_below HB3.out (by omega) _ _ _ _
    · refine (frRight_v gk _ HL.out false (decide_eq_false h).symm).mono ?_
      rintro e y2 ⟨rfl, hb2⟩
      have HA2 := HA.out.keep hb2
      have HR2 := Lib.hid (HR.out.keep hb2)
      have HB2 := Lib.hid (below_then HB.out hb2)
      have HN := Lib.hid (show rN ≤ gk by omega)
      have d0 := HA2.frc0
      have d1 := HA2.frc1
      have d2 := HA2.frc2
      have d3 := HA2.frc3
      have A3 := Lib.hid HA2
      clear h HA2 hb2 c0 c1 c2 c3
      go_wp2_with fail
      obtain ⟨x, hx⟩ : ∃ x, x = gk - rN := ⟨_, rfl⟩
      refine (frless_v gk _ HL.out HN.out x hx).mono ?_
      rintro e y3 ⟨rfl, hb3⟩
      have HX := Lib.hid hx
      have HA4 := A3.out.keep hb3
      have k0 := HA4.frc0
      have k1 := HA4.frc1
      have k2 := HA4.frc2
      have k3 := HA4.frc3
      have q0 := HA4.frozen 0
      have q1 := HA4.frozen 1
      have q2 := HA4.frozen 2
      have q3 := HA4.frozen 3
      have A4 := Lib.hid HA4
      have R4 := Lib.hid (HR2.out.keep hb3)
      have HB4 := Lib.hid (below_then HB2.out hb3)
      clear hx HA4 hb3 d0 d1 d2 d3
      go_wp2
      go_roundg (gk - rN)
      case measure => exact Nat.sub_lt (Nat.lt_of_lt_of_le frM_pos HN.out) frM_pos
      case rel =>
        rw [← HX.out]
        exact ⟨by have := HL.out; have := HX.out; omega, by rw [HX.out, ← HM.out, ← Nat.mod_eq_sub_mod HN.out], A4.out.frstore x, R4.out.frother (by omega) _ _ _ _, fr_below HB4.out (Nat.le_refl _) _ _ _ _⟩
end
end Go.Proofs.YtkkmekdhejhapaaGreat
