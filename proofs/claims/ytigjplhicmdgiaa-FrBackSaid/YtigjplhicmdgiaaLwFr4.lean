/- What is proved here: fr.moveUp; what fr.Hash makes of 32 bytes; the law FrBack. -/
import Derived.Test.YtigjplhicmdgiaaTyFr
import Derived.Test.YtigjplhicmdgiaaFn7Fr
import Derived.Test.YtigjplhicmdgiaaShelf
import Derived.LoopN
namespace Go.Proofs.Ytigjplhicmdgiaa
open Go.RowKit

set_option maxRecDepth 20000 in
set_option maxHeartbeats 4000000 in
theorem frmoveUp_v (a : Nat) (w : World) (ha : a < rN) (v : Nat) (hv : v = a * 2 ^ (64 * 4) % rN) :
    Calls Try.prog 30 #[frV a] w (Is (frV v) w) := by
  have HXB := Lib.hid (Nat.lt_trans ha frM_lt)
  have HV := Lib.hid (show val (row 4 a) * 2 ^ (64 * 4) % val (row 4 rN) = v by rw [frval HXB.out, frval_M, hv])
  have HXV := Lib.hid (show val (row 4 a) < val (row 4 rN) by rw [frval HXB.out, frval_M]; exact ha)
  obtain ⟨w3, hw3, a1, a3, hb0, hsz⟩ := fr_lay_vz 24 w a
  have HW := Lib.hid hw3
  have A1 := Lib.hid a1
  have A3 := Lib.hid a3
  have HB0 := Lib.hid hb0
  clear ha hw3 a1 a3 hb0 hsz hv
  go_enter Try.func30, Try.ntmps30
  go_wp2_with fail
  rw [HW.out]
  clear HW
  refine (frorder_v _).mono ?_
  rintro e w5 ⟨rfl, hb5⟩
  obtain ⟨w6, hw6, a6, hb6, hs6⟩ := fr_lay_v 24 w5 rN
  have HW6 := Lib.hid hw6
  have X1 := Lib.hid ((A1.out.keep hb5).keep hb6).vrow
  have X3 := Lib.hid ((A3.out.keep hb5).keep hb6)
  have X4 := Lib.hid a6.vrow
  have XB := Lib.hid (below_then HB0.out (below_then hb5 hb6))
  clear hw6 a6 hb5 hb6 hs6 A1 A3 HB0
  go_wp2_with fail
  rw [HW6.out]
  clear HW6
  go_region_with (go_at_call 57; refine (montInto_any _ 4 _ _ 4 4 _ _ (by decide) (by decide) (by decide) (by decide) X1.out.drew X4.out.drew frisMod HXV.out).mono ?_; rintro e w7 ⟨g7, rfl, ho7, hg7, hb7⟩; have hb7' : Below w6.heap.size w6 w7 := (Below.refl w6.heap.size w6).drew.trans hb7; rw [HV.out] at ho7; have E1 := Lib.hid ho7.vrow; have E3 := Lib.hid (X3.out.keep hb7'); have EB := Lib.hid (below_then XB.out hb7'); clear ho7 hg7 hb7 hb7')
  all_goals
    go_wp2_with fail
    refine (frnumber_v _ 4 4 v _ rfl E1.out).mono ?_
    rintro e w9 ⟨rfl, hb9⟩
    have ZE := E3.out.keep hb9
    have m0 := ZE.frc0
    have m1 := ZE.frc1
    have m2 := ZE.frc2
    have m3 := ZE.frc3
    have q0 := ZE.frozen 0
    have q1 := ZE.frozen 1
    have q2 := ZE.frozen 2
    have q3 := ZE.frozen 3
    have HBE := Lib.hid (below_then EB.out hb9)
    clear hb9 ZE
    go_wp2
    refine bodyPost_ret (v := frV v) (by simp [results, Try.results30, go_sem, m0, m1, m2, m3]) rfl ⟨rfl, ?_⟩
    exact fr_below HBE.out (by omega) _ _ _ _


section
variable {ρ : Operand → Value} {d : Option Tmp} {ty0 : TypeId} {pos : String} {after : Array Edge} {guard : Option (Nat × Bool)} {w : World}

theorem ex_len {x : Operand} {s : ByteArray} (hx : ρ x = .string s) (hs : s.size = 32) :
    (execOp ρ ⟨d, .call ⟨.builtin .len, #[x], #[9]⟩, ty0, pos, after, guard⟩).run Try.prog w = .ok (.value (.int .i64 32)) w := by
  simp [hx, go_sem, hs]

theorem ex_rem {t t2 : TypeId} {x y : Operand} (hx : ρ x = .int .i64 32) (hy : ρ y = .int .i64 32) :
    (execOp ρ ⟨d, .binOp .rem t x y t2, ty0, pos, after, guard⟩).run Try.prog w = .ok (.value (.int .i64 0)) w := by
  simp [execOp, hx, hy, go_sem]

theorem ex_subI {t t2 : TypeId} {x y : Operand} (hx : ρ x = .int .i64 32) (hy : ρ y = .int .i64 0) :
    (execOp ρ ⟨d, .binOp .sub t x y t2, ty0, pos, after, guard⟩).run Try.prog w = .ok (.value (.int .i64 32)) w := by
  simp [execOp, hx, hy, go_sem]
  rfl

theorem ex_addI {t t2 : TypeId} {x y : Operand} (hx : ρ x = .int .i64 0) (hy : ρ y = .int .i64 32) :
    (execOp ρ ⟨d, .binOp .add t x y t2, ty0, pos, after, guard⟩).run Try.prog w = .ok (.value (.int .i64 32)) w := by
  simp [execOp, hx, hy, go_sem]
  rfl

theorem ex_lss {t t2 : TypeId} {x y : Operand} {a b : Int} (hx : ρ x = .int .i64 a) (hy : ρ y = .int .i64 b) (r : Bool) (hr : r = decide (a < b)) :
    (execOp ρ ⟨d, .binOp .lss t x y t2, ty0, pos, after, guard⟩).run Try.prog w = .ok (.value (.bool r)) w := by
  subst hr
  simp [execOp, hx, hy, eqGuard, binOp, Op.intCmp]

theorem ex_cut0 {x y : Operand} {s : ByteArray} (hx : ρ x = .string s) (hy : ρ y = .int .i64 0) :
    (execOp ρ ⟨d, .slice 9 x none (some y) none, ty0, pos, after, guard⟩).run Try.prog w = .ok (.value (.string (s.extract 0 0))) w := by
  simp [execOp, hx, hy, go_sem]

theorem ex_cutAll {x y z : Operand} {s : ByteArray} (hx : ρ x = .string s) (hy : ρ y = .int .i64 0) (hz : ρ z = .int .i64 32) (hs : s.size = 32) :
    (execOp ρ ⟨d, .slice 9 x (some y) (some z) none, ty0, pos, after, guard⟩).run Try.prog w = .ok (.value (.string (s.extract 0 32))) w := by
  simp [execOp, hx, hy, hz, go_sem, hs]

theorem ex_cat {t t2 : TypeId} {x y : Operand} {a b : ByteArray} (hx : ρ x = .string a) (hy : ρ y = .string b) (h : a.size + b.size ≤ 100) :
    (execOp ρ ⟨d, .binOp .add t x y t2, ty0, pos, after, guard⟩).run Try.prog w = .ok (.value (.string (a ++ b))) w := by
  simp [execOp, hx, hy, go_sem]
  omega
end


/-! ### a region in the order of the text, by a plan -/

theorem wp_region_pf {P : Program} {id : Nat} {l : List Oper} {S : World → Prop} {F a : Act} {w : World} {Q : Exit → Act → World → Prop} (vs : List (Tmp × Value))
    (hl : Region.linearise .any l.toArray 0 = List.range l.toArray.size)
    (hp : planOk l.toArray = true) (hs : Region.noSelect l.toArray = true) (hk : (vs.all fun p => l.toArray.any fun o => o.dst == some p.1) = true)
    (hd : a.defers = F.defers) (hF : putAll a.tmps vs = F.tmps) (hS : S w)
    (hsteps : PlanSteps P l.toArray S F l) (hQ : ∀ w', S w' → Q .normal F w') : (Code.region id l.toArray false).wp P Q a w := by
  refine wp_region ?_
  rw [← hl]
  refine wpAny_sound _ 0 _ _ _ (planned_any hp hs (fun i o ho => hsteps.at ?_) hQ _ _ _ _ (by simp) ?_ (planned_put hd hF hk) hS)
  · have := Array.mem_of_getElem? ho
    simpa using this
  · unfold toCome
    exact Nat.le_trans List.countP_le_length (by simp)

/-! ### ways out -/

theorem inblock_n {id : Nat} {Q : Exit → Act → World → Prop} {a : Act} {w : World} (h : Q .normal a w) : Exit.inBlock id Q .normal a w := h
theorem then_r {K : Act → World → Prop} {Q : Exit → Act → World → Prop} {a : Act} {w : World} (h : K a w) : Exit.then K Q .normal a w := h
theorem then_e {K : Act → World → Prop} {Q : Exit → Act → World → Prop} {id : Nat} {a : Act} {w : World} (h : Q (.exit id) a w) : Exit.then K Q (.exit id) a w := h
theorem exit_in {id : Nat} {Q : Exit → Act → World → Prop} {a : Act} {w : World} (h : Q .normal a w) : Exit.inBlock id Q (.exit id) a w := by
  show (if id = id then Q .normal a w else Q (.exit id) a w)
  rw [if_pos rfl]
  exact h


/-- 32 zero bytes. -/
def z32 : ByteArray := ⟨(Lib.repeatL [0] 32).toArray⟩

theorem z32_size : z32.size = 32 := by decide +kernel

theorem frread_n (s : ByteArray) (w : World) (hs : s.size = 32) (v : Nat) (hv : v = bval (bl s)) : Calls Try.prog 24 #[.string s] w (Is (nv 4 [v]) w) := by
  rw [nv4R]
  exact frread_v s w hs v hv

theorem frmoveUp_n (w : World) : Calls Try.prog 30 #[nv 4 [0]] w (Is (nv 4 [0]) w) := by
  rw [nv4R]
  exact frmoveUp_v 0 w zero_PR 0 (by rw [Nat.zero_mul, Nat.zero_mod])

theorem cat_empty (a s : ByteArray) : a ++ s.extract 0 0 = a := by
  apply ByteArray.ext
  simp

theorem extract_all {s : ByteArray} (hs : s.size = 32) : s.extract 0 32 = s := by
  rw [← hs]
  exact ByteArray.extract_zero_size

set_option maxRecDepth 20000 in
set_option maxHeartbeats 4000000 in
theorem frHash_32 (s : ByteArray) (w : World) (hs : s.size = 32) (v : Nat) (hv : v = bval (bl s) % rN) :
    Calls Try.prog 13 #[.string s] w (Is (nv 4 [v]) w) := by
  have HR : ∀ W, Calls Try.prog 29 #[.string ⟨#[0]⟩, .int .i64 32] W (Is (.string z32) W) := fun W => Try.strings_Repeat_main ⟨#[0]⟩ 32 W (by decide) (by decide) (by decide) (by decide)
  have HZ : ∀ W, Calls Try.prog 24 #[.string (z32 ++ ((s).extract 0 0))] W (Is (nv 4 [0]) W) := fun W => by
    rw [cat_empty]
    exact frread_n z32 W z32_size 0 (by decide +kernel)
  have HM := frmoveUp_n
  obtain ⟨b, hb⟩ : ∃ b, b = bval (bl s) := ⟨_, rfl⟩
  have HS : ∀ W, Calls Try.prog 24 #[.string ((s).extract 0 32)] W (Is (nv 4 [b]) W) := fun W => by
    rw [extract_all hs]
    exact frread_n s W hs b hb
  have bb : b < frB := by
    have h1 := bval_lt (bl s)
    rw [length_bl, hs] at h1
    rw [hb, frB_eq]
    exact h1
  have HA : ∀ W, Calls Try.prog 15 #[nv 4 [0], nv 4 [b]] W (Is (nv 4 [v]) W) := fun W => frAdd_n 0 b W zero_BR bb v (by rw [hv, Nat.zero_add, hb])
  have hcat : z32.size + ((s).extract 0 0).size ≤ 100 := by rw [z32_size]; simp
  go_enter Try.func13, Try.ntmps13
  refine seq_lit ?_
  refine sq_new (a' := ⟨List.toArray ((.string s) :: undef :: (.pointer (some ⟨w.heap.size, 0, none⟩)) :: undef :: undef :: undef :: undef :: undef :: undef :: undef :: undef :: undef :: undef :: undef :: undef :: undef :: undef :: undef :: undef :: undef :: undef :: undef :: undef :: undef :: undef :: undef :: undef :: undef :: undef :: undef :: undef :: undef :: undef :: undef :: []), []⟩) (xs := rows 4 [0]) rfl rfl (ex_alloc zFr) ?_
  intro w1 N1 hb1
  have HB2 := below_then (Below.refl w.heap.size w) hb1
  refine seq_nil ?_
  refine seq_lit ?_
  refine sq_val (a' := ⟨List.toArray ((.string s) :: undef :: (.pointer (some ⟨w.heap.size, 0, none⟩)) :: undef :: undef :: undef :: (.string s) :: undef :: undef :: undef :: undef :: undef :: undef :: undef :: undef :: undef :: undef :: undef :: undef :: undef :: undef :: undef :: undef :: undef :: undef :: undef :: undef :: undef :: undef :: undef :: undef :: undef :: undef :: undef :: []), []⟩) (v := .string s) rfl rfl (ex_move _) ?_
  refine sq_val (a' := ⟨List.toArray ((.string s) :: undef :: (.pointer (some ⟨w.heap.size, 0, none⟩)) :: undef :: undef :: undef :: (.string s) :: (.int .i64 32) :: undef :: undef :: undef :: undef :: undef :: undef :: undef :: undef :: undef :: undef :: undef :: undef :: undef :: undef :: undef :: undef :: undef :: undef :: undef :: undef :: undef :: undef :: undef :: undef :: undef :: undef :: []), []⟩) (v := .int .i64 32) rfl rfl (ex_len rfl hs) ?_
  refine sq_val (a' := ⟨List.toArray ((.string s) :: undef :: (.pointer (some ⟨w.heap.size, 0, none⟩)) :: undef :: undef :: undef :: (.string s) :: (.int .i64 32) :: (.int .i64 0) :: undef :: undef :: undef :: undef :: undef :: undef :: undef :: undef :: undef :: undef :: undef :: undef :: undef :: undef :: undef :: undef :: undef :: undef :: undef :: undef :: undef :: undef :: undef :: undef :: undef :: []), []⟩) (v := .int .i64 0) rfl rfl (ex_rem rfl rfl) ?_
  refine sq_val (a' := ⟨List.toArray ((.string s) :: undef :: (.pointer (some ⟨w.heap.size, 0, none⟩)) :: (.int .i64 0) :: undef :: undef :: (.string s) :: (.int .i64 32) :: (.int .i64 0) :: undef :: undef :: undef :: undef :: undef :: undef :: undef :: undef :: undef :: undef :: undef :: undef :: undef :: undef :: undef :: undef :: undef :: undef :: undef :: undef :: undef :: undef :: undef :: undef :: undef :: []), []⟩) (v := .int .i64 0) rfl rfl (ex_assign _) ?_
  refine seq_nil ?_
  refine wp_seq (wp_region_one (F := fun γ => ⟨List.toArray ((.string s) :: undef :: (.pointer (some ⟨w.heap.size, 0, none⟩)) :: (.int .i64 0) :: (.pointer (some ⟨γ, 0, none⟩)) :: undef :: (.string s) :: (.int .i64 32) :: (.int .i64 0) :: (.int .i64 0) :: (.int .i64 32) :: (.string z32) :: (.string s) :: (.int .i64 0) :: (.string ((s).extract 0 0)) :: (.string (z32 ++ ((s).extract 0 0))) :: (nv 4 [0]) :: undef :: undef :: undef :: undef :: undef :: undef :: undef :: undef :: undef :: undef :: undef :: undef :: undef :: undef :: undef :: undef :: undef :: []), []⟩) 24 4 8 9 [0] [0] [(4, .pointer (some ⟨0, 0, none⟩)), (9, .int .i64 0), (10, .int .i64 32), (11, .string z32), (12, .string s), (13, .int .i64 0), (14, .string ((s).extract 0 0)), (15, .string (z32 ++ ((s).extract 0 0))), (16, nv 4 [0])] (by kernel_rfl) (by kernel_rfl) (by kernel_rfl) (by kernel_rfl) rfl (by simp only [putAll, List.setIfInBounds_toArray, List.set_cons_zero, List.set_cons_succ]) rfl rfl ?_ ?_)
  · refine GSteps.cons (g1_val (v := .int .i64 0) rfl (fun γ => rfl) (fun γ => rfl) (fun γ W' h => ex_move _) rfl rfl) ?_
    refine GSteps.cons (g1_val (v := .int .i64 32) rfl (fun γ => rfl) (fun γ => rfl) (fun γ W' h => ex_subI rfl rfl) rfl rfl) ?_
    refine GSteps.cons (g1_call (v := .string z32) rfl (fun γ => rfl) (fun γ => rfl) (fun γ W' => ex_call (vs := [.string ⟨#[0]⟩, .int .i64 32]) rfl Try.call29 rfl) (fun W' h => HR _) rfl rfl) ?_
    refine GSteps.cons (g1_val (v := .string s) rfl (fun γ => rfl) (fun γ => rfl) (fun γ W' h => ex_move _) rfl rfl) ?_
    refine GSteps.cons (g1_val (v := .int .i64 0) rfl (fun γ => rfl) (fun γ => rfl) (fun γ W' h => ex_move _) rfl rfl) ?_
    refine GSteps.cons (g1_val (v := .string ((s).extract 0 0)) rfl (fun γ => rfl) (fun γ => rfl) (fun γ W' h => ex_cut0 rfl rfl) rfl rfl) ?_
    refine GSteps.cons (g1_val (v := .string (z32 ++ ((s).extract 0 0))) rfl (fun γ => rfl) (fun γ => rfl) (fun γ W' h => ex_cat rfl rfl hcat) rfl rfl) ?_
    refine GSteps.cons (g1_call (v := nv 4 [0]) rfl (fun γ => rfl) (fun γ => rfl) (fun γ W' => ex_call (vs := [.string (z32 ++ ((s).extract 0 0))]) rfl Try.call24 rfl) (fun W' h => HZ _) rfl rfl) ?_
    refine GSteps.cons (g1_new (fun γ => rfl) (fun γ n => rfl) (fun γ W' => ex_alloc zFr) rfl rfl (by kernel_rfl)) ?_
    refine GSteps.cons (g1_store rfl (fun γ => rfl) rfl (fun γ W' hA => ex_storen (K := 4) (l := [0]) (m := [0]) flFr rfl rfl hA rfl) rfl rfl (by kernel_rfl)) ?_
    exact GSteps.nil
  intro g3 w3 hb3 le3 N3
  refine then_nR ?_
  have A4 := N1.keep hb3.out
  have HB5 := below_then HB2 hb3.out
  refine wp_seq ?_
  refine seq_lit ?_
  refine sq_val (a' := ⟨List.toArray ((.string s) :: undef :: (.pointer (some ⟨w.heap.size, 0, none⟩)) :: (.int .i64 0) :: (.pointer (some ⟨g3, 0, none⟩)) :: undef :: (.string s) :: (.int .i64 32) :: (.int .i64 0) :: (.int .i64 0) :: (.int .i64 32) :: (.string z32) :: (.string s) :: (.int .i64 0) :: (.string ((s).extract 0 0)) :: (.string (z32 ++ ((s).extract 0 0))) :: (nv 4 [0]) :: (.int .i64 0) :: undef :: undef :: undef :: undef :: undef :: undef :: undef :: undef :: undef :: undef :: undef :: undef :: undef :: undef :: undef :: undef :: []), []⟩) (v := .int .i64 0) rfl rfl (ex_move _) ?_
  refine sq_val (a' := ⟨List.toArray ((.string s) :: undef :: (.pointer (some ⟨w.heap.size, 0, none⟩)) :: (.int .i64 0) :: (.pointer (some ⟨g3, 0, none⟩)) :: (.int .i64 0) :: (.string s) :: (.int .i64 32) :: (.int .i64 0) :: (.int .i64 0) :: (.int .i64 32) :: (.string z32) :: (.string s) :: (.int .i64 0) :: (.string ((s).extract 0 0)) :: (.string (z32 ++ ((s).extract 0 0))) :: (nv 4 [0]) :: (.int .i64 0) :: undef :: undef :: undef :: undef :: undef :: undef :: undef :: undef :: undef :: undef :: undef :: undef :: undef :: undef :: undef :: undef :: []), []⟩) (v := .int .i64 0) rfl rfl (ex_assign _) ?_
  refine seq_nil ?_
  refine wp_block ?_
  refine wp_loop_rounds 2 ?_
  rw [rounds_succ]
  refine wp_seq ?_
  refine seq_lit ?_
  refine sq_val (a' := ⟨List.toArray ((.string s) :: undef :: (.pointer (some ⟨w.heap.size, 0, none⟩)) :: (.int .i64 0) :: (.pointer (some ⟨g3, 0, none⟩)) :: (.int .i64 0) :: (.string s) :: (.int .i64 32) :: (.int .i64 0) :: (.int .i64 0) :: (.int .i64 32) :: (.string z32) :: (.string s) :: (.int .i64 0) :: (.string ((s).extract 0 0)) :: (.string (z32 ++ ((s).extract 0 0))) :: (nv 4 [0]) :: (.int .i64 0) :: (.int .i64 0) :: undef :: undef :: undef :: undef :: undef :: undef :: undef :: undef :: undef :: undef :: undef :: undef :: undef :: undef :: undef :: []), []⟩) (v := .int .i64 0) rfl rfl (ex_move _) ?_
  refine sq_val (a' := ⟨List.toArray ((.string s) :: undef :: (.pointer (some ⟨w.heap.size, 0, none⟩)) :: (.int .i64 0) :: (.pointer (some ⟨g3, 0, none⟩)) :: (.int .i64 0) :: (.string s) :: (.int .i64 32) :: (.int .i64 0) :: (.int .i64 0) :: (.int .i64 32) :: (.string z32) :: (.string s) :: (.int .i64 0) :: (.string ((s).extract 0 0)) :: (.string (z32 ++ ((s).extract 0 0))) :: (nv 4 [0]) :: (.int .i64 0) :: (.int .i64 0) :: (.string s) :: undef :: undef :: undef :: undef :: undef :: undef :: undef :: undef :: undef :: undef :: undef :: undef :: undef :: undef :: []), []⟩) (v := .string s) rfl rfl (ex_move _) ?_
  refine sq_val (a' := ⟨List.toArray ((.string s) :: undef :: (.pointer (some ⟨w.heap.size, 0, none⟩)) :: (.int .i64 0) :: (.pointer (some ⟨g3, 0, none⟩)) :: (.int .i64 0) :: (.string s) :: (.int .i64 32) :: (.int .i64 0) :: (.int .i64 0) :: (.int .i64 32) :: (.string z32) :: (.string s) :: (.int .i64 0) :: (.string ((s).extract 0 0)) :: (.string (z32 ++ ((s).extract 0 0))) :: (nv 4 [0]) :: (.int .i64 0) :: (.int .i64 0) :: (.string s) :: (.int .i64 32) :: undef :: undef :: undef :: undef :: undef :: undef :: undef :: undef :: undef :: undef :: undef :: undef :: undef :: []), []⟩) (v := .int .i64 32) rfl rfl (ex_len rfl hs) ?_
  refine sq_val (a' := ⟨List.toArray ((.string s) :: undef :: (.pointer (some ⟨w.heap.size, 0, none⟩)) :: (.int .i64 0) :: (.pointer (some ⟨g3, 0, none⟩)) :: (.int .i64 0) :: (.string s) :: (.int .i64 32) :: (.int .i64 0) :: (.int .i64 0) :: (.int .i64 32) :: (.string z32) :: (.string s) :: (.int .i64 0) :: (.string ((s).extract 0 0)) :: (.string (z32 ++ ((s).extract 0 0))) :: (nv 4 [0]) :: (.int .i64 0) :: (.int .i64 0) :: (.string s) :: (.int .i64 32) :: (.bool true) :: undef :: undef :: undef :: undef :: undef :: undef :: undef :: undef :: undef :: undef :: undef :: undef :: []), []⟩) (v := .bool true) rfl rfl (ex_lss rfl rfl true rfl) ?_
  refine seq_nil ?_
  refine wp_cond_true rfl ?_
  refine wp_skip ?_
  refine then_nR ?_
  refine wp_seq ?_
  refine wp_block ?_
  refine wp_region_last (F := ⟨List.toArray ((.string s) :: undef :: (.pointer (some ⟨w.heap.size, 0, none⟩)) :: (.int .i64 0) :: (.pointer (some ⟨g3, 0, none⟩)) :: (.int .i64 0) :: (.string s) :: (.int .i64 32) :: (.int .i64 0) :: (.int .i64 0) :: (.int .i64 32) :: (.string z32) :: (.string s) :: (.int .i64 0) :: (.string ((s).extract 0 0)) :: (.string (z32 ++ ((s).extract 0 0))) :: (nv 4 [0]) :: (.int .i64 0) :: (.int .i64 0) :: (.string s) :: (.int .i64 32) :: (.bool true) :: undef :: undef :: (nv 4 [0]) :: (nv 4 [0]) :: (.string s) :: (.int .i64 0) :: (.int .i64 0) :: (.int .i64 32) :: (.string ((s).extract 0 32)) :: (nv 4 [b]) :: (nv 4 [v]) :: undef :: []), []⟩) (S := Bel w3) [(24, nv 4 [0]), (25, nv 4 [0]), (26, .string s), (27, .int .i64 0), (28, .int .i64 0), (29, .int .i64 32), (30, .string ((s).extract 0 32)), (31, nv 4 [b]), (32, nv 4 [v])] 9 _ (by kernel_rfl) (by kernel_rfl) (by kernel_rfl) (by kernel_rfl) rfl rfl (by kernel_rfl) rfl (by simp only [putAll, List.setIfInBounds_toArray, List.set_cons_zero, List.set_cons_succ]) (Bel.start _) ?_ ?_
  · refine PlanInit.cons (ps_val (v := nv 4 [0]) rfl rfl rfl (fun W' h => ex_loadn (K := 4) (k := 0) (j := 1) (l := [0]) flFr rfl (N3.keep h.out) rfl _ rfl)) ?_
    refine PlanInit.cons (ps_call (v := nv 4 [0]) rfl rfl rfl (fun W' => ex_call (vs := [nv 4 [0]]) rfl Try.call30 rfl) (fun W' h => HM _)) ?_
    refine PlanInit.cons (ps_val (v := .string s) rfl rfl rfl (fun W' h => ex_move _)) ?_
    refine PlanInit.cons (ps_val (v := .int .i64 0) rfl rfl rfl (fun W' h => ex_move _)) ?_
    refine PlanInit.cons (ps_val (v := .int .i64 0) rfl rfl rfl (fun W' h => ex_move _)) ?_
    refine PlanInit.cons (ps_val (v := .int .i64 32) rfl rfl rfl (fun W' h => ex_addI rfl rfl)) ?_
    refine PlanInit.cons (ps_val (v := .string ((s).extract 0 32)) rfl rfl rfl (fun W' h => ex_cutAll rfl rfl rfl hs)) ?_
    refine PlanInit.cons (ps_call (v := nv 4 [b]) rfl rfl rfl (fun W' => ex_call (vs := [.string ((s).extract 0 32)]) rfl Try.call24 rfl) (fun W' h => HS _)) ?_
    refine PlanInit.cons (ps_call (v := nv 4 [v]) rfl rfl rfl (fun W' => ex_call (vs := [nv 4 [0], nv 4 [b]]) rfl Try.call15 rfl) (fun W' h => HA _)) ?_
    exact PlanInit.one
  refine last_store (t := 24) (xs := rows 4 [0]) (ys := rows 4 [v]) rfl rfl (fun W' h => N3.keep h.out) (len_rows rfl) (fun W' h => ex_storen (K := 4) (l := [0]) (m := [v]) flFr rfl rfl (N3.keep h.out) rfl) ?_
  intro w6 w7 hb6 N7 hst7 hoth7
  have A8 := A4.keep hb6.out
  have A9 := N3.keep hb6.out
  have HB10 := below_then HB5 hb6.out
  have A11 := hoth7 _ _ _ (Nat.ne_of_lt (Nat.lt_of_lt_of_le N1.lt le3)) A8
  have HB12 := hst7 _ _ HB10 (Nat.le_trans HB2.size le3)
  refine inblock_n ?_
  refine then_nR ?_
  refine wp_region_lit ?_
  refine sq_val (a' := ⟨List.toArray ((.string s) :: undef :: (.pointer (some ⟨w.heap.size, 0, none⟩)) :: (.int .i64 0) :: (.pointer (some ⟨g3, 0, none⟩)) :: (.int .i64 0) :: (.string s) :: (.int .i64 32) :: (.int .i64 0) :: (.int .i64 0) :: (.int .i64 32) :: (.string z32) :: (.string s) :: (.int .i64 0) :: (.string ((s).extract 0 0)) :: (.string (z32 ++ ((s).extract 0 0))) :: (nv 4 [0]) :: (.int .i64 0) :: (.int .i64 0) :: (.string s) :: (.int .i64 32) :: (.bool true) :: (.int .i64 0) :: undef :: (nv 4 [0]) :: (nv 4 [0]) :: (.string s) :: (.int .i64 0) :: (.int .i64 0) :: (.int .i64 32) :: (.string ((s).extract 0 32)) :: (nv 4 [b]) :: (nv 4 [v]) :: undef :: []), []⟩) (v := .int .i64 0) rfl rfl (ex_move _) ?_
  refine sq_val (a' := ⟨List.toArray ((.string s) :: undef :: (.pointer (some ⟨w.heap.size, 0, none⟩)) :: (.int .i64 0) :: (.pointer (some ⟨g3, 0, none⟩)) :: (.int .i64 0) :: (.string s) :: (.int .i64 32) :: (.int .i64 0) :: (.int .i64 0) :: (.int .i64 32) :: (.string z32) :: (.string s) :: (.int .i64 0) :: (.string ((s).extract 0 0)) :: (.string (z32 ++ ((s).extract 0 0))) :: (nv 4 [0]) :: (.int .i64 0) :: (.int .i64 0) :: (.string s) :: (.int .i64 32) :: (.bool true) :: (.int .i64 0) :: (.int .i64 32) :: (nv 4 [0]) :: (nv 4 [0]) :: (.string s) :: (.int .i64 0) :: (.int .i64 0) :: (.int .i64 32) :: (.string ((s).extract 0 32)) :: (nv 4 [b]) :: (nv 4 [v]) :: undef :: []), []⟩) (v := .int .i64 32) rfl rfl (ex_addI rfl rfl) ?_
  refine sq_val (a' := ⟨List.toArray ((.string s) :: undef :: (.pointer (some ⟨w.heap.size, 0, none⟩)) :: (.int .i64 0) :: (.pointer (some ⟨g3, 0, none⟩)) :: (.int .i64 32) :: (.string s) :: (.int .i64 32) :: (.int .i64 0) :: (.int .i64 0) :: (.int .i64 32) :: (.string z32) :: (.string s) :: (.int .i64 0) :: (.string ((s).extract 0 0)) :: (.string (z32 ++ ((s).extract 0 0))) :: (nv 4 [0]) :: (.int .i64 0) :: (.int .i64 0) :: (.string s) :: (.int .i64 32) :: (.bool true) :: (.int .i64 0) :: (.int .i64 32) :: (nv 4 [0]) :: (nv 4 [0]) :: (.string s) :: (.int .i64 0) :: (.int .i64 0) :: (.int .i64 32) :: (.string ((s).extract 0 32)) :: (nv 4 [b]) :: (nv 4 [v]) :: undef :: []), []⟩) (v := .int .i64 32) rfl rfl (ex_assign _) ?_
  refine wpList_nil ?_
  refine then_r ?_
  rw [rounds_succ]
  refine wp_seq ?_
  refine seq_lit ?_
  refine sq_val (a' := ⟨List.toArray ((.string s) :: undef :: (.pointer (some ⟨w.heap.size, 0, none⟩)) :: (.int .i64 0) :: (.pointer (some ⟨g3, 0, none⟩)) :: (.int .i64 32) :: (.string s) :: (.int .i64 32) :: (.int .i64 0) :: (.int .i64 0) :: (.int .i64 32) :: (.string z32) :: (.string s) :: (.int .i64 0) :: (.string ((s).extract 0 0)) :: (.string (z32 ++ ((s).extract 0 0))) :: (nv 4 [0]) :: (.int .i64 0) :: (.int .i64 32) :: (.string s) :: (.int .i64 32) :: (.bool true) :: (.int .i64 0) :: (.int .i64 32) :: (nv 4 [0]) :: (nv 4 [0]) :: (.string s) :: (.int .i64 0) :: (.int .i64 0) :: (.int .i64 32) :: (.string ((s).extract 0 32)) :: (nv 4 [b]) :: (nv 4 [v]) :: undef :: []), []⟩) (v := .int .i64 32) rfl rfl (ex_move _) ?_
  refine sq_val (a' := ⟨List.toArray ((.string s) :: undef :: (.pointer (some ⟨w.heap.size, 0, none⟩)) :: (.int .i64 0) :: (.pointer (some ⟨g3, 0, none⟩)) :: (.int .i64 32) :: (.string s) :: (.int .i64 32) :: (.int .i64 0) :: (.int .i64 0) :: (.int .i64 32) :: (.string z32) :: (.string s) :: (.int .i64 0) :: (.string ((s).extract 0 0)) :: (.string (z32 ++ ((s).extract 0 0))) :: (nv 4 [0]) :: (.int .i64 0) :: (.int .i64 32) :: (.string s) :: (.int .i64 32) :: (.bool true) :: (.int .i64 0) :: (.int .i64 32) :: (nv 4 [0]) :: (nv 4 [0]) :: (.string s) :: (.int .i64 0) :: (.int .i64 0) :: (.int .i64 32) :: (.string ((s).extract 0 32)) :: (nv 4 [b]) :: (nv 4 [v]) :: undef :: []), []⟩) (v := .string s) rfl rfl (ex_move _) ?_
  refine sq_val (a' := ⟨List.toArray ((.string s) :: undef :: (.pointer (some ⟨w.heap.size, 0, none⟩)) :: (.int .i64 0) :: (.pointer (some ⟨g3, 0, none⟩)) :: (.int .i64 32) :: (.string s) :: (.int .i64 32) :: (.int .i64 0) :: (.int .i64 0) :: (.int .i64 32) :: (.string z32) :: (.string s) :: (.int .i64 0) :: (.string ((s).extract 0 0)) :: (.string (z32 ++ ((s).extract 0 0))) :: (nv 4 [0]) :: (.int .i64 0) :: (.int .i64 32) :: (.string s) :: (.int .i64 32) :: (.bool true) :: (.int .i64 0) :: (.int .i64 32) :: (nv 4 [0]) :: (nv 4 [0]) :: (.string s) :: (.int .i64 0) :: (.int .i64 0) :: (.int .i64 32) :: (.string ((s).extract 0 32)) :: (nv 4 [b]) :: (nv 4 [v]) :: undef :: []), []⟩) (v := .int .i64 32) rfl rfl (ex_len rfl hs) ?_
  refine sq_val (a' := ⟨List.toArray ((.string s) :: undef :: (.pointer (some ⟨w.heap.size, 0, none⟩)) :: (.int .i64 0) :: (.pointer (some ⟨g3, 0, none⟩)) :: (.int .i64 32) :: (.string s) :: (.int .i64 32) :: (.int .i64 0) :: (.int .i64 0) :: (.int .i64 32) :: (.string z32) :: (.string s) :: (.int .i64 0) :: (.string ((s).extract 0 0)) :: (.string (z32 ++ ((s).extract 0 0))) :: (nv 4 [0]) :: (.int .i64 0) :: (.int .i64 32) :: (.string s) :: (.int .i64 32) :: (.bool false) :: (.int .i64 0) :: (.int .i64 32) :: (nv 4 [0]) :: (nv 4 [0]) :: (.string s) :: (.int .i64 0) :: (.int .i64 0) :: (.int .i64 32) :: (.string ((s).extract 0 32)) :: (nv 4 [b]) :: (nv 4 [v]) :: undef :: []), []⟩) (v := .bool false) rfl rfl (ex_lss rfl rfl false rfl) ?_
  refine seq_nil ?_
  refine wp_cond_false rfl ?_
  refine wp_exit ((then_e (then_e (exit_in ?_))))
  refine then_nR ?_
  refine seq_lit ?_
  refine sq_val (a' := ⟨List.toArray ((.string s) :: undef :: (.pointer (some ⟨w.heap.size, 0, none⟩)) :: (.int .i64 0) :: (.pointer (some ⟨g3, 0, none⟩)) :: (.int .i64 32) :: (.string s) :: (.int .i64 32) :: (.int .i64 0) :: (.int .i64 0) :: (.int .i64 32) :: (.string z32) :: (.string s) :: (.int .i64 0) :: (.string ((s).extract 0 0)) :: (.string (z32 ++ ((s).extract 0 0))) :: (nv 4 [0]) :: (.int .i64 0) :: (.int .i64 32) :: (.string s) :: (.int .i64 32) :: (.bool false) :: (.int .i64 0) :: (.int .i64 32) :: (nv 4 [0]) :: (nv 4 [0]) :: (.string s) :: (.int .i64 0) :: (.int .i64 0) :: (.int .i64 32) :: (.string ((s).extract 0 32)) :: (nv 4 [b]) :: (nv 4 [v]) :: (nv 4 [v]) :: []), []⟩) (v := nv 4 [v]) rfl rfl (ex_loadn (K := 4) (k := 0) (j := 1) (l := [v]) flFr rfl N7 rfl _ rfl) ?_
  refine sq_store (a' := ⟨List.toArray ((.string s) :: undef :: (.pointer (some ⟨w.heap.size, 0, none⟩)) :: (.int .i64 0) :: (.pointer (some ⟨g3, 0, none⟩)) :: (.int .i64 32) :: (.string s) :: (.int .i64 32) :: (.int .i64 0) :: (.int .i64 0) :: (.int .i64 32) :: (.string z32) :: (.string s) :: (.int .i64 0) :: (.string ((s).extract 0 0)) :: (.string (z32 ++ ((s).extract 0 0))) :: (nv 4 [0]) :: (.int .i64 0) :: (.int .i64 32) :: (.string s) :: (.int .i64 32) :: (.bool false) :: (.int .i64 0) :: (.int .i64 32) :: (nv 4 [0]) :: (nv 4 [0]) :: (.string s) :: (.int .i64 0) :: (.int .i64 0) :: (.int .i64 32) :: (.string ((s).extract 0 32)) :: (nv 4 [b]) :: (nv 4 [v]) :: (nv 4 [v]) :: []), []⟩) (t := 24) (xs := rows 4 [0]) (ys := rows 4 [v]) rfl rfl A11 (len_rows rfl) (ex_storen (K := 4) (l := [0]) (m := [v]) flFr rfl rfl A11 rfl) ?_
  intro w13 N13 hst13 hoth13
  have A14 := hoth13 _ _ _ (Ne.symm (Nat.ne_of_lt (Nat.lt_of_lt_of_le N1.lt le3))) N7
  have HB15 := hst13 _ _ HB12 (Nat.le_refl _)
  refine seq_nil ?_
  exact wp_ret (bodyPost_ret (ret_cellnR (K := 4) Try.results13 rfl N13 flFr) rfl ⟨rfl, HB15⟩)


theorem ex_eqs {ρ : Operand → Value} {d : Option Tmp} {ty0 : TypeId} {pos : String} {after : Array Edge} {guard : Option (Nat × Bool)} {w : World} {t t2 : TypeId} {x y : Operand} {s : ByteArray} (hx : ρ x = .string s) (hy : ρ y = .string s) :
    (execOp ρ ⟨d, .binOp .eql t x y t2, ty0, pos, after, guard⟩).run Try.prog w = .ok (.value (.bool true)) w := by
  simp [execOp, hx, hy, go_sem]

theorem frback_bl (x : Nat) : bl ⟨(be 32 x).toArray⟩ = be 32 x := by simp [bl]

theorem frback_size (x : Nat) : (⟨(be 32 x).toArray⟩ : ByteArray).size = 32 := by
  rw [← length_bl, frback_bl, length_be]

theorem frback_val {x : Nat} (h : x < rN) : bval (bl ⟨(be 32 x).toArray⟩) = x := by
  rw [frback_bl, bval_be, Nat.mod_eq_of_lt (Nat.lt_of_lt_of_le h (by decide +kernel))]

theorem frback_V {x : Nat} (h : x < rN) : x = frGotV ⟨(be 32 x).toArray⟩ := by
  rw [frGotV, frback_val h, if_pos ⟨frback_size x, h⟩]

theorem frback_E {x : Nat} (h : x < rN) : 0 = frGotE ⟨(be 32 x).toArray⟩ := by
  rw [frGotE, if_pos (frback_size x), frback_val h, if_pos h]

theorem frback_ok {s : ByteArray} (h : frGotE s = 0) : s.size = 32 ∧ bval (bl s) < rN ∧ frGotV s = bval (bl s) := by
  unfold frGotE at h
  by_cases h1 : s.size = 32
  · rw [if_pos h1] at h
    by_cases h2 : bval (bl s) < rN
    · exact ⟨h1, h2, by rw [frGotV, if_pos ⟨h1, h2⟩]⟩
    · rw [if_neg h2] at h; cases h
  · rw [if_neg h1] at h; cases h

theorem frback_put {s : ByteArray} (h : frGotE s = 0) : (⟨(be 32 (frGotV s % rN)).toArray⟩ : ByteArray) = s := by
  obtain ⟨h1, h2, h3⟩ := frback_ok h
  rw [h3, Nat.mod_eq_of_lt h2]
  have e := be_bval (bl s)
  rw [length_bl, h1] at e
  rw [e]
  cases s
  simp [bl]

set_option maxRecDepth 20000 in
set_option maxHeartbeats 4000000 in
theorem frBack_ok (a : Nat) (s : ByteArray) (w : World) (ha : a < frB) (h0 : frGotE s = 0) :
    Calls Try.prog 6 #[nv 4 [a], .string s] w (Is (.bool true) w) := by
  obtain ⟨z, hz⟩ : ∃ z, z = a % rN := ⟨_, rfl⟩
  have hzM : z < rN := by rw [hz]; exact frM_mod a
  obtain ⟨x, hx⟩ : ∃ x : ByteArray, x = ⟨(be 32 z).toArray⟩ := ⟨_, rfl⟩
  have HP : ∀ W, Calls Try.prog 10 #[nv 4 [a]] W (Is (.string x) W) := fun W => by rw [hx, hz, nv4R]; exact frPut_v a W ha
  have HG : ∀ W, Calls Try.prog 7 #[.string x] W (Is (.tuple #[nv 4 [z], .int .i64 0]) W) := fun W => by rw [nv4R]; exact frGet_v x W z (by rw [hx]; exact frback_V hzM) 0 (by rw [hx]; exact frback_E hzM)
  have HC : ∀ W, Calls Try.prog 17 #[nv 4 [a]] W (Is (nv 4 [z]) W) := fun W => frClean_n a W ha z hz
  have HH : ∀ W, Calls Try.prog 13 #[.string x] W (Is (nv 4 [z]) W) := fun W => frHash_32 x W (by rw [hx]; exact frback_size z) z (by rw [hx, frback_val hzM, Nat.mod_eq_of_lt hzM])
  obtain ⟨v, hv⟩ : ∃ v, v = frGotV s := ⟨_, rfl⟩
  have HG2 : ∀ W, Calls Try.prog 7 #[.string s] W (Is (.tuple #[nv 4 [v], .int .i64 0]) W) := fun W => by rw [nv4R]; exact frGet_v s W v hv 0 h0.symm
  have hvM : v < rN := by rw [hv]; exact frGot_lt s
  have HPs : ∀ W, Calls Try.prog 10 #[nv 4 [v]] W (Is (.string s) W) := fun W => by
    have hp := frPut_v v W (Nat.lt_trans hvM frM_lt)
    unfold MakesT at hp
    rw [hv, frback_put h0] at hp
    rw [nv4R, hv]
    exact hp
  have HRt : ∀ W, Calls Try.prog 22 #[nv 4 [v]] W (Is (.bool true) W) := fun W => frRight_n v W (Nat.lt_trans hvM frM_lt) true (decide_eq_true hvM).symm
  go_enter Try.func6, Try.ntmps6
  refine seq_lit ?_
  refine sq_new (a' := ⟨List.toArray ((nv 4 [a]) :: (.string s) :: (.pointer (some ⟨w.heap.size, 0, none⟩)) :: undef :: undef :: undef :: undef :: undef :: undef :: undef :: undef :: undef :: undef :: undef :: undef :: undef :: undef :: undef :: undef :: undef :: undef :: undef :: undef :: undef :: undef :: undef :: undef :: undef :: undef :: undef :: undef :: undef :: undef :: undef :: undef :: undef :: undef :: undef :: undef :: undef :: undef :: undef :: undef :: undef :: undef :: undef :: undef :: undef :: undef :: undef :: undef :: []), []⟩) (xs := rows 4 [a]) rfl rfl (ex_boxn (K := 4) (l := [a]) rfl) ?_
  intro w1 N1 hb1
  have HB2 := below_then (Below.refl w.heap.size w) hb1
  refine sq_val (a' := ⟨List.toArray ((nv 4 [a]) :: (.string s) :: (.pointer (some ⟨w.heap.size, 0, none⟩)) :: undef :: (.bool false) :: undef :: undef :: undef :: undef :: undef :: undef :: undef :: undef :: undef :: undef :: undef :: undef :: undef :: undef :: undef :: undef :: undef :: undef :: undef :: undef :: undef :: undef :: undef :: undef :: undef :: undef :: undef :: undef :: undef :: undef :: undef :: undef :: undef :: undef :: undef :: undef :: undef :: undef :: undef :: undef :: undef :: undef :: undef :: undef :: undef :: undef :: []), []⟩) (v := .bool false) rfl rfl (ex_assign _) ?_
  refine seq_nil ?_
  refine seq_lit ?_
  refine sq_val (a' := ⟨List.toArray ((nv 4 [a]) :: (.string s) :: (.pointer (some ⟨w.heap.size, 0, none⟩)) :: undef :: (.bool false) :: undef :: undef :: undef :: undef :: undef :: (nv 4 [a]) :: undef :: undef :: undef :: undef :: undef :: undef :: undef :: undef :: undef :: undef :: undef :: undef :: undef :: undef :: undef :: undef :: undef :: undef :: undef :: undef :: undef :: undef :: undef :: undef :: undef :: undef :: undef :: undef :: undef :: undef :: undef :: undef :: undef :: undef :: undef :: undef :: undef :: undef :: undef :: undef :: []), []⟩) (v := nv 4 [a]) rfl rfl (ex_loadn (K := 4) (k := 0) (j := 1) (l := [a]) flFr rfl N1 rfl _ rfl) ?_
  refine sq_call (a' := ⟨List.toArray ((nv 4 [a]) :: (.string s) :: (.pointer (some ⟨w.heap.size, 0, none⟩)) :: undef :: (.bool false) :: undef :: undef :: undef :: undef :: undef :: (nv 4 [a]) :: (.string x) :: undef :: undef :: undef :: undef :: undef :: undef :: undef :: undef :: undef :: undef :: undef :: undef :: undef :: undef :: undef :: undef :: undef :: undef :: undef :: undef :: undef :: undef :: undef :: undef :: undef :: undef :: undef :: undef :: undef :: undef :: undef :: undef :: undef :: undef :: undef :: undef :: undef :: undef :: undef :: []), []⟩) (v := .string x) rfl rfl (ex_call (vs := [nv 4 [a]]) rfl Try.call10 rfl) (HP _) ?_
  intro w3 hb3
  have A4 := N1.keep hb3
  have HB5 := below_then HB2 hb3
  refine sq_val (a' := ⟨List.toArray ((nv 4 [a]) :: (.string s) :: (.pointer (some ⟨w.heap.size, 0, none⟩)) :: undef :: (.bool false) :: (.string x) :: undef :: undef :: undef :: undef :: (nv 4 [a]) :: (.string x) :: undef :: undef :: undef :: undef :: undef :: undef :: undef :: undef :: undef :: undef :: undef :: undef :: undef :: undef :: undef :: undef :: undef :: undef :: undef :: undef :: undef :: undef :: undef :: undef :: undef :: undef :: undef :: undef :: undef :: undef :: undef :: undef :: undef :: undef :: undef :: undef :: undef :: undef :: undef :: []), []⟩) (v := .string x) rfl rfl (ex_assign _) ?_
  refine seq_nil ?_
  refine seq_lit ?_
  refine sq_val (a' := ⟨List.toArray ((nv 4 [a]) :: (.string s) :: (.pointer (some ⟨w.heap.size, 0, none⟩)) :: undef :: (.bool false) :: (.string x) :: undef :: undef :: undef :: undef :: (nv 4 [a]) :: (.string x) :: undef :: (.string x) :: undef :: undef :: undef :: undef :: undef :: undef :: undef :: undef :: undef :: undef :: undef :: undef :: undef :: undef :: undef :: undef :: undef :: undef :: undef :: undef :: undef :: undef :: undef :: undef :: undef :: undef :: undef :: undef :: undef :: undef :: undef :: undef :: undef :: undef :: undef :: undef :: undef :: []), []⟩) (v := .string x) rfl rfl (ex_move _) ?_
  refine sq_call (a' := ⟨List.toArray ((nv 4 [a]) :: (.string s) :: (.pointer (some ⟨w.heap.size, 0, none⟩)) :: undef :: (.bool false) :: (.string x) :: undef :: undef :: undef :: undef :: (nv 4 [a]) :: (.string x) :: undef :: (.string x) :: (.tuple #[nv 4 [z], .int .i64 0]) :: undef :: undef :: undef :: undef :: undef :: undef :: undef :: undef :: undef :: undef :: undef :: undef :: undef :: undef :: undef :: undef :: undef :: undef :: undef :: undef :: undef :: undef :: undef :: undef :: undef :: undef :: undef :: undef :: undef :: undef :: undef :: undef :: undef :: undef :: undef :: undef :: []), []⟩) (v := .tuple #[nv 4 [z], .int .i64 0]) rfl rfl (ex_call (vs := [.string x]) rfl Try.call7 rfl) (HG _) ?_
  intro w6 hb6
  have A7 := A4.keep hb6
  have HB8 := below_then HB5 hb6
  refine sq_val (a' := ⟨List.toArray ((nv 4 [a]) :: (.string s) :: (.pointer (some ⟨w.heap.size, 0, none⟩)) :: undef :: (.bool false) :: (.string x) :: undef :: undef :: undef :: undef :: (nv 4 [a]) :: (.string x) :: (.tuple #[nv 4 [z], .int .i64 0]) :: (.string x) :: (.tuple #[nv 4 [z], .int .i64 0]) :: undef :: undef :: undef :: undef :: undef :: undef :: undef :: undef :: undef :: undef :: undef :: undef :: undef :: undef :: undef :: undef :: undef :: undef :: undef :: undef :: undef :: undef :: undef :: undef :: undef :: undef :: undef :: undef :: undef :: undef :: undef :: undef :: undef :: undef :: undef :: undef :: []), []⟩) (v := .tuple #[nv 4 [z], .int .i64 0]) rfl rfl (ex_move _) ?_
  refine sq_val (a' := ⟨List.toArray ((nv 4 [a]) :: (.string s) :: (.pointer (some ⟨w.heap.size, 0, none⟩)) :: undef :: (.bool false) :: (.string x) :: undef :: undef :: undef :: undef :: (nv 4 [a]) :: (.string x) :: (.tuple #[nv 4 [z], .int .i64 0]) :: (.string x) :: (.tuple #[nv 4 [z], .int .i64 0]) :: (nv 4 [z]) :: undef :: undef :: undef :: undef :: undef :: undef :: undef :: undef :: undef :: undef :: undef :: undef :: undef :: undef :: undef :: undef :: undef :: undef :: undef :: undef :: undef :: undef :: undef :: undef :: undef :: undef :: undef :: undef :: undef :: undef :: undef :: undef :: undef :: undef :: undef :: []), []⟩) (v := nv 4 [z]) rfl rfl (ex_extract (vs := [nv 4 [z], .int .i64 0]) rfl rfl) ?_
  refine sq_val (a' := ⟨List.toArray ((nv 4 [a]) :: (.string s) :: (.pointer (some ⟨w.heap.size, 0, none⟩)) :: undef :: (.bool false) :: (.string x) :: undef :: undef :: undef :: undef :: (nv 4 [a]) :: (.string x) :: (.tuple #[nv 4 [z], .int .i64 0]) :: (.string x) :: (.tuple #[nv 4 [z], .int .i64 0]) :: (nv 4 [z]) :: (.int .i64 0) :: undef :: undef :: undef :: undef :: undef :: undef :: undef :: undef :: undef :: undef :: undef :: undef :: undef :: undef :: undef :: undef :: undef :: undef :: undef :: undef :: undef :: undef :: undef :: undef :: undef :: undef :: undef :: undef :: undef :: undef :: undef :: undef :: undef :: undef :: []), []⟩) (v := .int .i64 0) rfl rfl (ex_extract (vs := [nv 4 [z], .int .i64 0]) rfl rfl) ?_
  refine sq_new (a' := ⟨List.toArray ((nv 4 [a]) :: (.string s) :: (.pointer (some ⟨w.heap.size, 0, none⟩)) :: undef :: (.bool false) :: (.string x) :: (.pointer (some ⟨w6.heap.size, 0, none⟩)) :: undef :: undef :: undef :: (nv 4 [a]) :: (.string x) :: (.tuple #[nv 4 [z], .int .i64 0]) :: (.string x) :: (.tuple #[nv 4 [z], .int .i64 0]) :: (nv 4 [z]) :: (.int .i64 0) :: undef :: undef :: undef :: undef :: undef :: undef :: undef :: undef :: undef :: undef :: undef :: undef :: undef :: undef :: undef :: undef :: undef :: undef :: undef :: undef :: undef :: undef :: undef :: undef :: undef :: undef :: undef :: undef :: undef :: undef :: undef :: undef :: undef :: undef :: []), []⟩) (xs := rows 4 [0]) rfl rfl (ex_alloc zFr) ?_
  intro w9 N9 hb9
  have A10 := A7.keep hb9
  have HB11 := below_then HB8 hb9
  refine sq_store (a' := ⟨List.toArray ((nv 4 [a]) :: (.string s) :: (.pointer (some ⟨w.heap.size, 0, none⟩)) :: undef :: (.bool false) :: (.string x) :: (.pointer (some ⟨w6.heap.size, 0, none⟩)) :: undef :: undef :: undef :: (nv 4 [a]) :: (.string x) :: (.tuple #[nv 4 [z], .int .i64 0]) :: (.string x) :: (.tuple #[nv 4 [z], .int .i64 0]) :: (nv 4 [z]) :: (.int .i64 0) :: undef :: undef :: undef :: undef :: undef :: undef :: undef :: undef :: undef :: undef :: undef :: undef :: undef :: undef :: undef :: undef :: undef :: undef :: undef :: undef :: undef :: undef :: undef :: undef :: undef :: undef :: undef :: undef :: undef :: undef :: undef :: undef :: undef :: undef :: []), []⟩) (t := 24) (xs := rows 4 [0]) (ys := rows 4 [z]) rfl rfl N9 (len_rows rfl) (ex_storen (K := 4) (l := [0]) (m := [z]) flFr rfl rfl N9 rfl) ?_
  intro w13 N13 hst13 hoth13
  have A14 := hoth13 _ _ _ (Nat.ne_of_lt A7.lt) A10
  have HB15 := hst13 _ _ HB11 HB8.size
  refine sq_val (a' := ⟨List.toArray ((nv 4 [a]) :: (.string s) :: (.pointer (some ⟨w.heap.size, 0, none⟩)) :: undef :: (.bool false) :: (.string x) :: (.pointer (some ⟨w6.heap.size, 0, none⟩)) :: (.int .i64 0) :: undef :: undef :: (nv 4 [a]) :: (.string x) :: (.tuple #[nv 4 [z], .int .i64 0]) :: (.string x) :: (.tuple #[nv 4 [z], .int .i64 0]) :: (nv 4 [z]) :: (.int .i64 0) :: undef :: undef :: undef :: undef :: undef :: undef :: undef :: undef :: undef :: undef :: undef :: undef :: undef :: undef :: undef :: undef :: undef :: undef :: undef :: undef :: undef :: undef :: undef :: undef :: undef :: undef :: undef :: undef :: undef :: undef :: undef :: undef :: undef :: undef :: []), []⟩) (v := .int .i64 0) rfl rfl (ex_assign _) ?_
  refine seq_nil ?_
  refine wp_seq ?_
  refine wp_seq (wp_region_p (F := ⟨List.toArray ((nv 4 [a]) :: (.string s) :: (.pointer (some ⟨w.heap.size, 0, none⟩)) :: undef :: (.bool false) :: (.string x) :: (.pointer (some ⟨w6.heap.size, 0, none⟩)) :: (.int .i64 0) :: undef :: undef :: (nv 4 [a]) :: (.string x) :: (.tuple #[nv 4 [z], .int .i64 0]) :: (.string x) :: (.tuple #[nv 4 [z], .int .i64 0]) :: (nv 4 [z]) :: (.int .i64 0) :: (.int .i64 0) :: (.bool false) :: (.bool false) :: (nv 4 [z]) :: (nv 4 [a]) :: (nv 4 [z]) :: (.bool false) :: (.bool false) :: (.bool false) :: (.string x) :: (nv 4 [z]) :: (nv 4 [z]) :: (.bool false) :: (.bool false) :: undef :: undef :: undef :: undef :: undef :: undef :: undef :: undef :: undef :: undef :: undef :: undef :: undef :: undef :: undef :: undef :: undef :: undef :: undef :: undef :: []), []⟩) (S := Bel w13) [(17, .int .i64 0), (18, .bool false), (19, .bool false), (20, nv 4 [z]), (21, nv 4 [a]), (22, nv 4 [z]), (23, .bool false), (24, .bool false), (25, .bool false), (26, .string x), (27, nv 4 [z]), (28, nv 4 [z]), (29, .bool false), (30, .bool false)] (by kernel_rfl) (by kernel_rfl) (by kernel_rfl) (by kernel_rfl) rfl (by simp only [putAll, List.setIfInBounds_toArray, List.set_cons_zero, List.set_cons_succ]) (Bel.start _) ?_ ?_)
  · refine PlanSteps.cons (ps_val (v := .int .i64 0) rfl rfl rfl (fun W' h => ex_move _)) ?_
    refine PlanSteps.cons (ps_val (v := .bool false) rfl rfl rfl (fun W' h => ex_neqi rfl rfl _ rfl)) ?_
    refine PlanSteps.cons (ps_val (v := .bool false) rfl rfl rfl (fun W' h => ex_move _)) ?_
    refine PlanSteps.cons (ps_val (v := nv 4 [z]) rfl rfl rfl (fun W' h => ex_loadn (K := 4) (k := 0) (j := 1) (l := [z]) flFr rfl (N13.keep h.out) rfl _ rfl)) ?_
    refine PlanSteps.cons (ps_val (v := nv 4 [a]) rfl rfl rfl (fun W' h => ex_loadn (K := 4) (k := 0) (j := 1) (l := [a]) flFr rfl (A14.keep h.out) rfl _ rfl)) ?_
    refine PlanSteps.cons (ps_call (v := nv 4 [z]) rfl rfl rfl (fun W' => ex_call (vs := [nv 4 [a]]) rfl Try.call17 rfl) (fun W' h => HC _)) ?_
    refine PlanSteps.cons (ps_val (v := .bool false) rfl rfl rfl (fun W' h => ex_neqt (K := 4) (l := [z]) eqFr rfl rfl rfl rfl)) ?_
    refine PlanSteps.cons (ps_val (v := .bool false) rfl rfl rfl (fun W' h => ex_pick (r := false) rfl)) ?_
    refine PlanSteps.cons (ps_val (v := .bool false) rfl rfl rfl (fun W' h => ex_move _)) ?_
    refine PlanSteps.cons (ps_val (v := .string x) rfl rfl rfl (fun W' h => ex_move _)) ?_
    refine PlanSteps.cons (ps_call (v := nv 4 [z]) rfl rfl rfl (fun W' => ex_call (vs := [.string x]) rfl Try.call13 rfl) (fun W' h => HH _)) ?_
    refine PlanSteps.cons (ps_val (v := nv 4 [z]) rfl rfl rfl (fun W' h => ex_loadn (K := 4) (k := 0) (j := 1) (l := [z]) flFr rfl (N13.keep h.out) rfl _ rfl)) ?_
    refine PlanSteps.cons (ps_val (v := .bool false) rfl rfl rfl (fun W' h => ex_neqt (K := 4) (l := [z]) eqFr rfl rfl rfl rfl)) ?_
    refine PlanSteps.cons (ps_val (v := .bool false) rfl rfl rfl (fun W' h => ex_pick (r := false) rfl)) ?_
    exact PlanSteps.nil
  intro w16 hb16
  refine then_nR ?_
  have A17 := A14.keep hb16.out
  have A18 := N13.keep hb16.out
  have HB19 := below_then HB15 hb16.out
  refine wp_cond_false rfl ?_
  refine wp_skip (then_nR ?_)
  refine seq_lit ?_
  refine sq_val (a' := ⟨List.toArray ((nv 4 [a]) :: (.string s) :: (.pointer (some ⟨w.heap.size, 0, none⟩)) :: undef :: (.bool false) :: (.string x) :: (.pointer (some ⟨w6.heap.size, 0, none⟩)) :: (.int .i64 0) :: undef :: undef :: (nv 4 [a]) :: (.string x) :: (.tuple #[nv 4 [z], .int .i64 0]) :: (.string x) :: (.tuple #[nv 4 [z], .int .i64 0]) :: (nv 4 [z]) :: (.int .i64 0) :: (.int .i64 0) :: (.bool false) :: (.bool false) :: (nv 4 [z]) :: (nv 4 [a]) :: (nv 4 [z]) :: (.bool false) :: (.bool false) :: (.bool false) :: (.string x) :: (nv 4 [z]) :: (nv 4 [z]) :: (.bool false) :: (.bool false) :: undef :: (.string s) :: undef :: undef :: undef :: undef :: undef :: undef :: undef :: undef :: undef :: undef :: undef :: undef :: undef :: undef :: undef :: undef :: undef :: undef :: []), []⟩) (v := .string s) rfl rfl (ex_move _) ?_
  refine sq_call (a' := ⟨List.toArray ((nv 4 [a]) :: (.string s) :: (.pointer (some ⟨w.heap.size, 0, none⟩)) :: undef :: (.bool false) :: (.string x) :: (.pointer (some ⟨w6.heap.size, 0, none⟩)) :: (.int .i64 0) :: undef :: undef :: (nv 4 [a]) :: (.string x) :: (.tuple #[nv 4 [z], .int .i64 0]) :: (.string x) :: (.tuple #[nv 4 [z], .int .i64 0]) :: (nv 4 [z]) :: (.int .i64 0) :: (.int .i64 0) :: (.bool false) :: (.bool false) :: (nv 4 [z]) :: (nv 4 [a]) :: (nv 4 [z]) :: (.bool false) :: (.bool false) :: (.bool false) :: (.string x) :: (nv 4 [z]) :: (nv 4 [z]) :: (.bool false) :: (.bool false) :: undef :: (.string s) :: (.tuple #[nv 4 [v], .int .i64 0]) :: undef :: undef :: undef :: undef :: undef :: undef :: undef :: undef :: undef :: undef :: undef :: undef :: undef :: undef :: undef :: undef :: undef :: []), []⟩) (v := .tuple #[nv 4 [v], .int .i64 0]) rfl rfl (ex_call (vs := [.string s]) rfl Try.call7 rfl) (HG2 _) ?_
  intro w20 hb20
  have A21 := A17.keep hb20
  have A22 := A18.keep hb20
  have HB23 := below_then HB19 hb20
  refine sq_val (a' := ⟨List.toArray ((nv 4 [a]) :: (.string s) :: (.pointer (some ⟨w.heap.size, 0, none⟩)) :: undef :: (.bool false) :: (.string x) :: (.pointer (some ⟨w6.heap.size, 0, none⟩)) :: (.int .i64 0) :: undef :: undef :: (nv 4 [a]) :: (.string x) :: (.tuple #[nv 4 [z], .int .i64 0]) :: (.string x) :: (.tuple #[nv 4 [z], .int .i64 0]) :: (nv 4 [z]) :: (.int .i64 0) :: (.int .i64 0) :: (.bool false) :: (.bool false) :: (nv 4 [z]) :: (nv 4 [a]) :: (nv 4 [z]) :: (.bool false) :: (.bool false) :: (.bool false) :: (.string x) :: (nv 4 [z]) :: (nv 4 [z]) :: (.bool false) :: (.bool false) :: (.tuple #[nv 4 [v], .int .i64 0]) :: (.string s) :: (.tuple #[nv 4 [v], .int .i64 0]) :: undef :: undef :: undef :: undef :: undef :: undef :: undef :: undef :: undef :: undef :: undef :: undef :: undef :: undef :: undef :: undef :: undef :: []), []⟩) (v := .tuple #[nv 4 [v], .int .i64 0]) rfl rfl (ex_move _) ?_
  refine sq_val (a' := ⟨List.toArray ((nv 4 [a]) :: (.string s) :: (.pointer (some ⟨w.heap.size, 0, none⟩)) :: undef :: (.bool false) :: (.string x) :: (.pointer (some ⟨w6.heap.size, 0, none⟩)) :: (.int .i64 0) :: undef :: undef :: (nv 4 [a]) :: (.string x) :: (.tuple #[nv 4 [z], .int .i64 0]) :: (.string x) :: (.tuple #[nv 4 [z], .int .i64 0]) :: (nv 4 [z]) :: (.int .i64 0) :: (.int .i64 0) :: (.bool false) :: (.bool false) :: (nv 4 [z]) :: (nv 4 [a]) :: (nv 4 [z]) :: (.bool false) :: (.bool false) :: (.bool false) :: (.string x) :: (nv 4 [z]) :: (nv 4 [z]) :: (.bool false) :: (.bool false) :: (.tuple #[nv 4 [v], .int .i64 0]) :: (.string s) :: (.tuple #[nv 4 [v], .int .i64 0]) :: (nv 4 [v]) :: undef :: undef :: undef :: undef :: undef :: undef :: undef :: undef :: undef :: undef :: undef :: undef :: undef :: undef :: undef :: undef :: []), []⟩) (v := nv 4 [v]) rfl rfl (ex_extract (vs := [nv 4 [v], .int .i64 0]) rfl rfl) ?_
  refine sq_val (a' := ⟨List.toArray ((nv 4 [a]) :: (.string s) :: (.pointer (some ⟨w.heap.size, 0, none⟩)) :: undef :: (.bool false) :: (.string x) :: (.pointer (some ⟨w6.heap.size, 0, none⟩)) :: (.int .i64 0) :: undef :: undef :: (nv 4 [a]) :: (.string x) :: (.tuple #[nv 4 [z], .int .i64 0]) :: (.string x) :: (.tuple #[nv 4 [z], .int .i64 0]) :: (nv 4 [z]) :: (.int .i64 0) :: (.int .i64 0) :: (.bool false) :: (.bool false) :: (nv 4 [z]) :: (nv 4 [a]) :: (nv 4 [z]) :: (.bool false) :: (.bool false) :: (.bool false) :: (.string x) :: (nv 4 [z]) :: (nv 4 [z]) :: (.bool false) :: (.bool false) :: (.tuple #[nv 4 [v], .int .i64 0]) :: (.string s) :: (.tuple #[nv 4 [v], .int .i64 0]) :: (nv 4 [v]) :: (.int .i64 0) :: undef :: undef :: undef :: undef :: undef :: undef :: undef :: undef :: undef :: undef :: undef :: undef :: undef :: undef :: undef :: []), []⟩) (v := .int .i64 0) rfl rfl (ex_extract (vs := [nv 4 [v], .int .i64 0]) rfl rfl) ?_
  refine sq_new (a' := ⟨List.toArray ((nv 4 [a]) :: (.string s) :: (.pointer (some ⟨w.heap.size, 0, none⟩)) :: undef :: (.bool false) :: (.string x) :: (.pointer (some ⟨w6.heap.size, 0, none⟩)) :: (.int .i64 0) :: (.pointer (some ⟨w20.heap.size, 0, none⟩)) :: undef :: (nv 4 [a]) :: (.string x) :: (.tuple #[nv 4 [z], .int .i64 0]) :: (.string x) :: (.tuple #[nv 4 [z], .int .i64 0]) :: (nv 4 [z]) :: (.int .i64 0) :: (.int .i64 0) :: (.bool false) :: (.bool false) :: (nv 4 [z]) :: (nv 4 [a]) :: (nv 4 [z]) :: (.bool false) :: (.bool false) :: (.bool false) :: (.string x) :: (nv 4 [z]) :: (nv 4 [z]) :: (.bool false) :: (.bool false) :: (.tuple #[nv 4 [v], .int .i64 0]) :: (.string s) :: (.tuple #[nv 4 [v], .int .i64 0]) :: (nv 4 [v]) :: (.int .i64 0) :: undef :: undef :: undef :: undef :: undef :: undef :: undef :: undef :: undef :: undef :: undef :: undef :: undef :: undef :: undef :: []), []⟩) (xs := rows 4 [0]) rfl rfl (ex_alloc zFr) ?_
  intro w24 N24 hb24
  have A25 := A21.keep hb24
  have A26 := A22.keep hb24
  have HB27 := below_then HB23 hb24
  refine sq_store (a' := ⟨List.toArray ((nv 4 [a]) :: (.string s) :: (.pointer (some ⟨w.heap.size, 0, none⟩)) :: undef :: (.bool false) :: (.string x) :: (.pointer (some ⟨w6.heap.size, 0, none⟩)) :: (.int .i64 0) :: (.pointer (some ⟨w20.heap.size, 0, none⟩)) :: undef :: (nv 4 [a]) :: (.string x) :: (.tuple #[nv 4 [z], .int .i64 0]) :: (.string x) :: (.tuple #[nv 4 [z], .int .i64 0]) :: (nv 4 [z]) :: (.int .i64 0) :: (.int .i64 0) :: (.bool false) :: (.bool false) :: (nv 4 [z]) :: (nv 4 [a]) :: (nv 4 [z]) :: (.bool false) :: (.bool false) :: (.bool false) :: (.string x) :: (nv 4 [z]) :: (nv 4 [z]) :: (.bool false) :: (.bool false) :: (.tuple #[nv 4 [v], .int .i64 0]) :: (.string s) :: (.tuple #[nv 4 [v], .int .i64 0]) :: (nv 4 [v]) :: (.int .i64 0) :: undef :: undef :: undef :: undef :: undef :: undef :: undef :: undef :: undef :: undef :: undef :: undef :: undef :: undef :: undef :: []), []⟩) (t := 24) (xs := rows 4 [0]) (ys := rows 4 [v]) rfl rfl N24 (len_rows rfl) (ex_storen (K := 4) (l := [0]) (m := [v]) flFr rfl rfl N24 rfl) ?_
  intro w30 N30 hst30 hoth30
  have A31 := hoth30 _ _ _ (Nat.ne_of_lt A21.lt) A25
  have A32 := hoth30 _ _ _ (Nat.ne_of_lt A22.lt) A26
  have HB33 := hst30 _ _ HB27 HB23.size
  refine sq_val (a' := ⟨List.toArray ((nv 4 [a]) :: (.string s) :: (.pointer (some ⟨w.heap.size, 0, none⟩)) :: undef :: (.bool false) :: (.string x) :: (.pointer (some ⟨w6.heap.size, 0, none⟩)) :: (.int .i64 0) :: (.pointer (some ⟨w20.heap.size, 0, none⟩)) :: (.int .i64 0) :: (nv 4 [a]) :: (.string x) :: (.tuple #[nv 4 [z], .int .i64 0]) :: (.string x) :: (.tuple #[nv 4 [z], .int .i64 0]) :: (nv 4 [z]) :: (.int .i64 0) :: (.int .i64 0) :: (.bool false) :: (.bool false) :: (nv 4 [z]) :: (nv 4 [a]) :: (nv 4 [z]) :: (.bool false) :: (.bool false) :: (.bool false) :: (.string x) :: (nv 4 [z]) :: (nv 4 [z]) :: (.bool false) :: (.bool false) :: (.tuple #[nv 4 [v], .int .i64 0]) :: (.string s) :: (.tuple #[nv 4 [v], .int .i64 0]) :: (nv 4 [v]) :: (.int .i64 0) :: undef :: undef :: undef :: undef :: undef :: undef :: undef :: undef :: undef :: undef :: undef :: undef :: undef :: undef :: undef :: []), []⟩) (v := .int .i64 0) rfl rfl (ex_assign _) ?_
  refine seq_nil ?_
  refine wp_seq (wp_region_pf (F := ⟨List.toArray ((nv 4 [a]) :: (.string s) :: (.pointer (some ⟨w.heap.size, 0, none⟩)) :: undef :: (.bool true) :: (.string x) :: (.pointer (some ⟨w6.heap.size, 0, none⟩)) :: (.int .i64 0) :: (.pointer (some ⟨w20.heap.size, 0, none⟩)) :: (.int .i64 0) :: (nv 4 [a]) :: (.string x) :: (.tuple #[nv 4 [z], .int .i64 0]) :: (.string x) :: (.tuple #[nv 4 [z], .int .i64 0]) :: (nv 4 [z]) :: (.int .i64 0) :: (.int .i64 0) :: (.bool false) :: (.bool false) :: (nv 4 [z]) :: (nv 4 [a]) :: (nv 4 [z]) :: (.bool false) :: (.bool false) :: (.bool false) :: (.string x) :: (nv 4 [z]) :: (nv 4 [z]) :: (.bool false) :: (.bool false) :: (.tuple #[nv 4 [v], .int .i64 0]) :: (.string s) :: (.tuple #[nv 4 [v], .int .i64 0]) :: (nv 4 [v]) :: (.int .i64 0) :: (.bool true) :: (.bool true) :: (.int .i64 0) :: (.bool false) :: (.bool false) :: (nv 4 [v]) :: (.string s) :: (.string s) :: (.bool true) :: (.bool true) :: (nv 4 [v]) :: (.bool true) :: (.bool true) :: (.bool true) :: (.bool true) :: []), []⟩) (S := Bel w30) [(36, .bool true), (37, .bool true), (38, .int .i64 0), (39, .bool false), (40, .bool false), (41, nv 4 [v]), (42, .string s), (43, .string s), (44, .bool true), (45, .bool true), (46, nv 4 [v]), (47, .bool true), (48, .bool true), (49, .bool true), (50, .bool true), (4, .bool true)] (by kernel_rfl) (by kernel_rfl) (by kernel_rfl) (by kernel_rfl) rfl (by simp only [putAll, List.setIfInBounds_toArray, List.set_cons_zero, List.set_cons_succ]) (Below.refl _ _) ?_ ?_)
  · refine PlanSteps.cons (ps_call (v := .bool true) rfl rfl rfl (fun W' => ex_call (vs := []) rfl Try.call9 rfl) (fun W' h => fralive_v _)) ?_
    refine PlanSteps.cons (ps_val (v := .bool true) rfl rfl rfl (fun W' h => ex_move _)) ?_
    refine PlanSteps.cons (ps_val (v := .int .i64 0) rfl rfl rfl (fun W' h => ex_move _)) ?_
    refine PlanSteps.cons (ps_val (v := .bool false) rfl rfl rfl (fun W' h => ex_neqi rfl rfl _ rfl)) ?_
    refine PlanSteps.cons (ps_val (v := .bool false) rfl rfl rfl (fun W' h => ex_move _)) ?_
    refine PlanSteps.cons (ps_val (v := nv 4 [v]) rfl rfl rfl (fun W' h => ex_loadn (K := 4) (k := 0) (j := 1) (l := [v]) flFr rfl (N30.keep h.out) rfl _ rfl)) ?_
    refine PlanSteps.cons (ps_call (v := .string s) rfl rfl rfl (fun W' => ex_call (vs := [nv 4 [v]]) rfl Try.call10 rfl) (fun W' h => HPs _)) ?_
    refine PlanSteps.cons (ps_val (v := .string s) rfl rfl rfl (fun W' h => ex_move _)) ?_
    refine PlanSteps.cons (ps_val (v := .bool true) rfl rfl rfl (fun W' h => ex_eqs rfl rfl)) ?_
    refine PlanSteps.cons (ps_val (v := .bool true) rfl rfl rfl (fun W' h => ex_move _)) ?_
    refine PlanSteps.cons (ps_val (v := nv 4 [v]) rfl rfl rfl (fun W' h => ex_loadn (K := 4) (k := 0) (j := 1) (l := [v]) flFr rfl (N30.keep h.out) rfl _ rfl)) ?_
    refine PlanSteps.cons (ps_call (v := .bool true) rfl rfl rfl (fun W' => ex_call (vs := [nv 4 [v]]) rfl Try.call22 rfl) (fun W' h => HRt _)) ?_
    refine PlanSteps.cons (ps_val (v := .bool true) rfl rfl rfl (fun W' h => ex_pick (r := true) rfl)) ?_
    refine PlanSteps.cons (ps_val (v := .bool true) rfl rfl rfl (fun W' h => ex_pick (r := false) rfl)) ?_
    refine PlanSteps.cons (ps_val (v := .bool true) rfl rfl rfl (fun W' h => ex_pick (r := true) rfl)) ?_
    refine PlanSteps.cons (ps_val (v := .bool true) rfl rfl rfl (fun W' h => ex_assign _)) ?_
    exact PlanSteps.nil
  intro w34 hb34
  refine then_nR ?_
  have A35 := A31.keep hb34.out
  have A36 := A32.keep hb34.out
  have A37 := N30.keep hb34.out
  have HB38 := below_then HB33 hb34.out
  exact wp_ret (bodyPost_ret (ret_tmp Try.results6 rfl) rfl ⟨rfl, HB38⟩)

set_option maxRecDepth 20000 in
set_option maxHeartbeats 4000000 in
theorem frBack_no (a : Nat) (s : ByteArray) (w : World) (ha : a < frB) (h0 : frGotE s ≠ 0) :
    Calls Try.prog 6 #[nv 4 [a], .string s] w (Is (.bool true) w) := by
  obtain ⟨z, hz⟩ : ∃ z, z = a % rN := ⟨_, rfl⟩
  have hzM : z < rN := by rw [hz]; exact frM_mod a
  obtain ⟨x, hx⟩ : ∃ x : ByteArray, x = ⟨(be 32 z).toArray⟩ := ⟨_, rfl⟩
  have HP : ∀ W, Calls Try.prog 10 #[nv 4 [a]] W (Is (.string x) W) := fun W => by rw [hx, hz, nv4R]; exact frPut_v a W ha
  have HG : ∀ W, Calls Try.prog 7 #[.string x] W (Is (.tuple #[nv 4 [z], .int .i64 0]) W) := fun W => by rw [nv4R]; exact frGet_v x W z (by rw [hx]; exact frback_V hzM) 0 (by rw [hx]; exact frback_E hzM)
  have HC : ∀ W, Calls Try.prog 17 #[nv 4 [a]] W (Is (nv 4 [z]) W) := fun W => frClean_n a W ha z hz
  have HH : ∀ W, Calls Try.prog 13 #[.string x] W (Is (nv 4 [z]) W) := fun W => frHash_32 x W (by rw [hx]; exact frback_size z) z (by rw [hx, frback_val hzM, Nat.mod_eq_of_lt hzM])
  obtain ⟨v, hv⟩ : ∃ v, v = frGotV s := ⟨_, rfl⟩
  obtain ⟨c, hc⟩ : ∃ c, c = frGotE s := ⟨_, rfl⟩
  have HG2 : ∀ W, Calls Try.prog 7 #[.string s] W (Is (.tuple #[nv 4 [v], .int .i64 c]) W) := fun W => by rw [nv4R]; exact frGet_v s W v hv c hc
  have hcb : true = (c != (0 : Int)) := by rw [hc]; simp [h0]
  go_enter Try.func6, Try.ntmps6
  refine seq_lit ?_
  refine sq_new (a' := ⟨List.toArray ((nv 4 [a]) :: (.string s) :: (.pointer (some ⟨w.heap.size, 0, none⟩)) :: undef :: undef :: undef :: undef :: undef :: undef :: undef :: undef :: undef :: undef :: undef :: undef :: undef :: undef :: undef :: undef :: undef :: undef :: undef :: undef :: undef :: undef :: undef :: undef :: undef :: undef :: undef :: undef :: undef :: undef :: undef :: undef :: undef :: undef :: undef :: undef :: undef :: undef :: undef :: undef :: undef :: undef :: undef :: undef :: undef :: undef :: undef :: undef :: []), []⟩) (xs := rows 4 [a]) rfl rfl (ex_boxn (K := 4) (l := [a]) rfl) ?_
  intro w1 N1 hb1
  have HB2 := below_then (Below.refl w.heap.size w) hb1
  refine sq_val (a' := ⟨List.toArray ((nv 4 [a]) :: (.string s) :: (.pointer (some ⟨w.heap.size, 0, none⟩)) :: undef :: (.bool false) :: undef :: undef :: undef :: undef :: undef :: undef :: undef :: undef :: undef :: undef :: undef :: undef :: undef :: undef :: undef :: undef :: undef :: undef :: undef :: undef :: undef :: undef :: undef :: undef :: undef :: undef :: undef :: undef :: undef :: undef :: undef :: undef :: undef :: undef :: undef :: undef :: undef :: undef :: undef :: undef :: undef :: undef :: undef :: undef :: undef :: undef :: []), []⟩) (v := .bool false) rfl rfl (ex_assign _) ?_
  refine seq_nil ?_
  refine seq_lit ?_
  refine sq_val (a' := ⟨List.toArray ((nv 4 [a]) :: (.string s) :: (.pointer (some ⟨w.heap.size, 0, none⟩)) :: undef :: (.bool false) :: undef :: undef :: undef :: undef :: undef :: (nv 4 [a]) :: undef :: undef :: undef :: undef :: undef :: undef :: undef :: undef :: undef :: undef :: undef :: undef :: undef :: undef :: undef :: undef :: undef :: undef :: undef :: undef :: undef :: undef :: undef :: undef :: undef :: undef :: undef :: undef :: undef :: undef :: undef :: undef :: undef :: undef :: undef :: undef :: undef :: undef :: undef :: undef :: []), []⟩) (v := nv 4 [a]) rfl rfl (ex_loadn (K := 4) (k := 0) (j := 1) (l := [a]) flFr rfl N1 rfl _ rfl) ?_
  refine sq_call (a' := ⟨List.toArray ((nv 4 [a]) :: (.string s) :: (.pointer (some ⟨w.heap.size, 0, none⟩)) :: undef :: (.bool false) :: undef :: undef :: undef :: undef :: undef :: (nv 4 [a]) :: (.string x) :: undef :: undef :: undef :: undef :: undef :: undef :: undef :: undef :: undef :: undef :: undef :: undef :: undef :: undef :: undef :: undef :: undef :: undef :: undef :: undef :: undef :: undef :: undef :: undef :: undef :: undef :: undef :: undef :: undef :: undef :: undef :: undef :: undef :: undef :: undef :: undef :: undef :: undef :: undef :: []), []⟩) (v := .string x) rfl rfl (ex_call (vs := [nv 4 [a]]) rfl Try.call10 rfl) (HP _) ?_
  intro w3 hb3
  have A4 := N1.keep hb3
  have HB5 := below_then HB2 hb3
  refine sq_val (a' := ⟨List.toArray ((nv 4 [a]) :: (.string s) :: (.pointer (some ⟨w.heap.size, 0, none⟩)) :: undef :: (.bool false) :: (.string x) :: undef :: undef :: undef :: undef :: (nv 4 [a]) :: (.string x) :: undef :: undef :: undef :: undef :: undef :: undef :: undef :: undef :: undef :: undef :: undef :: undef :: undef :: undef :: undef :: undef :: undef :: undef :: undef :: undef :: undef :: undef :: undef :: undef :: undef :: undef :: undef :: undef :: undef :: undef :: undef :: undef :: undef :: undef :: undef :: undef :: undef :: undef :: undef :: []), []⟩) (v := .string x) rfl rfl (ex_assign _) ?_
  refine seq_nil ?_
  refine seq_lit ?_
  refine sq_val (a' := ⟨List.toArray ((nv 4 [a]) :: (.string s) :: (.pointer (some ⟨w.heap.size, 0, none⟩)) :: undef :: (.bool false) :: (.string x) :: undef :: undef :: undef :: undef :: (nv 4 [a]) :: (.string x) :: undef :: (.string x) :: undef :: undef :: undef :: undef :: undef :: undef :: undef :: undef :: undef :: undef :: undef :: undef :: undef :: undef :: undef :: undef :: undef :: undef :: undef :: undef :: undef :: undef :: undef :: undef :: undef :: undef :: undef :: undef :: undef :: undef :: undef :: undef :: undef :: undef :: undef :: undef :: undef :: []), []⟩) (v := .string x) rfl rfl (ex_move _) ?_
  refine sq_call (a' := ⟨List.toArray ((nv 4 [a]) :: (.string s) :: (.pointer (some ⟨w.heap.size, 0, none⟩)) :: undef :: (.bool false) :: (.string x) :: undef :: undef :: undef :: undef :: (nv 4 [a]) :: (.string x) :: undef :: (.string x) :: (.tuple #[nv 4 [z], .int .i64 0]) :: undef :: undef :: undef :: undef :: undef :: undef :: undef :: undef :: undef :: undef :: undef :: undef :: undef :: undef :: undef :: undef :: undef :: undef :: undef :: undef :: undef :: undef :: undef :: undef :: undef :: undef :: undef :: undef :: undef :: undef :: undef :: undef :: undef :: undef :: undef :: undef :: []), []⟩) (v := .tuple #[nv 4 [z], .int .i64 0]) rfl rfl (ex_call (vs := [.string x]) rfl Try.call7 rfl) (HG _) ?_
  intro w6 hb6
  have A7 := A4.keep hb6
  have HB8 := below_then HB5 hb6
  refine sq_val (a' := ⟨List.toArray ((nv 4 [a]) :: (.string s) :: (.pointer (some ⟨w.heap.size, 0, none⟩)) :: undef :: (.bool false) :: (.string x) :: undef :: undef :: undef :: undef :: (nv 4 [a]) :: (.string x) :: (.tuple #[nv 4 [z], .int .i64 0]) :: (.string x) :: (.tuple #[nv 4 [z], .int .i64 0]) :: undef :: undef :: undef :: undef :: undef :: undef :: undef :: undef :: undef :: undef :: undef :: undef :: undef :: undef :: undef :: undef :: undef :: undef :: undef :: undef :: undef :: undef :: undef :: undef :: undef :: undef :: undef :: undef :: undef :: undef :: undef :: undef :: undef :: undef :: undef :: undef :: []), []⟩) (v := .tuple #[nv 4 [z], .int .i64 0]) rfl rfl (ex_move _) ?_
  refine sq_val (a' := ⟨List.toArray ((nv 4 [a]) :: (.string s) :: (.pointer (some ⟨w.heap.size, 0, none⟩)) :: undef :: (.bool false) :: (.string x) :: undef :: undef :: undef :: undef :: (nv 4 [a]) :: (.string x) :: (.tuple #[nv 4 [z], .int .i64 0]) :: (.string x) :: (.tuple #[nv 4 [z], .int .i64 0]) :: (nv 4 [z]) :: undef :: undef :: undef :: undef :: undef :: undef :: undef :: undef :: undef :: undef :: undef :: undef :: undef :: undef :: undef :: undef :: undef :: undef :: undef :: undef :: undef :: undef :: undef :: undef :: undef :: undef :: undef :: undef :: undef :: undef :: undef :: undef :: undef :: undef :: undef :: []), []⟩) (v := nv 4 [z]) rfl rfl (ex_extract (vs := [nv 4 [z], .int .i64 0]) rfl rfl) ?_
  refine sq_val (a' := ⟨List.toArray ((nv 4 [a]) :: (.string s) :: (.pointer (some ⟨w.heap.size, 0, none⟩)) :: undef :: (.bool false) :: (.string x) :: undef :: undef :: undef :: undef :: (nv 4 [a]) :: (.string x) :: (.tuple #[nv 4 [z], .int .i64 0]) :: (.string x) :: (.tuple #[nv 4 [z], .int .i64 0]) :: (nv 4 [z]) :: (.int .i64 0) :: undef :: undef :: undef :: undef :: undef :: undef :: undef :: undef :: undef :: undef :: undef :: undef :: undef :: undef :: undef :: undef :: undef :: undef :: undef :: undef :: undef :: undef :: undef :: undef :: undef :: undef :: undef :: undef :: undef :: undef :: undef :: undef :: undef :: undef :: []), []⟩) (v := .int .i64 0) rfl rfl (ex_extract (vs := [nv 4 [z], .int .i64 0]) rfl rfl) ?_
  refine sq_new (a' := ⟨List.toArray ((nv 4 [a]) :: (.string s) :: (.pointer (some ⟨w.heap.size, 0, none⟩)) :: undef :: (.bool false) :: (.string x) :: (.pointer (some ⟨w6.heap.size, 0, none⟩)) :: undef :: undef :: undef :: (nv 4 [a]) :: (.string x) :: (.tuple #[nv 4 [z], .int .i64 0]) :: (.string x) :: (.tuple #[nv 4 [z], .int .i64 0]) :: (nv 4 [z]) :: (.int .i64 0) :: undef :: undef :: undef :: undef :: undef :: undef :: undef :: undef :: undef :: undef :: undef :: undef :: undef :: undef :: undef :: undef :: undef :: undef :: undef :: undef :: undef :: undef :: undef :: undef :: undef :: undef :: undef :: undef :: undef :: undef :: undef :: undef :: undef :: undef :: []), []⟩) (xs := rows 4 [0]) rfl rfl (ex_alloc zFr) ?_
  intro w9 N9 hb9
  have A10 := A7.keep hb9
  have HB11 := below_then HB8 hb9
  refine sq_store (a' := ⟨List.toArray ((nv 4 [a]) :: (.string s) :: (.pointer (some ⟨w.heap.size, 0, none⟩)) :: undef :: (.bool false) :: (.string x) :: (.pointer (some ⟨w6.heap.size, 0, none⟩)) :: undef :: undef :: undef :: (nv 4 [a]) :: (.string x) :: (.tuple #[nv 4 [z], .int .i64 0]) :: (.string x) :: (.tuple #[nv 4 [z], .int .i64 0]) :: (nv 4 [z]) :: (.int .i64 0) :: undef :: undef :: undef :: undef :: undef :: undef :: undef :: undef :: undef :: undef :: undef :: undef :: undef :: undef :: undef :: undef :: undef :: undef :: undef :: undef :: undef :: undef :: undef :: undef :: undef :: undef :: undef :: undef :: undef :: undef :: undef :: undef :: undef :: undef :: []), []⟩) (t := 24) (xs := rows 4 [0]) (ys := rows 4 [z]) rfl rfl N9 (len_rows rfl) (ex_storen (K := 4) (l := [0]) (m := [z]) flFr rfl rfl N9 rfl) ?_
  intro w13 N13 hst13 hoth13
  have A14 := hoth13 _ _ _ (Nat.ne_of_lt A7.lt) A10
  have HB15 := hst13 _ _ HB11 HB8.size
  refine sq_val (a' := ⟨List.toArray ((nv 4 [a]) :: (.string s) :: (.pointer (some ⟨w.heap.size, 0, none⟩)) :: undef :: (.bool false) :: (.string x) :: (.pointer (some ⟨w6.heap.size, 0, none⟩)) :: (.int .i64 0) :: undef :: undef :: (nv 4 [a]) :: (.string x) :: (.tuple #[nv 4 [z], .int .i64 0]) :: (.string x) :: (.tuple #[nv 4 [z], .int .i64 0]) :: (nv 4 [z]) :: (.int .i64 0) :: undef :: undef :: undef :: undef :: undef :: undef :: undef :: undef :: undef :: undef :: undef :: undef :: undef :: undef :: undef :: undef :: undef :: undef :: undef :: undef :: undef :: undef :: undef :: undef :: undef :: undef :: undef :: undef :: undef :: undef :: undef :: undef :: undef :: undef :: []), []⟩) (v := .int .i64 0) rfl rfl (ex_assign _) ?_
  refine seq_nil ?_
  refine wp_seq ?_
  refine wp_seq (wp_region_p (F := ⟨List.toArray ((nv 4 [a]) :: (.string s) :: (.pointer (some ⟨w.heap.size, 0, none⟩)) :: undef :: (.bool false) :: (.string x) :: (.pointer (some ⟨w6.heap.size, 0, none⟩)) :: (.int .i64 0) :: undef :: undef :: (nv 4 [a]) :: (.string x) :: (.tuple #[nv 4 [z], .int .i64 0]) :: (.string x) :: (.tuple #[nv 4 [z], .int .i64 0]) :: (nv 4 [z]) :: (.int .i64 0) :: (.int .i64 0) :: (.bool false) :: (.bool false) :: (nv 4 [z]) :: (nv 4 [a]) :: (nv 4 [z]) :: (.bool false) :: (.bool false) :: (.bool false) :: (.string x) :: (nv 4 [z]) :: (nv 4 [z]) :: (.bool false) :: (.bool false) :: undef :: undef :: undef :: undef :: undef :: undef :: undef :: undef :: undef :: undef :: undef :: undef :: undef :: undef :: undef :: undef :: undef :: undef :: undef :: undef :: []), []⟩) (S := Bel w13) [(17, .int .i64 0), (18, .bool false), (19, .bool false), (20, nv 4 [z]), (21, nv 4 [a]), (22, nv 4 [z]), (23, .bool false), (24, .bool false), (25, .bool false), (26, .string x), (27, nv 4 [z]), (28, nv 4 [z]), (29, .bool false), (30, .bool false)] (by kernel_rfl) (by kernel_rfl) (by kernel_rfl) (by kernel_rfl) rfl (by simp only [putAll, List.setIfInBounds_toArray, List.set_cons_zero, List.set_cons_succ]) (Bel.start _) ?_ ?_)
  · refine PlanSteps.cons (ps_val (v := .int .i64 0) rfl rfl rfl (fun W' h => ex_move _)) ?_
    refine PlanSteps.cons (ps_val (v := .bool false) rfl rfl rfl (fun W' h => ex_neqi rfl rfl _ rfl)) ?_
    refine PlanSteps.cons (ps_val (v := .bool false) rfl rfl rfl (fun W' h => ex_move _)) ?_
    refine PlanSteps.cons (ps_val (v := nv 4 [z]) rfl rfl rfl (fun W' h => ex_loadn (K := 4) (k := 0) (j := 1) (l := [z]) flFr rfl (N13.keep h.out) rfl _ rfl)) ?_
    refine PlanSteps.cons (ps_val (v := nv 4 [a]) rfl rfl rfl (fun W' h => ex_loadn (K := 4) (k := 0) (j := 1) (l := [a]) flFr rfl (A14.keep h.out) rfl _ rfl)) ?_
    refine PlanSteps.cons (ps_call (v := nv 4 [z]) rfl rfl rfl (fun W' => ex_call (vs := [nv 4 [a]]) rfl Try.call17 rfl) (fun W' h => HC _)) ?_
    refine PlanSteps.cons (ps_val (v := .bool false) rfl rfl rfl (fun W' h => ex_neqt (K := 4) (l := [z]) eqFr rfl rfl rfl rfl)) ?_
    refine PlanSteps.cons (ps_val (v := .bool false) rfl rfl rfl (fun W' h => ex_pick (r := false) rfl)) ?_
    refine PlanSteps.cons (ps_val (v := .bool false) rfl rfl rfl (fun W' h => ex_move _)) ?_
    refine PlanSteps.cons (ps_val (v := .string x) rfl rfl rfl (fun W' h => ex_move _)) ?_
    refine PlanSteps.cons (ps_call (v := nv 4 [z]) rfl rfl rfl (fun W' => ex_call (vs := [.string x]) rfl Try.call13 rfl) (fun W' h => HH _)) ?_
    refine PlanSteps.cons (ps_val (v := nv 4 [z]) rfl rfl rfl (fun W' h => ex_loadn (K := 4) (k := 0) (j := 1) (l := [z]) flFr rfl (N13.keep h.out) rfl _ rfl)) ?_
    refine PlanSteps.cons (ps_val (v := .bool false) rfl rfl rfl (fun W' h => ex_neqt (K := 4) (l := [z]) eqFr rfl rfl rfl rfl)) ?_
    refine PlanSteps.cons (ps_val (v := .bool false) rfl rfl rfl (fun W' h => ex_pick (r := false) rfl)) ?_
    exact PlanSteps.nil
  intro w16 hb16
  refine then_nR ?_
  have A17 := A14.keep hb16.out
  have A18 := N13.keep hb16.out
  have HB19 := below_then HB15 hb16.out
  refine wp_cond_false rfl ?_
  refine wp_skip (then_nR ?_)
  refine seq_lit ?_
  refine sq_val (a' := ⟨List.toArray ((nv 4 [a]) :: (.string s) :: (.pointer (some ⟨w.heap.size, 0, none⟩)) :: undef :: (.bool false) :: (.string x) :: (.pointer (some ⟨w6.heap.size, 0, none⟩)) :: (.int .i64 0) :: undef :: undef :: (nv 4 [a]) :: (.string x) :: (.tuple #[nv 4 [z], .int .i64 0]) :: (.string x) :: (.tuple #[nv 4 [z], .int .i64 0]) :: (nv 4 [z]) :: (.int .i64 0) :: (.int .i64 0) :: (.bool false) :: (.bool false) :: (nv 4 [z]) :: (nv 4 [a]) :: (nv 4 [z]) :: (.bool false) :: (.bool false) :: (.bool false) :: (.string x) :: (nv 4 [z]) :: (nv 4 [z]) :: (.bool false) :: (.bool false) :: undef :: (.string s) :: undef :: undef :: undef :: undef :: undef :: undef :: undef :: undef :: undef :: undef :: undef :: undef :: undef :: undef :: undef :: undef :: undef :: undef :: []), []⟩) (v := .string s) rfl rfl (ex_move _) ?_
  refine sq_call (a' := ⟨List.toArray ((nv 4 [a]) :: (.string s) :: (.pointer (some ⟨w.heap.size, 0, none⟩)) :: undef :: (.bool false) :: (.string x) :: (.pointer (some ⟨w6.heap.size, 0, none⟩)) :: (.int .i64 0) :: undef :: undef :: (nv 4 [a]) :: (.string x) :: (.tuple #[nv 4 [z], .int .i64 0]) :: (.string x) :: (.tuple #[nv 4 [z], .int .i64 0]) :: (nv 4 [z]) :: (.int .i64 0) :: (.int .i64 0) :: (.bool false) :: (.bool false) :: (nv 4 [z]) :: (nv 4 [a]) :: (nv 4 [z]) :: (.bool false) :: (.bool false) :: (.bool false) :: (.string x) :: (nv 4 [z]) :: (nv 4 [z]) :: (.bool false) :: (.bool false) :: undef :: (.string s) :: (.tuple #[nv 4 [v], .int .i64 c]) :: undef :: undef :: undef :: undef :: undef :: undef :: undef :: undef :: undef :: undef :: undef :: undef :: undef :: undef :: undef :: undef :: undef :: []), []⟩) (v := .tuple #[nv 4 [v], .int .i64 c]) rfl rfl (ex_call (vs := [.string s]) rfl Try.call7 rfl) (HG2 _) ?_
  intro w20 hb20
  have A21 := A17.keep hb20
  have A22 := A18.keep hb20
  have HB23 := below_then HB19 hb20
  refine sq_val (a' := ⟨List.toArray ((nv 4 [a]) :: (.string s) :: (.pointer (some ⟨w.heap.size, 0, none⟩)) :: undef :: (.bool false) :: (.string x) :: (.pointer (some ⟨w6.heap.size, 0, none⟩)) :: (.int .i64 0) :: undef :: undef :: (nv 4 [a]) :: (.string x) :: (.tuple #[nv 4 [z], .int .i64 0]) :: (.string x) :: (.tuple #[nv 4 [z], .int .i64 0]) :: (nv 4 [z]) :: (.int .i64 0) :: (.int .i64 0) :: (.bool false) :: (.bool false) :: (nv 4 [z]) :: (nv 4 [a]) :: (nv 4 [z]) :: (.bool false) :: (.bool false) :: (.bool false) :: (.string x) :: (nv 4 [z]) :: (nv 4 [z]) :: (.bool false) :: (.bool false) :: (.tuple #[nv 4 [v], .int .i64 c]) :: (.string s) :: (.tuple #[nv 4 [v], .int .i64 c]) :: undef :: undef :: undef :: undef :: undef :: undef :: undef :: undef :: undef :: undef :: undef :: undef :: undef :: undef :: undef :: undef :: undef :: []), []⟩) (v := .tuple #[nv 4 [v], .int .i64 c]) rfl rfl (ex_move _) ?_
  refine sq_val (a' := ⟨List.toArray ((nv 4 [a]) :: (.string s) :: (.pointer (some ⟨w.heap.size, 0, none⟩)) :: undef :: (.bool false) :: (.string x) :: (.pointer (some ⟨w6.heap.size, 0, none⟩)) :: (.int .i64 0) :: undef :: undef :: (nv 4 [a]) :: (.string x) :: (.tuple #[nv 4 [z], .int .i64 0]) :: (.string x) :: (.tuple #[nv 4 [z], .int .i64 0]) :: (nv 4 [z]) :: (.int .i64 0) :: (.int .i64 0) :: (.bool false) :: (.bool false) :: (nv 4 [z]) :: (nv 4 [a]) :: (nv 4 [z]) :: (.bool false) :: (.bool false) :: (.bool false) :: (.string x) :: (nv 4 [z]) :: (nv 4 [z]) :: (.bool false) :: (.bool false) :: (.tuple #[nv 4 [v], .int .i64 c]) :: (.string s) :: (.tuple #[nv 4 [v], .int .i64 c]) :: (nv 4 [v]) :: undef :: undef :: undef :: undef :: undef :: undef :: undef :: undef :: undef :: undef :: undef :: undef :: undef :: undef :: undef :: undef :: []), []⟩) (v := nv 4 [v]) rfl rfl (ex_extract (vs := [nv 4 [v], .int .i64 c]) rfl rfl) ?_
  refine sq_val (a' := ⟨List.toArray ((nv 4 [a]) :: (.string s) :: (.pointer (some ⟨w.heap.size, 0, none⟩)) :: undef :: (.bool false) :: (.string x) :: (.pointer (some ⟨w6.heap.size, 0, none⟩)) :: (.int .i64 0) :: undef :: undef :: (nv 4 [a]) :: (.string x) :: (.tuple #[nv 4 [z], .int .i64 0]) :: (.string x) :: (.tuple #[nv 4 [z], .int .i64 0]) :: (nv 4 [z]) :: (.int .i64 0) :: (.int .i64 0) :: (.bool false) :: (.bool false) :: (nv 4 [z]) :: (nv 4 [a]) :: (nv 4 [z]) :: (.bool false) :: (.bool false) :: (.bool false) :: (.string x) :: (nv 4 [z]) :: (nv 4 [z]) :: (.bool false) :: (.bool false) :: (.tuple #[nv 4 [v], .int .i64 c]) :: (.string s) :: (.tuple #[nv 4 [v], .int .i64 c]) :: (nv 4 [v]) :: (.int .i64 c) :: undef :: undef :: undef :: undef :: undef :: undef :: undef :: undef :: undef :: undef :: undef :: undef :: undef :: undef :: undef :: []), []⟩) (v := .int .i64 c) rfl rfl (ex_extract (vs := [nv 4 [v], .int .i64 c]) rfl rfl) ?_
  refine sq_new (a' := ⟨List.toArray ((nv 4 [a]) :: (.string s) :: (.pointer (some ⟨w.heap.size, 0, none⟩)) :: undef :: (.bool false) :: (.string x) :: (.pointer (some ⟨w6.heap.size, 0, none⟩)) :: (.int .i64 0) :: (.pointer (some ⟨w20.heap.size, 0, none⟩)) :: undef :: (nv 4 [a]) :: (.string x) :: (.tuple #[nv 4 [z], .int .i64 0]) :: (.string x) :: (.tuple #[nv 4 [z], .int .i64 0]) :: (nv 4 [z]) :: (.int .i64 0) :: (.int .i64 0) :: (.bool false) :: (.bool false) :: (nv 4 [z]) :: (nv 4 [a]) :: (nv 4 [z]) :: (.bool false) :: (.bool false) :: (.bool false) :: (.string x) :: (nv 4 [z]) :: (nv 4 [z]) :: (.bool false) :: (.bool false) :: (.tuple #[nv 4 [v], .int .i64 c]) :: (.string s) :: (.tuple #[nv 4 [v], .int .i64 c]) :: (nv 4 [v]) :: (.int .i64 c) :: undef :: undef :: undef :: undef :: undef :: undef :: undef :: undef :: undef :: undef :: undef :: undef :: undef :: undef :: undef :: []), []⟩) (xs := rows 4 [0]) rfl rfl (ex_alloc zFr) ?_
  intro w24 N24 hb24
  have A25 := A21.keep hb24
  have A26 := A22.keep hb24
  have HB27 := below_then HB23 hb24
  refine sq_store (a' := ⟨List.toArray ((nv 4 [a]) :: (.string s) :: (.pointer (some ⟨w.heap.size, 0, none⟩)) :: undef :: (.bool false) :: (.string x) :: (.pointer (some ⟨w6.heap.size, 0, none⟩)) :: (.int .i64 0) :: (.pointer (some ⟨w20.heap.size, 0, none⟩)) :: undef :: (nv 4 [a]) :: (.string x) :: (.tuple #[nv 4 [z], .int .i64 0]) :: (.string x) :: (.tuple #[nv 4 [z], .int .i64 0]) :: (nv 4 [z]) :: (.int .i64 0) :: (.int .i64 0) :: (.bool false) :: (.bool false) :: (nv 4 [z]) :: (nv 4 [a]) :: (nv 4 [z]) :: (.bool false) :: (.bool false) :: (.bool false) :: (.string x) :: (nv 4 [z]) :: (nv 4 [z]) :: (.bool false) :: (.bool false) :: (.tuple #[nv 4 [v], .int .i64 c]) :: (.string s) :: (.tuple #[nv 4 [v], .int .i64 c]) :: (nv 4 [v]) :: (.int .i64 c) :: undef :: undef :: undef :: undef :: undef :: undef :: undef :: undef :: undef :: undef :: undef :: undef :: undef :: undef :: undef :: []), []⟩) (t := 24) (xs := rows 4 [0]) (ys := rows 4 [v]) rfl rfl N24 (len_rows rfl) (ex_storen (K := 4) (l := [0]) (m := [v]) flFr rfl rfl N24 rfl) ?_
  intro w30 N30 hst30 hoth30
  have A31 := hoth30 _ _ _ (Nat.ne_of_lt A21.lt) A25
  have A32 := hoth30 _ _ _ (Nat.ne_of_lt A22.lt) A26
  have HB33 := hst30 _ _ HB27 HB23.size
  refine sq_val (a' := ⟨List.toArray ((nv 4 [a]) :: (.string s) :: (.pointer (some ⟨w.heap.size, 0, none⟩)) :: undef :: (.bool false) :: (.string x) :: (.pointer (some ⟨w6.heap.size, 0, none⟩)) :: (.int .i64 0) :: (.pointer (some ⟨w20.heap.size, 0, none⟩)) :: (.int .i64 c) :: (nv 4 [a]) :: (.string x) :: (.tuple #[nv 4 [z], .int .i64 0]) :: (.string x) :: (.tuple #[nv 4 [z], .int .i64 0]) :: (nv 4 [z]) :: (.int .i64 0) :: (.int .i64 0) :: (.bool false) :: (.bool false) :: (nv 4 [z]) :: (nv 4 [a]) :: (nv 4 [z]) :: (.bool false) :: (.bool false) :: (.bool false) :: (.string x) :: (nv 4 [z]) :: (nv 4 [z]) :: (.bool false) :: (.bool false) :: (.tuple #[nv 4 [v], .int .i64 c]) :: (.string s) :: (.tuple #[nv 4 [v], .int .i64 c]) :: (nv 4 [v]) :: (.int .i64 c) :: undef :: undef :: undef :: undef :: undef :: undef :: undef :: undef :: undef :: undef :: undef :: undef :: undef :: undef :: undef :: []), []⟩) (v := .int .i64 c) rfl rfl (ex_assign _) ?_
  refine seq_nil ?_
  refine wp_seq (wp_region_pf (F := ⟨List.toArray ((nv 4 [a]) :: (.string s) :: (.pointer (some ⟨w.heap.size, 0, none⟩)) :: undef :: (.bool true) :: (.string x) :: (.pointer (some ⟨w6.heap.size, 0, none⟩)) :: (.int .i64 0) :: (.pointer (some ⟨w20.heap.size, 0, none⟩)) :: (.int .i64 c) :: (nv 4 [a]) :: (.string x) :: (.tuple #[nv 4 [z], .int .i64 0]) :: (.string x) :: (.tuple #[nv 4 [z], .int .i64 0]) :: (nv 4 [z]) :: (.int .i64 0) :: (.int .i64 0) :: (.bool false) :: (.bool false) :: (nv 4 [z]) :: (nv 4 [a]) :: (nv 4 [z]) :: (.bool false) :: (.bool false) :: (.bool false) :: (.string x) :: (nv 4 [z]) :: (nv 4 [z]) :: (.bool false) :: (.bool false) :: (.tuple #[nv 4 [v], .int .i64 c]) :: (.string s) :: (.tuple #[nv 4 [v], .int .i64 c]) :: (nv 4 [v]) :: (.int .i64 c) :: (.bool true) :: (.bool true) :: (.int .i64 c) :: (.bool true) :: (.bool true) :: undef :: undef :: undef :: undef :: undef :: undef :: undef :: undef :: (.bool true) :: (.bool true) :: []), []⟩) (S := Bel w30) [(36, .bool true), (37, .bool true), (38, .int .i64 c), (39, .bool true), (40, .bool true), (41, undef), (42, undef), (43, undef), (44, undef), (45, undef), (46, undef), (47, undef), (48, undef), (49, .bool true), (50, .bool true), (4, .bool true)] (by kernel_rfl) (by kernel_rfl) (by kernel_rfl) (by kernel_rfl) rfl (by simp only [putAll, List.setIfInBounds_toArray, List.set_cons_zero, List.set_cons_succ]) (Below.refl _ _) ?_ ?_)
  · refine PlanSteps.cons (ps_call (v := .bool true) rfl rfl rfl (fun W' => ex_call (vs := []) rfl Try.call9 rfl) (fun W' h => fralive_v _)) ?_
    refine PlanSteps.cons (ps_val (v := .bool true) rfl rfl rfl (fun W' h => ex_move _)) ?_
    refine PlanSteps.cons (ps_val (v := .int .i64 c) rfl rfl rfl (fun W' h => ex_move _)) ?_
    refine PlanSteps.cons (ps_val (v := .bool true) rfl rfl rfl (fun W' h => ex_neqi rfl rfl true hcb)) ?_
    refine PlanSteps.cons (ps_val (v := .bool true) rfl rfl rfl (fun W' h => ex_move _)) ?_
    refine PlanSteps.cons (ps_skip rfl rfl rfl) ?_
    refine PlanSteps.cons (ps_skip rfl rfl rfl) ?_
    refine PlanSteps.cons (ps_skip rfl rfl rfl) ?_
    refine PlanSteps.cons (ps_skip rfl rfl rfl) ?_
    refine PlanSteps.cons (ps_skip rfl rfl rfl) ?_
    refine PlanSteps.cons (ps_skip rfl rfl rfl) ?_
    refine PlanSteps.cons (ps_skip rfl rfl rfl) ?_
    refine PlanSteps.cons (ps_skip rfl rfl rfl) ?_
    refine PlanSteps.cons (ps_val (v := .bool true) rfl rfl rfl (fun W' h => ex_pick (r := true) rfl)) ?_
    refine PlanSteps.cons (ps_val (v := .bool true) rfl rfl rfl (fun W' h => ex_pick (r := true) rfl)) ?_
    refine PlanSteps.cons (ps_val (v := .bool true) rfl rfl rfl (fun W' h => ex_assign _)) ?_
    exact PlanSteps.nil
  intro w34 hb34
  refine then_nR ?_
  have A35 := A31.keep hb34.out
  have A36 := A32.keep hb34.out
  have A37 := N30.keep hb34.out
  have HB38 := below_then HB33 hb34.out
  exact wp_ret (bodyPost_ret (ret_tmp Try.results6 rfl) rfl ⟨rfl, HB38⟩)

theorem frBack_v (a : Nat) (s : ByteArray) (w : World) (ha : a < frB) :
    Calls Try.prog 6 #[nv 4 [a], .string s] w (Is (.bool true) w) := by
  by_cases h0 : frGotE s = 0
  · exact frBack_ok a s w ha h0
  · exact frBack_no a s w ha h0

end Go.Proofs.Ytigjplhicmdgiaa
