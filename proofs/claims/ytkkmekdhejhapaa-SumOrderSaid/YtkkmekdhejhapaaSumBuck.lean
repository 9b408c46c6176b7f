/- What is proved here: package sum: buckets: made, emptied, filled, added up. -/
import Derived.Test.YtkkmekdhejhapaaSumNum
import Derived.Test.YtkkmekdhejhapaaSumMut
namespace Go.Proofs.Ytkkmekdhejhapaa
open Go.RowKit Cv
theorem bu_fields : Try.prog.underlying 91 = some (.struct (List.toArray [⟨"curve", 47, 0, false, "", "chirograph/sum", 0⟩, ⟨"sums", 22, 5, false, "", "chirograph/sum", 40⟩])) := Try.underlying91
theorem flBu : Flat 91 6 := ⟨Try.isAgg91, Try.sizeOf91⟩
theorem faBu_0 : FieldAt 91 0 0 := ⟨_, _, 4, bu_fields, rfl, rfl, Try.sizeOf47⟩
theorem faBu_1 : FieldAt 91 1 5 := ⟨_, _, 0, bu_fields, rfl, rfl, Try.sizeOf22⟩
theorem zBu (w : World) : (zeroValue 91).run Try.prog w = .ok (sv [.v .nilFunc, .v .nilFunc, .v .nilFunc, .v .nilFunc, .i .i64 0, .v (.slice none 0 0)]) w := Try.zeroValue91 w
theorem stBu : StructS 91 [.v .nilFunc, .v .nilFunc, .v .nilFunc, .v .nilFunc, .i .i64 0, .v (.slice none 0 0)] [(0, 5), (5, 1)] := by
  refine ⟨_, bu_fields, zBu, fun w => ?_⟩
  simp [Sem.run_bind, Try.sizeOf47, Try.sizeOf22]
theorem sgSP : Single 22 := ⟨Try.isAgg22, Try.sizeOf22⟩
theorem inf_of {e : TypeId} {b : Nat} (h : (Try.prog.info? e).map (·.bytes) = some b) : ∃ i, Try.prog.info? e = some i ∧ i.bytes = b := by
  cases hi : Try.prog.info? e with
  | none => rw [hi] at h; cases h
  | some i => rw [hi] at h; exact ⟨i, rfl, Option.some.inj h⟩
theorem info_g1 : ∃ i, Try.prog.info? 28 = some i ∧ i.bytes = 104 := inf_of (by kernel_rfl)
theorem shl_one {d : Nat} (h : d ≤ 9) : IntKind.i64.wrap (1 * 2 ^ d) = ((2 ^ d : Nat) : Int) := by
  have : 2 ^ d ≤ 2 ^ 9 := Nat.pow_le_pow_right (by decide) h
  have e : (1 : Int) * 2 ^ d = ((2 ^ d : Nat) : Int) := by rw [Int.one_mul, Int.natCast_pow]; rfl
  rw [e]
  generalize 2 ^ d = q at *
  exact wrapI64 (by omega) (by omega)
theorem ex_shlI {ρ : Operand → Value} {d : Option Tmp} {ty0 : TypeId} {pos : String} {after : Array Edge} {guard : Option (Nat × Bool)} {w : World} {t t2 : TypeId} {x y : Operand} {a : Int} {s : Nat} (hx : ρ x = .int .i64 a) (hy : ρ y = .int .i64 (s : Int)) (hs : s ≤ 64) (r : Int) (hr : IntKind.i64.wrap (a * 2 ^ s) = r) :
    (execOp ρ ⟨d, .binOp .shl t x y t2, ty0, pos, after, guard⟩).run Try.prog w = .ok (.value (.int .i64 r)) w := by
  have h1 : ¬ ((s : Int) < 0) := by omega
  have h2 : min (s : Int).toNat IntKind.i64.bits = s := by
    rw [Int.toNat_natCast]
    exact Nat.min_eq_left hs
  simp only [execOp, hx, hy, eqGuard, binOp, Op.shift, Sem.run_bind]
  rw [if_neg h1, h2, hr]
  simp
set_option maxRecDepth 20000 in
set_option maxHeartbeats 4000000 in
theorem sunew_v (wd : Nat) (h9 : wd ≤ 9) (w : World) :
    Calls Try.prog 59 #[sv [.v (.func (.func 6) #[] #[]), .v (.func (.func 10) #[] #[]), .v (.func (.func 12) #[] #[]), .v (.func (.func 11) #[] #[]), .i .i64 32], .int .i64 ((wd : Nat) : Int)] w (fun e w' => ∃ g, e = .returned (sv [.v (.func (.func 6) #[] #[]), .v (.func (.func 10) #[] #[]), .v (.func (.func 12) #[] #[]), .v (.func (.func 11) #[] #[]), .i .i64 32, .v (.slice (some ⟨g, 0, none⟩) ((2 ^ wd - 1)) ((2 ^ wd - 1)))]) ∧ SB 28 w' g (cat (fun _ => [.n 6 0, .n 6 0, .b false]) (2 ^ wd - 1)) ∧ w.heap.size ≤ g ∧ Below w.heap.size w w') := by
  have hp9 : 2 ^ wd ≤ 2 ^ 9 := Nat.pow_le_pow_right (by decide) h9
  have hp1 : 0 < 2 ^ wd := Nat.two_pow_pos wd
  go_enter Try.func59, Try.ntmps59
  refine wp_seq (region_c 2 (fun j_ => match j_ with | 0 => 47 | _ => 91) (fun j_ => match j_ with | 0 => 0 | _ => 1) (fun j_ => match j_ with | 0 => 0 | _ => 1) (fun j_ => match j_ with | 0 => segs [.v (.func (.func 6) #[] #[]), .v (.func (.func 10) #[] #[]), .v (.func (.func 12) #[] #[]), .v (.func (.func 11) #[] #[]), .i .i64 32] | _ => segs [.v (.nilFunc), .v (.nilFunc), .v (.nilFunc), .v (.nilFunc), .i .i64 0, .v (.slice none 0 0)]) (fun j_ => match j_ with | 0 => segs [.v (.func (.func 6) #[] #[]), .v (.func (.func 10) #[] #[]), .v (.func (.func 12) #[] #[]), .v (.func (.func 11) #[] #[]), .i .i64 32] | _ => segs [.v (.nilFunc), .v (.nilFunc), .v (.nilFunc), .v (.nilFunc), .i .i64 0, .v (.slice none 0 0)]) [2, 4] (fun γ => [.pointer (some ⟨γ 0, 0, none⟩), .pointer (some ⟨γ 1, 0, none⟩)]) ?_ ?_)
  · refine GSteps.cons (gm_box 0 rfl (fun _ => rfl) (fun _ _ => rfl) (fun γ w h => ex_boxs (l := [.v (.func (.func 6) #[] #[]), .v (.func (.func 10) #[] #[]), .v (.func (.func 12) #[] #[]), .v (.func (.func 11) #[] #[]), .i .i64 32]) rfl) rfl rfl rfl) ?_
    refine GSteps.cons (gm_box 1 rfl (fun _ => rfl) (fun _ _ => rfl) (fun γ w h => ex_allocs (l := [.v (.nilFunc), .v (.nilFunc), .v (.nilFunc), .v (.nilFunc), .i .i64 0, .v (.slice none 0 0)]) zBu) rfl rfl rfl) ?_
    exact GSteps.nil
  intro γ1 w1 hb1 hB1 hn1
  refine th_r ?_
  have A2 : SB 47 w1 (γ1 0) [.v (.func (.func 6) #[] #[]), .v (.func (.func 10) #[] #[]), .v (.func (.func 12) #[] #[]), .v (.func (.func 11) #[] #[]), .i .i64 32] := (hB1 0 (by decide)).2
  have le2 := (hB1 0 (by decide)).1
  have A3 : SB 91 w1 (γ1 1) [.v (.nilFunc), .v (.nilFunc), .v (.nilFunc), .v (.nilFunc), .i .i64 0, .v (.slice none 0 0)] := (hB1 1 (by decide)).2
  have le3 := (hB1 1 (by decide)).1
  have HB4 := below_then (Below.refl w.heap.size w) hb1.out
  skip
  · refine wp_seq (region_gh (F := fun γ => ⟨#[sv [.v (.func (.func 6) #[] #[]), .v (.func (.func 10) #[] #[]), .v (.func (.func 12) #[] #[]), .v (.func (.func 11) #[] #[]), .i .i64 32], .int .i64 ((wd : Nat) : Int), .pointer (some ⟨(γ1 0), 0, none⟩), undef, .pointer (some ⟨(γ1 1), 0, none⟩), sv [.v (.func (.func 6) #[] #[]), .v (.func (.func 10) #[] #[]), .v (.func (.func 12) #[] #[]), .v (.func (.func 11) #[] #[]), .i .i64 32], .int .i64 ((wd : Nat) : Int), .int .i64 ((2 ^ wd : Nat) : Int), .int .i64 ((2 ^ wd - 1 : Nat) : Int), .slice (some ⟨γ 0, 0, none⟩) (2 ^ wd - 1) (2 ^ wd - 1), sv [.v (.func (.func 6) #[] #[]), .v (.func (.func 10) #[] #[]), .v (.func (.func 12) #[] #[]), .v (.func (.func 11) #[] #[]), .i .i64 32, .v (.slice (some ⟨γ 1, 0, none⟩) (2 ^ wd - 1) (2 ^ wd - 1))]], []⟩) 5 0 1 6 ((γ1 1)) 0 (fun γ => segs [.v (.func (.func 6) #[] #[]), .v (.func (.func 10) #[] #[]), .v (.func (.func 12) #[] #[]), .v (.func (.func 11) #[] #[]), .i .i64 32, .v (.slice (some ⟨γ 1, 0, none⟩) (2 ^ wd - 1) (2 ^ wd - 1))]) 1 (fun _ => 28) (fun _ => 4) (fun _ => 4) (fun _ => segs (cat (fun _ => [.n 6 0, .n 6 0, .b false]) (2 ^ wd - 1))) (fun _ => segs (cat (fun _ => [.n 6 0, .n 6 0, .b false]) (2 ^ wd - 1))) [5, 6, 7, 8, 9, 10] (.inl ⟨rfl, by kernel_rfl⟩) (by kernel_rfl) rfl rfl rfl ?_ ?_)
    · refine GSteps.cons (lateg_step (gh_step [] (gm_val (v := sv [.v (.func (.func 6) #[] #[]), .v (.func (.func 10) #[] #[]), .v (.func (.func 12) #[] #[]), .v (.func (.func 11) #[] #[]), .i .i64 32]) rfl (fun _ => rfl) (fun _ => rfl) (fun γ w h => ex_loads 0 5 (m := [.v (.func (.func 6) #[] #[]), .v (.func (.func 10) #[] #[]), .v (.func (.func 12) #[] #[]), .v (.func (.func 11) #[] #[]), .i .i64 32]) flSc1 rfl rfl (A2.keep h.out) rfl rfl) rfl) (by kernel_rfl) rfl) (by kernel_rfl) rfl) ?_
      refine GSteps.cons (lateg_step (gh_step [4, 3, 2] (gm_val (v := .int .i64 ((wd : Nat) : Int)) rfl (fun _ => rfl) (fun _ => rfl) (fun γ w h => ex_move _) rfl) (by kernel_rfl) rfl) (by kernel_rfl) rfl) ?_
      refine GSteps.cons (lateg_step (gh_step [4, 3] (gm_val (v := .int .i64 ((2 ^ wd : Nat) : Int)) rfl (fun _ => rfl) (fun _ => rfl) (fun γ w h => ex_shlI rfl rfl (by omega) ((2 ^ wd : Nat) : Int) (shl_one h9)) rfl) (by kernel_rfl) rfl) (by kernel_rfl) rfl) ?_
      refine GSteps.cons (lateg_step (gh_step [4] (gm_val (v := .int .i64 ((2 ^ wd - 1 : Nat) : Int)) rfl (fun _ => rfl) (fun _ => rfl) (fun γ w h => ex_isub rfl rfl ((2 ^ wd - 1 : Nat) : Int) (by rw [wrapI64 (by omega) (by omega)]; omega)) rfl) (by kernel_rfl) rfl) (by kernel_rfl) rfl) ?_
      refine GSteps.cons (lateg_step (gh_step [] (gm_lit 0 rfl (fun n => .slice (some ⟨n, 0, none⟩) (2 ^ wd - 1) (2 ^ wd - 1)) (fun _ => rfl) (fun _ _ => rfl) (fun γ w h => ex_mkR slP1 (z := [.n 6 0, .n 6 0, .b false]) (b := 104) rfl (by decide) zG1 info_g1 (by decide) rfl rfl (by omega)) rfl rfl rfl) (by kernel_rfl) rfl) (by kernel_rfl) rfl) ?_
      refine GSteps.cons (lateg_step (gh_make (fun n => sv [.v (.func (.func 6) #[] #[]), .v (.func (.func 10) #[] #[]), .v (.func (.func 12) #[] #[]), .v (.func (.func 11) #[] #[]), .i .i64 32, .v (.slice (some ⟨n, 0, none⟩) (2 ^ wd - 1) (2 ^ wd - 1))]) (by decide) (by decide) (fun _ => rfl) (fun _ _ => rfl) (fun γ w h => ex_builds stBu (l := [.v (.func (.func 6) #[] #[]), .v (.func (.func 10) #[] #[]), .v (.func (.func 12) #[] #[]), .v (.func (.func 11) #[] #[]), .i .i64 32, .v (.slice (some ⟨γ 0, 0, none⟩) (2 ^ wd - 1) (2 ^ wd - 1))]) (vs := [(0, sv [.v (.func (.func 6) #[] #[]), .v (.func (.func 10) #[] #[]), .v (.func (.func 12) #[] #[]), .v (.func (.func 11) #[] #[]), .i .i64 32]), (1, .slice (some ⟨γ 0, 0, none⟩) (2 ^ wd - 1) (2 ^ wd - 1))]) rfl ((fills_cons 0 5 (m := [.v (.func (.func 6) #[] #[]), .v (.func (.func 10) #[] #[]), .v (.func (.func 12) #[] #[]), .v (.func (.func 11) #[] #[]), .i .i64 32]) (z' := [.v (.func (.func 6) #[] #[]), .v (.func (.func 10) #[] #[]), .v (.func (.func 12) #[] #[]), .v (.func (.func 11) #[] #[]), .i .i64 32, .v (.slice none 0 0)]) rfl rfl rfl rfl rfl rfl).trans ((fills_cons 5 1 (m := [.v (.slice (some ⟨γ 0, 0, none⟩) (2 ^ wd - 1) (2 ^ wd - 1))]) (z' := [.v (.func (.func 6) #[] #[]), .v (.func (.func 10) #[] #[]), .v (.func (.func 12) #[] #[]), .v (.func (.func 11) #[] #[]), .i .i64 32, .v (.slice (some ⟨γ 0, 0, none⟩) (2 ^ wd - 1) (2 ^ wd - 1))]) rfl rfl rfl rfl rfl rfl).trans rfl))) rfl) (by kernel_rfl) rfl) ?_
      refine GSteps.cons (gh_store rfl (fun _ => rfl) (fun γ w h => ex_stores 0 6 (l := [.v (.nilFunc), .v (.nilFunc), .v (.nilFunc), .v (.nilFunc), .i .i64 0, .v (.slice none 0 0)]) (m := [.v (.func (.func 6) #[] #[]), .v (.func (.func 10) #[] #[]), .v (.func (.func 12) #[] #[]), .v (.func (.func 11) #[] #[]), .i .i64 32, .v (.slice (some ⟨γ 1, 0, none⟩) (2 ^ wd - 1) (2 ^ wd - 1))]) flBu.2 rfl rfl rfl rfl (A3.keep h.out) rfl rfl) rfl rfl) ?_
      exact GSteps.nil
    intro γ5 w5 w5_ hb5 hB5 he5 hs5
    refine th_r ?_
    have A6 := A2.keep hb5.out
    have A7 := A3.keep hb5.out
    have A8 : SB 28 w5 (γ5 0) (cat (fun _ => [.n 6 0, .n 6 0, .b false]) (2 ^ wd - 1)) := (hB5 0 (by decide)).2
    have le8 := (hB5 0 (by decide)).1
    have HB9 := below_then HB4 hb5.out
    have A10 := hs5.other (hn1 0 1 (by decide) (by decide) (by decide)) A6
    have A11 := hs5.here 0 6 (l' := [.v (.func (.func 6) #[] #[]), .v (.func (.func 10) #[] #[]), .v (.func (.func 12) #[] #[]), .v (.func (.func 11) #[] #[]), .i .i64 32, .v (.slice (some ⟨(γ5 1), 0, none⟩) (2 ^ wd - 1) (2 ^ wd - 1))]) A7 rfl rfl rfl
    have A12 := hs5.other (Ne.symm (Nat.ne_of_lt (Nat.lt_of_lt_of_le A3.lt le8))) A8
    have HB13 := hs5.below HB9 (Nat.le_trans (Nat.le_refl _) le3)
    exact wp_ret (bodyPost_ret (ret1 Try.results59 (res_sv rfl A11 flBu rfl)) rfl ⟨(γ5 0), by rw [he5], A12, (Nat.le_trans HB4.size le8), HB13⟩)
def emF (F : Nat → List Seg) (q : Nat) : Nat → List Seg := fun i => if i < q then pt1 Z1 else F i
theorem emF_size {F : Nat → List Seg} (hF : ∀ i, ssize (F i) = 13) (q i : Nat) : ssize (emF F q i) = 13 := by
  unfold emF
  split
  · rfl
  · exact hF i
theorem emF_here (F : Nat → List Seg) (q : Nat) : emF F (q + 1) q = pt1 Z1 := if_pos (by omega)
theorem emF_other (F : Nat → List Seg) (q j : Nat) (h : j ≠ q) : emF F q j = emF F (q + 1) j := by
  unfold emF
  by_cases c : j < q
  · rw [if_pos c, if_pos (by omega)]
  · rw [if_neg c, if_neg (by omega)]
theorem emF_end (F : Nat → List Seg) (n : Nat) : cat (emF F n) n = cat (fun _ => pt1 Z1) n := cat_ext fun i h => if_pos h
set_option maxRecDepth 20000 in
set_option maxHeartbeats 4000000 in
theorem suempty_v (F : Nat → List Seg) (hF : ∀ i, ssize (F i) = 13) (n gb : Nat) (hn : n < 1000) (w : World) (A : SB 28 w gb (cat F n)) :
    Calls Try.prog 62 #[sv [.v (.func (.func 6) #[] #[]), .v (.func (.func 10) #[] #[]), .v (.func (.func 12) #[] #[]), .v (.func (.func 11) #[] #[]), .i .i64 32, .v (.slice (some ⟨gb, 0, none⟩) n n)]] w (fun e w' => e = .returned (.tuple #[]) ∧ (Chg gb gb w w' ∧ SB 28 w' gb (cat (fun _ => pt1 Z1) n))) := by
  go_enter Try.func62, Try.ntmps62
  refine wp_seq (region_c 1 (fun _ => 91) (fun _ => 0) (fun _ => 0) (fun _ => segs [.v (.func (.func 6) #[] #[]), .v (.func (.func 10) #[] #[]), .v (.func (.func 12) #[] #[]), .v (.func (.func 11) #[] #[]), .i .i64 32, .v (.slice (some ⟨gb, 0, none⟩) n n)]) (fun _ => segs [.v (.func (.func 6) #[] #[]), .v (.func (.func 10) #[] #[]), .v (.func (.func 12) #[] #[]), .v (.func (.func 11) #[] #[]), .i .i64 32, .v (.slice (some ⟨gb, 0, none⟩) n n)]) [1] (fun γ => [.pointer (some ⟨γ 0, 0, none⟩)]) ?_ ?_)
  · refine GSteps.cons (gm_box 0 rfl (fun _ => rfl) (fun _ _ => rfl) (fun γ w h => ex_boxs (l := [.v (.func (.func 6) #[] #[]), .v (.func (.func 10) #[] #[]), .v (.func (.func 12) #[] #[]), .v (.func (.func 11) #[] #[]), .i .i64 32, .v (.slice (some ⟨gb, 0, none⟩) n n)]) rfl) rfl rfl rfl) ?_
    exact GSteps.nil
  intro γ1 w1 hb1 hB1 _
  refine th_r ?_
  have A2 := A.keep hb1.out
  have A3 : SB 91 w1 (γ1 0) [.v (.func (.func 6) #[] #[]), .v (.func (.func 10) #[] #[]), .v (.func (.func 12) #[] #[]), .v (.func (.func 11) #[] #[]), .i .i64 32, .v (.slice (some ⟨gb, 0, none⟩) n n)] := (hB1 0 (by decide)).2
  have le3 := (hB1 0 (by decide)).1
  have HB4 := (Chg.refl gb gb w).then hb1.out
  refine wp_seq (region_0 [3, 4, 5, 6] [.pointer (some ⟨(γ1 0), 5, none⟩), .slice (some ⟨gb, 0, none⟩) n n, .int .i64 ((n : Nat) : Int), .int .i64 0] ?_ ?_)
  · refine stpx (fun _ _ => ex_field faBu_1 rfl) ?_
    refine stpv (fun γ w h => ex_load1 5 (s := .v (.slice (some ⟨gb, 0, none⟩) n n)) (v := .slice (some ⟨gb, 0, none⟩) n n) sgSP rfl (A3.keep h.out) rfl rfl rfl) ?_
    refine stpx (fun _ _ => ex_lenR slP1 (m := n) rfl) ?_
    refine stpx (fun _ _ => ex_move _) ?_
    exact GSteps.nil
  intro w5 hb5
  refine th_r ?_
  have A6 := A2.keep hb5.out
  have A7 := A3.keep hb5.out
  have HB8 := HB4.then hb5.out
  refine wp_block ?_
  refine wp_loop_by (n) (fun q_ a_ v_ => ∃ j2 j7 j8 j9 j10 j11 j12 j13 j14 j15 j16 j17 : Value, a_ = ⟨#[sv [.v (.func (.func 6) #[] #[]), .v (.func (.func 10) #[] #[]), .v (.func (.func 12) #[] #[]), .v (.func (.func 11) #[] #[]), .i .i64 32, .v (.slice (some ⟨gb, 0, none⟩) n n)], .pointer (some ⟨(γ1 0), 0, none⟩), j2, .pointer (some ⟨(γ1 0), 5, none⟩), .slice (some ⟨gb, 0, none⟩) n n, .int .i64 ((n : Nat) : Int), .int .i64 ((q_ : Nat) : Int), j7, j8, j9, j10, j11, j12, j13, j14, j15, j16, j17], []⟩ ∧ SB 28 v_ (gb) (cat (emF F q_) n) ∧ SB 91 v_ (γ1 0) [.v (.func (.func 6) #[] #[]), .v (.func (.func 10) #[] #[]), .v (.func (.func 12) #[] #[]), .v (.func (.func 11) #[] #[]), .i .i64 32, .v (.slice (some ⟨gb, 0, none⟩) n n)] ∧ Chg (gb) (gb) w v_) ⟨_, _, _, _, _, _, _, _, _, _, _, _, rfl, A6, A7, HB8⟩ ?_ ?_
  · intro k9 hk9
    rintro _ w9 ⟨i9_2, i9_7, i9_8, i9_9, i9_10, i9_11, i9_12, i9_13, i9_14, i9_15, i9_16, i9_17, rfl, A9_0, A9_1, HB9⟩ K9 hK9
    refine wp_seq (region_0 [7] [.bool true] ?_ ?_)
    · refine stpx (fun _ _ => ex_ilss rfl rfl true (by rw [eq_comm, decide_eq_true_eq]; omega)) ?_
      exact GSteps.nil
    intro w10 hb10
    refine th_r ?_
    have A11 := A9_0.keep hb10.out
    have A12 := A9_1.keep hb10.out
    have HB13 := HB9.then hb10.out
    refine wp_seq ?_
    refine wp_cond_true rfl ?_
    refine wp_skip ?_
    refine th_r ?_
    refine wp_seq ?_
    refine wp_block ?_
    refine wp_seq (region_0 [8, 2] [.int .i64 ((k9 : Nat) : Int), .int .i64 ((k9 : Nat) : Int)] ?_ ?_)
    · refine stpx (fun _ _ => ex_move _) ?_
      refine stpx (fun _ _ => ex_assign _) ?_
      exact GSteps.nil
    intro w14 hb14
    refine th_r ?_
    have A15 := A11.keep hb14.out
    have A16 := A12.keep hb14.out
    have HB17 := HB13.then hb14.out
    refine region_s 8 (gb) (13 * k9) (segs [.n 6 (ax Z1.pt), .n 6 (ay Z1.pt), .b (ai Z1.pt)]) [9, 10, 11, 12, 13, 14, 15, 16] [.pointer (some ⟨(γ1 0), 5, none⟩), .slice (some ⟨gb, 0, none⟩) n n, .int .i64 ((k9 : Nat) : Int), .pointer (some ⟨(γ1 0), 0, none⟩), .pointer (some ⟨(γ1 0), 1, none⟩), .func (.func 10) #[] #[], sv [.n 6 (ax Z1.pt), .n 6 (ay Z1.pt), .b (ai Z1.pt)], .pointer (some ⟨gb, 13 * k9, none⟩)] ?_ ?_
    · refine latv (fun γ w h => ex_field faBu_1 rfl) ?_
      refine latv (fun γ w h => ex_load1 5 (s := .v (.slice (some ⟨gb, 0, none⟩) n n)) (v := .slice (some ⟨gb, 0, none⟩) n n) sgSP rfl (A16.keep h.out) rfl rfl rfl) ?_
      refine latv (fun γ w h => ex_move _) ?_
      refine latv (fun γ w h => ex_field faBu_0 rfl) ?_
      refine latv (fun γ w h => ex_field faSc1_1 rfl) ?_
      refine latv (fun γ w h => ex_load1 1 (s := .v (.func (.func 10) #[] #[])) (v := .func (.func 10) #[] #[]) sgF1_1 rfl (A16.keep h.out) rfl rfl rfl) ?_
      refine latc (sv [.n 6 (ax Z1.pt), .n 6 (ay Z1.pt), .b (ai Z1.pt)]) (fun γ w => ex_call (vs := []) rfl Try.call10 rfl) (fun w h => oneZero_p _) ?_
      refine latv (fun γ w h => ex_ownR slP1 (g := gb) (m := n) (c := n) (i := k9) rfl rfl hk9) ?_
      refine GSteps.cons (late_store rfl (fun _ => rfl) (fun γ w h => ex_storeR (i := k9) (S := emF F k9) (l := [.n 6 (ax Z1.pt), .n 6 (ay Z1.pt), .b (ai Z1.pt)]) flG1 (emF_size hF k9) rfl (A15.keep h.out) hk9 rfl rfl rfl) rfl) ?_
      exact GSteps.nil
    intro w18 w18_ hb18 hs18
    have A19 := A15.keep hb18.out
    have A20 := A16.keep hb18.out
    have HB21 := HB17.then hb18.out
    have A22 : SB 28 w18_ gb (cat (emF F (k9 + 1)) n) := hs18.elem (S := emF F k9) (emF_size hF k9) rfl A19 hk9 (emF_here F k9) (fun j _ hj => emF_other F k9 j hj)
    have A23 := hs18.other (Ne.symm (Nat.ne_of_lt (Nat.lt_of_lt_of_le A.lt le3))) A20
    have HB24 := HB21.old hs18 (.inl rfl)
    refine bk_n ?_
    refine th_r ?_
    refine wp_region_lit ?_
    refine sv1 (.int .i64 ((k9 + 1 : Nat) : Int)) (ex_iadd rfl rfl ((k9 + 1 : Nat) : Int) (cnt_up (by omega))) ?_
    refine sv1 (.int .i64 ((k9 + 1 : Nat) : Int)) (ex_move _) ?_
    refine wpList_nil ?_
    refine th_r ?_
    exact hK9.out _ _ ⟨_, _, _, _, _, _, _, _, _, _, _, _, rfl, A22, A23, HB24⟩
  · rintro _ w25 ⟨i25_2, i25_7, i25_8, i25_9, i25_10, i25_11, i25_12, i25_13, i25_14, i25_15, i25_16, i25_17, rfl, A25_0, A25_1, HB25⟩ K25
    refine wp_seq (region_0 [7] [.bool false] ?_ ?_)
    · refine stpx (fun _ _ => ex_ilss rfl rfl false (by rw [eq_comm, decide_eq_false_iff_not]; omega)) ?_
      exact GSteps.nil
    intro w26 hb26
    refine th_r ?_
    have A27 := A25_0.keep hb26.out
    have A28 := A25_1.keep hb26.out
    have HB29 := HB25.then hb26.out
    refine wp_seq ?_
    refine wp_cond_false rfl ?_
    refine wp_exit (th_e (th_e (bk_e ?_)))
    exact bodyPost_end (ret0 Try.results62) rfl ⟨rfl, HB29, by rw [← emF_end F n]; exact A27⟩
def bkF (S : Nat → E1) (D : Nat → Nat) (B : Nat → E1) : Nat → Nat → E1
  | 0 => B
  | q + 1 => fun d => if 0 < D q ∧ d = D q - 1 then (bkF S D B q d).add C1 (S q) else bkF S D B q d
theorem bkF_here (S : Nat → E1) (D : Nat → Nat) (B : Nat → E1) (q : Nat) (h : 0 < D q) : bkF S D B (q + 1) (D q - 1) = (bkF S D B q (D q - 1)).add C1 (S q) := if_pos ⟨h, rfl⟩
theorem bkF_other (S : Nat → E1) (D : Nat → Nat) (B : Nat → E1) (q j : Nat) (h : j ≠ D q - 1) : bkF S D B q j = bkF S D B (q + 1) j := (if_neg (fun c => h c.2)).symm
theorem bkF_none (S : Nat → E1) (D : Nat → Nat) (B : Nat → E1) (q : Nat) (h : D q = 0) : bkF S D B (q + 1) = bkF S D B q := funext fun d => if_neg (fun c => by omega)
set_option maxRecDepth 20000 in
set_option maxHeartbeats 4000000 in
theorem sufill_v (S : Nat → E1) (D : Nat → Nat) (B : Nat → E1) (m n gb gd : Nat) (hm : m ≤ 4096) (hn : n < 1000) (hD : ∀ i, i < m → D i ≤ n) (ap : Option Addr) (cp : Nat) (hne : gb ≠ gd) (w : World) (A : SB 28 w gb (cat (fun i => pt1 (B i)) n)) (AD : SB 3 w gd (ints D m)) (HP : ∀ w', Chg gb gb w w' → Row w' ap 13 m (fun i => pt1 (S i))) :
    Calls Try.prog 63 #[sv [.v (.func (.func 6) #[] #[]), .v (.func (.func 10) #[] #[]), .v (.func (.func 12) #[] #[]), .v (.func (.func 11) #[] #[]), .i .i64 32, .v (.slice (some ⟨gb, 0, none⟩) n n)], .slice ap m cp, .slice (some ⟨gd, 0, none⟩) m m] w (fun e w' => e = .returned (.tuple #[]) ∧ (Chg gb gb w w' ∧ SB 28 w' gb (cat (fun i => pt1 (bkF S D B m i)) n))) := by
  go_enter Try.func63, Try.ntmps63
  refine wp_seq (region_c 1 (fun _ => 91) (fun _ => 0) (fun _ => 0) (fun _ => segs [.v (.func (.func 6) #[] #[]), .v (.func (.func 10) #[] #[]), .v (.func (.func 12) #[] #[]), .v (.func (.func 11) #[] #[]), .i .i64 32, .v (.slice (some ⟨gb, 0, none⟩) n n)]) (fun _ => segs [.v (.func (.func 6) #[] #[]), .v (.func (.func 10) #[] #[]), .v (.func (.func 12) #[] #[]), .v (.func (.func 11) #[] #[]), .i .i64 32, .v (.slice (some ⟨gb, 0, none⟩) n n)]) [3] (fun γ => [.pointer (some ⟨γ 0, 0, none⟩)]) ?_ ?_)
  · refine GSteps.cons (gm_box 0 rfl (fun _ => rfl) (fun _ _ => rfl) (fun γ w h => ex_boxs (l := [.v (.func (.func 6) #[] #[]), .v (.func (.func 10) #[] #[]), .v (.func (.func 12) #[] #[]), .v (.func (.func 11) #[] #[]), .i .i64 32, .v (.slice (some ⟨gb, 0, none⟩) n n)]) rfl) rfl rfl rfl) ?_
    exact GSteps.nil
  intro γ1 w1 hb1 hB1 _
  refine th_r ?_
  have A2 := A.keep hb1.out
  have A3 := AD.keep hb1.out
  have A4 : SB 91 w1 (γ1 0) [.v (.func (.func 6) #[] #[]), .v (.func (.func 10) #[] #[]), .v (.func (.func 12) #[] #[]), .v (.func (.func 11) #[] #[]), .i .i64 32, .v (.slice (some ⟨gb, 0, none⟩) n n)] := (hB1 0 (by decide)).2
  have le4 := (hB1 0 (by decide)).1
  have HB5 := (Chg.refl gb gb w).then hb1.out
  refine wp_seq (region_0 [8, 9, 10] [.slice (some ⟨gd, 0, none⟩) m m, .int .i64 ((m : Nat) : Int), .int .i64 0] ?_ ?_)
  · refine stpx (fun _ _ => ex_move _) ?_
    refine stpx (fun _ _ => ex_lenI (m := m) rfl) ?_
    refine stpx (fun _ _ => ex_move _) ?_
    exact GSteps.nil
  intro w6 hb6
  refine th_r ?_
  have A7 := A2.keep hb6.out
  have A8 := A3.keep hb6.out
  have A9 := A4.keep hb6.out
  have HB10 := HB5.then hb6.out
  refine wp_block ?_
  refine wp_loop_by (m) (fun q_ a_ v_ => ∃ j6 j7 j11 j12 j13 j14 j15 j16 j17 j18 j19 j20 j21 j22 j23 j24 j25 j26 j27 j28 j29 j30 j31 j32 j33 j34 j35 : Value, a_ = ⟨List.toArray ((sv [.v (.func (.func 6) #[] #[]), .v (.func (.func 10) #[] #[]), .v (.func (.func 12) #[] #[]), .v (.func (.func 11) #[] #[]), .i .i64 32, .v (.slice (some ⟨gb, 0, none⟩) n n)]) :: (.slice ap m cp) :: (.slice (some ⟨gd, 0, none⟩) m m) :: (.pointer (some ⟨(γ1 0), 0, none⟩)) :: undef :: undef :: j6 :: j7 :: (.slice (some ⟨gd, 0, none⟩) m m) :: (.int .i64 ((m : Nat) : Int)) :: (.int .i64 ((q_ : Nat) : Int)) :: j11 :: j12 :: j13 :: j14 :: j15 :: j16 :: j17 :: j18 :: j19 :: j20 :: j21 :: j22 :: j23 :: j24 :: j25 :: j26 :: j27 :: j28 :: j29 :: j30 :: j31 :: j32 :: j33 :: j34 :: j35 :: []), []⟩ ∧ SB 28 v_ (gb) (cat (fun i => pt1 (bkF S D B q_ i)) n) ∧ SB 3 v_ (gd) (ints D m) ∧ SB 91 v_ (γ1 0) [.v (.func (.func 6) #[] #[]), .v (.func (.func 10) #[] #[]), .v (.func (.func 12) #[] #[]), .v (.func (.func 11) #[] #[]), .i .i64 32, .v (.slice (some ⟨gb, 0, none⟩) n n)] ∧ Chg (gb) (gb) w v_) ⟨_, _, _, _, _, _, _, _, _, _, _, _, _, _, _, _, _, _, _, _, _, _, _, _, _, _, _, rfl, A7, A8, A9, HB10⟩ ?_ ?_
  · intro k11 hk11
    rintro _ w11 ⟨i11_6, i11_7, i11_11, i11_12, i11_13, i11_14, i11_15, i11_16, i11_17, i11_18, i11_19, i11_20, i11_21, i11_22, i11_23, i11_24, i11_25, i11_26, i11_27, i11_28, i11_29, i11_30, i11_31, i11_32, i11_33, i11_34, i11_35, rfl, A11_0, A11_1, A11_2, HB11⟩ K11 hK11
    have hq := hk11
    refine wp_seq (region_0 [11] [.bool true] ?_ ?_)
    · refine stpx (fun _ _ => ex_ilss rfl rfl true (by rw [eq_comm, decide_eq_true_eq]; omega)) ?_
      exact GSteps.nil
    intro w12 hb12
    refine th_r ?_
    have A13 := A11_0.keep hb12.out
    have A14 := A11_1.keep hb12.out
    have A15 := A11_2.keep hb12.out
    have HB16 := HB11.then hb12.out
    refine wp_seq ?_
    refine wp_cond_true rfl ?_
    refine wp_skip ?_
    refine th_r ?_
    refine wp_seq ?_
    refine wp_block ?_
    refine wp_seq (region_0 [12, 13, 14, 6, 7] [.int .i64 ((k11 : Nat) : Int), .pointer (some ⟨gd, k11, none⟩), .int .i64 ((D k11 : Nat) : Int), .int .i64 ((k11 : Nat) : Int), .int .i64 ((D k11 : Nat) : Int)] ?_ ?_)
    · refine stpx (fun _ _ => ex_move _) ?_
      refine stpx (fun _ _ => ex_idxI (g := gd) (m := m) (c := m) (i := k11) rfl rfl hk11) ?_
      refine stpv (fun γ w h => ex_loadI (D := D) (A14.keep h.out) hk11 rfl) ?_
      refine stpx (fun _ _ => ex_assign _) ?_
      refine stpx (fun _ _ => ex_assign _) ?_
      exact GSteps.nil
    intro w17 hb17
    refine th_r ?_
    have A18 := A13.keep hb17.out
    have A19 := A14.keep hb17.out
    have A20 := A15.keep hb17.out
    have HB21 := HB16.then hb17.out
    rcases Nat.eq_zero_or_pos (D k11) with hd | hd
    · refine wp_seq (region_0 [15, 16] [.int .i64 ((D k11 : Nat) : Int), .bool false] ?_ ?_)
      · refine stpx (fun _ _ => ex_move _) ?_
        refine stpx (fun _ _ => ex_igtr rfl rfl false (by rw [eq_comm, decide_eq_false_iff_not]; omega)) ?_
        exact GSteps.nil
      intro w22 hb22
      refine th_r ?_
      have A23 := A18.keep hb22.out
      have A24 := A19.keep hb22.out
      have A25 := A20.keep hb22.out
      have HB26 := HB21.then hb22.out
      refine wp_cond_false rfl ?_
      refine wp_skip ?_
      refine bk_n ?_
      refine th_r ?_
      refine wp_region_lit ?_
      refine sv1 (.int .i64 ((k11 + 1 : Nat) : Int)) (ex_iadd rfl rfl ((k11 + 1 : Nat) : Int) (cnt_up (by omega))) ?_
      refine sv1 (.int .i64 ((k11 + 1 : Nat) : Int)) (ex_move _) ?_
      refine wpList_nil ?_
      refine th_r ?_
      exact hK11.out _ _ ⟨_, _, _, _, _, _, _, _, _, _, _, _, _, _, _, _, _, _, _, _, _, _, _, _, _, _, _, rfl, (by first | exact A23 | (rw [bkF_none S D B _ hd]; exact A23)), (by first | exact A24 | (rw [bkF_none S D B _ hd]; exact A24)), A25, HB26⟩
    · have hdn : D k11 - 1 < n := by have := hD k11 hq; omega
      refine wp_seq (region_0 [15, 16] [.int .i64 ((D k11 : Nat) : Int), .bool true] ?_ ?_)
      · refine stpx (fun _ _ => ex_move _) ?_
        refine stpx (fun _ _ => ex_igtr rfl rfl true (by rw [eq_comm, decide_eq_true_eq]; omega)) ?_
        exact GSteps.nil
      intro w27 hb27
      refine th_r ?_
      have A28 := A18.keep hb27.out
      have A29 := A19.keep hb27.out
      have A30 := A20.keep hb27.out
      have HB31 := HB21.then hb27.out
      refine wp_cond_true rfl ?_
      obtain ⟨g32, o32, ha32, lg32, hr32⟩ := HP _ HB31 k11 hq
      skip
      · refine region_s 18 (gb) (13 * (D k11 - 1)) (segs [.n 6 (ax (((bkF S D B (k11 + 1) (D k11 - 1))).pt)), .n 6 (ay (((bkF S D B (k11 + 1) (D k11 - 1))).pt)), .b (ai (((bkF S D B (k11 + 1) (D k11 - 1))).pt))]) [17, 18, 19, 20, 21, 22, 23, 24, 25, 26, 27, 28, 29, 30, 31, 32, 33, 34] [.pointer (some ⟨(γ1 0), 5, none⟩), .slice (some ⟨gb, 0, none⟩) n n, .int .i64 ((D k11 : Nat) : Int), .int .i64 ((D k11 - 1 : Nat) : Int), .pointer (some ⟨(γ1 0), 0, none⟩), sv [.v (.func (.func 6) #[] #[]), .v (.func (.func 10) #[] #[]), .v (.func (.func 12) #[] #[]), .v (.func (.func 11) #[] #[]), .i .i64 32], .pointer (some ⟨(γ1 0), 5, none⟩), .slice (some ⟨gb, 0, none⟩) n n, .int .i64 ((D k11 : Nat) : Int), .int .i64 ((D k11 - 1 : Nat) : Int), .pointer (some ⟨gb, 13 * (D k11 - 1), none⟩), sv [.n 6 (ax (((bkF S D B k11 (D k11 - 1))).pt)), .n 6 (ay (((bkF S D B k11 (D k11 - 1))).pt)), .b (ai (((bkF S D B k11 (D k11 - 1))).pt))], .slice ap m cp, .int .i64 ((k11 : Nat) : Int), .pointer (some ⟨g32, o32 + 13 * k11, none⟩), sv [.n 6 (ax ((S k11).pt)), .n 6 (ay ((S k11).pt)), .b (ai ((S k11).pt))], sv [.n 6 (ax (((bkF S D B (k11 + 1) (D k11 - 1))).pt)), .n 6 (ay (((bkF S D B (k11 + 1) (D k11 - 1))).pt)), .b (ai (((bkF S D B (k11 + 1) (D k11 - 1))).pt))], .pointer (some ⟨gb, 13 * (D k11 - 1), none⟩)] ?_ ?_
        · refine latv (fun γ w h => ex_field faBu_1 rfl) ?_
          refine latv (fun γ w h => ex_load1 5 (s := .v (.slice (some ⟨gb, 0, none⟩) n n)) (v := .slice (some ⟨gb, 0, none⟩) n n) sgSP rfl (A30.keep h.out) rfl rfl rfl) ?_
          refine latv (fun γ w h => ex_move _) ?_
          refine latv (fun γ w h => ex_isub rfl rfl ((D k11 - 1 : Nat) : Int) (by have := hD k11 hk11; rw [wrapI64 (by omega) (by omega)]; omega)) ?_
          refine latv (fun γ w h => ex_field faBu_0 rfl) ?_
          refine latv (fun γ w h => ex_loads 0 5 (m := [.v (.func (.func 6) #[] #[]), .v (.func (.func 10) #[] #[]), .v (.func (.func 12) #[] #[]), .v (.func (.func 11) #[] #[]), .i .i64 32]) flSc1 rfl rfl (A30.keep h.out) rfl rfl) ?_
          refine latv (fun γ w h => ex_field faBu_1 rfl) ?_
          refine latv (fun γ w h => ex_load1 5 (s := .v (.slice (some ⟨gb, 0, none⟩) n n)) (v := .slice (some ⟨gb, 0, none⟩) n n) sgSP rfl (A30.keep h.out) rfl rfl rfl) ?_
          refine latv (fun γ w h => ex_move _) ?_
          refine latv (fun γ w h => ex_isub rfl rfl ((D k11 - 1 : Nat) : Int) (by have := hD k11 hk11; rw [wrapI64 (by omega) (by omega)]; omega)) ?_
          refine latv (fun γ w h => ex_ownR slP1 (g := gb) (m := n) (c := n) (i := D k11 - 1) rfl rfl hdn) ?_
          refine latv (fun γ w h => ex_loadO (S := fun i => pt1 ((bkF S D B k11) i)) flG1 (fun _ => rfl) (A28.keep h.out) hdn rfl rfl) ?_
          refine latv (fun γ w h => ex_move _) ?_
          refine latv (fun γ w h => ex_move _) ?_
          refine latv (fun γ w h => ex_idxR slP1 (a := ap) (m := m) (c := cp) (i := k11) rfl ha32 rfl hq) ?_
          refine latv (fun γ w h => ex_loadR (l := [.n 6 (ax ((S k11).pt)), .n 6 (ay ((S k11).pt)), .b (ai ((S k11).pt))]) flG1 rfl rfl (range_keep lg32 h.out hr32)) ?_
          refine latc (sv [.n 6 (ax (((bkF S D B (k11 + 1) (D k11 - 1))).pt)), .n 6 (ay (((bkF S D B (k11 + 1) (D k11 - 1))).pt)), .b (ai (((bkF S D B (k11 + 1) (D k11 - 1))).pt))]) (fun γ w => ex_call (vs := [sv [.v (.func (.func 6) #[] #[]), .v (.func (.func 10) #[] #[]), .v (.func (.func 12) #[] #[]), .v (.func (.func 11) #[] #[]), .i .i64 32], sv [.n 6 (ax (((bkF S D B k11 (D k11 - 1))).pt)), .n 6 (ay (((bkF S D B k11 (D k11 - 1))).pt)), .b (ai (((bkF S D B k11 (D k11 - 1))).pt))], sv [.n 6 (ax ((S k11).pt)), .n 6 (ay ((S k11).pt)), .b (ai ((S k11).pt))]]) rfl Try.call56 rfl) (fun w h => scPlus1_p (bkF S D B k11 (D k11 - 1)) (S k11) _ (bkF_here S D B k11 hd).symm _) ?_
          refine latv (fun γ w h => ex_ownR slP1 (g := gb) (m := n) (c := n) (i := D k11 - 1) rfl rfl hdn) ?_
          refine GSteps.cons (late_store rfl (fun _ => rfl) (fun γ w h => ex_storeR (i := D k11 - 1) (S := fun i => pt1 (bkF S D B k11 i)) (l := [.n 6 (ax (((bkF S D B (k11 + 1) (D k11 - 1))).pt)), .n 6 (ay (((bkF S D B (k11 + 1) (D k11 - 1))).pt)), .b (ai (((bkF S D B (k11 + 1) (D k11 - 1))).pt))]) flG1 (fun _ => rfl) rfl (A28.keep h.out) hdn rfl rfl rfl) rfl) ?_
          exact GSteps.nil
        intro w33 w33_ hb33 hs33
        have A34 := A28.keep hb33.out
        have A35 := A29.keep hb33.out
        have A36 := A30.keep hb33.out
        have HB37 := HB31.then hb33.out
        have A38 : SB 28 w33_ gb (cat (fun i => pt1 (bkF S D B (k11 + 1) i)) n) := hs33.elem (S := fun i => pt1 (bkF S D B k11 i)) (fun _ => rfl) rfl A34 hdn rfl (fun j _ hj => by rw [bkF_other S D B k11 j hj])
        have A39 := hs33.other hne.symm A35
        have A40 := hs33.other (Ne.symm (Nat.ne_of_lt (Nat.lt_of_lt_of_le A.lt le4))) A36
        have HB41 := HB37.old hs33 (.inl rfl)
        refine bk_n ?_
        refine th_r ?_
        refine wp_region_lit ?_
        refine sv1 (.int .i64 ((k11 + 1 : Nat) : Int)) (ex_iadd rfl rfl ((k11 + 1 : Nat) : Int) (cnt_up (by omega))) ?_
        refine sv1 (.int .i64 ((k11 + 1 : Nat) : Int)) (ex_move _) ?_
        refine wpList_nil ?_
        refine th_r ?_
        exact hK11.out _ _ ⟨_, _, _, _, _, _, _, _, _, _, _, _, _, _, _, _, _, _, _, _, _, _, _, _, _, _, _, rfl, (by first | exact A38 | (rw [bkF_none S D B _ hd]; exact A38)), (by first | exact A39 | (rw [bkF_none S D B _ hd]; exact A39)), A40, HB41⟩
  · rintro _ w42 ⟨i42_6, i42_7, i42_11, i42_12, i42_13, i42_14, i42_15, i42_16, i42_17, i42_18, i42_19, i42_20, i42_21, i42_22, i42_23, i42_24, i42_25, i42_26, i42_27, i42_28, i42_29, i42_30, i42_31, i42_32, i42_33, i42_34, i42_35, rfl, A42_0, A42_1, A42_2, HB42⟩ K42
    refine wp_seq (region_0 [11] [.bool false] ?_ ?_)
    · refine stpx (fun _ _ => ex_ilss rfl rfl false (by rw [eq_comm, decide_eq_false_iff_not]; omega)) ?_
      exact GSteps.nil
    intro w43 hb43
    refine th_r ?_
    have A44 := A42_0.keep hb43.out
    have A45 := A42_1.keep hb43.out
    have A46 := A42_2.keep hb43.out
    have HB47 := HB42.then hb43.out
    refine wp_seq ?_
    refine wp_cond_false rfl ?_
    refine wp_exit (th_e (th_e (bk_e ?_)))
    exact bodyPost_end (ret0 Try.results63) rfl ⟨rfl, HB47, A44⟩
def abF (B : Nat → E1) (n : Nat) : Nat → E1
  | 0 => Z1
  | q + 1 => (abF B n q).add C1 (B (n - 1 - q))
def smF (B : Nat → E1) (n : Nat) : Nat → E1
  | 0 => Z1
  | q + 1 => (smF B n q).add C1 (abF B n (q + 1))
set_option maxRecDepth 20000 in
set_option maxHeartbeats 4000000 in
theorem sutotal_v (B : Nat → E1) (n gb : Nat) (hn : n < 1000) (w : World) (A : SB 28 w gb (cat (fun i => pt1 (B i)) n)) :
    Calls Try.prog 64 #[sv [.v (.func (.func 6) #[] #[]), .v (.func (.func 10) #[] #[]), .v (.func (.func 12) #[] #[]), .v (.func (.func 11) #[] #[]), .i .i64 32, .v (.slice (some ⟨gb, 0, none⟩) n n)]] w (Is (sv [.n 6 (ax (((smF B n n)).pt)), .n 6 (ay (((smF B n n)).pt)), .b (ai (((smF B n n)).pt))]) w) := by
  go_enter Try.func64, Try.ntmps64
  refine wp_seq (region_c 2 (fun j_ => match j_ with | 0 => 91 | _ => 28) (fun j_ => match j_ with | 0 => 0 | _ => 1) (fun j_ => match j_ with | 0 => 0 | _ => 1) (fun j_ => match j_ with | 0 => segs [.v (.func (.func 6) #[] #[]), .v (.func (.func 10) #[] #[]), .v (.func (.func 12) #[] #[]), .v (.func (.func 11) #[] #[]), .i .i64 32, .v (.slice (some ⟨gb, 0, none⟩) n n)] | _ => segs [.n 6 0, .n 6 0, .b false]) (fun j_ => match j_ with | 0 => segs [.v (.func (.func 6) #[] #[]), .v (.func (.func 10) #[] #[]), .v (.func (.func 12) #[] #[]), .v (.func (.func 11) #[] #[]), .i .i64 32, .v (.slice (some ⟨gb, 0, none⟩) n n)] | _ => segs [.n 6 0, .n 6 0, .b false]) [1, 2] (fun γ => [.pointer (some ⟨γ 0, 0, none⟩), .pointer (some ⟨γ 1, 0, none⟩)]) ?_ ?_)
  · refine GSteps.cons (gm_box 0 rfl (fun _ => rfl) (fun _ _ => rfl) (fun γ w h => ex_boxs (l := [.v (.func (.func 6) #[] #[]), .v (.func (.func 10) #[] #[]), .v (.func (.func 12) #[] #[]), .v (.func (.func 11) #[] #[]), .i .i64 32, .v (.slice (some ⟨gb, 0, none⟩) n n)]) rfl) rfl rfl rfl) ?_
    refine GSteps.cons (gm_box 1 rfl (fun _ => rfl) (fun _ _ => rfl) (fun γ w h => ex_allocs (l := [.n 6 0, .n 6 0, .b false]) zG1) rfl rfl rfl) ?_
    exact GSteps.nil
  intro γ1 w1 hb1 hB1 hn1
  refine th_r ?_
  have A2 := A.keep hb1.out
  have A3 : SB 91 w1 (γ1 0) [.v (.func (.func 6) #[] #[]), .v (.func (.func 10) #[] #[]), .v (.func (.func 12) #[] #[]), .v (.func (.func 11) #[] #[]), .i .i64 32, .v (.slice (some ⟨gb, 0, none⟩) n n)] := (hB1 0 (by decide)).2
  have le3 := (hB1 0 (by decide)).1
  have A4 : SB 28 w1 (γ1 1) [.n 6 0, .n 6 0, .b false] := (hB1 1 (by decide)).2
  have le4 := (hB1 1 (by decide)).1
  have HB5 := below_then (Below.refl w.heap.size w) hb1.out
  refine wp_seq (region_c 2 (fun j_ => match j_ with | 0 => 28 | _ => 28) (fun j_ => match j_ with | 0 => 8 | _ => 9) (fun j_ => match j_ with | 0 => 10 | _ => 11) (fun j_ => match j_ with | 0 => segs [.n 6 0, .n 6 0, .b false] | _ => segs [.n 6 0, .n 6 0, .b false]) (fun j_ => match j_ with | 0 => segs [.n 6 (ax Z1.pt), .n 6 (ay Z1.pt), .b (ai Z1.pt)] | _ => segs [.n 6 (ax Z1.pt), .n 6 (ay Z1.pt), .b (ai Z1.pt)]) [6, 7, 8, 9, 10, 11, 12, 13, 3, 4] (fun γ => [.pointer (some ⟨(γ1 0), 0, none⟩), .pointer (some ⟨(γ1 0), 1, none⟩), .func (.func 10) #[] #[], sv [.n 6 (ax Z1.pt), .n 6 (ay Z1.pt), .b (ai Z1.pt)], .pointer (some ⟨(γ1 0), 0, none⟩), .pointer (some ⟨(γ1 0), 1, none⟩), .func (.func 10) #[] #[], sv [.n 6 (ax Z1.pt), .n 6 (ay Z1.pt), .b (ai Z1.pt)], .pointer (some ⟨γ 0, 0, none⟩), .pointer (some ⟨γ 1, 0, none⟩)]) ?_ ?_)
  · refine stpx (fun _ _ => ex_field faBu_0 rfl) ?_
    refine stpx (fun _ _ => ex_field faSc1_1 rfl) ?_
    refine stpv (fun γ w h => ex_load1 1 (s := .v (.func (.func 10) #[] #[])) (v := .func (.func 10) #[] #[]) sgF1_1 rfl (A3.keep h.out) rfl rfl rfl) ?_
    refine stpc (sv [.n 6 (ax Z1.pt), .n 6 (ay Z1.pt), .b (ai Z1.pt)]) (fun γ w => ex_call (vs := []) rfl Try.call10 rfl) (fun w h => oneZero_p _) ?_
    refine stpx (fun _ _ => ex_field faBu_0 rfl) ?_
    refine stpx (fun _ _ => ex_field faSc1_1 rfl) ?_
    refine stpv (fun γ w h => ex_load1 1 (s := .v (.func (.func 10) #[] #[])) (v := .func (.func 10) #[] #[]) sgF1_1 rfl (A3.keep h.out) rfl rfl rfl) ?_
    refine stpc (sv [.n 6 (ax Z1.pt), .n 6 (ay Z1.pt), .b (ai Z1.pt)]) (fun γ w => ex_call (vs := []) rfl Try.call10 rfl) (fun w h => oneZero_p _) ?_
    refine GSteps.cons (gm_new 0 rfl (fun _ => rfl) (fun _ _ => rfl) (fun γ w => ex_allocs (l := [.n 6 0, .n 6 0, .b false]) zG1) rfl (by kernel_rfl)) ?_
    refine GSteps.cons (gm_new 1 rfl (fun _ => rfl) (fun _ _ => rfl) (fun γ w => ex_allocs (l := [.n 6 0, .n 6 0, .b false]) zG1) rfl (by kernel_rfl)) ?_
    refine GSteps.cons (gm_store 0 rfl rfl (fun _ => rfl) (len_segs (l := [.n 6 (ax Z1.pt), .n 6 (ay Z1.pt), .b (ai Z1.pt)]) (l' := [.n 6 0, .n 6 0, .b false]) rfl) (fun γ w h => ex_stores 0 3 (l := [.n 6 0, .n 6 0, .b false]) (m := [.n 6 (ax Z1.pt), .n 6 (ay Z1.pt), .b (ai Z1.pt)]) flG1.2 rfl rfl rfl rfl h rfl rfl) rfl rfl (by kernel_rfl)) ?_
    refine GSteps.cons (gm_store 1 rfl rfl (fun _ => rfl) (len_segs (l := [.n 6 (ax Z1.pt), .n 6 (ay Z1.pt), .b (ai Z1.pt)]) (l' := [.n 6 0, .n 6 0, .b false]) rfl) (fun γ w h => ex_stores 0 3 (l := [.n 6 0, .n 6 0, .b false]) (m := [.n 6 (ax Z1.pt), .n 6 (ay Z1.pt), .b (ai Z1.pt)]) flG1.2 rfl rfl rfl rfl h rfl rfl) rfl rfl (by kernel_rfl)) ?_
    exact GSteps.nil
  intro γ6 w6 hb6 hB6 hn6
  refine th_r ?_
  have A7 := A2.keep hb6.out
  have A8 := A3.keep hb6.out
  have A9 := A4.keep hb6.out
  have A10 : SB 28 w6 (γ6 0) [.n 6 (ax Z1.pt), .n 6 (ay Z1.pt), .b (ai Z1.pt)] := (hB6 0 (by decide)).2
  have le10 := (hB6 0 (by decide)).1
  have A11 : SB 28 w6 (γ6 1) [.n 6 (ax Z1.pt), .n 6 (ay Z1.pt), .b (ai Z1.pt)] := (hB6 1 (by decide)).2
  have le11 := (hB6 1 (by decide)).1
  have HB12 := below_then HB5 hb6.out
  refine wp_seq ?_
  refine wp_seq (region_0 [14, 15, 16, 17, 5] [.pointer (some ⟨(γ1 0), 5, none⟩), .slice (some ⟨gb, 0, none⟩) n n, .int .i64 ((n : Nat) : Int), .int .i64 ((n : Int) - 1 - ((0 : Nat) : Int)), .int .i64 ((n : Int) - 1 - ((0 : Nat) : Int))] ?_ ?_)
  · refine stpx (fun _ _ => ex_field faBu_1 rfl) ?_
    refine stpv (fun γ w h => ex_load1 5 (s := .v (.slice (some ⟨gb, 0, none⟩) n n)) (v := .slice (some ⟨gb, 0, none⟩) n n) sgSP rfl (A8.keep h.out) rfl rfl rfl) ?_
    refine stpx (fun _ _ => ex_lenR slP1 (m := n) rfl) ?_
    refine stpx (fun _ _ => ex_isub rfl rfl ((n : Int) - 1 - ((0 : Nat) : Int)) (by rw [wrapI64 (by omega) (by omega)]; omega)) ?_
    refine stpx (fun _ _ => ex_assign _) ?_
    exact GSteps.nil
  intro w13 hb13
  refine th_r ?_
  have A14 := A7.keep hb13.out
  have A15 := A8.keep hb13.out
  have A16 := A9.keep hb13.out
  have A17 := A10.keep hb13.out
  have A18 := A11.keep hb13.out
  have HB19 := below_then HB12 hb13.out
  refine wp_block ?_
  refine wp_loop_by (n) (fun q_ a_ v_ => ∃ j18 j19 j20 j21 j22 j23 j24 j25 j26 j27 j28 j29 j30 j31 j32 j33 j34 j35 : Value, a_ = ⟨List.toArray ((sv [.v (.func (.func 6) #[] #[]), .v (.func (.func 10) #[] #[]), .v (.func (.func 12) #[] #[]), .v (.func (.func 11) #[] #[]), .i .i64 32, .v (.slice (some ⟨gb, 0, none⟩) n n)]) :: (.pointer (some ⟨(γ1 0), 0, none⟩)) :: (.pointer (some ⟨(γ1 1), 0, none⟩)) :: (.pointer (some ⟨(γ6 0), 0, none⟩)) :: (.pointer (some ⟨(γ6 1), 0, none⟩)) :: (.int .i64 ((n : Int) - 1 - ((q_ : Nat) : Int))) :: (.pointer (some ⟨(γ1 0), 0, none⟩)) :: (.pointer (some ⟨(γ1 0), 1, none⟩)) :: (.func (.func 10) #[] #[]) :: (sv [.n 6 (ax Z1.pt), .n 6 (ay Z1.pt), .b (ai Z1.pt)]) :: (.pointer (some ⟨(γ1 0), 0, none⟩)) :: (.pointer (some ⟨(γ1 0), 1, none⟩)) :: (.func (.func 10) #[] #[]) :: (sv [.n 6 (ax Z1.pt), .n 6 (ay Z1.pt), .b (ai Z1.pt)]) :: (.pointer (some ⟨(γ1 0), 5, none⟩)) :: (.slice (some ⟨gb, 0, none⟩) n n) :: (.int .i64 ((n : Nat) : Int)) :: (.int .i64 ((n : Int) - 1 - ((0 : Nat) : Int))) :: j18 :: j19 :: j20 :: j21 :: j22 :: j23 :: j24 :: j25 :: j26 :: j27 :: j28 :: j29 :: j30 :: j31 :: j32 :: j33 :: j34 :: j35 :: undef :: []), []⟩ ∧ SB 28 v_ (gb) (cat (fun i => pt1 (B i)) n) ∧ SB 91 v_ (γ1 0) [.v (.func (.func 6) #[] #[]), .v (.func (.func 10) #[] #[]), .v (.func (.func 12) #[] #[]), .v (.func (.func 11) #[] #[]), .i .i64 32, .v (.slice (some ⟨gb, 0, none⟩) n n)] ∧ SB 28 v_ (γ1 1) [.n 6 0, .n 6 0, .b false] ∧ SB 28 v_ (γ6 0) [.n 6 (ax (((abF B n q_)).pt)), .n 6 (ay (((abF B n q_)).pt)), .b (ai (((abF B n q_)).pt))] ∧ SB 28 v_ (γ6 1) [.n 6 (ax (((smF B n q_)).pt)), .n 6 (ay (((smF B n q_)).pt)), .b (ai (((smF B n q_)).pt))] ∧ Below w.heap.size w v_) ⟨_, _, _, _, _, _, _, _, _, _, _, _, _, _, _, _, _, _, rfl, A14, A15, A16, A17, A18, HB19⟩ ?_ ?_
  · intro k20 hk20
    rintro _ w20 ⟨i20_18, i20_19, i20_20, i20_21, i20_22, i20_23, i20_24, i20_25, i20_26, i20_27, i20_28, i20_29, i20_30, i20_31, i20_32, i20_33, i20_34, i20_35, rfl, A20_0, A20_1, A20_2, A20_3, A20_4, HB20⟩ K20 hK20
    have en : (n : Int) - 1 - ((k20 : Nat) : Int) = ((n - 1 - k20 : Nat) : Int) := by omega
    rw [en]
    refine wp_seq ?_
    refine wp_seq (region_0 [18, 19] [.int .i64 ((n - 1 - k20 : Nat) : Int), .bool true] ?_ ?_)
    · refine stpx (fun _ _ => ex_move _) ?_
      refine stpx (fun _ _ => ex_igeq rfl rfl true (by rw [eq_comm, decide_eq_true_eq]; omega)) ?_
      exact GSteps.nil
    intro w21 hb21
    refine th_r ?_
    have A22 := A20_0.keep hb21.out
    have A23 := A20_1.keep hb21.out
    have A24 := A20_2.keep hb21.out
    have A25 := A20_3.keep hb21.out
    have A26 := A20_4.keep hb21.out
    have HB27 := below_then HB20 hb21.out
    refine wp_cond_true rfl ?_
    refine wp_skip ?_
    refine th_r ?_
    refine wp_seq ?_
    refine wp_block ?_
    refine wp_seq (region_s 9 ((γ6 0)) 0 (segs [.n 6 (ax (((abF B n (k20 + 1))).pt)), .n 6 (ay (((abF B n (k20 + 1))).pt)), .b (ai (((abF B n (k20 + 1))).pt))]) [22, 23, 24, 25, 26, 27, 28, 29, 30] [.pointer (some ⟨(γ1 0), 0, none⟩), sv [.v (.func (.func 6) #[] #[]), .v (.func (.func 10) #[] #[]), .v (.func (.func 12) #[] #[]), .v (.func (.func 11) #[] #[]), .i .i64 32], sv [.n 6 (ax (((abF B n k20)).pt)), .n 6 (ay (((abF B n k20)).pt)), .b (ai (((abF B n k20)).pt))], .pointer (some ⟨(γ1 0), 5, none⟩), .slice (some ⟨gb, 0, none⟩) n n, .int .i64 ((n - 1 - k20 : Nat) : Int), .pointer (some ⟨gb, 13 * (n - 1 - k20), none⟩), sv [.n 6 (ax (((B (n - 1 - k20))).pt)), .n 6 (ay (((B (n - 1 - k20))).pt)), .b (ai (((B (n - 1 - k20))).pt))], sv [.n 6 (ax (((abF B n (k20 + 1))).pt)), .n 6 (ay (((abF B n (k20 + 1))).pt)), .b (ai (((abF B n (k20 + 1))).pt))]] ?_ ?_)
    · refine latv (fun γ w h => ex_field faBu_0 rfl) ?_
      refine latv (fun γ w h => ex_loads 0 5 (m := [.v (.func (.func 6) #[] #[]), .v (.func (.func 10) #[] #[]), .v (.func (.func 12) #[] #[]), .v (.func (.func 11) #[] #[]), .i .i64 32]) flSc1 rfl rfl (A23.keep h.out) rfl rfl) ?_
      refine latv (fun γ w h => ex_loads 0 3 (m := [.n 6 (ax (((abF B n k20)).pt)), .n 6 (ay (((abF B n k20)).pt)), .b (ai (((abF B n k20)).pt))]) flG1 rfl rfl (A25.keep h.out) rfl rfl) ?_
      refine latv (fun γ w h => ex_field faBu_1 rfl) ?_
      refine latv (fun γ w h => ex_load1 5 (s := .v (.slice (some ⟨gb, 0, none⟩) n n)) (v := .slice (some ⟨gb, 0, none⟩) n n) sgSP rfl (A23.keep h.out) rfl rfl rfl) ?_
      refine latv (fun γ w h => ex_move _) ?_
      refine latv (fun γ w h => ex_ownR slP1 (g := gb) (m := n) (c := n) (i := n - 1 - k20) rfl rfl (by omega)) ?_
      refine latv (fun γ w h => ex_loadO (S := fun i => pt1 (B i)) flG1 (fun _ => rfl) (A22.keep h.out) (by omega) rfl rfl) ?_
      refine latc (sv [.n 6 (ax (((abF B n (k20 + 1))).pt)), .n 6 (ay (((abF B n (k20 + 1))).pt)), .b (ai (((abF B n (k20 + 1))).pt))]) (fun γ w => ex_call (vs := [sv [.v (.func (.func 6) #[] #[]), .v (.func (.func 10) #[] #[]), .v (.func (.func 12) #[] #[]), .v (.func (.func 11) #[] #[]), .i .i64 32], sv [.n 6 (ax (((abF B n k20)).pt)), .n 6 (ay (((abF B n k20)).pt)), .b (ai (((abF B n k20)).pt))], sv [.n 6 (ax (((B (n - 1 - k20))).pt)), .n 6 (ay (((B (n - 1 - k20))).pt)), .b (ai (((B (n - 1 - k20))).pt))]]) rfl Try.call56 rfl) (fun w h => scPlus1_p (abF B n k20) (B (n - 1 - k20)) _ rfl _) ?_
      refine GSteps.cons (late_store rfl (fun _ => rfl) (fun γ w h => ex_stores 0 3 (l := [.n 6 (ax (((abF B n k20)).pt)), .n 6 (ay (((abF B n k20)).pt)), .b (ai (((abF B n k20)).pt))]) (m := [.n 6 (ax (((abF B n (k20 + 1))).pt)), .n 6 (ay (((abF B n (k20 + 1))).pt)), .b (ai (((abF B n (k20 + 1))).pt))]) flG1.2 rfl rfl rfl rfl (A25.keep h.out) rfl rfl) rfl) ?_
      exact GSteps.nil
    intro w28 w28_ hb28 hs28
    refine th_r ?_
    have A29 := A22.keep hb28.out
    have A30 := A23.keep hb28.out
    have A31 := A24.keep hb28.out
    have A32 := A25.keep hb28.out
    have A33 := A26.keep hb28.out
    have HB34 := below_then HB27 hb28.out
    have A35 := hs28.other (Nat.ne_of_lt (Nat.lt_of_lt_of_le A2.lt le10)) A29
    have A36 := hs28.other (Nat.ne_of_lt (Nat.lt_of_lt_of_le A3.lt le10)) A30
    have A37 := hs28.other (Nat.ne_of_lt (Nat.lt_of_lt_of_le A4.lt le10)) A31
    have A38 := hs28.here 0 3 (l' := [.n 6 (ax (((abF B n (k20 + 1))).pt)), .n 6 (ay (((abF B n (k20 + 1))).pt)), .b (ai (((abF B n (k20 + 1))).pt))]) A32 rfl rfl rfl
    have A39 := hs28.other (Ne.symm (hn6 0 1 (by decide) (by decide) (by decide))) A33
    have HB40 := hs28.below HB34 (Nat.le_trans HB5.size le10)
    refine region_s 5 ((γ6 1)) 0 (segs [.n 6 (ax (((smF B n (k20 + 1))).pt)), .n 6 (ay (((smF B n (k20 + 1))).pt)), .b (ai (((smF B n (k20 + 1))).pt))]) [31, 32, 33, 34, 35] [.pointer (some ⟨(γ1 0), 0, none⟩), sv [.v (.func (.func 6) #[] #[]), .v (.func (.func 10) #[] #[]), .v (.func (.func 12) #[] #[]), .v (.func (.func 11) #[] #[]), .i .i64 32], sv [.n 6 (ax (((smF B n k20)).pt)), .n 6 (ay (((smF B n k20)).pt)), .b (ai (((smF B n k20)).pt))], sv [.n 6 (ax (((abF B n (k20 + 1))).pt)), .n 6 (ay (((abF B n (k20 + 1))).pt)), .b (ai (((abF B n (k20 + 1))).pt))], sv [.n 6 (ax (((smF B n (k20 + 1))).pt)), .n 6 (ay (((smF B n (k20 + 1))).pt)), .b (ai (((smF B n (k20 + 1))).pt))]] ?_ ?_
    · refine latv (fun γ w h => ex_field faBu_0 rfl) ?_
      refine latv (fun γ w h => ex_loads 0 5 (m := [.v (.func (.func 6) #[] #[]), .v (.func (.func 10) #[] #[]), .v (.func (.func 12) #[] #[]), .v (.func (.func 11) #[] #[]), .i .i64 32]) flSc1 rfl rfl (A36.keep h.out) rfl rfl) ?_
      refine latv (fun γ w h => ex_loads 0 3 (m := [.n 6 (ax (((smF B n k20)).pt)), .n 6 (ay (((smF B n k20)).pt)), .b (ai (((smF B n k20)).pt))]) flG1 rfl rfl (A39.keep h.out) rfl rfl) ?_
      refine latv (fun γ w h => ex_loads 0 3 (m := [.n 6 (ax (((abF B n (k20 + 1))).pt)), .n 6 (ay (((abF B n (k20 + 1))).pt)), .b (ai (((abF B n (k20 + 1))).pt))]) flG1 rfl rfl (A38.keep h.out) rfl rfl) ?_
      refine latc (sv [.n 6 (ax (((smF B n (k20 + 1))).pt)), .n 6 (ay (((smF B n (k20 + 1))).pt)), .b (ai (((smF B n (k20 + 1))).pt))]) (fun γ w => ex_call (vs := [sv [.v (.func (.func 6) #[] #[]), .v (.func (.func 10) #[] #[]), .v (.func (.func 12) #[] #[]), .v (.func (.func 11) #[] #[]), .i .i64 32], sv [.n 6 (ax (((smF B n k20)).pt)), .n 6 (ay (((smF B n k20)).pt)), .b (ai (((smF B n k20)).pt))], sv [.n 6 (ax (((abF B n (k20 + 1))).pt)), .n 6 (ay (((abF B n (k20 + 1))).pt)), .b (ai (((abF B n (k20 + 1))).pt))]]) rfl Try.call56 rfl) (fun w h => scPlus1_p (smF B n k20) (abF B n (k20 + 1)) _ rfl _) ?_
      refine GSteps.cons (late_store rfl (fun _ => rfl) (fun γ w h => ex_stores 0 3 (l := [.n 6 (ax (((smF B n k20)).pt)), .n 6 (ay (((smF B n k20)).pt)), .b (ai (((smF B n k20)).pt))]) (m := [.n 6 (ax (((smF B n (k20 + 1))).pt)), .n 6 (ay (((smF B n (k20 + 1))).pt)), .b (ai (((smF B n (k20 + 1))).pt))]) flG1.2 rfl rfl rfl rfl (A39.keep h.out) rfl rfl) rfl) ?_
      exact GSteps.nil
    intro w41 w41_ hb41 hs41
    have A42 := A35.keep hb41.out
    have A43 := A36.keep hb41.out
    have A44 := A37.keep hb41.out
    have A45 := A38.keep hb41.out
    have A46 := A39.keep hb41.out
    have HB47 := below_then HB40 hb41.out
    have A48 := hs41.other (Nat.ne_of_lt (Nat.lt_of_lt_of_le A2.lt le11)) A42
    have A49 := hs41.other (Nat.ne_of_lt (Nat.lt_of_lt_of_le A3.lt le11)) A43
    have A50 := hs41.other (Nat.ne_of_lt (Nat.lt_of_lt_of_le A4.lt le11)) A44
    have A51 := hs41.other (hn6 0 1 (by decide) (by decide) (by decide)) A45
    have A52 := hs41.here 0 3 (l' := [.n 6 (ax (((smF B n (k20 + 1))).pt)), .n 6 (ay (((smF B n (k20 + 1))).pt)), .b (ai (((smF B n (k20 + 1))).pt))]) A46 rfl rfl rfl
    have HB53 := hs41.below HB47 (Nat.le_trans HB5.size le11)
    refine bk_n ?_
    refine th_r ?_
    refine wp_region_lit ?_
    refine sv1 (.int .i64 ((n - 1 - k20 : Nat) : Int)) (ex_move _) ?_
    refine sv1 (.int .i64 ((n : Int) - 1 - ((k20 + 1 : Nat) : Int))) (ex_isub rfl rfl ((n : Int) - 1 - ((k20 + 1 : Nat) : Int)) (by rw [wrapI64 (by omega) (by omega)]; omega)) ?_
    refine sv1 (.int .i64 ((n : Int) - 1 - ((k20 + 1 : Nat) : Int))) (ex_assign _) ?_
    refine wpList_nil ?_
    refine th_r ?_
    exact hK20.out _ _ ⟨_, _, _, _, _, _, _, _, _, _, _, _, _, _, _, _, _, _, rfl, A48, A49, A50, A51, A52, HB53⟩
  · rintro _ w54 ⟨i54_18, i54_19, i54_20, i54_21, i54_22, i54_23, i54_24, i54_25, i54_26, i54_27, i54_28, i54_29, i54_30, i54_31, i54_32, i54_33, i54_34, i54_35, rfl, A54_0, A54_1, A54_2, A54_3, A54_4, HB54⟩ K54
    refine wp_seq ?_
    refine wp_seq (region_0 [18, 19] [.int .i64 ((n : Int) - 1 - ((n : Nat) : Int)), .bool false] ?_ ?_)
    · refine stpx (fun _ _ => ex_move _) ?_
      refine stpx (fun _ _ => ex_igeq rfl rfl false (by rw [eq_comm, decide_eq_false_iff_not]; omega)) ?_
      exact GSteps.nil
    intro w55 hb55
    refine th_r ?_
    have A56 := A54_0.keep hb55.out
    have A57 := A54_1.keep hb55.out
    have A58 := A54_2.keep hb55.out
    have A59 := A54_3.keep hb55.out
    have A60 := A54_4.keep hb55.out
    have HB61 := below_then HB54 hb55.out
    refine wp_cond_false rfl ?_
    refine wp_exit (th_e (th_e (bk_e ?_)))
    refine th_r ?_
    refine wp_seq (region_s 1 ((γ1 1)) 0 (segs [.n 6 (ax (((smF B n n)).pt)), .n 6 (ay (((smF B n n)).pt)), .b (ai (((smF B n n)).pt))]) [36] [sv [.n 6 (ax (((smF B n n)).pt)), .n 6 (ay (((smF B n n)).pt)), .b (ai (((smF B n n)).pt))]] ?_ ?_)
    · refine latv (fun γ w h => ex_loads 0 3 (m := [.n 6 (ax (((smF B n n)).pt)), .n 6 (ay (((smF B n n)).pt)), .b (ai (((smF B n n)).pt))]) flG1 rfl rfl (A60.keep h.out) rfl rfl) ?_
      refine GSteps.cons (late_store rfl (fun _ => rfl) (fun γ w h => ex_stores 0 3 (l := [.n 6 0, .n 6 0, .b false]) (m := [.n 6 (ax (((smF B n n)).pt)), .n 6 (ay (((smF B n n)).pt)), .b (ai (((smF B n n)).pt))]) flG1.2 rfl rfl rfl rfl (A58.keep h.out) rfl rfl) rfl) ?_
      exact GSteps.nil
    intro w62 w62_ hb62 hs62
    refine th_r ?_
    have A63 := A56.keep hb62.out
    have A64 := A57.keep hb62.out
    have A65 := A58.keep hb62.out
    have A66 := A59.keep hb62.out
    have A67 := A60.keep hb62.out
    have HB68 := below_then HB61 hb62.out
    have A69 := hs62.other (Nat.ne_of_lt (Nat.lt_of_lt_of_le A.lt le4)) A63
    have A70 := hs62.other (hn1 0 1 (by decide) (by decide) (by decide)) A64
    have A71 := hs62.here 0 3 (l' := [.n 6 (ax (((smF B n n)).pt)), .n 6 (ay (((smF B n n)).pt)), .b (ai (((smF B n n)).pt))]) A65 rfl rfl rfl
    have A72 := hs62.other (Ne.symm (Nat.ne_of_lt (Nat.lt_of_lt_of_le A4.lt le10))) A66
    have A73 := hs62.other (Ne.symm (Nat.ne_of_lt (Nat.lt_of_lt_of_le A4.lt le11))) A67
    have HB74 := hs62.below HB68 (Nat.le_trans (Nat.le_refl _) le4)
    exact wp_ret (bodyPost_ret (ret1 Try.results64 (res_sv rfl A71 flG1 rfl)) rfl ⟨rfl, HB74⟩)
end Go.Proofs.Ytkkmekdhejhapaa
