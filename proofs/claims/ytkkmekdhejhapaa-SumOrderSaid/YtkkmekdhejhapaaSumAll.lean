/- What is proved here: slices of points and of numbers that came in as arguments; a slice cut off; package sum: Sum1 of any arguments. -/
import Derived.Test.YtkkmekdhejhapaaSum1
import Derived.OpenShut
import Derived.ChangeOld
import Derived.ProofKit
import Derived.Test.YtkkmekdhejhapaaSumPlc
namespace Go.Proofs.Ytkkmekdhejhapaa
section
open Go.RowKit Cv
open Go.ChangeShapes Go.WideShapes Go.ChangeAt
theorem ex_cutN {ρ : Operand → Value} {d : Option Tmp} {ty0 : TypeId} {pos : String} {after : Array Edge} {guard : Option (Nat × Bool)} {w : World} {st e : TypeId} {n : Nat} (hs : SlS st e n) {x y : Operand} {a : Option Addr} {m c k : Nat} (hx : ρ x = .slice a m c) (hy : ρ y = .int .i64 (k : Int)) (hk : k ≤ c) :
    (execOp ρ ⟨d, .slice st x none (some y) none, ty0, pos, after, guard⟩).run Try.prog w = .ok (.value (.slice a k c)) w := by
  have h1 : (k : Int) ≤ (c : Int) := by omega
  simp [execOp, hx, hy, Instr.sliceAt, Instr.slice, Instr.sliceBounds, Sem.run_bind, run_underlying hs.und w, hs.flat.2 w, go_sem, h1, hk]
set_option maxRecDepth 20000 in
theorem open_row {st e : TypeId} {n : Nat} {sh : List Seg → Prop} (hu : Try.prog.underlying st = some (.slice e)) (hc : Try.prog.cellsOf e = n) (h0n : 0 < n) (ho : OpensS e sh) (hz : ∀ l, sh l → ssize l = n) {H : Type} {enc : TypeId × Value → H} {w : World} {r : Reach} {b0 base : Nat} {sp : Nat → Bool} {held : Bool} {v : Value} {d : DataW H} {ps : List MemPlace}
    (hval : Value.okWide Try.prog w r b0 st v) (hd : DataW.Trod enc Try.prog w base sp held st v d ps) :
    ∃ (a : Option Addr) (m c : Nat) (S : Nat → List Seg), v = .slice a m c ∧ m ≤ c ∧ (∀ i, i < m → sh (S i)) ∧ Row w a n m S := by
  obtain ⟨a, m, c, rfl⟩ := okWide_slice hu hval
  obtain ⟨fuel, hf⟩ := hd
  rcases DataW.trod_slice hu hf with ⟨hcs, _⟩ | ⟨x, len, cap, elems, rest, k, _, hcs, _, _, hl, _, hlen, hel, _⟩
  · simp [Value.cells] at hcs
    obtain ⟨rfl, rfl, rfl⟩ := hcs
    exact ⟨none, 0, 0, fun _ => [], rfl, Nat.le_refl _, fun i hi => absurd hi (Nat.not_lt_zero i), Row.none _ _ _ _⟩
  · simp [Value.cells] at hcs
    obtain ⟨rfl, rfl, rfl⟩ := hcs
    have cells : ∀ i, i < m → ∃ l, sh l ∧ w.cells? base (x.add (i * n)) n = some (segs l) := fun i hi => by
      have h1 := hel i hi
      rw [hc, List.getElem?_eq_getElem (by omega : i < elems.length)] at h1
      obtain ⟨cs, hcs, htr⟩ := Option.bind_eq_some_iff.1 h1
      obtain ⟨l, hs, rfl⟩ := ho htr
      exact ⟨l, hs, hcs⟩
    have key : ∀ i, ∃ l, i < m → sh l ∧ ∃ g o, some x = some ⟨g, o, none⟩ ∧ g < w.heap.size ∧ w.rangeAt g (o + n * i) (segs l) := fun i => by
      by_cases hi : i < m
      · obtain ⟨l, hs, hx3⟩ := cells i hi
        obtain ⟨ys, hys, hy3⟩ := cells 0 (by omega)
        obtain ⟨_, hyl, hyc⟩ := World.cells?_some hy3
        have h0 := hyc 0 h0n
        obtain ⟨b, off, spot⟩ := x
        have hspot : spot = none := by
          have e1 : ((⟨b, off, spot⟩ : Addr).add (0 * n)).add 0 = ⟨b, off, spot⟩ := by simp [Addr.add]
          have hl0 : 0 < (segs ys).length := by rw [segs_len, hz _ hys]; exact h0n
          rw [e1, List.getElem?_eq_getElem hl0] at h0
          simpa using World.cell?_spot h0
        subst hspot
        obtain ⟨_, _, hxc⟩ := World.cells?_some hx3
        refine ⟨l, fun _ => ⟨hs, b, off, rfl, ?_, ?_⟩⟩
        · have hb := World.cells?_block hx3 h0n
          rwa [Addr.add_mid] at hb
        · intro j u hu
          have hj : j < n := by
            have := (List.getElem?_eq_some_iff.1 hu).1
            rw [segs_len, hz _ hs] at this
            exact this
          have h1 := hxc j hj
          rw [Addr.add_mid, Addr.add_mid, hu, Nat.mul_comm i n] at h1
          exact h1
      · exact ⟨[], fun h => absurd h hi⟩
    obtain ⟨S, hS⟩ := Classical.skolem.1 key
    exact ⟨some x, m, c, S, rfl, hl, fun i hi => (hS i hi).1, fun i hi => (hS i hi).2⟩
abbrev rw1 (X Y : Nat → Nat) (I : Nat → Bool) (i : Nat) : List Seg := [.n 6 (X i), .n 6 (Y i), .b (I i)]
theorem osFr : OpensS 38 (Nums 4 1) := OpensS.nums opens_fr rfl
set_option maxRecDepth 20000 in
theorem open_points {H : Type} {enc : TypeId × Value → H} {w : World} {r : Reach} {b0 base : Nat} {sp : Nat → Bool} {held : Bool} {v : Value} {d : DataW H} {ps : List MemPlace}
    (hval : Value.okWide Try.prog w r b0 22 v) (hd : DataW.Trod enc Try.prog w base sp held 22 v d ps) :
    ∃ (a : Option Addr) (m c : Nat) (X Y : Nat → Nat) (I : Nat → Bool), v = .slice a m c ∧ m ≤ c ∧ (∀ i, i < m → X i < fpB ∧ Y i < fpB) ∧ Row w a 13 m (rw1 X Y I) := by
  obtain ⟨a, m, c, S, h1, h2, h3, h4⟩ := open_row Try.underlying22 (by kernel_rfl) (by decide) osG1 (fun l h => shG1_size h) hval hd
  have key : ∀ i, ∃ p : Nat × Nat × Bool, i < m → (p.1 < fpB ∧ p.2.1 < fpB) ∧ S i = [.n 6 p.1, .n 6 p.2.1, .b p.2.2] := fun i => by
    by_cases hi : i < m
    · obtain ⟨a, b, e1, ⟨l, h1, h2, rfl⟩, c, d, rfl, ⟨l', h3, h4, rfl⟩, e, f, rfl, ⟨i, rfl⟩, rfl⟩ := h3 i hi
      match l, l', h1, h3, h2, h4, e1 with
      | [x0], [y0], _, _, h2, h4, e1 => exact ⟨(x0, y0, i), fun _ => ⟨⟨Nat.lt_of_lt_of_eq (h2 _ (by simp)) fpB_eq.symm, Nat.lt_of_lt_of_eq (h4 _ (by simp)) fpB_eq.symm⟩, e1⟩⟩
    · exact ⟨(0, 0, false), fun h => absurd h hi⟩
  obtain ⟨p, hp⟩ := Classical.skolem.1 key
  exact ⟨a, m, c, fun i => (p i).1, fun i => (p i).2.1, fun i => (p i).2.2, h1, h2, fun i hi => (hp i hi).1, h4.ext fun i hi => (hp i hi).2⟩
set_option maxRecDepth 20000 in
theorem open_numbers {H : Type} {enc : TypeId × Value → H} {w : World} {r : Reach} {b0 base : Nat} {sp : Nat → Bool} {held : Bool} {v : Value} {d : DataW H} {ps : List MemPlace}
    (hval : Value.okWide Try.prog w r b0 23 v) (hd : DataW.Trod enc Try.prog w base sp held 23 v d ps) :
    ∃ (a : Option Addr) (m c : Nat) (A : Nat → Nat), v = .slice a m c ∧ m ≤ c ∧ (∀ i, i < m → A i < frB) ∧ Row w a 4 m (fun i => [.n 4 (A i)]) := by
  obtain ⟨a, m, c, S, h1, h2, h3, h4⟩ := open_row Try.underlying23 (by kernel_rfl) (by decide) osFr (fun l h => (nums_size h).2) hval hd
  have key : ∀ i, ∃ x : Nat, i < m → x < frB ∧ S i = [.n 4 x] := fun i => by
    by_cases hi : i < m
    · obtain ⟨l, h1, h2, e1⟩ := h3 i hi
      match l, h1, h2, e1 with
      | [x], _, h2, e1 => exact ⟨x, fun _ => ⟨Nat.lt_of_lt_of_eq (h2 _ (by simp)) frB_eq.symm, e1⟩⟩
    · exact ⟨0, fun h => absurd h hi⟩
  obtain ⟨A, hA⟩ := Classical.skolem.1 key
  exact ⟨a, m, c, A, h1, h2, fun i hi => (hA i hi).1, h4.ext fun i hi => (hA i hi).2⟩
end

section
open Go.RowKit Cv
theorem oneRight_ok {x y : Nat} {i : Bool} (h : RawOk x y i) (w : World) : Calls Try.prog 6 #[sv [.n 6 x, .n 6 y, .b i]] w (Is (.bool true) w) := by
  obtain ⟨P, rfl, rfl, rfl⟩ := h
  exact oneRight_p P w
set_option maxRecDepth 20000 in
set_option maxHeartbeats 4000000 in
theorem scMany1_p (m : Nat) (hm : m ≤ 4096) (S : Nat → E1) (A : Nat → Nat) (ap ak : Option Addr) (cp ck : Nat) (hf : ¬ m < 32) (HA : ∀ i, i < m → A i < frB) (w : World) (HP : Row w ap 13 m (fun i => pt1 (S i))) (HK : Row w ak 4 m (fun i => [.n 4 (A i)])) :
    Calls Try.prog 18 #[sv [.v (.func (.func 6) #[] #[]), .v (.func (.func 10) #[] #[]), .v (.func (.func 12) #[] #[]), .v (.func (.func 11) #[] #[]), .i .i64 32], .slice ap m cp, .slice ak m ck] w (Is (.tuple #[sv [.n 6 (ax (((sumE1 S A m)).pt)), .n 6 (ay (((sumE1 S A m)).pt)), .b (ai (((sumE1 S A m)).pt))], .int .i64 0]) w) := by
  go_enter Try.func18, Try.ntmps18
  refine wp_seq (region_c 2 (fun j_ => match j_ with | 0 => 47 | _ => 28) (fun j_ => match j_ with | 0 => 0 | _ => 1) (fun j_ => match j_ with | 0 => 0 | _ => 1) (fun j_ => match j_ with | 0 => segs [.v (.func (.func 6) #[] #[]), .v (.func (.func 10) #[] #[]), .v (.func (.func 12) #[] #[]), .v (.func (.func 11) #[] #[]), .i .i64 32] | _ => segs [.n 6 0, .n 6 0, .b false]) (fun j_ => match j_ with | 0 => segs [.v (.func (.func 6) #[] #[]), .v (.func (.func 10) #[] #[]), .v (.func (.func 12) #[] #[]), .v (.func (.func 11) #[] #[]), .i .i64 32] | _ => segs [.n 6 0, .n 6 0, .b false]) [3, 6, 7] (fun γ => [.pointer (some ⟨γ 0, 0, none⟩), .pointer (some ⟨γ 1, 0, none⟩), .int .i64 0]) ?_ ?_)
  · refine GSteps.cons (gm_box 0 rfl (fun _ => rfl) (fun _ _ => rfl) (fun γ w h => ex_boxs (l := [.v (.func (.func 6) #[] #[]), .v (.func (.func 10) #[] #[]), .v (.func (.func 12) #[] #[]), .v (.func (.func 11) #[] #[]), .i .i64 32]) rfl) rfl rfl rfl) ?_
    refine GSteps.cons (gm_box 1 rfl (fun _ => rfl) (fun _ _ => rfl) (fun γ w h => ex_allocs (l := [.n 6 0, .n 6 0, .b false]) zG1) rfl rfl rfl) ?_
    refine stpx (fun _ _ => ex_assign _) ?_
    exact GSteps.nil
  intro γ1 w1 hb1 hB1 hn1
  refine th_r ?_
  have A2 : SB 47 w1 (γ1 0) [.v (.func (.func 6) #[] #[]), .v (.func (.func 10) #[] #[]), .v (.func (.func 12) #[] #[]), .v (.func (.func 11) #[] #[]), .i .i64 32] := (hB1 0 (by decide)).2
  have le2 := (hB1 0 (by decide)).1
  have A3 : SB 28 w1 (γ1 1) [.n 6 0, .n 6 0, .b false] := (hB1 1 (by decide)).2
  have le3 := (hB1 1 (by decide)).1
  have HB4 := below_then (Below.refl w.heap.size w) hb1.out
  refine wp_seq (region_c 1 (fun _ => 28) (fun _ => 0) (fun _ => 0) (fun _ => segs [.n 6 0, .n 6 0, .b false]) (fun _ => segs [.n 6 0, .n 6 0, .b false]) [8] (fun γ => [.pointer (some ⟨γ 0, 0, none⟩)]) ?_ ?_)
  · refine GSteps.cons (gm_box 0 rfl (fun _ => rfl) (fun _ _ => rfl) (fun γ w h => ex_allocs (l := [.n 6 0, .n 6 0, .b false]) zG1) rfl rfl rfl) ?_
    exact GSteps.nil
  intro γ5 w5 hb5 hB5 _
  refine th_r ?_
  have A6 := A2.keep hb5.out
  have A7 := A3.keep hb5.out
  have A8 : SB 28 w5 (γ5 0) [.n 6 0, .n 6 0, .b false] := (hB5 0 (by decide)).2
  have le8 := (hB5 0 (by decide)).1
  have HB9 := below_then HB4 hb5.out
  refine wp_seq ?_
  refine wp_seq (region_0 [11, 12, 13, 14, 15] [.slice ap m cp, .int .i64 ((m : Nat) : Int), .slice ak m ck, .int .i64 ((m : Nat) : Int), .bool false] ?_ ?_)
  · refine stpx (fun _ _ => ex_move _) ?_
    refine stpx (fun _ _ => ex_lenR slP1 (m := m) rfl) ?_
    refine stpx (fun _ _ => ex_move _) ?_
    refine stpx (fun _ _ => ex_lenR slR1 (m := m) rfl) ?_
    refine stpx (fun _ _ => ex_neqi rfl rfl false (by simp)) ?_
    exact GSteps.nil
  intro w10 hb10
  refine th_r ?_
  have A11 := A6.keep hb10.out
  have A12 := A7.keep hb10.out
  have A13 := A8.keep hb10.out
  have HB14 := below_then HB9 hb10.out
  refine wp_cond_false rfl ?_
  refine wp_skip ?_
  refine th_r ?_
  refine wp_seq ?_
  refine wp_seq (region_0 [17, 18, 19] [.slice ap m cp, .int .i64 ((m : Nat) : Int), .bool false] ?_ ?_)
  · refine stpx (fun _ _ => ex_move _) ?_
    refine stpx (fun _ _ => ex_lenR slP1 (m := m) rfl) ?_
    refine stpx (fun _ _ => ex_igtr rfl rfl false (by rw [eq_comm, decide_eq_false_iff_not]; omega)) ?_
    exact GSteps.nil
  intro w15 hb15
  refine th_r ?_
  have A16 := A11.keep hb15.out
  have A17 := A12.keep hb15.out
  have A18 := A13.keep hb15.out
  have HB19 := below_then HB14 hb15.out
  refine wp_cond_false rfl ?_
  refine wp_skip ?_
  refine th_r ?_
  refine wp_seq ?_
  refine wp_seq (region_0 [21, 22, 23] [.slice ap m cp, .int .i64 ((m : Nat) : Int), .int .i64 0] ?_ ?_)
  · refine stpx (fun _ _ => ex_move _) ?_
    refine stpx (fun _ _ => ex_lenR slP1 (m := m) rfl) ?_
    refine stpx (fun _ _ => ex_move _) ?_
    exact GSteps.nil
  intro w20 hb20
  refine th_r ?_
  have A21 := A16.keep hb20.out
  have A22 := A17.keep hb20.out
  have A23 := A18.keep hb20.out
  have HB24 := below_then HB19 hb20.out
  refine wp_block ?_
  refine wp_loop_by (m) (fun q_ a_ v_ => ∃ j7 j10 j24 j25 j26 j27 j28 j29 j30 j31 j32 j33 : Value, a_ = ⟨List.toArray ((sv [.v (.func (.func 6) #[] #[]), .v (.func (.func 10) #[] #[]), .v (.func (.func 12) #[] #[]), .v (.func (.func 11) #[] #[]), .i .i64 32]) :: (.slice ap m cp) :: (.slice ak m ck) :: (.pointer (some ⟨(γ1 0), 0, none⟩)) :: undef :: undef :: (.pointer (some ⟨(γ1 1), 0, none⟩)) :: j7 :: (.pointer (some ⟨(γ5 0), 0, none⟩)) :: undef :: j10 :: (.slice ap m cp) :: (.int .i64 ((m : Nat) : Int)) :: (.slice ak m ck) :: (.int .i64 ((m : Nat) : Int)) :: (.bool false) :: undef :: (.slice ap m cp) :: (.int .i64 ((m : Nat) : Int)) :: (.bool false) :: undef :: (.slice ap m cp) :: (.int .i64 ((m : Nat) : Int)) :: (.int .i64 ((q_ : Nat) : Int)) :: j24 :: j25 :: j26 :: j27 :: j28 :: j29 :: j30 :: j31 :: j32 :: j33 :: undef :: undef :: undef :: undef :: undef :: undef :: undef :: undef :: undef :: undef :: undef :: undef :: undef :: []), []⟩ ∧ SB 47 v_ (γ1 0) [.v (.func (.func 6) #[] #[]), .v (.func (.func 10) #[] #[]), .v (.func (.func 12) #[] #[]), .v (.func (.func 11) #[] #[]), .i .i64 32] ∧ SB 28 v_ (γ1 1) [.n 6 0, .n 6 0, .b false] ∧ SB 28 v_ (γ5 0) [.n 6 0, .n 6 0, .b false] ∧ Below w.heap.size w v_) ⟨_, _, _, _, _, _, _, _, _, _, _, _, rfl, A21, A22, A23, HB24⟩ ?_ ?_
  · intro k25 hk25
    rintro _ w25 ⟨i25_7, i25_10, i25_24, i25_25, i25_26, i25_27, i25_28, i25_29, i25_30, i25_31, i25_32, i25_33, rfl, A25_0, A25_1, A25_2, HB25⟩ K25 hK25
    have hq := hk25
    refine wp_seq (region_0 [24] [.bool true] ?_ ?_)
    · refine stpx (fun _ _ => ex_ilss rfl rfl true (by rw [eq_comm, decide_eq_true_eq]; omega)) ?_
      exact GSteps.nil
    intro w26 hb26
    refine th_r ?_
    have A27 := A25_0.keep hb26.out
    have A28 := A25_1.keep hb26.out
    have A29 := A25_2.keep hb26.out
    have HB30 := below_then HB25 hb26.out
    refine wp_seq ?_
    refine wp_cond_true rfl ?_
    refine wp_skip ?_
    refine th_r ?_
    refine wp_seq ?_
    refine wp_block ?_
    obtain ⟨g31, o31, ha31, lg31, hr31⟩ := (HP.keep HB30) k25 hq
    skip
    · refine wp_seq (region_c 1 (fun _ => 28) (fun _ => 2) (fun _ => 3) (fun _ => segs [.n 6 0, .n 6 0, .b false]) (fun _ => segs [.n 6 (ax ((S k25).pt)), .n 6 (ay ((S k25).pt)), .b (ai ((S k25).pt))]) [25, 26, 10] (fun γ => [.pointer (some ⟨g31, o31 + 13 * k25, none⟩), sv [.n 6 (ax ((S k25).pt)), .n 6 (ay ((S k25).pt)), .b (ai ((S k25).pt))], .pointer (some ⟨γ 0, 0, none⟩)]) ?_ ?_)
      · refine stpx (fun _ _ => ex_idxR slP1 (a := ap) (m := m) (c := cp) (i := k25) rfl ha31 rfl hq) ?_
        refine stpv (fun γ w h => ex_loadR (l := [.n 6 (ax ((S k25).pt)), .n 6 (ay ((S k25).pt)), .b (ai ((S k25).pt))]) flG1 rfl rfl (range_keep lg31 h.out hr31)) ?_
        refine GSteps.cons (gm_new 0 rfl (fun _ => rfl) (fun _ _ => rfl) (fun γ w => ex_allocs (l := [.n 6 0, .n 6 0, .b false]) zG1) rfl (by kernel_rfl)) ?_
        refine GSteps.cons (gm_store 0 rfl rfl (fun _ => rfl) (len_segs (l := [.n 6 (ax ((S k25).pt)), .n 6 (ay ((S k25).pt)), .b (ai ((S k25).pt))]) (l' := [.n 6 0, .n 6 0, .b false]) rfl) (fun γ w h => ex_stores 0 3 (l := [.n 6 0, .n 6 0, .b false]) (m := [.n 6 (ax ((S k25).pt)), .n 6 (ay ((S k25).pt)), .b (ai ((S k25).pt))]) flG1.2 rfl rfl rfl rfl h rfl rfl) rfl rfl (by kernel_rfl)) ?_
        exact GSteps.nil
      intro γ32 w32 hb32 hB32 _
      refine th_r ?_
      have A33 := A27.keep hb32.out
      have A34 := A28.keep hb32.out
      have A35 := A29.keep hb32.out
      have A36 : SB 28 w32 (γ32 0) [.n 6 (ax ((S k25).pt)), .n 6 (ay ((S k25).pt)), .b (ai ((S k25).pt))] := (hB32 0 (by decide)).2
      have le36 := (hB32 0 (by decide)).1
      have HB37 := below_then HB30 hb32.out
      refine wp_seq (region_0 [27, 28, 29, 30, 31] [.pointer (some ⟨(γ1 0), 0, none⟩), .func (.func 6) #[] #[], sv [.n 6 (ax ((S k25).pt)), .n 6 (ay ((S k25).pt)), .b (ai ((S k25).pt))], .bool true, .bool false] ?_ ?_)
      · refine stpx (fun _ _ => ex_field faSc1_0 rfl) ?_
        refine stpv (fun γ w h => ex_load1 0 (s := .v (.func (.func 6) #[] #[])) (v := .func (.func 6) #[] #[]) sgF1_0 rfl (A33.keep h.out) rfl rfl rfl) ?_
        refine stpv (fun γ w h => ex_loads 0 3 (m := [.n 6 (ax ((S k25).pt)), .n 6 (ay ((S k25).pt)), .b (ai ((S k25).pt))]) flG1 rfl rfl (A36.keep h.out) rfl rfl) ?_
        refine stpc (.bool true) (fun γ w => ex_call (vs := [sv [.n 6 (ax ((S k25).pt)), .n 6 (ay ((S k25).pt)), .b (ai ((S k25).pt))]]) rfl Try.call6 rfl) (fun w h => oneRight_p (S k25) _) ?_
        refine stpx (fun _ _ => ex_not (r := true) rfl) ?_
        exact GSteps.nil
      intro w38 hb38
      refine th_r ?_
      have A39 := A33.keep hb38.out
      have A40 := A34.keep hb38.out
      have A41 := A35.keep hb38.out
      have A42 := A36.keep hb38.out
      have HB43 := below_then HB37 hb38.out
      refine wp_cond_false rfl ?_
      refine wp_skip ?_
      refine bk_n ?_
      refine th_r ?_
      refine wp_region_lit ?_
      refine sv1 (.int .i64 ((k25 + 1 : Nat) : Int)) (ex_iadd rfl rfl ((k25 + 1 : Nat) : Int) (cnt_up (by omega))) ?_
      refine sv1 (.int .i64 ((k25 + 1 : Nat) : Int)) (ex_move _) ?_
      refine wpList_nil ?_
      refine th_r ?_
      exact hK25.out _ _ ⟨_, _, _, _, _, _, _, _, _, _, _, _, rfl, A39, A40, A41, HB43⟩
  · rintro _ w44 ⟨i44_7, i44_10, i44_24, i44_25, i44_26, i44_27, i44_28, i44_29, i44_30, i44_31, i44_32, i44_33, rfl, A44_0, A44_1, A44_2, HB44⟩ K44
    refine wp_seq (region_0 [24] [.bool false] ?_ ?_)
    · refine stpx (fun _ _ => ex_ilss rfl rfl false (by rw [eq_comm, decide_eq_false_iff_not]; omega)) ?_
      exact GSteps.nil
    intro w45 hb45
    refine th_r ?_
    have A46 := A44_0.keep hb45.out
    have A47 := A44_1.keep hb45.out
    have A48 := A44_2.keep hb45.out
    have HB49 := below_then HB44 hb45.out
    refine wp_seq ?_
    refine wp_cond_false rfl ?_
    refine wp_exit (th_e (th_e (bk_e ?_)))
    refine th_r ?_
    refine wp_seq ?_
    refine wp_seq (region_0 [34, 35, 36, 37, 38] [.slice ap m cp, .int .i64 ((m : Nat) : Int), .pointer (some ⟨(γ1 0), 4, none⟩), .int .i64 32, .bool false] ?_ ?_)
    · refine stpx (fun _ _ => ex_move _) ?_
      refine stpx (fun _ _ => ex_lenR slP1 (m := m) rfl) ?_
      refine stpx (fun _ _ => ex_field faSc1_4 rfl) ?_
      refine stpv (fun γ w h => ex_load1 4 (s := .i .i64 32) (v := .int .i64 32) sgInt rfl (A46.keep h.out) rfl rfl rfl) ?_
      refine stpx (fun _ _ => ex_ilss rfl rfl false (by rw [eq_comm, decide_eq_false_iff_not]; omega)) ?_
      exact GSteps.nil
    intro w50 hb50
    refine th_r ?_
    have A51 := A46.keep hb50.out
    have A52 := A47.keep hb50.out
    have A53 := A48.keep hb50.out
    have HB54 := below_then HB49 hb50.out
    refine wp_cond_false rfl ?_
    refine wp_skip ?_
    refine th_r ?_
    refine wp_seq (region_s 4 ((γ1 1)) 0 (segs [.n 6 (ax (((sumE1 S A m)).pt)), .n 6 (ay (((sumE1 S A m)).pt)), .b (ai (((sumE1 S A m)).pt))]) [43, 44, 45, 46, 7] [sv [.v (.func (.func 6) #[] #[]), .v (.func (.func 10) #[] #[]), .v (.func (.func 12) #[] #[]), .v (.func (.func 11) #[] #[]), .i .i64 32], .slice ap m cp, .slice ak m ck, sv [.n 6 (ax (((sumE1 S A m)).pt)), .n 6 (ay (((sumE1 S A m)).pt)), .b (ai (((sumE1 S A m)).pt))], .int .i64 0] ?_ ?_)
    · refine latv (fun γ w h => ex_loads 0 5 (m := [.v (.func (.func 6) #[] #[]), .v (.func (.func 10) #[] #[]), .v (.func (.func 12) #[] #[]), .v (.func (.func 11) #[] #[]), .i .i64 32]) flSc1 rfl rfl (A51.keep h.out) rfl rfl) ?_
      refine latv (fun γ w h => ex_move _) ?_
      refine latv (fun γ w h => ex_move _) ?_
      refine latc (sv [.n 6 (ax (((sumE1 S A m)).pt)), .n 6 (ay (((sumE1 S A m)).pt)), .b (ai (((sumE1 S A m)).pt))]) (fun γ w => ex_call (vs := [sv [.v (.func (.func 6) #[] #[]), .v (.func (.func 10) #[] #[]), .v (.func (.func 12) #[] #[]), .v (.func (.func 11) #[] #[]), .i .i64 32], .slice ap m cp, .slice ak m ck]) rfl Try.call36 rfl) (fun w h => scBig1_p m hm (by omega) S A ap ak cp ck HA _ (HP.keep (below_here HB54 h)) (HK.keep (below_here HB54 h))) ?_
      refine GSteps.cons (late_store rfl (fun _ => rfl) (fun γ w h => ex_stores 0 3 (l := [.n 6 0, .n 6 0, .b false]) (m := [.n 6 (ax (((sumE1 S A m)).pt)), .n 6 (ay (((sumE1 S A m)).pt)), .b (ai (((sumE1 S A m)).pt))]) flG1.2 rfl rfl rfl rfl (A52.keep h.out) rfl rfl) rfl) ?_
      refine GSteps.cons (late_any (v := .int .i64 0) rfl (fun _ => rfl) (fun _ => rfl) (fun γ w h => ex_assign _) rfl rfl) ?_
      exact GSteps.nil
    intro w55 w55_ hb55 hs55
    refine th_r ?_
    have A56 := A51.keep hb55.out
    have A57 := A52.keep hb55.out
    have A58 := A53.keep hb55.out
    have HB59 := below_then HB54 hb55.out
    have A60 := hs55.other (hn1 0 1 (by decide) (by decide) (by decide)) A56
    have A61 := hs55.here 0 3 (l' := [.n 6 (ax (((sumE1 S A m)).pt)), .n 6 (ay (((sumE1 S A m)).pt)), .b (ai (((sumE1 S A m)).pt))]) A57 rfl rfl rfl
    have A62 := hs55.other (Ne.symm (Nat.ne_of_lt (Nat.lt_of_lt_of_le A3.lt le8))) A58
    have HB63 := hs55.below HB59 (Nat.le_trans (Nat.le_refl _) le3)
    exact wp_ret (bodyPost_ret (ret2 Try.results18 (res_sv rfl A61 flG1 rfl) (res_tmp rfl)) rfl ⟨rfl, HB63⟩)
set_option maxRecDepth 20000 in
set_option maxHeartbeats 4000000 in
theorem scErr1_curve (m : Nat) (hm : m ≤ 4096) (X Y : Nat → Nat) (I : Nat → Bool) (ap ak : Option Addr) (cp ck : Nat) (j : Nat) (hj : j < m) (hok : ∀ i, i < j → RawOk (X i) (Y i) (I i)) (hx : X j < fpB) (hy : Y j < fpB) (hbad : ¬ RawOk (X j) (Y j) (I j)) (w : World) (HP : Row w ap 13 m (rw1 X Y I)) :
    Calls Try.prog 18 #[sv [.v (.func (.func 6) #[] #[]), .v (.func (.func 10) #[] #[]), .v (.func (.func 12) #[] #[]), .v (.func (.func 11) #[] #[]), .i .i64 32], .slice ap m cp, .slice ak m ck] w (Is (.tuple #[sv [.n 6 0, .n 6 0, .b false], .int .i64 30]) w) := by
  go_enter Try.func18, Try.ntmps18
  refine wp_seq (region_c 2 (fun j_ => match j_ with | 0 => 47 | _ => 28) (fun j_ => match j_ with | 0 => 0 | _ => 1) (fun j_ => match j_ with | 0 => 0 | _ => 1) (fun j_ => match j_ with | 0 => segs [.v (.func (.func 6) #[] #[]), .v (.func (.func 10) #[] #[]), .v (.func (.func 12) #[] #[]), .v (.func (.func 11) #[] #[]), .i .i64 32] | _ => segs [.n 6 0, .n 6 0, .b false]) (fun j_ => match j_ with | 0 => segs [.v (.func (.func 6) #[] #[]), .v (.func (.func 10) #[] #[]), .v (.func (.func 12) #[] #[]), .v (.func (.func 11) #[] #[]), .i .i64 32] | _ => segs [.n 6 0, .n 6 0, .b false]) [3, 6, 7] (fun γ => [.pointer (some ⟨γ 0, 0, none⟩), .pointer (some ⟨γ 1, 0, none⟩), .int .i64 0]) ?_ ?_)
  · refine GSteps.cons (gm_box 0 rfl (fun _ => rfl) (fun _ _ => rfl) (fun γ w h => ex_boxs (l := [.v (.func (.func 6) #[] #[]), .v (.func (.func 10) #[] #[]), .v (.func (.func 12) #[] #[]), .v (.func (.func 11) #[] #[]), .i .i64 32]) rfl) rfl rfl rfl) ?_
    refine GSteps.cons (gm_box 1 rfl (fun _ => rfl) (fun _ _ => rfl) (fun γ w h => ex_allocs (l := [.n 6 0, .n 6 0, .b false]) zG1) rfl rfl rfl) ?_
    refine stpx (fun _ _ => ex_assign _) ?_
    exact GSteps.nil
  intro γ1 w1 hb1 hB1 hn1
  refine th_r ?_
  have A2 : SB 47 w1 (γ1 0) [.v (.func (.func 6) #[] #[]), .v (.func (.func 10) #[] #[]), .v (.func (.func 12) #[] #[]), .v (.func (.func 11) #[] #[]), .i .i64 32] := (hB1 0 (by decide)).2
  have le2 := (hB1 0 (by decide)).1
  have A3 : SB 28 w1 (γ1 1) [.n 6 0, .n 6 0, .b false] := (hB1 1 (by decide)).2
  have le3 := (hB1 1 (by decide)).1
  have HB4 := below_then (Below.refl w.heap.size w) hb1.out
  refine wp_seq (region_c 1 (fun _ => 28) (fun _ => 0) (fun _ => 0) (fun _ => segs [.n 6 0, .n 6 0, .b false]) (fun _ => segs [.n 6 0, .n 6 0, .b false]) [8] (fun γ => [.pointer (some ⟨γ 0, 0, none⟩)]) ?_ ?_)
  · refine GSteps.cons (gm_box 0 rfl (fun _ => rfl) (fun _ _ => rfl) (fun γ w h => ex_allocs (l := [.n 6 0, .n 6 0, .b false]) zG1) rfl rfl rfl) ?_
    exact GSteps.nil
  intro γ5 w5 hb5 hB5 _
  refine th_r ?_
  have A6 := A2.keep hb5.out
  have A7 := A3.keep hb5.out
  have A8 : SB 28 w5 (γ5 0) [.n 6 0, .n 6 0, .b false] := (hB5 0 (by decide)).2
  have le8 := (hB5 0 (by decide)).1
  have HB9 := below_then HB4 hb5.out
  refine wp_seq ?_
  refine wp_seq (region_0 [11, 12, 13, 14, 15] [.slice ap m cp, .int .i64 ((m : Nat) : Int), .slice ak m ck, .int .i64 ((m : Nat) : Int), .bool false] ?_ ?_)
  · refine stpx (fun _ _ => ex_move _) ?_
    refine stpx (fun _ _ => ex_lenR slP1 (m := m) rfl) ?_
    refine stpx (fun _ _ => ex_move _) ?_
    refine stpx (fun _ _ => ex_lenR slR1 (m := m) rfl) ?_
    refine stpx (fun _ _ => ex_neqi rfl rfl false (by simp)) ?_
    exact GSteps.nil
  intro w10 hb10
  refine th_r ?_
  have A11 := A6.keep hb10.out
  have A12 := A7.keep hb10.out
  have A13 := A8.keep hb10.out
  have HB14 := below_then HB9 hb10.out
  refine wp_cond_false rfl ?_
  refine wp_skip ?_
  refine th_r ?_
  refine wp_seq ?_
  refine wp_seq (region_0 [17, 18, 19] [.slice ap m cp, .int .i64 ((m : Nat) : Int), .bool false] ?_ ?_)
  · refine stpx (fun _ _ => ex_move _) ?_
    refine stpx (fun _ _ => ex_lenR slP1 (m := m) rfl) ?_
    refine stpx (fun _ _ => ex_igtr rfl rfl false (by rw [eq_comm, decide_eq_false_iff_not]; omega)) ?_
    exact GSteps.nil
  intro w15 hb15
  refine th_r ?_
  have A16 := A11.keep hb15.out
  have A17 := A12.keep hb15.out
  have A18 := A13.keep hb15.out
  have HB19 := below_then HB14 hb15.out
  refine wp_cond_false rfl ?_
  refine wp_skip ?_
  refine th_r ?_
  refine wp_seq ?_
  refine wp_seq (region_0 [21, 22, 23] [.slice ap m cp, .int .i64 ((m : Nat) : Int), .int .i64 0] ?_ ?_)
  · refine stpx (fun _ _ => ex_move _) ?_
    refine stpx (fun _ _ => ex_lenR slP1 (m := m) rfl) ?_
    refine stpx (fun _ _ => ex_move _) ?_
    exact GSteps.nil
  intro w20 hb20
  refine th_r ?_
  have A21 := A16.keep hb20.out
  have A22 := A17.keep hb20.out
  have A23 := A18.keep hb20.out
  have HB24 := below_then HB19 hb20.out
  refine wp_block ?_
  refine wp_loop_by (j) (fun q_ a_ v_ => ∃ j7 j10 j24 j25 j26 j27 j28 j29 j30 j31 j32 j33 : Value, a_ = ⟨List.toArray ((sv [.v (.func (.func 6) #[] #[]), .v (.func (.func 10) #[] #[]), .v (.func (.func 12) #[] #[]), .v (.func (.func 11) #[] #[]), .i .i64 32]) :: (.slice ap m cp) :: (.slice ak m ck) :: (.pointer (some ⟨(γ1 0), 0, none⟩)) :: undef :: undef :: (.pointer (some ⟨(γ1 1), 0, none⟩)) :: j7 :: (.pointer (some ⟨(γ5 0), 0, none⟩)) :: undef :: j10 :: (.slice ap m cp) :: (.int .i64 ((m : Nat) : Int)) :: (.slice ak m ck) :: (.int .i64 ((m : Nat) : Int)) :: (.bool false) :: undef :: (.slice ap m cp) :: (.int .i64 ((m : Nat) : Int)) :: (.bool false) :: undef :: (.slice ap m cp) :: (.int .i64 ((m : Nat) : Int)) :: (.int .i64 ((q_ : Nat) : Int)) :: j24 :: j25 :: j26 :: j27 :: j28 :: j29 :: j30 :: j31 :: j32 :: j33 :: undef :: undef :: undef :: undef :: undef :: undef :: undef :: undef :: undef :: undef :: undef :: undef :: undef :: []), []⟩ ∧ SB 47 v_ (γ1 0) [.v (.func (.func 6) #[] #[]), .v (.func (.func 10) #[] #[]), .v (.func (.func 12) #[] #[]), .v (.func (.func 11) #[] #[]), .i .i64 32] ∧ SB 28 v_ (γ1 1) [.n 6 0, .n 6 0, .b false] ∧ SB 28 v_ (γ5 0) [.n 6 0, .n 6 0, .b false] ∧ Below w.heap.size w v_) ⟨_, _, _, _, _, _, _, _, _, _, _, _, rfl, A21, A22, A23, HB24⟩ ?_ ?_
  · intro k25 hk25
    rintro _ w25 ⟨i25_7, i25_10, i25_24, i25_25, i25_26, i25_27, i25_28, i25_29, i25_30, i25_31, i25_32, i25_33, rfl, A25_0, A25_1, A25_2, HB25⟩ K25 hK25
    have hqm := Nat.lt_trans hk25 hj
    refine wp_seq (region_0 [24] [.bool true] ?_ ?_)
    · refine stpx (fun _ _ => ex_ilss rfl rfl true (by rw [eq_comm, decide_eq_true_eq]; omega)) ?_
      exact GSteps.nil
    intro w26 hb26
    refine th_r ?_
    have A27 := A25_0.keep hb26.out
    have A28 := A25_1.keep hb26.out
    have A29 := A25_2.keep hb26.out
    have HB30 := below_then HB25 hb26.out
    refine wp_seq ?_
    refine wp_cond_true rfl ?_
    refine wp_skip ?_
    refine th_r ?_
    refine wp_seq ?_
    refine wp_block ?_
    obtain ⟨g31, o31, ha31, lg31, hr31⟩ := (HP.keep HB30) k25 hqm
    skip
    · refine wp_seq (region_c 1 (fun _ => 28) (fun _ => 2) (fun _ => 3) (fun _ => segs [.n 6 0, .n 6 0, .b false]) (fun _ => segs [.n 6 ((X k25)), .n 6 ((Y k25)), .b ((I k25))]) [25, 26, 10] (fun γ => [.pointer (some ⟨g31, o31 + 13 * k25, none⟩), sv [.n 6 ((X k25)), .n 6 ((Y k25)), .b ((I k25))], .pointer (some ⟨γ 0, 0, none⟩)]) ?_ ?_)
      · refine stpx (fun _ _ => ex_idxR slP1 (a := ap) (m := m) (c := cp) (i := k25) rfl ha31 rfl hqm) ?_
        refine stpv (fun γ w h => ex_loadR (l := [.n 6 ((X k25)), .n 6 ((Y k25)), .b ((I k25))]) flG1 rfl rfl (range_keep lg31 h.out hr31)) ?_
        refine GSteps.cons (gm_new 0 rfl (fun _ => rfl) (fun _ _ => rfl) (fun γ w => ex_allocs (l := [.n 6 0, .n 6 0, .b false]) zG1) rfl (by kernel_rfl)) ?_
        refine GSteps.cons (gm_store 0 rfl rfl (fun _ => rfl) (len_segs (l := [.n 6 ((X k25)), .n 6 ((Y k25)), .b ((I k25))]) (l' := [.n 6 0, .n 6 0, .b false]) rfl) (fun γ w h => ex_stores 0 3 (l := [.n 6 0, .n 6 0, .b false]) (m := [.n 6 ((X k25)), .n 6 ((Y k25)), .b ((I k25))]) flG1.2 rfl rfl rfl rfl h rfl rfl) rfl rfl (by kernel_rfl)) ?_
        exact GSteps.nil
      intro γ32 w32 hb32 hB32 _
      refine th_r ?_
      have A33 := A27.keep hb32.out
      have A34 := A28.keep hb32.out
      have A35 := A29.keep hb32.out
      have A36 : SB 28 w32 (γ32 0) [.n 6 ((X k25)), .n 6 ((Y k25)), .b ((I k25))] := (hB32 0 (by decide)).2
      have le36 := (hB32 0 (by decide)).1
      have HB37 := below_then HB30 hb32.out
      refine wp_seq (region_0 [27, 28, 29, 30, 31] [.pointer (some ⟨(γ1 0), 0, none⟩), .func (.func 6) #[] #[], sv [.n 6 ((X k25)), .n 6 ((Y k25)), .b ((I k25))], .bool true, .bool false] ?_ ?_)
      · refine stpx (fun _ _ => ex_field faSc1_0 rfl) ?_
        refine stpv (fun γ w h => ex_load1 0 (s := .v (.func (.func 6) #[] #[])) (v := .func (.func 6) #[] #[]) sgF1_0 rfl (A33.keep h.out) rfl rfl rfl) ?_
        refine stpv (fun γ w h => ex_loads 0 3 (m := [.n 6 ((X k25)), .n 6 ((Y k25)), .b ((I k25))]) flG1 rfl rfl (A36.keep h.out) rfl rfl) ?_
        refine stpc (.bool true) (fun γ w => ex_call (vs := [sv [.n 6 ((X k25)), .n 6 ((Y k25)), .b ((I k25))]]) rfl Try.call6 rfl) (fun w h => oneRight_ok (hok k25 hk25) _) ?_
        refine stpx (fun _ _ => ex_not (r := true) rfl) ?_
        exact GSteps.nil
      intro w38 hb38
      refine th_r ?_
      have A39 := A33.keep hb38.out
      have A40 := A34.keep hb38.out
      have A41 := A35.keep hb38.out
      have A42 := A36.keep hb38.out
      have HB43 := below_then HB37 hb38.out
      refine wp_cond_false rfl ?_
      refine wp_skip ?_
      refine bk_n ?_
      refine th_r ?_
      refine wp_region_lit ?_
      refine sv1 (.int .i64 ((k25 + 1 : Nat) : Int)) (ex_iadd rfl rfl ((k25 + 1 : Nat) : Int) (cnt_up (by omega))) ?_
      refine sv1 (.int .i64 ((k25 + 1 : Nat) : Int)) (ex_move _) ?_
      refine wpList_nil ?_
      refine th_r ?_
      exact hK25.out _ _ ⟨_, _, _, _, _, _, _, _, _, _, _, _, rfl, A39, A40, A41, HB43⟩
  · rintro _ w44 ⟨i44_7, i44_10, i44_24, i44_25, i44_26, i44_27, i44_28, i44_29, i44_30, i44_31, i44_32, i44_33, rfl, A44_0, A44_1, A44_2, HB44⟩ K44
    refine wp_seq (region_0 [24] [.bool true] ?_ ?_)
    · refine stpx (fun _ _ => ex_ilss rfl rfl true (by rw [eq_comm, decide_eq_true_eq]; omega)) ?_
      exact GSteps.nil
    intro w45 hb45
    refine th_r ?_
    have A46 := A44_0.keep hb45.out
    have A47 := A44_1.keep hb45.out
    have A48 := A44_2.keep hb45.out
    have HB49 := below_then HB44 hb45.out
    refine wp_seq ?_
    refine wp_cond_true rfl ?_
    refine wp_skip ?_
    refine th_r ?_
    refine wp_seq ?_
    refine wp_block ?_
    obtain ⟨g50, o50, ha50, lg50, hr50⟩ := (HP.keep HB49) j hj
    skip
    · refine wp_seq (region_c 1 (fun _ => 28) (fun _ => 2) (fun _ => 3) (fun _ => segs [.n 6 0, .n 6 0, .b false]) (fun _ => segs [.n 6 ((X j)), .n 6 ((Y j)), .b ((I j))]) [25, 26, 10] (fun γ => [.pointer (some ⟨g50, o50 + 13 * j, none⟩), sv [.n 6 ((X j)), .n 6 ((Y j)), .b ((I j))], .pointer (some ⟨γ 0, 0, none⟩)]) ?_ ?_)
      · refine stpx (fun _ _ => ex_idxR slP1 (a := ap) (m := m) (c := cp) (i := j) rfl ha50 rfl hj) ?_
        refine stpv (fun γ w h => ex_loadR (l := [.n 6 ((X j)), .n 6 ((Y j)), .b ((I j))]) flG1 rfl rfl (range_keep lg50 h.out hr50)) ?_
        refine GSteps.cons (gm_new 0 rfl (fun _ => rfl) (fun _ _ => rfl) (fun γ w => ex_allocs (l := [.n 6 0, .n 6 0, .b false]) zG1) rfl (by kernel_rfl)) ?_
        refine GSteps.cons (gm_store 0 rfl rfl (fun _ => rfl) (len_segs (l := [.n 6 ((X j)), .n 6 ((Y j)), .b ((I j))]) (l' := [.n 6 0, .n 6 0, .b false]) rfl) (fun γ w h => ex_stores 0 3 (l := [.n 6 0, .n 6 0, .b false]) (m := [.n 6 ((X j)), .n 6 ((Y j)), .b ((I j))]) flG1.2 rfl rfl rfl rfl h rfl rfl) rfl rfl (by kernel_rfl)) ?_
        exact GSteps.nil
      intro γ51 w51 hb51 hB51 _
      refine th_r ?_
      have A52 := A46.keep hb51.out
      have A53 := A47.keep hb51.out
      have A54 := A48.keep hb51.out
      have A55 : SB 28 w51 (γ51 0) [.n 6 ((X j)), .n 6 ((Y j)), .b ((I j))] := (hB51 0 (by decide)).2
      have le55 := (hB51 0 (by decide)).1
      have HB56 := below_then HB49 hb51.out
      refine wp_seq (region_0 [27, 28, 29, 30, 31] [.pointer (some ⟨(γ1 0), 0, none⟩), .func (.func 6) #[] #[], sv [.n 6 ((X j)), .n 6 ((Y j)), .b ((I j))], .bool false, .bool true] ?_ ?_)
      · refine stpx (fun _ _ => ex_field faSc1_0 rfl) ?_
        refine stpv (fun γ w h => ex_load1 0 (s := .v (.func (.func 6) #[] #[])) (v := .func (.func 6) #[] #[]) sgF1_0 rfl (A52.keep h.out) rfl rfl rfl) ?_
        refine stpv (fun γ w h => ex_loads 0 3 (m := [.n 6 ((X j)), .n 6 ((Y j)), .b ((I j))]) flG1 rfl rfl (A55.keep h.out) rfl rfl) ?_
        refine stpc (.bool false) (fun γ w => ex_call (vs := [sv [.n 6 ((X j)), .n 6 ((Y j)), .b ((I j))]]) rfl Try.call6 rfl) (fun w h => oneRight_no hx hy hbad _) ?_
        refine stpx (fun _ _ => ex_not (r := false) rfl) ?_
        exact GSteps.nil
      intro w57 hb57
      refine th_r ?_
      have A58 := A52.keep hb57.out
      have A59 := A53.keep hb57.out
      have A60 := A54.keep hb57.out
      have A61 := A55.keep hb57.out
      have HB62 := below_then HB56 hb57.out
      refine wp_cond_true rfl ?_
      refine wp_seq (region_s 1 ((γ1 1)) 0 (segs [.n 6 0, .n 6 0, .b false]) [32, 7] [sv [.n 6 0, .n 6 0, .b false], .int .i64 30] ?_ ?_)
      · refine latv (fun γ w h => ex_loads 0 3 (m := [.n 6 0, .n 6 0, .b false]) flG1 rfl rfl (A60.keep h.out) rfl rfl) ?_
        refine GSteps.cons (late_store rfl (fun _ => rfl) (fun γ w h => ex_stores 0 3 (l := [.n 6 0, .n 6 0, .b false]) (m := [.n 6 0, .n 6 0, .b false]) flG1.2 rfl rfl rfl rfl (A59.keep h.out) rfl rfl) rfl) ?_
        refine GSteps.cons (late_any (v := .int .i64 30) rfl (fun _ => rfl) (fun _ => rfl) (fun γ w h => ex_assign _) rfl rfl) ?_
        exact GSteps.nil
      intro w63 w63_ hb63 hs63
      refine th_r ?_
      have A64 := A58.keep hb63.out
      have A65 := A59.keep hb63.out
      have A66 := A60.keep hb63.out
      have A67 := A61.keep hb63.out
      have HB68 := below_then HB62 hb63.out
      have A69 := hs63.other (hn1 0 1 (by decide) (by decide) (by decide)) A64
      have A70 := hs63.here 0 3 (l' := [.n 6 0, .n 6 0, .b false]) A65 rfl rfl rfl
      have A71 := hs63.other (Ne.symm (Nat.ne_of_lt (Nat.lt_of_lt_of_le A3.lt le8))) A66
      have A72 := hs63.other (Ne.symm (Nat.ne_of_lt (Nat.lt_of_lt_of_le A47.lt le55))) A67
      have HB73 := hs63.below HB68 (Nat.le_trans (Nat.le_refl _) le3)
      exact wp_ret (bk_r (th_ret (th_ret (bk_r (th_ret (bodyPost_ret (ret2 Try.results18 (res_sv rfl A70 flG1 rfl) (res_tmp rfl)) rfl ⟨rfl, HB73⟩))))))
theorem scAny1_p (m : Nat) (hm : m ≤ 4096) (S : Nat → E1) (A : Nat → Nat) (ap ak : Option Addr) (cp ck : Nat) (HA : ∀ i, i < m → A i < frB) (w : World) (HP : Row w ap 13 m (fun i => pt1 (S i))) (HK : Row w ak 4 m (fun i => [.n 4 (A i)])) : Calls Try.prog 18 #[sv [.v (.func (.func 6) #[] #[]), .v (.func (.func 10) #[] #[]), .v (.func (.func 12) #[] #[]), .v (.func (.func 11) #[] #[]), .i .i64 32], .slice ap m cp, .slice ak m ck] w (Is (.tuple #[sv [.n 6 (ax (((sumE1 S A m)).pt)), .n 6 (ay (((sumE1 S A m)).pt)), .b (ai (((sumE1 S A m)).pt))], .int .i64 0]) w) := by
  by_cases h : m < 32
  · exact scFew1_p m hm S A ap ak cp ck h HA w HP HK
  · exact scMany1_p m hm S A ap ak cp ck h HA w HP HK
set_option maxRecDepth 20000 in
set_option maxHeartbeats 4000000 in
theorem sumAny1_p (m : Nat) (hm : m ≤ 4096) (S : Nat → E1) (A : Nat → Nat) (ap ak : Option Addr) (cp ck : Nat) (HA : ∀ i, i < m → A i < frB) (w : World) (HP : Row w ap 13 m (fun i => pt1 (S i))) (HK : Row w ak 4 m (fun i => [.n 4 (A i)])) :
    Calls Try.prog 7 #[.slice ap m cp, .slice ak m ck] w (Is (.tuple #[sv [.n 6 (ax (((sumE1 S A m)).pt)), .n 6 (ay (((sumE1 S A m)).pt)), .b (ai (((sumE1 S A m)).pt))], .int .i64 0]) w) := by
  go_enter Try.func7, Try.ntmps7
  refine wp_seq (region_c 1 (fun _ => 28) (fun _ => 0) (fun _ => 0) (fun _ => segs [.n 6 0, .n 6 0, .b false]) (fun _ => segs [.n 6 0, .n 6 0, .b false]) [4, 5] (fun γ => [.pointer (some ⟨γ 0, 0, none⟩), .int .i64 0]) ?_ ?_)
  · refine GSteps.cons (gm_box 0 rfl (fun _ => rfl) (fun _ _ => rfl) (fun γ w h => ex_allocs (l := [.n 6 0, .n 6 0, .b false]) zG1) rfl rfl rfl) ?_
    refine stpx (fun _ _ => ex_assign _) ?_
    exact GSteps.nil
  intro γ1 w1 hb1 hB1 _
  refine th_r ?_
  have A2 : SB 28 w1 (γ1 0) [.n 6 0, .n 6 0, .b false] := (hB1 0 (by decide)).2
  have le2 := (hB1 0 (by decide)).1
  have HB3 := below_then (Below.refl w.heap.size w) hb1.out
  refine wp_seq (region_s 6 ((γ1 0)) 0 (segs [.n 6 (ax (((sumE1 S A m)).pt)), .n 6 (ay (((sumE1 S A m)).pt)), .b (ai (((sumE1 S A m)).pt))]) [6, 7, 8, 9, 10, 11, 5] [sv [.v (.func (.func 6) #[] #[]), .v (.func (.func 10) #[] #[]), .v (.func (.func 12) #[] #[]), .v (.func (.func 11) #[] #[]), .i .i64 32], .slice ap m cp, .slice ak m ck, .tuple #[sv [.n 6 (ax (((sumE1 S A m)).pt)), .n 6 (ay (((sumE1 S A m)).pt)), .b (ai (((sumE1 S A m)).pt))], .int .i64 0], sv [.n 6 (ax (((sumE1 S A m)).pt)), .n 6 (ay (((sumE1 S A m)).pt)), .b (ai (((sumE1 S A m)).pt))], .int .i64 0, .int .i64 0] ?_ ?_)
  · refine latc (sv [.v (.func (.func 6) #[] #[]), .v (.func (.func 10) #[] #[]), .v (.func (.func 12) #[] #[]), .v (.func (.func 11) #[] #[]), .i .i64 32]) (fun γ w => ex_call (vs := []) rfl Try.call17 rfl) (fun w h => first1_v _) ?_
    refine latv (fun γ w h => ex_move _) ?_
    refine latv (fun γ w h => ex_move _) ?_
    refine latc (.tuple #[sv [.n 6 (ax (((sumE1 S A m)).pt)), .n 6 (ay (((sumE1 S A m)).pt)), .b (ai (((sumE1 S A m)).pt))], .int .i64 0]) (fun γ w => ex_call (vs := [sv [.v (.func (.func 6) #[] #[]), .v (.func (.func 10) #[] #[]), .v (.func (.func 12) #[] #[]), .v (.func (.func 11) #[] #[]), .i .i64 32], .slice ap m cp, .slice ak m ck]) rfl Try.call18 rfl) (fun w h => scAny1_p m hm S A ap ak cp ck HA _ (HP.keep (below_here HB3 h)) (HK.keep (below_here HB3 h))) ?_
    refine latv (fun γ w h => ex_extract (vs := [sv [.n 6 (ax (((sumE1 S A m)).pt)), .n 6 (ay (((sumE1 S A m)).pt)), .b (ai (((sumE1 S A m)).pt))], .int .i64 0]) rfl rfl) ?_
    refine latv (fun γ w h => ex_extract (vs := [sv [.n 6 (ax (((sumE1 S A m)).pt)), .n 6 (ay (((sumE1 S A m)).pt)), .b (ai (((sumE1 S A m)).pt))], .int .i64 0]) rfl rfl) ?_
    refine GSteps.cons (late_store rfl (fun _ => rfl) (fun γ w h => ex_stores 0 3 (l := [.n 6 0, .n 6 0, .b false]) (m := [.n 6 (ax (((sumE1 S A m)).pt)), .n 6 (ay (((sumE1 S A m)).pt)), .b (ai (((sumE1 S A m)).pt))]) flG1.2 rfl rfl rfl rfl (A2.keep h.out) rfl rfl) rfl) ?_
    refine GSteps.cons (late_any (v := .int .i64 0) rfl (fun _ => rfl) (fun _ => rfl) (fun γ w h => ex_assign _) rfl rfl) ?_
    exact GSteps.nil
  intro w4 w4_ hb4 hs4
  refine th_r ?_
  have A5 := A2.keep hb4.out
  have HB6 := below_then HB3 hb4.out
  have A7 := hs4.here 0 3 (l' := [.n 6 (ax (((sumE1 S A m)).pt)), .n 6 (ay (((sumE1 S A m)).pt)), .b (ai (((sumE1 S A m)).pt))]) A5 rfl rfl rfl
  have HB8 := hs4.below HB6 (Nat.le_trans (Nat.le_refl _) le2)
  exact wp_ret (bodyPost_ret (ret2 Try.results7 (res_sv rfl A7 flG1 rfl) (res_tmp rfl)) rfl ⟨rfl, HB8⟩)
set_option maxRecDepth 20000 in
set_option maxHeartbeats 4000000 in
theorem sumErr1_curve (m : Nat) (hm : m ≤ 4096) (X Y : Nat → Nat) (I : Nat → Bool) (ap ak : Option Addr) (cp ck : Nat) (j : Nat) (hj : j < m) (hok : ∀ i, i < j → RawOk (X i) (Y i) (I i)) (hx : X j < fpB) (hy : Y j < fpB) (hbad : ¬ RawOk (X j) (Y j) (I j)) (w : World) (HP : Row w ap 13 m (rw1 X Y I)) :
    Calls Try.prog 7 #[.slice ap m cp, .slice ak m ck] w (Is (.tuple #[sv [.n 6 0, .n 6 0, .b false], .int .i64 30]) w) := by
  go_enter Try.func7, Try.ntmps7
  refine wp_seq (region_c 1 (fun _ => 28) (fun _ => 0) (fun _ => 0) (fun _ => segs [.n 6 0, .n 6 0, .b false]) (fun _ => segs [.n 6 0, .n 6 0, .b false]) [4, 5] (fun γ => [.pointer (some ⟨γ 0, 0, none⟩), .int .i64 0]) ?_ ?_)
  · refine GSteps.cons (gm_box 0 rfl (fun _ => rfl) (fun _ _ => rfl) (fun γ w h => ex_allocs (l := [.n 6 0, .n 6 0, .b false]) zG1) rfl rfl rfl) ?_
    refine stpx (fun _ _ => ex_assign _) ?_
    exact GSteps.nil
  intro γ1 w1 hb1 hB1 _
  refine th_r ?_
  have A2 : SB 28 w1 (γ1 0) [.n 6 0, .n 6 0, .b false] := (hB1 0 (by decide)).2
  have le2 := (hB1 0 (by decide)).1
  have HB3 := below_then (Below.refl w.heap.size w) hb1.out
  refine wp_seq (region_s 6 ((γ1 0)) 0 (segs [.n 6 0, .n 6 0, .b false]) [6, 7, 8, 9, 10, 11, 5] [sv [.v (.func (.func 6) #[] #[]), .v (.func (.func 10) #[] #[]), .v (.func (.func 12) #[] #[]), .v (.func (.func 11) #[] #[]), .i .i64 32], .slice ap m cp, .slice ak m ck, .tuple #[sv [.n 6 0, .n 6 0, .b false], .int .i64 30], sv [.n 6 0, .n 6 0, .b false], .int .i64 30, .int .i64 30] ?_ ?_)
  · refine latc (sv [.v (.func (.func 6) #[] #[]), .v (.func (.func 10) #[] #[]), .v (.func (.func 12) #[] #[]), .v (.func (.func 11) #[] #[]), .i .i64 32]) (fun γ w => ex_call (vs := []) rfl Try.call17 rfl) (fun w h => first1_v _) ?_
    refine latv (fun γ w h => ex_move _) ?_
    refine latv (fun γ w h => ex_move _) ?_
    refine latc (.tuple #[sv [.n 6 0, .n 6 0, .b false], .int .i64 30]) (fun γ w => ex_call (vs := [sv [.v (.func (.func 6) #[] #[]), .v (.func (.func 10) #[] #[]), .v (.func (.func 12) #[] #[]), .v (.func (.func 11) #[] #[]), .i .i64 32], .slice ap m cp, .slice ak m ck]) rfl Try.call18 rfl) (fun w h => scErr1_curve m hm X Y I ap ak cp ck j hj hok hx hy hbad _ (HP.keep (below_here HB3 h))) ?_
    refine latv (fun γ w h => ex_extract (vs := [sv [.n 6 0, .n 6 0, .b false], .int .i64 30]) rfl rfl) ?_
    refine latv (fun γ w h => ex_extract (vs := [sv [.n 6 0, .n 6 0, .b false], .int .i64 30]) rfl rfl) ?_
    refine GSteps.cons (late_store rfl (fun _ => rfl) (fun γ w h => ex_stores 0 3 (l := [.n 6 0, .n 6 0, .b false]) (m := [.n 6 0, .n 6 0, .b false]) flG1.2 rfl rfl rfl rfl (A2.keep h.out) rfl rfl) rfl) ?_
    refine GSteps.cons (late_any (v := .int .i64 30) rfl (fun _ => rfl) (fun _ => rfl) (fun γ w h => ex_assign _) rfl rfl) ?_
    exact GSteps.nil
  intro w4 w4_ hb4 hs4
  refine th_r ?_
  have A5 := A2.keep hb4.out
  have HB6 := below_then HB3 hb4.out
  have A7 := hs4.here 0 3 (l' := [.n 6 0, .n 6 0, .b false]) A5 rfl rfl rfl
  have HB8 := hs4.below HB6 (Nat.le_trans (Nat.le_refl _) le2)
  exact wp_ret (bodyPost_ret (ret2 Try.results7 (res_sv rfl A7 flG1 rfl) (res_tmp rfl)) rfl ⟨rfl, HB8⟩)
end
end Go.Proofs.Ytkkmekdhejhapaa
