/- What is proved here: slices that are made: their zeros, a store into one of their elements; slices that a call answers; how often a point is taken; what is of the group; the reference's sum (chirographref09); the powers of a number, as often a point. -/
import Derived.Test.YtkkmekdhejhapaaGreatComp
import Derived.Test.YtkkmekdhejhapaaGreatTwo1
import Derived.Test.YtkkmekdhejhapaaGreatSum1
import Derived.Test.YtkkmekdhejhapaaGreatTyFr
namespace Go.Proofs.YtkkmekdhejhapaaGreat
section
open Go.RowKit Cv
theorem cat_len {S : Nat → List Seg} {n : Nat} (hn : ∀ i, ssize (S i) = n) : ∀ m, (segs (cat S m)).length = n * m := by
  intro m
  induction m with
  | zero => rfl
  | succ m ih => rw [cat, segs_app, List.length_append, ih, segs_len, hn, Nat.mul_succ]
theorem cat_at {S : Nat → List Seg} {n : Nat} (hn : ∀ i, ssize (S i) = n) : ∀ m i j, i < m → j < n → (segs (cat S m))[n * i + j]? = (segs (S i))[j]? := by
  intro m i j hi hj
  obtain ⟨x, y, e, hx⟩ := cat_cut hn m i hi
  rw [e, List.getElem?_append_right (by omega), hx, Nat.add_sub_cancel_left, List.getElem?_append_left (by rw [segs_len, hn]; exact hj)]
theorem szB_ok : ∀ (l : List Seg) (n : Nat), ssize l = n → szB l n = true
  | [], n, h => by
    subst h
    rfl
  | s :: l, n, h => by
    have h' : s.size + ssize l = n := h
    unfold szB
    rw [Nat.ble_eq_true_of_le (show s.size ≤ n by omega)]
    exact szB_ok l _ (by omega)
theorem cat_ext {S S' : Nat → List Seg} : ∀ {m : Nat}, (∀ i, i < m → S i = S' i) → cat S m = cat S' m
  | 0, _ => rfl
  | m + 1, h => by rw [cat, cat, cat_ext (fun i hi => h i (by omega)), h m (by omega)]
theorem made_row {n : Nat} {z : List Seg} (hz : ssize z = n) (h0 : 0 < n) (m : Nat) : (Array.range (m * n)).map (fun i => (segs z).toArray[i % (segs z).toArray.size]!) = (segs (cat (fun _ => z) m)).toArray := by
  have hl : (segs z).length = n := by rw [segs_len, hz]
  have hc := cat_len (S := fun _ => z) (fun _ => hz) m
  refine Array.ext (by simp [hc, Nat.mul_comm]) fun i h1 h2 => ?_
  have hi : i < n * m := by simpa [hc] using h2
  have hq : i / n < m := by rwa [Nat.div_lt_iff_lt_mul h0, Nat.mul_comm]
  have hr := Nat.mod_lt i h0
  have e := cat_at (S := fun _ => z) (fun _ => hz) m (i / n) (i % n) hq hr
  rw [Nat.div_add_mod] at e
  rw [List.getElem?_eq_getElem (by rw [hc]; exact hi), List.getElem?_eq_getElem (by rw [hl]; exact hr)] at e
  injection e with e
  simp only [Array.getElem_map, Array.getElem_range, List.size_toArray, hl]
  rw [List.getElem_toArray, e]
  simp [hl, hr]
section
variable {ρ : Operand → Value} {d : Option Tmp} {ty0 : TypeId} {pos : String} {after : Array Edge} {guard : Option (Nat × Bool)} {w : World}
theorem run_inf {e : TypeId} {i : TypeInfo} (h : Tryz.prog.info? e = some i) (w : World) : (typeInfo e).run Tryz.prog w = .ok i w := by
  simp [typeInfo, h, go_sem]
theorem ex_mkR {st e : TypeId} {n b : Nat} (hs : SlS st e n) {z : List Seg} (hzn : ssize z = n) (h0n : 0 < n) (hz : ∀ w, (zeroValue e).run Tryz.prog w = .ok (cv (segs z)) w) (hi : ∃ i, Tryz.prog.info? e = some i ∧ i.bytes = b) (hb1 : b ≤ 1000)
    {x y : Operand} {m : Nat} (hx : ρ x = .int .i64 (m : Int)) (hy : ρ y = .int .i64 (m : Int)) (hm : m ≤ 5000) :
    (execOp ρ ⟨d, .makeSlice st x y, ty0, pos, after, guard⟩).run Tryz.prog w = .ok (.value (.slice (some ⟨w.heap.size, 0, none⟩) m m)) (w.alloc (.cells (segs (cat (fun _ => z) m)).toArray e)) := by
  obtain ⟨i, hi, hb⟩ := hi
  have hmb : m * b ≤ 5000 * 1000 := Nat.mul_le_mul hm hb1
  have hmbI : (b : Int) * (m : Int) = ((m * b : Nat) : Int) := by rw [Int.natCast_mul, Int.mul_comm]
  have w1 : IntKind.i64.wrap (m : Int) = (m : Int) := by rw [IntKind.wrap_i64]; omega
  have t1 : ¬ ((m : Int) < 0) := by omega
  have t2 : ¬ ((b : Int) * (m : Int) > 2 ^ 48) := by rw [hmbI]; omega
  have t4 : ¬ ((m : Int) > (m : Int)) := by omega
  have hroom : (askRoom (m * b)).run Tryz.prog w = .ok () w := by
    have : ¬ (m * b > roomBytes) := by unfold roomBytes; omega
    simp [askRoom, this]
  by_cases h0 : m * n = 0
  · have hm0 : m = 0 := by rcases Nat.mul_eq_zero.1 h0 with h | h <;> omega
    have hrow : (Array.range 0).map ((#[] : Array Value)[· % (#[] : Array Value).size]!) = (segs (cat (fun _ => z) m)).toArray := by
      subst hm0
      simp [cat, segs]
    simp only [execOp, Instr.makeSlice, Sem.run_bind, hx, hy, run_underlying hs.und w, Result.andThen_ok, asInt, asIntOf, Sem.run_pure, run_inf hi w, hb, w1, decide_eq_false t1, decide_eq_false t4, decide_eq_false t2, Bool.or_false, Bool.false_eq_true, if_false, Int.toNat_natCast, hroom, hs.flat.2 w, h0, if_true, hrow]
    rfl
  · have hrow := made_row hzn h0n m
    have hcells : (cv (segs z)).cells = (segs z).toArray := rfl
    simp only [execOp, Instr.makeSlice, Sem.run_bind, hx, hy, run_underlying hs.und w, Result.andThen_ok, asInt, asIntOf, Sem.run_pure, run_inf hi w, hb, w1, decide_eq_false t1, decide_eq_false t4, decide_eq_false t2, Bool.or_false, Bool.false_eq_true, if_false, Int.toNat_natCast, hroom, hs.flat.2 w, h0, if_false, hz w, hcells, hrow]
    rfl
theorem ex_storeR {ty : TypeId} {n : Nat} (hf : Flat ty n) {x y : Operand} {t : TypeId} {g i m : Nat} {S : Nat → List Seg} {l : List Seg} {v : Value} (hn : ∀ i, ssize (S i) = n) (hl : ssize l = n) (h : SB t w g (cat S m)) (hi : i < m) (hx : ρ x = .pointer (some ⟨g, n * i, none⟩)) (hy : ρ y = v) (hv : v.cells = (segs l).toArray) :
    (execOp ρ ⟨d, .store ty x y, ty0, pos, after, guard⟩).run Tryz.prog w = .ok .skip (w.setCells g (n * i) (segs l)) := by
  have hle : n * i + (segs l).length ≤ (segs (cat S m)).length := by
    rw [segs_len, hl, cat_len hn]
    have : n * (i + 1) ≤ n * m := Nat.mul_le_mul_left n hi
    rwa [Nat.mul_succ] at this
  have := run_store_cv (ty := ty) h hv (fun w => by rw [segs_len, hl]; exact hf.2 w) hle (segs_ones l)
  simp [execOp, hx, hy, this]
theorem ex_ownR {st e : TypeId} {n : Nat} (hs : SlS st e n) {x ix : Operand} {g m c i : Nat} (hx : ρ x = .slice (some ⟨g, 0, none⟩) m c) (hi : ρ ix = .int .i64 (i : Int)) (hlt : i < m) :
    (execOp ρ ⟨d, .indexAddr st x ix, ty0, pos, after, guard⟩).run Tryz.prog w = .ok (.value (.pointer (some ⟨g, n * i, none⟩))) w := by
  have := ex_idxR (d := d) (ty0 := ty0) (pos := pos) (after := after) (guard := guard) (w := w) hs hx rfl hi hlt
  rwa [Nat.zero_add] at this
theorem ex_loadO {ty t : TypeId} {n : Nat} (hf : Flat ty n) {x : Operand} {g i m : Nat} {S : Nat → List Seg} {l : List Seg} (hn : ∀ i, ssize (S i) = n) (h : SB t w g (cat S m)) (hi : i < m) (hx : ρ x = .pointer (some ⟨g, n * i, none⟩)) (hl : S i = l) :
    (execOp ρ ⟨d, .load ty x, ty0, pos, after, guard⟩).run Tryz.prog w = .ok (.value (sv l)) w := by
  obtain ⟨g', o', e, _, hr⟩ := h.row rfl hn i hi
  injection e with e
  injection e with e1 e2 _
  subst e1 e2
  rw [Nat.zero_add, hl] at hr
  refine ex_loadR hf hx ?_ hr
  rw [← hl]
  exact szB_ok _ _ (hn i)
end
theorem St.elem {w w' : World} {g i m n : Nat} {t : TypeId} {S S' : Nat → List Seg} {l : List Seg} (h : St w w' g (n * i) (segs l)) (hn : ∀ i, ssize (S i) = n) (hl : ssize l = n) (hA : SB t w g (cat S m)) (hi : i < m) (h1 : S' i = l) (h2 : ∀ j, j < m → j ≠ i → S j = S' j) : SB t w' g (cat S' m) := by
  have hn' : ∀ j, j < m → ssize (S' j) = n := fun j hj => by
    by_cases c : j = i
    · rw [c, h1]; exact hl
    · rw [← h2 j hj c]; exact hn j
  obtain ⟨T, hT⟩ : ∃ T : Nat → List Seg, T = fun j => if j < m then S' j else l := ⟨_, rfl⟩
  have hTn : ∀ j, ssize (T j) = n := fun j => by
    rw [hT]
    show ssize (if j < m then S' j else l) = n
    split
    · exact hn' j (by assumption)
    · exact hl
  have hTe : cat S' m = cat T m := cat_ext fun j hj => by rw [hT]; exact (if_pos hj).symm
  rw [hTe]
  have hle : n * i + (segs l).length ≤ (segs (cat S m)).length := by
    rw [segs_len, hl, cat_len hn]
    have : n * (i + 1) ≤ n * m := Nat.mul_le_mul_left n hi
    rwa [Nat.mul_succ] at this
  have h3 := Blk.setCells (segs l) (n * i) hle hA
  rw [show w' = _ from h]
  have e : (segs (cat S m)).take (n * i) ++ (segs l ++ (segs (cat S m)).drop (n * i + (segs l).length)) = segs (cat T m) := by
    have hll : (segs l).length = n := by rw [segs_len, hl]
    have hcl := cat_len hn m
    have hcT := cat_len hTn m
    rw [hll] at hle ⊢
    apply List.ext_getElem?
    intro p
    by_cases c1 : p < n * i
    · rw [List.getElem?_append_left (by rw [List.length_take]; omega), List.getElem?_take_of_lt c1]
      have hn0 : 0 < n := by
        rcases Nat.eq_zero_or_pos n with z | z
        · rw [z, Nat.zero_mul] at c1; omega
        · exact z
      have hq : p / n < i := by rwa [Nat.div_lt_iff_lt_mul hn0, Nat.mul_comm]
      have a1 := cat_at hn m (p / n) (p % n) (by omega) (Nat.mod_lt p hn0)
      have a2 := cat_at hTn m (p / n) (p % n) (by omega) (Nat.mod_lt p hn0)
      rw [Nat.div_add_mod] at a1 a2
      rw [a1, a2, h2 _ (by omega) (by omega), hT]
      simp only [if_pos (show p / n < m by omega)]
    · rw [List.getElem?_append_right (by rw [List.length_take]; omega), List.length_take, Nat.min_eq_left (by omega)]
      by_cases c2 : p < n * i + n
      · rw [List.getElem?_append_left (by omega)]
        have a2 := cat_at hTn m i (p - n * i) hi (by omega)
        rw [show n * i + (p - n * i) = p by omega] at a2
        rw [a2, hT]
        simp only [if_pos hi, h1]
      · rw [List.getElem?_append_right (by omega), hll, List.getElem?_drop, show n * i + n + (p - n * i - n) = p by omega]
        by_cases c3 : p < n * m
        · have hn0 : 0 < n := by
            rcases Nat.eq_zero_or_pos n with z | z
            · rw [z, Nat.zero_mul] at c3; omega
            · exact z
          have hq : p / n < m := by rwa [Nat.div_lt_iff_lt_mul hn0, Nat.mul_comm]
          have hq2 : i + 1 ≤ p / n := by rw [Nat.le_div_iff_mul_le hn0, Nat.mul_comm, Nat.mul_succ]; omega
          have a1 := cat_at hn m (p / n) (p % n) hq (Nat.mod_lt p hn0)
          have a2 := cat_at hTn m (p / n) (p % n) hq (Nat.mod_lt p hn0)
          rw [Nat.div_add_mod] at a1 a2
          rw [a1, a2, h2 _ hq (by omega), hT]
          simp only [if_pos hq]
        · rw [List.getElem?_eq_none (by omega), List.getElem?_eq_none (by omega)]
  unfold SB
  rw [← e]
  exact h3
section
variable {ops : Array Oper} {rest : List Oper} {o : Oper} {a : Act} {w : World} {Q : Exit → Act → World → Prop}
theorem sq_newR {ty : TypeId} {l : List Seg} {val : Nat → Value} {a' : Nat → Act} (hw : Region.wanted o (yielded ops a.tmps) = true) (ha : ∀ g, a.put o.dst (val g) = a' g) (h : (execOp a.eval o).run Tryz.prog w = .ok (.value (val w.heap.size)) (w.alloc (.cells (segs l).toArray ty)))
    (hn : ∀ g w', SB ty w' g l → w.heap.size ≤ g → Below w.heap.size w w' → wpList Tryz.prog ops Q rest (a' g) w') : wpList Tryz.prog ops Q (o :: rest) a w := by
  refine wpList_step fun K hK => ?_
  rw [if_pos hw]
  unfold Oper.wp
  rw [h]
  refine hK _ _ ?_
  rw [ha]
  exact hn _ _ (Blk.boxed ty (segs l) w) (Nat.le_refl _) ((Below.refl _ _).alloc (Nat.le_refl _) _)
end
end

section
section
open Go.RowKit Cv
set_option maxRecDepth 20000
set_option maxHeartbeats 4000000
def g2xa : Nat := 352701069587466618187139116011060144890029952792775240219908644239793785735715026873347600343865175952761926303160
theorem lit_g2xa : nv 6 [g2xa] = .agg #[.int .u64 15312334153293348280, .int .u64 841050694974028783, .int .u64 12993178926126977399, .int .u64 14331714969349929730, .int .u64 2740446039084699729, .int .u64 165123225776229009] := by rw [nv6]; kernel_rfl
def g2xb : Nat := 3059144344244213709971259814753781636986470325476647558659373206291635324768958432433509563104347017837885763365758
theorem lit_g2xb : nv 6 [g2xb] = .agg #[.int .u64 16549740192668593022, .int .u64 3696594454104530263, .int .u64 13103893525273989193, .int .u64 6443473286224459290, .int .u64 9055845637167730533, .int .u64 1432192374203850592] := by rw [nv6]; kernel_rfl
def g2ya : Nat := 1985150602287291935568054521177171638300868978215655730859378665066344726373823718423869104263333984641494340347905
theorem lit_g2ya : nv 6 [g2ya] = .agg #[.int .u64 16254428414758889473, .int .u64 10536956157198377609, .int .u64 7873024875724591404, .int .u64 12537348094477325223, .int .u64 10144865889576432922, .int .u64 929383263523139089] := by rw [nv6]; kernel_rfl
def g2yb : Nat := 927553665492332455747201965776037880757740193453592970025027978793976877002675564980949289727957565575433344219582
theorem lit_g2yb : nv 6 [g2yb] = .agg #[.int .u64 12297368366147926462, .int .u64 4555124010822409633, .int .u64 2771000935339432363, .int .u64 14645187562128761775, .int .u64 3651525051980876697, .int .u64 434250606344352972] := by rw [nv6]; kernel_rfl
theorem twoGen_v : CI 44 #[] (sv [.n 6 g2xa, .n 6 g2xb, .n 6 g2ya, .n 6 g2yb, .b false]) := fun w => by
  go_enter Tryz.func44, Tryz.ntmps44
  refine rh1 (brf w) 30 0 [.n 6 0, .n 6 0, .n 6 0, .n 6 0, .b false] [0] (fun γ => [pz (γ 0)]) ?_ ?_
  · exact stpb 0 (fun γ w h => ex_allocs (l := [.n 6 0, .n 6 0, .n 6 0, .n 6 0, .b false]) zG2) .nil
  intro γ1 w1 hb1 A2 le2 HB3
  refine rhs HB3 le2 7 0 [.n 6 g2xa, .n 6 g2xb, .n 6 g2ya, .n 6 g2yb, .b false] [1, 2, 3, 4, 5, 6, 7] [nv 6 [g2xa], nv 6 [g2xb], nv 6 [g2xa, g2xb], nv 6 [g2ya], nv 6 [g2yb], nv 6 [g2ya, g2yb], sv [.n 6 g2xa, .n 6 g2xb, .n 6 g2ya, .n 6 g2yb, .b false]] ?_ ?_
  · refine latv (fun γ w h => ex_six lit_g2xa (fun _ => rfl)) ?_
    refine latv (fun γ w h => ex_six lit_g2xb (fun _ => rfl)) ?_
    refine latv (fun γ w h => ex_build stFp2 (vs := [(0, nv 6 [g2xa]), (1, nv 6 [g2xb])]) rfl (bdAB g2xa g2xb)) ?_
    refine latv (fun γ w h => ex_six lit_g2ya (fun _ => rfl)) ?_
    refine latv (fun γ w h => ex_six lit_g2yb (fun _ => rfl)) ?_
    refine latv (fun γ w h => ex_build stFp2 (vs := [(0, nv 6 [g2ya]), (1, nv 6 [g2yb])]) rfl (bdAB g2ya g2yb)) ?_
    refine latv (fun γ w h => ex_builds stG2 (l := [.n 6 g2xa, .n 6 g2xb, .n 6 g2ya, .n 6 g2yb, .b false]) (vs := [(0, nv 6 [g2xa, g2xb]), (1, nv 6 [g2ya, g2yb])]) rfl ((fills_cons 0 2 (m := [.n 6 g2xa, .n 6 g2xb]) (z' := [.n 6 g2xa, .n 6 g2xb, .n 6 0, .n 6 0, .b false]) rfl (nv_cells 6 [g2xa, g2xb]) rfl rfl rfl rfl).trans ((fills_cons 2 2 (m := [.n 6 g2ya, .n 6 g2yb]) (z' := [.n 6 g2xa, .n 6 g2xb, .n 6 g2ya, .n 6 g2yb, .b false]) rfl (nv_cells 6 [g2ya, g2yb]) rfl rfl rfl rfl).trans rfl))) ?_
    exact latq 0 5 flG2.2 A2 .nil
  intro w4 w4_ hb4 hs4 HB8
  have A5 := A2.keep hb4.out
  have A7 := hs4.here 0 5 (l' := [.n 6 g2xa, .n 6 g2xb, .n 6 g2ya, .n 6 g2yb, .b false]) A5 rfl rfl rfl
  exact wpr (ret1 Tryz.results44 (res_sv rfl A7 flG2 rfl)) HB8
theorem twogen_t : sv [.n 6 g2xa, .n 6 g2xb, .n 6 g2ya, .n 6 g2yb, .b false] = sv [.n 6 (bx0 G2.pt), .n 6 (bx1 G2.pt), .n 6 (by0 G2.pt), .n 6 (by1 G2.pt), .b (bi G2.pt)] := by
  have h0 : g2xa = bx0 G2.pt := by decide +kernel
  have h1 : g2xb = bx1 G2.pt := by decide +kernel
  have h2 : g2ya = by0 G2.pt := by decide +kernel
  have h3 : g2yb = by1 G2.pt := by decide +kernel
  rw [← h0, ← h1, ← h2, ← h3]
  rfl
theorem twoGen_p (w : World) : Calls Tryz.prog 44 #[] w (Is (sv [.n 6 (bx0 G2.pt), .n 6 (bx1 G2.pt), .n 6 (by0 G2.pt), .n 6 (by1 G2.pt), .b (bi G2.pt)]) w) := by
  rw [← twogen_t]
  exact twoGen_v w
def Z2 : E2 := EP.zero
end

section
open Go.RowKit Cv
theorem inf_of {e : TypeId} {b : Nat} (h : (Tryz.prog.info? e).map (·.bytes) = some b) : ∃ i, Tryz.prog.info? e = some i ∧ i.bytes = b := by
  cases hi : Tryz.prog.info? e with
  | none => rw [hi] at h; cases h
  | some i => rw [hi] at h; exact ⟨i, rfl, Option.some.inj h⟩
theorem info_g1 : ∃ i, Tryz.prog.info? 26 = some i ∧ i.bytes = 104 := inf_of (by kernel_rfl)
theorem frB_big : frB = 18446744073709551616 * 6277101735386680763835789423207666416102355444464034512896 := by rw [frB_eq]
theorem frPow_i (a b : Nat) (ha : a < frB) (hb : b < frB) (w : World) : Calls Tryz.prog 27 #[nv 4 [a], nv 4 [b]] w (Is (nv 4 [a ^ b % rN]) w) := by
  rw [nv4R, nv4R, nv4R]
  exact frPow_v a b w ha hb _ rfl
def pwF (P : E1) (k q : Nat) : Nat → List Seg := fun i => if i < q then pt1 (EP.times C1 (k ^ i % rN) P) else [.n 6 0, .n 6 0, .b false]
theorem pwF_size (P : E1) (k q i : Nat) : ssize (pwF P k q i) = 13 := by unfold pwF; split <;> rfl
theorem pwF_here (P : E1) (k q : Nat) : pwF P k (q + 1) q = pt1 (EP.times C1 (k ^ q % rN) P) := if_pos (by omega)
theorem pwF_other (P : E1) (k q j : Nat) (h : j ≠ q) : pwF P k q j = pwF P k (q + 1) j := by
  unfold pwF
  by_cases c : j < q
  · rw [if_pos c, if_pos (by omega)]
  · rw [if_neg c, if_neg (by omega)]
theorem pwF_start (P : E1) (k m : Nat) : cat (fun _ => [.n 6 0, .n 6 0, .b false]) m = cat (pwF P k 0) m := cat_ext fun i _ => (if_neg (by omega)).symm
theorem pwF_end (P : E1) (k m : Nat) : cat (pwF P k m) m = cat (fun i => pt1 (EP.times C1 (k ^ i % rN) P)) m := cat_ext fun i h => if_pos h
theorem ex_ileq {ρ : Operand → Value} {d : Option Tmp} {ty0 : TypeId} {pos : String} {after : Array Edge} {guard : Option (Nat × Bool)} {w : World} {t t2 : TypeId} {x y : Operand} {k : IntKind} {a b : Int} (hx : ρ x = .int k a) (hy : ρ y = .int k b) (r : Bool) (hr : r = decide (a ≤ b)) :
    (execOp ρ ⟨d, .binOp .leq t x y t2, ty0, pos, after, guard⟩).run Tryz.prog w = .ok (.value (.bool r)) w := by
  subst hr
  simp [execOp, hx, hy, eqGuard, binOp, Op.intCmp]
set_option maxRecDepth 20000 in
set_option maxHeartbeats 4000000 in
theorem powers_ok (P : E1) (k m : Nat) (hk : k < frB) (hm : m ≤ 12) (w : World) :
    Calls Tryz.prog 24 #[sv [.n 6 (ax P.pt), .n 6 (ay P.pt), .b (ai P.pt)], nv 4 [k], .int .i64 ((m : Nat) : Int)] w fun e w' => ∃ g, e = .returned (.tuple #[.slice (some ⟨g, 0, none⟩) m m, .int .i64 0]) ∧ SB 26 w' g (cat (fun i => pt1 (EP.times C1 (k ^ i % rN) P)) m) ∧ w.heap.size ≤ g ∧ Below w.heap.size w w' := by
  go_enter Tryz.func24, Tryz.ntmps24
  refine wp_seq (region_c 2 (fun j_ => match j_ with | 0 => 26 | _ => 49) (fun j_ => match j_ with | 0 => 0 | _ => 1) (fun j_ => match j_ with | 0 => 0 | _ => 1) (fun j_ => match j_ with | 0 => segs [.n 6 (ax P.pt), .n 6 (ay P.pt), .b (ai P.pt)] | _ => segs [.n 4 k]) (fun j_ => match j_ with | 0 => segs [.n 6 (ax P.pt), .n 6 (ay P.pt), .b (ai P.pt)] | _ => segs [.n 4 k]) [3, 4, 6, 7] (fun γ => [.pointer (some ⟨γ 0, 0, none⟩), .pointer (some ⟨γ 1, 0, none⟩), .slice none 0 0, .int .i64 0]) ?_ ?_)
  · refine GSteps.cons (gm_box 0 rfl (fun _ => rfl) (fun _ _ => rfl) (fun γ w h => ex_boxs (l := [.n 6 (ax P.pt), .n 6 (ay P.pt), .b (ai P.pt)]) rfl) rfl rfl rfl) ?_
    refine GSteps.cons (gm_box 1 rfl (fun _ => rfl) (fun _ _ => rfl) (fun γ w h => ex_boxsn (K := 4) (l := [k]) rfl) rfl rfl rfl) ?_
    refine stpx (fun _ _ => ex_assign _) ?_
    refine stpx (fun _ _ => ex_assign _) ?_
    exact GSteps.nil
  intro γ1 w1 hb1 hB1 hn1
  refine th_r ?_
  have A2 : SB 26 w1 (γ1 0) [.n 6 (ax P.pt), .n 6 (ay P.pt), .b (ai P.pt)] := (hB1 0 (by decide)).2
  have le2 := (hB1 0 (by decide)).1
  have A3 : SB 49 w1 (γ1 1) [.n 4 k] := (hB1 1 (by decide)).2
  have le3 := (hB1 1 (by decide)).1
  have HB4 := below_then (Below.refl w.heap.size w) hb1.out
  refine wp_seq ?_
  refine wp_seq (region_0 [10, 11, 12, 13, 14, 15] [.int .i64 ((m : Nat) : Int), .bool false, .bool false, .int .i64 ((m : Nat) : Int), .bool false, .bool false] ?_ ?_)
  · refine stpx (fun _ _ => ex_move _) ?_
    refine stpx (fun _ _ => ex_ilss rfl rfl false (by rw [eq_comm, decide_eq_false_iff_not]; omega)) ?_
    refine stpx (fun _ _ => ex_move _) ?_
    refine stpx (fun _ _ => ex_move _) ?_
    refine stpx (fun _ _ => ex_igtr rfl rfl false (by rw [eq_comm, decide_eq_false_iff_not]; omega)) ?_
    refine stpx (fun _ _ => ex_pick (r := false) rfl) ?_
    exact GSteps.nil
  intro w5 hb5
  refine th_r ?_
  have A6 := A2.keep hb5.out
  have A7 := A3.keep hb5.out
  have HB8 := below_then HB4 hb5.out
  refine wp_cond_false rfl ?_
  refine wp_skip ?_
  refine th_r ?_
  refine wp_seq ?_
  refine wp_seq (region_0 [16, 17, 18] [sv [.n 6 (ax P.pt), .n 6 (ay P.pt), .b (ai P.pt)], .bool true, .bool false] ?_ ?_)
  · refine stpv (fun γ w h => ex_loads 0 3 (m := [.n 6 (ax P.pt), .n 6 (ay P.pt), .b (ai P.pt)]) flG1 rfl rfl (A6.keep h.out) rfl rfl) ?_
    refine stpc (.bool true) (fun γ w => ex_call (vs := [sv [.n 6 (ax P.pt), .n 6 (ay P.pt), .b (ai P.pt)]]) rfl Tryz.call25 rfl) (fun w h => oneRight_p P _) ?_
    refine stpx (fun _ _ => ex_not (r := true) rfl) ?_
    exact GSteps.nil
  intro w9 hb9
  refine th_r ?_
  have A10 := A6.keep hb9.out
  have A11 := A7.keep hb9.out
  have HB12 := below_then HB8 hb9.out
  refine wp_cond_false rfl ?_
  refine wp_skip ?_
  refine th_r ?_
  refine seq_lit ?_
  refine sv1 (.int .i64 ((m : Nat) : Int)) (ex_move _) ?_
  refine sq_newR (ty := 26) (l := (cat (fun _ => [.n 6 0, .n 6 0, .b false]) m)) (val := fun g14 => .slice (some ⟨g14, 0, none⟩) m m) (a' := fun g14 => ⟨List.toArray ((sv [.n 6 (ax P.pt), .n 6 (ay P.pt), .b (ai P.pt)]) :: (nv 4 [k]) :: (.int .i64 ((m : Nat) : Int)) :: (.pointer (some ⟨(γ1 0), 0, none⟩)) :: (.pointer (some ⟨(γ1 1), 0, none⟩)) :: undef :: (.slice none 0 0) :: (.int .i64 0) :: undef :: undef :: (.int .i64 ((m : Nat) : Int)) :: (.bool false) :: (.bool false) :: (.int .i64 ((m : Nat) : Int)) :: (.bool false) :: (.bool false) :: (sv [.n 6 (ax P.pt), .n 6 (ay P.pt), .b (ai P.pt)]) :: (.bool true) :: (.bool false) :: (.int .i64 ((m : Nat) : Int)) :: (.slice (some ⟨g14, 0, none⟩) m m) :: undef :: undef :: undef :: undef :: undef :: undef :: undef :: undef :: undef :: undef :: undef :: undef :: undef :: undef :: undef :: undef :: undef :: undef :: undef :: undef :: []), []⟩) rfl (fun _ => rfl) (ex_mkR slP1 (z := [.n 6 0, .n 6 0, .b false]) (b := 104) rfl (by decide) zG1 info_g1 (by decide) rfl rfl (by omega)) ?_
  intro g14 w14 N14 le14 hb14
  have A15 := A10.keep hb14
  have A16 := A11.keep hb14
  have HB17 := below_then HB12 hb14
  refine sv1 (.slice (some ⟨g14, 0, none⟩) m m) (ex_assign _) ?_
  refine seq_nil ?_
  refine wp_seq ?_
  have A0 : SB 26 w14 g14 (cat (pwF P k 0) m) := by rw [← pwF_start P k m]; exact N14
  skip
  · refine wp_seq (region_0 [21, 22, 23] [.slice (some ⟨g14, 0, none⟩) m m, .int .i64 ((m : Nat) : Int), .int .i64 0] ?_ ?_)
    · refine stpx (fun _ _ => ex_move _) ?_
      refine stpx (fun _ _ => ex_lenR slP1 (m := m) rfl) ?_
      refine stpx (fun _ _ => ex_move _) ?_
      exact GSteps.nil
    intro w19 hb19
    refine th_r ?_
    have A20 := A15.keep hb19.out
    have A21 := A16.keep hb19.out
    have A22 := A0.keep hb19.out
    have HB23 := below_then HB17 hb19.out
    refine wp_block ?_
    refine wp_loop_by (m) (fun q_ a_ v_ => ∃ j9 j24 j25 j26 j27 j28 j29 j30 j31 j32 j33 j34 j35 j36 j37 j38 j39 : Value, a_ = ⟨List.toArray ((sv [.n 6 (ax P.pt), .n 6 (ay P.pt), .b (ai P.pt)]) :: (nv 4 [k]) :: (.int .i64 ((m : Nat) : Int)) :: (.pointer (some ⟨(γ1 0), 0, none⟩)) :: (.pointer (some ⟨(γ1 1), 0, none⟩)) :: undef :: (.slice none 0 0) :: (.int .i64 0) :: (.slice (some ⟨g14, 0, none⟩) m m) :: j9 :: (.int .i64 ((m : Nat) : Int)) :: (.bool false) :: (.bool false) :: (.int .i64 ((m : Nat) : Int)) :: (.bool false) :: (.bool false) :: (sv [.n 6 (ax P.pt), .n 6 (ay P.pt), .b (ai P.pt)]) :: (.bool true) :: (.bool false) :: (.int .i64 ((m : Nat) : Int)) :: (.slice (some ⟨g14, 0, none⟩) m m) :: (.slice (some ⟨g14, 0, none⟩) m m) :: (.int .i64 ((m : Nat) : Int)) :: (.int .i64 ((q_ : Nat) : Int)) :: j24 :: j25 :: j26 :: j27 :: j28 :: j29 :: j30 :: j31 :: j32 :: j33 :: j34 :: j35 :: j36 :: j37 :: j38 :: j39 :: undef :: []), []⟩ ∧ SB 26 v_ (γ1 0) [.n 6 (ax P.pt), .n 6 (ay P.pt), .b (ai P.pt)] ∧ SB 49 v_ (γ1 1) [.n 4 k] ∧ SB 26 v_ (g14) (cat (pwF P k q_) m) ∧ Below w.heap.size w v_) ⟨_, _, _, _, _, _, _, _, _, _, _, _, _, _, _, _, _, rfl, A20, A21, A22, HB23⟩ ?_ ?_
    · intro k24 hk24
      rintro _ w24 ⟨i24_9, i24_24, i24_25, i24_26, i24_27, i24_28, i24_29, i24_30, i24_31, i24_32, i24_33, i24_34, i24_35, i24_36, i24_37, i24_38, i24_39, rfl, A24_0, A24_1, A24_2, HB24⟩ K24 hK24
      refine wp_seq (region_0 [24] [.bool true] ?_ ?_)
      · refine stpx (fun _ _ => ex_ilss rfl rfl true (by rw [eq_comm, decide_eq_true_eq]; omega)) ?_
        exact GSteps.nil
      intro w25 hb25
      refine th_r ?_
      have A26 := A24_0.keep hb25.out
      have A27 := A24_1.keep hb25.out
      have A28 := A24_2.keep hb25.out
      have HB29 := below_then HB24 hb25.out
      refine wp_seq ?_
      refine wp_cond_true rfl ?_
      refine wp_skip ?_
      refine th_r ?_
      refine wp_seq ?_
      refine wp_block ?_
      refine wp_seq (region_0 [25, 9] [.int .i64 ((k24 : Nat) : Int), .int .i64 ((k24 : Nat) : Int)] ?_ ?_)
      · refine stpx (fun _ _ => ex_move _) ?_
        refine stpx (fun _ _ => ex_assign _) ?_
        exact GSteps.nil
      intro w30 hb30
      refine th_r ?_
      have A31 := A26.keep hb30.out
      have A32 := A27.keep hb30.out
      have A33 := A28.keep hb30.out
      have HB34 := below_then HB29 hb30.out
      refine region_s 13 (g14) (13 * k24) (segs [.n 6 (ax (((EP.times C1 (k ^ k24 % rN) P)).pt)), .n 6 (ay (((EP.times C1 (k ^ k24 % rN) P)).pt)), .b (ai (((EP.times C1 (k ^ k24 % rN) P)).pt))]) [27, 28, 29, 30, 31, 32, 33, 34, 35, 26, 36, 37, 38] [.slice (some ⟨g14, 0, none⟩) m m, .int .i64 ((k24 : Nat) : Int), sv [.n 6 (ax P.pt), .n 6 (ay P.pt), .b (ai P.pt)], nv 4 [k], .int .i64 ((k24 : Nat) : Int), .int .u64 ((k24 : Nat) : Int), nv 4 [k24], nv 4 [(k ^ k24 % rN)], .tuple #[sv [.n 6 (ax (((EP.times C1 (k ^ k24 % rN) P)).pt)), .n 6 (ay (((EP.times C1 (k ^ k24 % rN) P)).pt)), .b (ai (((EP.times C1 (k ^ k24 % rN) P)).pt))], .int .i64 0], .tuple #[sv [.n 6 (ax (((EP.times C1 (k ^ k24 % rN) P)).pt)), .n 6 (ay (((EP.times C1 (k ^ k24 % rN) P)).pt)), .b (ai (((EP.times C1 (k ^ k24 % rN) P)).pt))], .int .i64 0], sv [.n 6 (ax (((EP.times C1 (k ^ k24 % rN) P)).pt)), .n 6 (ay (((EP.times C1 (k ^ k24 % rN) P)).pt)), .b (ai (((EP.times C1 (k ^ k24 % rN) P)).pt))], .int .i64 0, .pointer (some ⟨g14, 13 * k24, none⟩)] ?_ ?_
      · refine latv (fun γ w h => ex_move _) ?_
        refine latv (fun γ w h => ex_move _) ?_
        refine latv (fun γ w h => ex_loads 0 3 (m := [.n 6 (ax P.pt), .n 6 (ay P.pt), .b (ai P.pt)]) flG1 rfl rfl (A31.keep h.out) rfl rfl) ?_
        refine latv (fun γ w h => ex_loadsn (K := 4) 0 1 (m := [k]) flFr rfl rfl (A32.keep h.out) rfl rfl) ?_
        refine latv (fun γ w h => ex_move _) ?_
        refine latv (fun γ w h => ex_conv6464 rfl (by omega) (by omega)) ?_
        refine latv (fun γ w h => ex_limb4 (by omega) rfl) ?_
        refine latc (nv 4 [(k ^ k24 % rN)]) (fun γ w => ex_call (vs := [nv 4 [k], nv 4 [k24]]) rfl Tryz.call27 rfl) (fun w h => frPow_i k k24 hk (by rw [frB_big]; omega) _) ?_
        refine latc (.tuple #[sv [.n 6 (ax (((EP.times C1 (k ^ k24 % rN) P)).pt)), .n 6 (ay (((EP.times C1 (k ^ k24 % rN) P)).pt)), .b (ai (((EP.times C1 (k ^ k24 % rN) P)).pt))], .int .i64 0]) (fun γ w => ex_call (vs := [sv [.n 6 (ax P.pt), .n 6 (ay P.pt), .b (ai P.pt)], nv 4 [(k ^ k24 % rN)]]) rfl Tryz.call26 rfl) (fun w h => oneMul_p P _ (k ^ k24 % rN) (frM_modB _) rfl _) ?_
        refine latv (fun γ w h => ex_move _) ?_
        refine latv (fun γ w h => ex_extract (vs := [sv [.n 6 (ax (((EP.times C1 (k ^ k24 % rN) P)).pt)), .n 6 (ay (((EP.times C1 (k ^ k24 % rN) P)).pt)), .b (ai (((EP.times C1 (k ^ k24 % rN) P)).pt))], .int .i64 0]) rfl rfl) ?_
        refine GSteps.cons (late_any (v := .int .i64 0) rfl (fun _ => rfl) (fun _ => rfl) (fun γ w h => ex_extract (vs := [sv [.n 6 (ax (((EP.times C1 (k ^ k24 % rN) P)).pt)), .n 6 (ay (((EP.times C1 (k ^ k24 % rN) P)).pt)), .b (ai (((EP.times C1 (k ^ k24 % rN) P)).pt))], .int .i64 0]) rfl rfl) rfl rfl) ?_
        refine latv (fun γ w h => ex_ownR slP1 (g := g14) (m := m) (c := m) (i := k24) rfl rfl hk24) ?_
        refine GSteps.cons (late_store rfl (fun _ => rfl) (fun γ w h => ex_storeR (i := k24) (S := pwF P k k24) (l := [.n 6 (ax (((EP.times C1 (k ^ k24 % rN) P)).pt)), .n 6 (ay (((EP.times C1 (k ^ k24 % rN) P)).pt)), .b (ai (((EP.times C1 (k ^ k24 % rN) P)).pt))]) flG1 (pwF_size P k k24) rfl (A33.keep h.out) hk24 rfl rfl rfl) rfl) ?_
        exact GSteps.nil
      intro w35 w35_ hb35 hs35
      have A36 := A31.keep hb35.out
      have A37 := A32.keep hb35.out
      have A38 := A33.keep hb35.out
      have HB39 := below_then HB34 hb35.out
      have A40 := hs35.other (Nat.ne_of_lt (Nat.lt_of_lt_of_le A10.lt le14)) A36
      have A41 := hs35.other (Nat.ne_of_lt (Nat.lt_of_lt_of_le A11.lt le14)) A37
      have A42 : SB 26 w35_ g14 (cat (pwF P k (k24 + 1)) m) := hs35.elem (S := pwF P k k24) (pwF_size P k k24) rfl A38 hk24 (pwF_here P k k24) (fun j _ hj => pwF_other P k k24 j hj)
      have HB43 := hs35.below HB39 (Nat.le_trans HB12.size le14)
      refine bk_n ?_
      refine th_r ?_
      refine wp_region_lit ?_
      refine sv1 (.int .i64 ((k24 + 1 : Nat) : Int)) (ex_iadd rfl rfl ((k24 + 1 : Nat) : Int) (cnt_up (by omega))) ?_
      refine sv1 (.int .i64 ((k24 + 1 : Nat) : Int)) (ex_move _) ?_
      refine wpList_nil ?_
      refine th_r ?_
      exact hK24.out _ _ ⟨_, _, _, _, _, _, _, _, _, _, _, _, _, _, _, _, _, rfl, A40, A41, A42, HB43⟩
    · rintro _ w44 ⟨i44_9, i44_24, i44_25, i44_26, i44_27, i44_28, i44_29, i44_30, i44_31, i44_32, i44_33, i44_34, i44_35, i44_36, i44_37, i44_38, i44_39, rfl, A44_0, A44_1, A44_2, HB44⟩ K44
      refine wp_seq (region_0 [24] [.bool false] ?_ ?_)
      · refine stpx (fun _ _ => ex_ilss rfl rfl false (by rw [eq_comm, decide_eq_false_iff_not]; omega)) ?_
        exact GSteps.nil
      intro w45 hb45
      refine th_r ?_
      have A46 := A44_0.keep hb45.out
      have A47 := A44_1.keep hb45.out
      have A48 := A44_2.keep hb45.out
      have HB49 := below_then HB44 hb45.out
      refine wp_seq ?_
      refine wp_cond_false rfl ?_
      refine wp_exit (th_e (th_e (bk_e ?_)))
      refine th_r ?_
      refine wp_seq (region_0 [40, 6, 7] [.slice (some ⟨g14, 0, none⟩) m m, .slice (some ⟨g14, 0, none⟩) m m, .int .i64 0] ?_ ?_)
      · refine stpx (fun _ _ => ex_move _) ?_
        refine stpx (fun _ _ => ex_assign _) ?_
        refine stpx (fun _ _ => ex_assign _) ?_
        exact GSteps.nil
      intro w50 hb50
      refine th_r ?_
      have A51 := A46.keep hb50.out
      have A52 := A47.keep hb50.out
      have A53 := A48.keep hb50.out
      have HB54 := below_then HB49 hb50.out
      exact wp_ret (bodyPost_ret (ret2 Tryz.results24 (res_tmp rfl) (res_tmp rfl)) rfl ⟨g14, rfl, by rw [← pwF_end P k m]; exact A53, (Nat.le_trans HB12.size le14), HB54⟩)
set_option maxRecDepth 20000 in
set_option maxHeartbeats 4000000 in
theorem powers_neg (x y : Nat) (i : Bool) (k : Nat) (n : Int) (h : n < 0) (w : World) :
    Calls Tryz.prog 24 #[sv [.n 6 x, .n 6 y, .b i], nv 4 [k], .int .i64 n] w (Is (.tuple #[.slice none 0 0, .int .i64 1]) w) := by
  go_enter Tryz.func24, Tryz.ntmps24
  refine wp_seq (region_c 2 (fun j_ => match j_ with | 0 => 26 | _ => 49) (fun j_ => match j_ with | 0 => 0 | _ => 1) (fun j_ => match j_ with | 0 => 0 | _ => 1) (fun j_ => match j_ with | 0 => segs [.n 6 x, .n 6 y, .b i] | _ => segs [.n 4 k]) (fun j_ => match j_ with | 0 => segs [.n 6 x, .n 6 y, .b i] | _ => segs [.n 4 k]) [3, 4, 6, 7] (fun γ => [.pointer (some ⟨γ 0, 0, none⟩), .pointer (some ⟨γ 1, 0, none⟩), .slice none 0 0, .int .i64 0]) ?_ ?_)
  · refine GSteps.cons (gm_box 0 rfl (fun _ => rfl) (fun _ _ => rfl) (fun γ w h => ex_boxs (l := [.n 6 x, .n 6 y, .b i]) rfl) rfl rfl rfl) ?_
    refine GSteps.cons (gm_box 1 rfl (fun _ => rfl) (fun _ _ => rfl) (fun γ w h => ex_boxsn (K := 4) (l := [k]) rfl) rfl rfl rfl) ?_
    refine stpx (fun _ _ => ex_assign _) ?_
    refine stpx (fun _ _ => ex_assign _) ?_
    exact GSteps.nil
  intro γ1 w1 hb1 hB1 hn1
  refine th_r ?_
  have A2 : SB 26 w1 (γ1 0) [.n 6 x, .n 6 y, .b i] := (hB1 0 (by decide)).2
  have le2 := (hB1 0 (by decide)).1
  have A3 : SB 49 w1 (γ1 1) [.n 4 k] := (hB1 1 (by decide)).2
  have le3 := (hB1 1 (by decide)).1
  have HB4 := below_then (Below.refl w.heap.size w) hb1.out
  refine wp_seq ?_
  refine wp_seq (region_0 [10, 11, 12, 13, 14, 15] [.int .i64 n, .bool true, .bool true, undef, undef, .bool true] ?_ ?_)
  · refine stpx (fun _ _ => ex_move _) ?_
    refine stpx (fun _ _ => ex_ilss rfl rfl true (by rw [eq_comm, decide_eq_true_eq]; omega)) ?_
    refine stpx (fun _ _ => ex_move _) ?_
    refine stps ?_
    refine stps ?_
    refine stpx (fun _ _ => ex_pick (r := true) rfl) ?_
    exact GSteps.nil
  intro w5 hb5
  refine th_r ?_
  have A6 := A2.keep hb5.out
  have A7 := A3.keep hb5.out
  have HB8 := below_then HB4 hb5.out
  refine wp_cond_true rfl ?_
  refine wp_seq (region_0 [6, 7] [.slice none 0 0, .int .i64 1] ?_ ?_)
  · refine stpx (fun _ _ => ex_assign _) ?_
    refine stpx (fun _ _ => ex_assign _) ?_
    exact GSteps.nil
  intro w9 hb9
  refine th_r ?_
  have A10 := A6.keep hb9.out
  have A11 := A7.keep hb9.out
  have HB12 := below_then HB8 hb9.out
  exact wp_ret (th_ret (bodyPost_ret (ret2 Tryz.results24 (res_tmp rfl) (res_tmp rfl)) rfl ⟨rfl, HB12⟩))
set_option maxRecDepth 20000 in
set_option maxHeartbeats 4000000 in
theorem powers_big (x y : Nat) (i : Bool) (k : Nat) (n : Int) (h : 4096 < n) (w : World) :
    Calls Tryz.prog 24 #[sv [.n 6 x, .n 6 y, .b i], nv 4 [k], .int .i64 n] w (Is (.tuple #[.slice none 0 0, .int .i64 1]) w) := by
  go_enter Tryz.func24, Tryz.ntmps24
  refine wp_seq (region_c 2 (fun j_ => match j_ with | 0 => 26 | _ => 49) (fun j_ => match j_ with | 0 => 0 | _ => 1) (fun j_ => match j_ with | 0 => 0 | _ => 1) (fun j_ => match j_ with | 0 => segs [.n 6 x, .n 6 y, .b i] | _ => segs [.n 4 k]) (fun j_ => match j_ with | 0 => segs [.n 6 x, .n 6 y, .b i] | _ => segs [.n 4 k]) [3, 4, 6, 7] (fun γ => [.pointer (some ⟨γ 0, 0, none⟩), .pointer (some ⟨γ 1, 0, none⟩), .slice none 0 0, .int .i64 0]) ?_ ?_)
  · refine GSteps.cons (gm_box 0 rfl (fun _ => rfl) (fun _ _ => rfl) (fun γ w h => ex_boxs (l := [.n 6 x, .n 6 y, .b i]) rfl) rfl rfl rfl) ?_
    refine GSteps.cons (gm_box 1 rfl (fun _ => rfl) (fun _ _ => rfl) (fun γ w h => ex_boxsn (K := 4) (l := [k]) rfl) rfl rfl rfl) ?_
    refine stpx (fun _ _ => ex_assign _) ?_
    refine stpx (fun _ _ => ex_assign _) ?_
    exact GSteps.nil
  intro γ1 w1 hb1 hB1 hn1
  refine th_r ?_
  have A2 : SB 26 w1 (γ1 0) [.n 6 x, .n 6 y, .b i] := (hB1 0 (by decide)).2
  have le2 := (hB1 0 (by decide)).1
  have A3 : SB 49 w1 (γ1 1) [.n 4 k] := (hB1 1 (by decide)).2
  have le3 := (hB1 1 (by decide)).1
  have HB4 := below_then (Below.refl w.heap.size w) hb1.out
  refine wp_seq ?_
  refine wp_seq (region_0 [10, 11, 12, 13, 14, 15] [.int .i64 n, .bool false, .bool false, .int .i64 n, .bool true, .bool true] ?_ ?_)
  · refine stpx (fun _ _ => ex_move _) ?_
    refine stpx (fun _ _ => ex_ilss rfl rfl false (by rw [eq_comm, decide_eq_false_iff_not]; omega)) ?_
    refine stpx (fun _ _ => ex_move _) ?_
    refine stpx (fun _ _ => ex_move _) ?_
    refine stpx (fun _ _ => ex_igtr rfl rfl true (by rw [eq_comm, decide_eq_true_eq]; omega)) ?_
    refine stpx (fun _ _ => ex_pick (r := false) rfl) ?_
    exact GSteps.nil
  intro w5 hb5
  refine th_r ?_
  have A6 := A2.keep hb5.out
  have A7 := A3.keep hb5.out
  have HB8 := below_then HB4 hb5.out
  refine wp_cond_true rfl ?_
  refine wp_seq (region_0 [6, 7] [.slice none 0 0, .int .i64 1] ?_ ?_)
  · refine stpx (fun _ _ => ex_assign _) ?_
    refine stpx (fun _ _ => ex_assign _) ?_
    exact GSteps.nil
  intro w9 hb9
  refine th_r ?_
  have A10 := A6.keep hb9.out
  have A11 := A7.keep hb9.out
  have HB12 := below_then HB8 hb9.out
  exact wp_ret (th_ret (bodyPost_ret (ret2 Tryz.results24 (res_tmp rfl) (res_tmp rfl)) rfl ⟨rfl, HB12⟩))
set_option maxRecDepth 20000 in
set_option maxHeartbeats 4000000 in
theorem powers_no (x y : Nat) (i : Bool) (hx : x < fpB) (hy : y < fpB) (h0 : ¬ RawOk x y i) (k m : Nat) (hm : m ≤ 12) (w : World) :
    Calls Tryz.prog 24 #[sv [.n 6 x, .n 6 y, .b i], nv 4 [k], .int .i64 ((m : Nat) : Int)] w (Is (.tuple #[.slice none 0 0, .int .i64 30]) w) := by
  go_enter Tryz.func24, Tryz.ntmps24
  refine wp_seq (region_c 2 (fun j_ => match j_ with | 0 => 26 | _ => 49) (fun j_ => match j_ with | 0 => 0 | _ => 1) (fun j_ => match j_ with | 0 => 0 | _ => 1) (fun j_ => match j_ with | 0 => segs [.n 6 x, .n 6 y, .b i] | _ => segs [.n 4 k]) (fun j_ => match j_ with | 0 => segs [.n 6 x, .n 6 y, .b i] | _ => segs [.n 4 k]) [3, 4, 6, 7] (fun γ => [.pointer (some ⟨γ 0, 0, none⟩), .pointer (some ⟨γ 1, 0, none⟩), .slice none 0 0, .int .i64 0]) ?_ ?_)
  · refine GSteps.cons (gm_box 0 rfl (fun _ => rfl) (fun _ _ => rfl) (fun γ w h => ex_boxs (l := [.n 6 x, .n 6 y, .b i]) rfl) rfl rfl rfl) ?_
    refine GSteps.cons (gm_box 1 rfl (fun _ => rfl) (fun _ _ => rfl) (fun γ w h => ex_boxsn (K := 4) (l := [k]) rfl) rfl rfl rfl) ?_
    refine stpx (fun _ _ => ex_assign _) ?_
    refine stpx (fun _ _ => ex_assign _) ?_
    exact GSteps.nil
  intro γ1 w1 hb1 hB1 hn1
  refine th_r ?_
  have A2 : SB 26 w1 (γ1 0) [.n 6 x, .n 6 y, .b i] := (hB1 0 (by decide)).2
  have le2 := (hB1 0 (by decide)).1
  have A3 : SB 49 w1 (γ1 1) [.n 4 k] := (hB1 1 (by decide)).2
  have le3 := (hB1 1 (by decide)).1
  have HB4 := below_then (Below.refl w.heap.size w) hb1.out
  refine wp_seq ?_
  refine wp_seq (region_0 [10, 11, 12, 13, 14, 15] [.int .i64 ((m : Nat) : Int), .bool false, .bool false, .int .i64 ((m : Nat) : Int), .bool false, .bool false] ?_ ?_)
  · refine stpx (fun _ _ => ex_move _) ?_
    refine stpx (fun _ _ => ex_ilss rfl rfl false (by rw [eq_comm, decide_eq_false_iff_not]; omega)) ?_
    refine stpx (fun _ _ => ex_move _) ?_
    refine stpx (fun _ _ => ex_move _) ?_
    refine stpx (fun _ _ => ex_igtr rfl rfl false (by rw [eq_comm, decide_eq_false_iff_not]; omega)) ?_
    refine stpx (fun _ _ => ex_pick (r := false) rfl) ?_
    exact GSteps.nil
  intro w5 hb5
  refine th_r ?_
  have A6 := A2.keep hb5.out
  have A7 := A3.keep hb5.out
  have HB8 := below_then HB4 hb5.out
  refine wp_cond_false rfl ?_
  refine wp_skip ?_
  refine th_r ?_
  refine wp_seq ?_
  refine wp_seq (region_0 [16, 17, 18] [sv [.n 6 x, .n 6 y, .b i], .bool false, .bool true] ?_ ?_)
  · refine stpv (fun γ w h => ex_loads 0 3 (m := [.n 6 x, .n 6 y, .b i]) flG1 rfl rfl (A6.keep h.out) rfl rfl) ?_
    refine stpc (.bool false) (fun γ w => ex_call (vs := [sv [.n 6 x, .n 6 y, .b i]]) rfl Tryz.call25 rfl) (fun w h => oneRight_no hx hy h0 _) ?_
    refine stpx (fun _ _ => ex_not (r := false) rfl) ?_
    exact GSteps.nil
  intro w9 hb9
  refine th_r ?_
  have A10 := A6.keep hb9.out
  have A11 := A7.keep hb9.out
  have HB12 := below_then HB8 hb9.out
  refine wp_cond_true rfl ?_
  refine wp_seq (region_0 [6, 7] [.slice none 0 0, .int .i64 30] ?_ ?_)
  · refine stpx (fun _ _ => ex_assign _) ?_
    refine stpx (fun _ _ => ex_assign _) ?_
    exact GSteps.nil
  intro w13 hb13
  refine th_r ?_
  have A14 := A10.keep hb13.out
  have A15 := A11.keep hb13.out
  have HB16 := below_then HB12 hb13.out
  exact wp_ret (th_ret (bodyPost_ret (ret2 Tryz.results24 (res_tmp rfl) (res_tmp rfl)) rfl ⟨rfl, HB16⟩))
end
end
end Go.Proofs.YtkkmekdhejhapaaGreat
