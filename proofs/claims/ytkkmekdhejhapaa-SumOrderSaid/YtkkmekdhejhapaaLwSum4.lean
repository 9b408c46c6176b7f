/- What is proved here: what is appended is read; a row of its own is a slice; a sum hangs on no order; how often a point is taken; what is of the group; the reference's sum (chirographref09); the laws of package sum: that it is alive; slices of a point or two; the law SumOnes; the law SumOrder. -/
import Derived.Test.YtkkmekdhejhapaaSumApp
import Derived.Test.YtkkmekdhejhapaaSumPlc
import Derived.Test.YtkkmekdhejhapaaComp
import Derived.Test.YtkkmekdhejhapaaTwo1
import Derived.Test.YtkkmekdhejhapaaSum1
import Derived.Test.YtkkmekdhejhapaaSumAll
namespace Go.Proofs.Ytkkmekdhejhapaa
section
open Go.RowKit Cv
theorem inf5 {e : TypeId} {z : Value} {sz bytes : Nat} (h : (Try.prog.info? e).map (fun i => (i.zero, i.size, i.bytes)) = some (some z, sz, bytes)) (hz : z.cells.size = sz) : ∃ (inf : TypeInfo) (z : Value), Try.prog.info? e = some inf ∧ inf.zero = some z ∧ inf.size = sz ∧ inf.bytes = bytes ∧ z.cells.size = sz := by
  cases hi : Try.prog.info? e with
  | none => rw [hi] at h; cases h
  | some i =>
    rw [hi] at h
    simp only [Option.map_some, Option.some.injEq, Prod.mk.injEq] at h
    exact ⟨i, z, rfl, h.1, h.2.1, h.2.2, hz⟩
theorem cat_add (S : Nat → List Seg) (a : Nat) : ∀ b, cat S (a + b) = cat S a ++ cat (fun i => S (a + i)) b
  | 0 => by simp [cat]
  | b + 1 => by
    show cat S (a + b) ++ S (a + b) = cat S a ++ (cat (fun i => S (a + i)) b ++ S (a + b))
    rw [cat_add S a b, List.append_assoc]
def cutA (a : Option Addr) (n c k : Nat) : Option Addr := if c = k then a else a.map fun z => z.add (k * n)
theorem ex_cutFrom {ρ : Operand → Value} {d : Option Tmp} {ty0 : TypeId} {pos : String} {after : Array Edge} {guard : Option (Nat × Bool)} {w : World} {st e : TypeId} {n : Nat} (hs : SlS st e n) {x y : Operand} {a : Option Addr} {m c k : Nat} (hx : ρ x = .slice a m c) (hy : ρ y = .int .i64 (k : Int)) (hk : k ≤ m) :
    (execOp ρ ⟨d, .slice st x (some y) none none, ty0, pos, after, guard⟩).run Try.prog w = .ok (.value (.slice (cutA a n c k) (m - k) (c - k))) w := by
  have h1 : (k : Int) ≤ (m : Int) := by omega
  simp [execOp, hx, hy, Instr.sliceAt, Instr.slice, Instr.sliceBounds, Sem.run_bind, run_underlying hs.und w, hs.flat.2 w, go_sem, h1, cutA]
theorem Row.from {w : World} {a : Option Addr} {n m c k : Nat} {S : Nat → List Seg} (h : Row w a n m S) (hc : m ≤ c) (hk : k ≤ m) : Row w (cutA a n c k) n (m - k) (fun i => S (k + i)) := fun i hi => by
  obtain ⟨g, o, e, hg, hr⟩ := h (k + i) (by omega)
  subst e
  refine ⟨g, o + k * n, ?_, hg, ?_⟩
  · unfold cutA
    rw [if_neg (by omega)]
    simp [Addr.add]
  · rw [show o + k * n + n * i = o + n * (k + i) by rw [Nat.mul_add, Nat.mul_comm k n]; omega]
    exact hr
theorem cutA_none {a : Option Addr} {n c k : Nat} (h : a = none → c = 0) : cutA a n c k = none → c - k = 0 := fun e => by
  unfold cutA at e
  split at e
  · omega
  · cases a with
    | none => have := h rfl; omega
    | some a => cases e
theorem arg_row {w : World} {a : Option Addr} {n q c : Nat} {S : Nat → List Seg} (hn : ∀ i, ssize (S i) = n) (h0 : 0 < n) (h : Row w a n q S) (hc : a = none → c = 0) : (Value.slice a q c = .slice none 0 0 ∧ q = 0) ∨ ∃ (ad : Addr) (c' : Nat), Value.slice a q c = .slice (some ad) q c' ∧ ∀ (p : Nat) (u : Value), (segs (cat S q))[p]? = some u → w.cell? (ad.add p) = some u := by
  cases a with
  | none =>
    have hq : q = 0 := by
      rcases Nat.eq_zero_or_pos q with hq | hq
      · exact hq
      · obtain ⟨g, o, e, _⟩ := h 0 hq
        cases e
    exact .inl ⟨by rw [hq, hc rfl], hq⟩
  | some ad =>
    refine .inr ⟨ad, c, rfl, fun p u hp => ?_⟩
    have hlt : p < n * q := by
      have := (List.getElem?_eq_some_iff.1 hp).1
      rwa [cat_len hn] at this
    have hi : p / n < q := by rwa [Nat.div_lt_iff_lt_mul h0, Nat.mul_comm]
    obtain ⟨g, o, e, _, hr⟩ := h (p / n) hi
    injection e with e
    subst e
    have h1 := cat_at hn q (p / n) (p % n) hi (Nat.mod_lt p h0)
    rw [Nat.div_add_mod, hp] at h1
    have h2 := hr (p % n) u h1.symm
    rw [Addr.add_mid]
    rwa [show o + n * (p / n) + p % n = o + p by rw [Nat.add_assoc, Nat.div_add_mod]] at h2
theorem arg_own {w : World} {base : Nat} {e : TypeId} {sz q : Nat} {v : Value} {xs : List Value} (h : w.ownsRow base e sz v q xs) (hq : q ≠ 0) : ∃ (ad : Addr) (c : Nat), v = .slice (some ad) q c ∧ ∀ (p : Nat) (u : Value), xs[p]? = some u → w.cell? (ad.add p) = some u := by
  obtain ⟨hl, ⟨_, h0⟩ | ⟨g, cap, cur, hv, _, hb, _, _, _, ht⟩⟩ := h
  · exact absurd h0 hq
  · refine ⟨⟨g, 0, none⟩, cap, hv, fun p u hp => ?_⟩
    rw [Addr.add_mid, Nat.zero_add, cell_of_row w g p cur _ (0, 0) hb]
    rw [← ht, List.getElem?_take] at hp
    split at hp
    · simpa using hp
    · cases hp
theorem own_row {w : World} {base : Nat} {e : TypeId} {n N : Nat} {v : Value} {S : Nat → List Seg} (hn : ∀ i, ssize (S i) = n) (h : w.ownsRow base e n v N (segs (cat S N))) (hN : 0 < N) : ∃ (a : Option Addr) (c : Nat), v = .slice a N c ∧ Row w a n N S := by
  obtain ⟨hl, ⟨_, h0⟩ | ⟨g, cap, cur, hv, _, hb, _, _, _, ht⟩⟩ := h
  · omega
  · refine ⟨some ⟨g, 0, none⟩, cap, hv, fun i hi => ⟨g, 0, rfl, (Array.getElem?_eq_some_iff.1 hb).1, fun j u hj => ?_⟩⟩
    have hjn : j < n := by
      have := (List.getElem?_eq_some_iff.1 hj).1
      rwa [segs_len, hn] at this
    have h1 := cat_at hn N i j hi hjn
    rw [hj, ← ht, List.getElem?_take] at h1
    rw [Nat.zero_add, cell_of_row w g (n * i + j) cur _ (0, 0) hb]
    split at h1
    · simpa using h1
    · cases h1
theorem open_nil {st e : TypeId} (hu : Try.prog.underlying st = some (.slice e)) {H : Type} {enc : TypeId × Value → H} {w : World} {base : Nat} {sp : Nat → Bool} {held : Bool} {a : Option Addr} {m c : Nat} {d : DataW H} {ps : List MemPlace}
    (hd : DataW.Trod enc Try.prog w base sp held st (.slice a m c) d ps) : a = none → c = 0 := fun ha => by
  subst ha
  obtain ⟨fuel, hf⟩ := hd
  rcases DataW.trod_slice hu hf with ⟨hcs, _⟩ | ⟨x, len, cap, elems, rest, k, _, hcs, _⟩
  · simp [Value.cells] at hcs
    exact hcs.2
  · simp [Value.cells] at hcs
theorem ap_move {ops : Array Oper} {F : (Nat → Value) → Act} {W : World} {e : TypeId} {sz m : Nat} {mk : Nat → Nat} {us : Nat → Option Nat} {ns : Nat → Nat} {xs : Nat → List Value} {k : Nat} {o : Oper} (i j : Nat) (rs : Nat → List Nat) (ho : ops[k]? = some o) (hw : ∀ γ, Region.wanted o (yielded ops (F γ).tmps) = true) (hi : i < m) (hui : us i = some k) (hwi : waitsFor ops k (mk i) = true) (hmk : oneMk m mk k j = true) (hF : ∀ γ v, F (updV γ j v) = (F γ).put o.dst v) (hgone : ((List.range m).all (goneAt ops mk us k j rs)) = true) (hj2 : Nat.blt 1 j = true) (hm2 : Nat.blt 1 m = true) (hnj : ns j = ns i) (hxj : xs j = xs i)
    (h : ∀ γ w, Bel W w → (execOp (F γ).eval o).run Try.prog w = .ok (.value (γ i)) w) : GStep Try.prog ops F (Ap W e sz m mk us ns xs) k o := fun γ L w Kk hJ hcl hL hdep hK => by
  rw [if_pos (hw γ)]
  unfold Oper.wp
  rw [h γ w hJ.bel]
  refine hK.out (updV γ j (γ i)) (γ i) w (hF γ _) ⟨hJ.bel, fun r hr hlr hdr => ?_, fun h0 d0 h1 d1 b hb0 hb1 => ?_⟩
  rotate_left
  · have hj1 : 1 < j := Nat.le_of_ble_eq_true hj2
    have hm1 : 1 < m := Nat.le_of_ble_eq_true hm2
    rw [updV_other _ _ (show 0 ≠ j by omega)] at hb0
    rw [updV_other _ _ (show 1 ≠ j by omega)] at hb1
    have n0 := oneMk_ne hmk (show 0 < m by omega) (show 0 ≠ j by omega)
    have n1 := oneMk_ne hmk hm1 (show 1 ≠ j by omega)
    exact hJ.ne (by simpa [n0] using h0) (deadS_more d0) (by simpa [n1] using h1) (deadS_more d1) b hb0 hb1
  by_cases hrj : r = j
  · rw [hrj, updV_same, hnj, hxj]
    exact hJ.own i hi (waits_dep ho hdep hwi) (by unfold deadS; rw [hui]; exact hL)
  · have hne := oneMk_ne hmk hr hrj
    rcases goneAt_is ho hcl hL hdep (List.all_eq_true.1 hgone r (List.mem_range.2 hr)) hrj (by simpa [hne] using hlr) with hg | hg
    · rw [deadS_now hg] at hdr
      cases hdr
    · rw [deadS_more hdr] at hg
      cases hg
theorem ones_of {l : List Seg} : ∀ u, u ∈ segs l → u.oneCell' = true := by
  intro u hu
  have := segs_ones l u hu
  cases u <;> first | rfl | exact this
def rotS {α : Type} (p z : α) (S : Nat → α) (n k : Nat) : Nat → α := fun i => if i = 0 then p else if i < 1 + (n - k) then S (k + (i - 1)) else if i = 1 + (n - k) then z else S (i - (1 + (n - k) + 1))
theorem rot_cat {p z : List Seg} {S : Nat → List Seg} {n k : Nat} : cat (rotS p z S n k) (1 + (n - k) + 1 + k) = ((p ++ cat (fun i => S (k + i)) (n - k)) ++ z) ++ cat S k := by
  rw [cat_add, cat_add, cat_add]
  have e1 : cat (rotS p z S n k) 1 = p := by simp [cat, rotS]
  have e2 : cat (fun i => rotS p z S n k (1 + i)) (n - k) = cat (fun i => S (k + i)) (n - k) := cat_ext fun i hi => by
    unfold rotS
    rw [if_neg (by omega), if_pos (by omega), show 1 + i - 1 = i by omega]
  have e3 : cat (fun i => rotS p z S n k (1 + (n - k) + i)) 1 = z := by simp [cat, rotS]
  have e4 : cat (fun i => rotS p z S n k (1 + (n - k) + 1 + i)) k = cat S k := cat_ext fun i hi => by
    unfold rotS
    rw [if_neg (by omega), if_neg (by omega), if_neg (by omega), show 1 + (n - k) + 1 + i - (1 + (n - k) + 1) = i by omega]
  rw [e1, e2, e3, e4]
theorem sumE1_gs (S : Nat → E1) (A : Nat → Nat) : ∀ m, sumE1 S A m = gs C1 m (fun i => EP.times C1 (A i) (S i))
  | 0 => rfl
  | m + 1 => by
    show (sumE1 S A m).add C1 (EP.times C1 (A m) (S m)) = _
    rw [sumE1_gs S A m]
    rfl
theorem gs_cut (f : Nat → E1) (a : Nat) : ∀ b, gs C1 (a + b) f = (gs C1 a f).add C1 (gs C1 b (fun i => f (a + i)))
  | 0 => (EP.add_zero C1 _).symm
  | b + 1 => by
    show (gs C1 (a + b) f).add C1 (f (a + b)) = (gs C1 a f).add C1 ((gs C1 b (fun i => f (a + i))).add C1 (f (a + b)))
    rw [gs_cut f a b, EP.add_assoc]
theorem rot_sum (P : E1) (x : Nat) (S : Nat → E1) (A : Nat → Nat) (n k : Nat) (hk : k ≤ n) : sumE1 (rotS P Z1 S n k) (rotS 0 x A n k) (1 + (n - k) + 1 + k) = sumE1 S A n := by
  rw [sumE1_gs, sumE1_gs, gs_cut, gs_cut, gs_cut]
  have e1 : gs C1 1 (fun i => EP.times C1 (rotS 0 x A n k i) (rotS P Z1 S n k i)) = EP.zero := by
    show (EP.zero : E1).add C1 (EP.times C1 (rotS 0 x A n k 0) (rotS P Z1 S n k 0)) = EP.zero
    rw [EP.zero_add]
    rfl
  have e2 : gs C1 (n - k) (fun i => EP.times C1 (rotS 0 x A n k (1 + i)) (rotS P Z1 S n k (1 + i))) = gs C1 (n - k) (fun i => EP.times C1 (A (k + i)) (S (k + i))) := gs_congr C1 fun i hi => by
    unfold rotS
    rw [if_neg (by omega), if_pos (by omega), if_neg (by omega), if_pos (by omega), show 1 + i - 1 = i by omega]
  have e3 : gs C1 1 (fun i => EP.times C1 (rotS 0 x A n k (1 + (n - k) + i)) (rotS P Z1 S n k (1 + (n - k) + i))) = EP.zero := by
    show (EP.zero : E1).add C1 (EP.times C1 (rotS 0 x A n k (1 + (n - k) + 0)) (rotS P Z1 S n k (1 + (n - k) + 0))) = EP.zero
    rw [EP.zero_add, show rotS P Z1 S n k (1 + (n - k) + 0) = Z1 by simp [rotS]]
    exact EP.times_zero C1 _
  have e4 : gs C1 k (fun i => EP.times C1 (rotS 0 x A n k (1 + (n - k) + 1 + i)) (rotS P Z1 S n k (1 + (n - k) + 1 + i))) = gs C1 k (fun i => EP.times C1 (A i) (S i)) := gs_congr C1 fun i hi => by
    unfold rotS
    rw [if_neg (by omega), if_neg (by omega), if_neg (by omega), if_neg (by omega), if_neg (by omega), if_neg (by omega), show 1 + (n - k) + 1 + i - (1 + (n - k) + 1) = i by omega]
  rw [e1, e2, e3, e4, EP.zero_add, EP.add_zero, EP.add_comm, ← gs_cut (fun i => EP.times C1 (A i) (S i)) k (n - k), show k + (n - k) = n by omega]
end

section
section
section
open Go.RowKit Cv
set_option maxRecDepth 20000
set_option maxHeartbeats 4000000
def g2xa : Nat := 352701069587466618187139116011060144890029952792775240219908644239793785735715026873347600343865175952761926303160
theorem lit_g2xa : nv 6 [g2xa] = .agg #[.int .u64 15312334153293348280, .int .u64 841050694974028783, .int .u64 12993178926126977399, .int .u64 14331714969349929730, .int .u64 2740446039084699729, .int .u64 165123225776229009] := by rw [nv6]; kernel_rfl
def g2xb : Nat := 3059144344244213709971259814753781636986470325476647558659373206291635324768958432433509563104347017837885763365758
theorem lit_g2xb : nv 6 [g2xb] = .agg #[.int .u64 16549740192668593022, .int .u64 3696594454104530263, .int .u64 13103893525273989193, .int .u64 6443473286224459290, .int .u64 9055845637167730533, .int .u64 1432192374203850592] := by rw [nv6]; kernel_rfl
def g2ya : Nat := 1985150602287291935568054521177171638300868978215655730859378665066344726373823718423869104263333984641494340347905
theorem lit_g2ya : nv 6 [g2ya] = .agg #[.int .u64 16254428414758889473, .int .u64 10536956157198377609, .int .u64 7873024875724591404, .int .u64 12537348094477325223, .int .u64 10144865889576432922, .int .u64 929383263523139089] := by rw [nv6]; kernel_rfl
def g2yb : Nat := 927553665492332455747201965776037880757740193453592970025027978793976877002675564980949289727957565575433344219582
theorem lit_g2yb : nv 6 [g2yb] = .agg #[.int .u64 12297368366147926462, .int .u64 4555124010822409633, .int .u64 2771000935339432363, .int .u64 14645187562128761775, .int .u64 3651525051980876697, .int .u64 434250606344352972] := by rw [nv6]; kernel_rfl
theorem twoGen_v : CI 21 #[] (sv [.n 6 g2xa, .n 6 g2xb, .n 6 g2ya, .n 6 g2yb, .b false]) := fun w => by
  go_enter Try.func21, Try.ntmps21
  refine rh1 (brf w) 53 0 [.n 6 0, .n 6 0, .n 6 0, .n 6 0, .b false] [0] (fun γ => [pz (γ 0)]) ?_ ?_
  · exact stpb 0 (fun γ w h => ex_allocs (l := [.n 6 0, .n 6 0, .n 6 0, .n 6 0, .b false]) zG2) .nil
  intro γ1 w1 hb1 A2 le2 HB3
  refine rhs HB3 le2 7 0 [.n 6 g2xa, .n 6 g2xb, .n 6 g2ya, .n 6 g2yb, .b false] [1, 2, 3, 4, 5, 6, 7] [nv 6 [g2xa], nv 6 [g2xb], nv 6 [g2xa, g2xb], nv 6 [g2ya], nv 6 [g2yb], nv 6 [g2ya, g2yb], sv [.n 6 g2xa, .n 6 g2xb, .n 6 g2ya, .n 6 g2yb, .b false]] ?_ ?_
  · refine latv (fun γ w h => ex_six lit_g2xa (fun _ => rfl)) ?_
    refine latv (fun γ w h => ex_six lit_g2xb (fun _ => rfl)) ?_
    refine latv (fun γ w h => ex_build stFp2 (vs := [(0, nv 6 [g2xa]), (1, nv 6 [g2xb])]) rfl (bdAB g2xa g2xb)) ?_
    refine latv (fun γ w h => ex_six lit_g2ya (fun _ => rfl)) ?_
    refine latv (fun γ w h => ex_six lit_g2yb (fun _ => rfl)) ?_
    refine latv (fun γ w h => ex_build stFp2 (vs := [(0, nv 6 [g2ya]), (1, nv 6 [g2yb])]) rfl (bdAB g2ya g2yb)) ?_
    refine latv (fun γ w h => ex_builds stG2 (l := [.n 6 g2xa, .n 6 g2xb, .n 6 g2ya, .n 6 g2yb, .b false]) (vs := [(0, nv 6 [g2xa, g2xb]), (1, nv 6 [g2ya, g2yb])]) rfl ((fills_cons 0 2 (m := [.n 6 g2xa, .n 6 g2xb]) (z' := [.n 6 g2xa, .n 6 g2xb, .n 6 0, .n 6 0, .b false]) rfl (nv_cells 6 [g2xa, g2xb]) rfl rfl rfl rfl).trans ((fills_cons 2 2 (m := [.n 6 g2ya, .n 6 g2yb]) (z' := [.n 6 g2xa, .n 6 g2xb, .n 6 g2ya, .n 6 g2yb, .b false]) rfl (nv_cells 6 [g2ya, g2yb]) rfl rfl rfl rfl).trans rfl))) ?_
    exact latq 0 5 flG2.2 A2 .nil
  intro w4 w4_ hb4 hs4 HB8
  have A5 := A2.keep hb4.out
  have A7 := hs4.here 0 5 (l' := [.n 6 g2xa, .n 6 g2xb, .n 6 g2ya, .n 6 g2yb, .b false]) A5 rfl rfl rfl
  exact wpr (ret1 Try.results21 (res_sv rfl A7 flG2 rfl)) HB8
theorem twogen_t : sv [.n 6 g2xa, .n 6 g2xb, .n 6 g2ya, .n 6 g2yb, .b false] = sv [.n 6 (bx0 G2.pt), .n 6 (bx1 G2.pt), .n 6 (by0 G2.pt), .n 6 (by1 G2.pt), .b (bi G2.pt)] := by
  have h0 : g2xa = bx0 G2.pt := by decide +kernel
  have h1 : g2xb = bx1 G2.pt := by decide +kernel
  have h2 : g2ya = by0 G2.pt := by decide +kernel
  have h3 : g2yb = by1 G2.pt := by decide +kernel
  rw [← h0, ← h1, ← h2, ← h3]
  rfl
theorem twoGen_p (w : World) : Calls Try.prog 21 #[] w (Is (sv [.n 6 (bx0 G2.pt), .n 6 (bx1 G2.pt), .n 6 (by0 G2.pt), .n 6 (by1 G2.pt), .b (bi G2.pt)]) w) := by
  rw [← twogen_t]
  exact twoGen_v w
def Z2 : E2 := EP.zero
end

section
open Go.RowKit Cv
set_option maxRecDepth 20000
set_option maxHeartbeats 4000000
theorem zFrS (w : World) : (zeroValue 38).run Try.prog w = .ok (cv (segs [.n 4 0])) w := by
  rw [zFr w, show [0] = List.replicate 1 0 from rfl, rows_zero]
  rfl
theorem bs_slP1_1 : (Array.range (1 * 13)).map (fun i => (segs [.n 6 0, .n 6 0, .b false]).toArray[i % (segs [.n 6 0, .n 6 0, .b false]).toArray.size]!) = (segs [.n 6 0, .n 6 0, .b false]).toArray := by kernel_rfl
theorem bs_slR1_1 : (Array.range (1 * 4)).map (fun i => (segs [.n 4 0]).toArray[i % (segs [.n 4 0]).toArray.size]!) = (segs [.n 4 0]).toArray := by kernel_rfl
theorem sumalive_v : CI 9 #[] (.bool true) := fun w => by
  go_enter Try.func9, Try.ntmps9
  refine rh0 (brf w) [0] [.bool false] ?_ ?_
  · exact stpa .nil
  intro w1 hb1 HB2
  refine rhc HB2 [(28, 4, 5, [.n 6 0, .n 6 0, .b false], [.n 6 (ax (((sumE1 (fun _ => Z1) (fun _ => 0) 0)).pt)), .n 6 (ay (((sumE1 (fun _ => Z1) (fun _ => 0) 0)).pt)), .b (ai (((sumE1 (fun _ => Z1) (fun _ => 0) 0)).pt))])] [4, 3, 5, 6, 1, 2] (fun γ => [.tuple #[sv [.n 6 (ax (((sumE1 (fun _ => Z1) (fun _ => 0) 0)).pt)), .n 6 (ay (((sumE1 (fun _ => Z1) (fun _ => 0) 0)).pt)), .b (ai (((sumE1 (fun _ => Z1) (fun _ => 0) 0)).pt))], .int .i64 0], .tuple #[sv [.n 6 (ax (((sumE1 (fun _ => Z1) (fun _ => 0) 0)).pt)), .n 6 (ay (((sumE1 (fun _ => Z1) (fun _ => 0) 0)).pt)), .b (ai (((sumE1 (fun _ => Z1) (fun _ => 0) 0)).pt))], .int .i64 0], sv [.n 6 (ax (((sumE1 (fun _ => Z1) (fun _ => 0) 0)).pt)), .n 6 (ay (((sumE1 (fun _ => Z1) (fun _ => 0) 0)).pt)), .b (ai (((sumE1 (fun _ => Z1) (fun _ => 0) 0)).pt))], .int .i64 0, pz (γ 0), .int .i64 0]) ?_ ?_
  · refine stpc (.tuple #[sv [.n 6 (ax (((sumE1 (fun _ => Z1) (fun _ => 0) 0)).pt)), .n 6 (ay (((sumE1 (fun _ => Z1) (fun _ => 0) 0)).pt)), .b (ai (((sumE1 (fun _ => Z1) (fun _ => 0) 0)).pt))], .int .i64 0]) (fun γ w => ex_call (vs := [.slice none 0 0, .slice none 0 0]) rfl Try.call7 rfl) (fun w h => sumFew1_p 0 (by decide) (fun _ => Z1) (fun _ => 0) none none 0 0 (by decide) (fun i hi => absurd hi (Nat.not_lt_zero i)) _ (Row.none _ _ _ _) (Row.none _ _ _ _)) ?_
    refine stpm ?_
    refine stpx (fun _ _ => ex_extract rfl rfl) ?_
    refine stpx (fun _ _ => ex_extract rfl rfl) ?_
    refine stpn 0 (fun γ w => ex_allocs (l := [.n 6 0, .n 6 0, .b false]) zG1) ?_
    refine stpq 0 0 3 flG1.2 ?_
    exact stpa .nil
  intro γ3 w3 hb3 hB3 _ HB5
  have A4 : SB 28 w3 (γ3 0) [.n 6 (ax (((sumE1 (fun _ => Z1) (fun _ => 0) 0)).pt)), .n 6 (ay (((sumE1 (fun _ => Z1) (fun _ => 0) 0)).pt)), .b (ai (((sumE1 (fun _ => Z1) (fun _ => 0) 0)).pt))] := (hB3 0 rfl).2
  refine rh0 HB5 [7, 8, 9, 10, 11, 12, 13, 14, 15, 16, 17, 18, 19, 20, 21, 0] [.int .i64 0, .bool true, .bool true, sv [.n 6 (ax (((sumE1 (fun _ => Z1) (fun _ => 0) 0)).pt)), .n 6 (ay (((sumE1 (fun _ => Z1) (fun _ => 0) 0)).pt)), .b (ai (((sumE1 (fun _ => Z1) (fun _ => 0) 0)).pt))], sv [.n 6 (ax Z1.pt), .n 6 (ay Z1.pt), .b (ai Z1.pt)], .bool true, .bool true, .bool true, sv [.n 6 (ax G1.pt), .n 6 (ay G1.pt), .b (ai G1.pt)], .bool true, .bool true, .bool true, sv [.n 6 (bx0 G2.pt), .n 6 (bx1 G2.pt), .n 6 (by0 G2.pt), .n 6 (by1 G2.pt), .b (bi G2.pt)], .bool true, .bool true, .bool true] ?_ ?_
  · refine stpm ?_
    refine stpx (fun _ _ => ex_eqi rfl rfl _ rfl) ?_
    refine stpm ?_
    refine stpv (fun γ w h => ex_loads 0 3 (m := [.n 6 (ax (((sumE1 (fun _ => Z1) (fun _ => 0) 0)).pt)), .n 6 (ay (((sumE1 (fun _ => Z1) (fun _ => 0) 0)).pt)), .b (ai (((sumE1 (fun _ => Z1) (fun _ => 0) 0)).pt))]) flG1 rfl rfl (A4.keep h.out) rfl rfl) ?_
    refine stpk Try.call10 (fun w h => oneZero_p _) ?_
    refine stpx (fun _ _ => ex_eqs gdG1 eqG1 rfl rfl rfl (shG1_of (ax_B (((sumE1 (fun _ => Z1) (fun _ => 0) 0)).pt)) (ay_B (((sumE1 (fun _ => Z1) (fun _ => 0) 0)).pt))) (shG1_of (ax_B Z1.pt) (ay_B Z1.pt)) true (onept_eq _ _ true (by simp [sumE1, Z1]))) ?_
    refine stpx (fun _ _ => ex_pick (r := true) rfl) ?_
    refine stpm ?_
    refine stpk Try.call19 (fun w h => oneGen_p _) ?_
    refine stpk Try.call6 (fun w h => oneRight_p G1 _) ?_
    refine stpx (fun _ _ => ex_pick (r := true) rfl) ?_
    refine stpm ?_
    refine stpk Try.call21 (fun w h => twoGen_p _) ?_
    refine stpk Try.call20 (fun w h => twoRight_p G2 _) ?_
    refine stpx (fun _ _ => ex_pick (r := true) rfl) ?_
    exact stpa .nil
  intro w6 hb6 HB8
  exact wpr (ret1 Try.results9 (res_tmp rfl)) HB8
end
end

section
section
open Go.RowKit Cv
noncomputable def wrB (X Y : Nat → Nat) (I : Nat → Bool) : Nat → Bool
  | 0 => false
  | q + 1 => wrB X Y I q || @decide (¬ RawOk (X q) (Y q) (I q)) (Classical.propDecidable _)
theorem wr_cases (X Y : Nat → Nat) (I : Nat → Bool) (q : Nat) : wrB X Y I q = true ∨ (wrB X Y I q = false ∧ RawOk (X q) (Y q) (I q)) ∨ (wrB X Y I q = false ∧ ¬ RawOk (X q) (Y q) (I q)) := by
  by_cases h : RawOk (X q) (Y q) (I q)
  · cases wrB X Y I q
    · exact .inr (.inl ⟨rfl, h⟩)
    · exact .inl rfl
  · cases wrB X Y I q
    · exact .inr (.inr ⟨rfl, h⟩)
    · exact .inl rfl
theorem wr_1 {X Y : Nat → Nat} {I : Nat → Bool} {q : Nat} (h : wrB X Y I q = true) : wrB X Y I (q + 1) = true := by simp [wrB, h]
theorem wr_2 {X Y : Nat → Nat} {I : Nat → Bool} {q : Nat} (h : wrB X Y I q = false) (hr : RawOk (X q) (Y q) (I q)) : wrB X Y I (q + 1) = false := by simp [wrB, h, hr]
theorem wr_3 {X Y : Nat → Nat} {I : Nat → Bool} {q : Nat} (h : wrB X Y I q = false) (hr : ¬ RawOk (X q) (Y q) (I q)) : wrB X Y I (q + 1) = true := by simp [wrB, h, hr]
theorem wr_no {X Y : Nat → Nat} {I : Nat → Bool} : ∀ {n : Nat}, wrB X Y I n = false → ∀ i, i < n → RawOk (X i) (Y i) (I i)
  | n + 1, h, i, hi => by
    rcases wr_cases X Y I n with c | ⟨c, hr⟩ | ⟨c, hr⟩
    · rw [wr_1 c] at h; cases h
    · by_cases e : i = n
      · rw [e]; exact hr
      · exact wr_no c i (by omega)
    · rw [wr_3 c hr] at h; cases h
theorem wr_yes {X Y : Nat → Nat} {I : Nat → Bool} : ∀ {n : Nat}, wrB X Y I n = true → ∃ j, j < n ∧ (∀ i, i < j → RawOk (X i) (Y i) (I i)) ∧ ¬ RawOk (X j) (Y j) (I j)
  | 0, h => by cases h
  | n + 1, h => by
    rcases wr_cases X Y I n with c | ⟨c, hr⟩ | ⟨c, hr⟩
    · obtain ⟨j, hj, h1, h2⟩ := wr_yes c
      exact ⟨j, by omega, h1, h2⟩
    · rw [wr_2 c hr] at h; cases h
    · exact ⟨n, by omega, wr_no c, hr⟩
theorem ok_points {X Y : Nat → Nat} {I : Nat → Bool} {n : Nat} (h : ∀ i, i < n → RawOk (X i) (Y i) (I i)) : ∃ S : Nat → E1, ∀ i, i < n → rw1 X Y I i = pt1 (S i) := by
  have key : ∀ i, ∃ P : E1, i < n → rw1 X Y I i = pt1 P := fun i => by
    by_cases hi : i < n
    · obtain ⟨P, h1, h2, h3⟩ := h i hi
      exact ⟨P, fun _ => by show [_, _, _] = [_, _, _]; rw [h1, h2, h3]⟩
    · exact ⟨Z1, fun c => absurd c hi⟩
  exact Classical.skolem.1 key
end

section
open Go.RowKit Cv
theorem rotS_map {α β : Type} (f : α → β) (p z : α) (S : Nat → α) (n k : Nat) : (fun i => f (rotS p z S n k i)) = rotS (f p) (f z) (fun i => f (S i)) n k := funext fun i => by
  unfold rotS
  split
  · rfl
  · split
    · rfl
    · split <;> rfl
theorem rot_segs {p z : List Seg} {S : Nat → List Seg} {n k : Nat} : ((segs p ++ segs (cat (fun i => S (k + i)) (n - k))) ++ segs z) ++ segs (cat S k) = segs (cat (rotS p z S n k) (1 + (n - k) + 1 + k)) := by rw [rot_cat, segs_app, segs_app, segs_app]
theorem ex_imin3 {ρ : Operand → Value} {d : Option Tmp} {ty0 : TypeId} {pos : String} {after : Array Edge} {guard : Option (Nat × Bool)} {w : World} {x y z : Operand} {tys : Array TypeId} {a b c : Int} (hx : ρ x = .int .i64 a) (hy : ρ y = .int .i64 b) (hz : ρ z = .int .i64 c) (r : Int) (hr : r = min (min a b) c) :
    (execOp ρ ⟨d, .call ⟨.builtin .min, #[x, y, z], tys⟩, ty0, pos, after, guard⟩).run Try.prog w = .ok (.value (.int .i64 r)) w := by
  subst hr
  simp [hx, hy, hz, go_sem, Builtin.min_, Builtin.min2, List.foldlM]
  split <;> split <;> omega
theorem ex_iremZ {ρ : Operand → Value} {d : Option Tmp} {ty0 : TypeId} {pos : String} {after : Array Edge} {guard : Option (Nat × Bool)} {w : World} {t t2 : TypeId} {x y : Operand} {a : Int} {b : Nat} (hx : ρ x = .int .i64 a) (hy : ρ y = .int .i64 (b : Int)) (hb : 0 < b) (r : Int) (hr : a.tmod (b : Int) = r) :
    (execOp ρ ⟨d, .binOp .rem t x y t2, ty0, pos, after, guard⟩).run Try.prog w = .ok (.value (.int .i64 r)) w := by
  have h1 : ¬ ((b : Int) = 0) := by omega
  simp only [execOp, hx, hy, eqGuard, binOp, Op.intDiv, Sem.run_bind]
  rw [if_neg h1, hr]
  rfl
theorem turn_of (z : Int) (n : Nat) : -((n : Nat) : Int) ≤ z.tmod ((n + 1 : Nat) : Int) ∧ z.tmod ((n + 1 : Nat) : Int) ≤ ((n : Nat) : Int) ∧ ∃ k : Nat, k ≤ n ∧ (z.tmod ((n + 1 : Nat) : Int) + ((n : Nat) : Int) + 1).tmod ((n + 1 : Nat) : Int) = ((k : Nat) : Int) := by
  have hp : (0 : Int) < ((n + 1 : Nat) : Int) := by omega
  have h1 := Int.tmod_lt_of_pos z hp
  have h2 : -((n + 1 : Nat) : Int) < z.tmod ((n + 1 : Nat) : Int) := Int.lt_tmod_of_pos z hp
  refine ⟨by omega, by omega, ((z.tmod ((n + 1 : Nat) : Int) + ((n : Nat) : Int) + 1).tmod ((n + 1 : Nat) : Int)).toNat, ?_, ?_⟩
  · rw [Int.tmod_eq_emod_of_nonneg (by omega)]
    have := Int.emod_lt_of_pos (z.tmod ((n + 1 : Nat) : Int) + ((n : Nat) : Int) + 1) hp
    have := Int.emod_nonneg (z.tmod ((n + 1 : Nat) : Int) + ((n : Nat) : Int) + 1) (show ((n + 1 : Nat) : Int) ≠ 0 by omega)
    omega
  · rw [Int.tmod_eq_emod_of_nonneg (by omega)]
    have := Int.emod_nonneg (z.tmod ((n + 1 : Nat) : Int) + ((n : Nat) : Int) + 1) (show ((n + 1 : Nat) : Int) ≠ 0 by omega)
    omega
theorem inf_g1 : ∃ (inf : TypeInfo) (z : Value), Try.prog.info? 28 = some inf ∧ inf.zero = some z ∧ inf.size = 13 ∧ inf.bytes = 104 ∧ z.cells.size = 13 := inf5 (e := 28) (z := .agg #[.int .u64 0, .int .u64 0, .int .u64 0, .int .u64 0, .int .u64 0, .int .u64 0, .int .u64 0, .int .u64 0, .int .u64 0, .int .u64 0, .int .u64 0, .int .u64 0, .bool false]) (sz := 13) (bytes := 104) (by kernel_rfl) rfl
theorem inf_fr : ∃ (inf : TypeInfo) (z : Value), Try.prog.info? 38 = some inf ∧ inf.zero = some z ∧ inf.size = 4 ∧ inf.bytes = 32 ∧ z.cells.size = 4 := inf5 (e := 38) (z := .agg #[.int .u64 0, .int .u64 0, .int .u64 0, .int .u64 0]) (sz := 4) (bytes := 32) (by kernel_rfl) rfl
theorem rot_bound {x n k : Nat} {A : Nat → Nat} (hx : x < frB) (HA : ∀ i, i < n → A i < frB) (hk : k ≤ n) : ∀ i, i < 1 + (n - k) + 1 + k → rotS 0 x A n k i < frB := fun i hi => by
  unfold rotS
  split
  · rw [frB_eq]; exact Nat.two_pow_pos _
  · split
    · exact HA _ (by omega)
    · split
      · exact hx
      · exact HA _ (by omega)
set_option maxRecDepth 20000 in
set_option maxHeartbeats 4000000 in
theorem sumOrder_cur (m mk n : Nat) (ap ak : Option Addr) (cp ck : Nat) (hmc : m ≤ cp) (hmk : mk ≤ ck) (hcp : ap = none → cp = 0) (hck : ak = none → ck = 0) (hnm : n ≤ m) (hnk : n ≤ mk) (hn20 : n ≤ 20) (hmin : ((n : Nat) : Int) = min (min ((m : Nat) : Int) ((mk : Nat) : Int)) 20) (X Y : Nat → Nat) (I : Nat → Bool) (hXY : ∀ i, i < m → X i < fpB ∧ Y i < fpB) (A : Nat → Nat) (HA : ∀ i, i < mk → A i < frB) (z : Int) (x : Nat) (hxB : x < frB) (j : Nat) (hj : j < n) (hok : ∀ i, i < j → RawOk (X i) (Y i) (I i)) (hbad : ¬ RawOk (X j) (Y j) (I j)) (px py : Nat) (pi : Bool) (w : World) (HP : Row w ap 13 m (rw1 X Y I)) (HK : Row w ak 4 mk (fun i => [.n 4 (A i)])) :
    Calls Try.prog 4 #[.slice ap m cp, .slice ak mk ck, .int .i64 z, nv 4 [x], sv [.n 6 px, .n 6 py, .b pi]] w (Is (.bool true) w) := by
  go_enter Try.func4, Try.ntmps4
  refine wp_seq (region_c 2 (fun j_ => match j_ with | 0 => 38 | _ => 28) (fun j_ => match j_ with | 0 => 0 | _ => 1) (fun j_ => match j_ with | 0 => 0 | _ => 1) (fun j_ => match j_ with | 0 => segs [.n 4 x] | _ => segs [.n 6 px, .n 6 py, .b pi]) (fun j_ => match j_ with | 0 => segs [.n 4 x] | _ => segs [.n 6 px, .n 6 py, .b pi]) [8, 9, 10] (fun γ => [.pointer (some ⟨γ 0, 0, none⟩), .pointer (some ⟨γ 1, 0, none⟩), .bool false]) ?_ ?_)
  · refine GSteps.cons (gm_box 0 rfl (fun _ => rfl) (fun _ _ => rfl) (fun γ w h => ex_boxsn (K := 4) (l := [x]) rfl) rfl rfl rfl) ?_
    refine GSteps.cons (gm_box 1 rfl (fun _ => rfl) (fun _ _ => rfl) (fun γ w h => ex_boxs (l := [.n 6 px, .n 6 py, .b pi]) rfl) rfl rfl rfl) ?_
    refine stpx (fun _ _ => ex_assign _) ?_
    exact GSteps.nil
  intro γ1 w1 hb1 hB1 hn1
  refine th_r ?_
  have A2 : SB 38 w1 (γ1 0) [.n 4 x] := (hB1 0 (by decide)).2
  have le2 := (hB1 0 (by decide)).1
  have A3 : SB 28 w1 (γ1 1) [.n 6 px, .n 6 py, .b pi] := (hB1 1 (by decide)).2
  have le3 := (hB1 1 (by decide)).1
  have HB4 := below_then (Below.refl w.heap.size w) hb1.out
  refine wp_seq (region_0 [19, 20, 21, 22, 23, 11] [.slice ap m cp, .int .i64 ((m : Nat) : Int), .slice ak mk ck, .int .i64 ((mk : Nat) : Int), .int .i64 ((n : Nat) : Int), .int .i64 ((n : Nat) : Int)] ?_ ?_)
  · refine stpx (fun _ _ => ex_move _) ?_
    refine stpx (fun _ _ => ex_lenR slP1 (m := m) rfl) ?_
    refine stpx (fun _ _ => ex_move _) ?_
    refine stpx (fun _ _ => ex_lenR slR1 (m := mk) rfl) ?_
    refine stpx (fun _ _ => ex_imin3 rfl rfl rfl _ hmin) ?_
    refine stpx (fun _ _ => ex_assign _) ?_
    exact GSteps.nil
  intro w5 hb5
  refine th_r ?_
  have A6 := A2.keep hb5.out
  have A7 := A3.keep hb5.out
  have HB8 := below_then HB4 hb5.out
  refine wp_seq (region_cl (A := ((.slice ap m cp) :: (.slice ak mk ck) :: (.int .i64 z) :: (nv 4 [x]) :: (sv [.n 6 px, .n 6 py, .b pi]) :: undef :: undef :: undef :: (.pointer (some ⟨(γ1 0), 0, none⟩)) :: (.pointer (some ⟨(γ1 1), 0, none⟩)) :: (.bool false) :: (.int .i64 ((n : Nat) : Int)) :: undef :: undef :: undef :: undef :: undef :: undef :: undef :: (.slice ap m cp) :: (.int .i64 ((m : Nat) : Int)) :: (.slice ak mk ck) :: (.int .i64 ((mk : Nat) : Int)) :: (.int .i64 ((n : Nat) : Int)) :: undef :: undef :: undef :: undef :: undef :: undef :: undef :: undef :: undef :: undef :: undef :: undef :: undef :: undef :: undef :: undef :: undef :: undef :: undef :: undef :: undef :: undef :: undef :: undef :: undef :: undef :: undef :: undef :: undef :: undef :: undef :: undef :: undef :: undef :: undef :: undef :: undef :: undef :: undef :: undef :: undef :: undef :: undef :: undef :: undef :: undef :: undef :: undef :: undef :: undef :: undef :: undef :: undef :: undef :: undef :: undef :: undef :: undef :: undef :: undef :: undef :: undef :: undef :: undef :: undef :: undef :: undef :: undef :: undef :: undef :: undef :: undef :: undef :: undef :: undef :: undef :: undef :: undef :: undef :: undef :: undef :: [])) (B := ((.slice ap n cp) :: (.slice ak n ck) :: (.int .i64 z) :: (nv 4 [x]) :: (sv [.n 6 px, .n 6 py, .b pi]) :: undef :: undef :: undef :: (.pointer (some ⟨(γ1 0), 0, none⟩)) :: (.pointer (some ⟨(γ1 1), 0, none⟩)) :: (.bool false) :: (.int .i64 ((n : Nat) : Int)) :: undef :: undef :: undef :: undef :: undef :: undef :: undef :: (.slice ap m cp) :: (.int .i64 ((m : Nat) : Int)) :: (.slice ak mk ck) :: (.int .i64 ((mk : Nat) : Int)) :: (.int .i64 ((n : Nat) : Int)) :: (.slice ap m cp) :: (.int .i64 ((n : Nat) : Int)) :: (.slice ap n cp) :: (.slice ak mk ck) :: (.int .i64 ((n : Nat) : Int)) :: (.slice ak n ck) :: undef :: undef :: undef :: undef :: undef :: undef :: undef :: undef :: undef :: undef :: undef :: undef :: undef :: undef :: undef :: undef :: undef :: undef :: undef :: undef :: undef :: undef :: undef :: undef :: undef :: undef :: undef :: undef :: undef :: undef :: undef :: undef :: undef :: undef :: undef :: undef :: undef :: undef :: undef :: undef :: undef :: undef :: undef :: undef :: undef :: undef :: undef :: undef :: undef :: undef :: undef :: undef :: undef :: undef :: undef :: undef :: undef :: undef :: undef :: undef :: undef :: undef :: undef :: undef :: undef :: undef :: undef :: undef :: undef :: undef :: undef :: undef :: undef :: undef :: undef :: [])) (fun i => match i with | 0 => some 0 | 3 => some 1 | _ => none) [24, 25, 26, 27, 28, 29, 0, 1] (by kernel_rfl) (by kernel_rfl) (by kernel_rfl) (by kernel_rfl) rfl rfl ⟨⟨24, .slice ap m cp, rfl, rfl, rfl, fun _ => ex_move _⟩, ⟨25, .int .i64 ((n : Nat) : Int), rfl, rfl, rfl, fun _ => ex_move _⟩, ⟨26, .slice ap n cp, rfl, rfl, rfl, fun _ => ex_cutN slP1 (a := ap) (m := m) (c := cp) (k := n) rfl rfl (by omega)⟩, ⟨27, .slice ak mk ck, rfl, rfl, rfl, fun _ => ex_move _⟩, ⟨28, .int .i64 ((n : Nat) : Int), rfl, rfl, rfl, fun _ => ex_move _⟩, ⟨29, .slice ak n ck, rfl, rfl, rfl, fun _ => ex_cutN slR1 (a := ak) (m := mk) (c := ck) (k := n) rfl rfl (by omega)⟩, ⟨0, .slice ap n cp, rfl, rfl, rfl, fun _ => ex_assign _⟩, ⟨1, .slice ak n ck, rfl, rfl, rfl, fun _ => ex_assign _⟩, trivial⟩ ?_)
  intro w9 hb9
  refine th_r ?_
  have A10 := A6.keep hb9.out
  have A11 := A7.keep hb9.out
  have HB12 := below_then HB8 hb9.out
  refine wp_seq (region_c 1 (fun _ => 28) (fun _ => 6) (fun _ => 7) (fun _ => segs [.n 6 0, .n 6 0, .b false]) (fun _ => segs [.n 6 0, .n 6 0, .b false]) [31, 32, 33, 30, 34, 35, 12, 13] (fun γ => [.slice ap n cp, .slice ak n ck, .tuple #[sv [.n 6 0, .n 6 0, .b false], .int .i64 30], .tuple #[sv [.n 6 0, .n 6 0, .b false], .int .i64 30], sv [.n 6 0, .n 6 0, .b false], .int .i64 30, .pointer (some ⟨γ 0, 0, none⟩), .int .i64 30]) ?_ ?_)
  · refine stpx (fun _ _ => ex_move _) ?_
    refine stpx (fun _ _ => ex_move _) ?_
    refine stpc (.tuple #[sv [.n 6 0, .n 6 0, .b false], .int .i64 30]) (fun γ w => ex_call (vs := [.slice ap n cp, .slice ak n ck]) rfl Try.call7 rfl) (fun w h => sumErr1_curve n (by omega) X Y I ap ak cp ck j hj hok (hXY j (by omega)).1 (hXY j (by omega)).2 hbad _ ((HP.less hnm).keep (below_here HB12 h))) ?_
    refine stpx (fun _ _ => ex_move _) ?_
    refine stpx (fun _ _ => ex_extract (vs := [sv [.n 6 0, .n 6 0, .b false], .int .i64 30]) rfl rfl) ?_
    refine stpx (fun _ _ => ex_extract (vs := [sv [.n 6 0, .n 6 0, .b false], .int .i64 30]) rfl rfl) ?_
    refine GSteps.cons (gm_new 0 rfl (fun _ => rfl) (fun _ _ => rfl) (fun γ w => ex_allocs (l := [.n 6 0, .n 6 0, .b false]) zG1) rfl (by kernel_rfl)) ?_
    refine GSteps.cons (gm_store 0 rfl rfl (fun _ => rfl) (len_segs (l := [.n 6 0, .n 6 0, .b false]) (l' := [.n 6 0, .n 6 0, .b false]) rfl) (fun γ w h => ex_stores 0 3 (l := [.n 6 0, .n 6 0, .b false]) (m := [.n 6 0, .n 6 0, .b false]) flG1.2 rfl rfl rfl rfl h rfl rfl) rfl rfl (by kernel_rfl)) ?_
    refine stpx (fun _ _ => ex_assign _) ?_
    exact GSteps.nil
  intro γ13 w13 hb13 hB13 _
  refine th_r ?_
  have A14 := A10.keep hb13.out
  have A15 := A11.keep hb13.out
  have A16 : SB 28 w13 (γ13 0) [.n 6 0, .n 6 0, .b false] := (hB13 0 (by decide)).2
  have le16 := (hB13 0 (by decide)).1
  have HB17 := below_then HB12 hb13.out
  refine wp_seq ?_
  refine wp_seq (region_0 [36, 37, 38, 39, 40, 41, 42] [.int .i64 30, .bool true, .bool true, undef, undef, undef, .bool true] ?_ ?_)
  · refine stpx (fun _ _ => ex_move _) ?_
    refine stpx (fun _ _ => ex_neqi rfl rfl _ rfl) ?_
    refine stpx (fun _ _ => ex_move _) ?_
    refine stps ?_
    refine stps ?_
    refine stps ?_
    refine stpx (fun _ _ => ex_pick (r := true) rfl) ?_
    exact GSteps.nil
  intro w18 hb18
  refine th_r ?_
  have A19 := A14.keep hb18.out
  have A20 := A15.keep hb18.out
  have A21 := A16.keep hb18.out
  have HB22 := below_then HB17 hb18.out
  refine wp_cond_true rfl ?_
  refine wp_seq (region_0 [43, 44, 45, 46, 47, 48, 49, 50, 51, 52, 10] [.bool true, .bool true, .int .i64 30, .bool false, .bool false, sv [.n 6 0, .n 6 0, .b false], sv [.n 6 0, .n 6 0, .b false], .bool true, .bool true, .bool true, .bool true] ?_ ?_)
  · refine stpc (.bool true) (fun γ w => ex_call (vs := []) rfl Try.call9 rfl) (fun w h => sumalive_v _) ?_
    refine stpx (fun _ _ => ex_move _) ?_
    refine stpx (fun _ _ => ex_move _) ?_
    refine stpx (fun _ _ => ex_eqi rfl rfl _ rfl) ?_
    refine stpx (fun _ _ => ex_move _) ?_
    refine stpv (fun γ w h => ex_loads 0 3 (m := [.n 6 0, .n 6 0, .b false]) flG1 rfl rfl (A21.keep h.out) rfl rfl) ?_
    refine stpx (fun _ _ => ex_builds stG1 (l := [.n 6 0, .n 6 0, .b false]) (vs := []) rfl rfl) ?_
    refine stpx (fun _ _ => ex_eqs gdG1 eqG1 rfl rfl rfl (shG1_of zero_B zero_B) (shG1_of zero_B zero_B) true (by simp)) ?_
    refine stpx (fun _ _ => ex_pick (r := false) rfl) ?_
    refine stpx (fun _ _ => ex_pick (r := true) rfl) ?_
    refine stpx (fun _ _ => ex_assign _) ?_
    exact GSteps.nil
  intro w23 hb23
  refine th_r ?_
  have A24 := A19.keep hb23.out
  have A25 := A20.keep hb23.out
  have A26 := A21.keep hb23.out
  have HB27 := below_then HB22 hb23.out
  exact wp_ret (th_ret (bodyPost_ret (ret1 Try.results4 (res_tmp rfl)) rfl ⟨rfl, HB27⟩))
set_option maxRecDepth 20000 in
set_option maxHeartbeats 4000000 in
theorem sumOrder_raw (m mk n : Nat) (ap ak : Option Addr) (cp ck : Nat) (hmc : m ≤ cp) (hmk : mk ≤ ck) (hcp : ap = none → cp = 0) (hck : ak = none → ck = 0) (hnm : n ≤ m) (hnk : n ≤ mk) (hn20 : n ≤ 20) (hmin : ((n : Nat) : Int) = min (min ((m : Nat) : Int) ((mk : Nat) : Int)) 20) (X Y : Nat → Nat) (I : Nat → Bool) (hXY : ∀ i, i < m → X i < fpB ∧ Y i < fpB) (A : Nat → Nat) (HA : ∀ i, i < mk → A i < frB) (z : Int) (x : Nat) (hxB : x < frB) (S : Nat → E1) (hS : ∀ i, i < n → rw1 X Y I i = pt1 (S i)) (px py : Nat) (pi : Bool) (hpx : px < fpB) (hpy : py < fpB) (hpb : ¬ RawOk px py pi) (w : World) (HP : Row w ap 13 m (rw1 X Y I)) (HK : Row w ak 4 mk (fun i => [.n 4 (A i)])) :
    Calls Try.prog 4 #[.slice ap m cp, .slice ak mk ck, .int .i64 z, nv 4 [x], sv [.n 6 px, .n 6 py, .b pi]] w (Is (.bool true) w) := by
  have HKn := HK.less hnk
  have HS : Row w ap 13 n (fun i => pt1 (S i)) := (HP.less hnm).ext hS
  go_enter Try.func4, Try.ntmps4
  refine wp_seq (region_c 2 (fun j_ => match j_ with | 0 => 38 | _ => 28) (fun j_ => match j_ with | 0 => 0 | _ => 1) (fun j_ => match j_ with | 0 => 0 | _ => 1) (fun j_ => match j_ with | 0 => segs [.n 4 x] | _ => segs [.n 6 px, .n 6 py, .b pi]) (fun j_ => match j_ with | 0 => segs [.n 4 x] | _ => segs [.n 6 px, .n 6 py, .b pi]) [8, 9, 10] (fun γ => [.pointer (some ⟨γ 0, 0, none⟩), .pointer (some ⟨γ 1, 0, none⟩), .bool false]) ?_ ?_)
  · refine GSteps.cons (gm_box 0 rfl (fun _ => rfl) (fun _ _ => rfl) (fun γ w h => ex_boxsn (K := 4) (l := [x]) rfl) rfl rfl rfl) ?_
    refine GSteps.cons (gm_box 1 rfl (fun _ => rfl) (fun _ _ => rfl) (fun γ w h => ex_boxs (l := [.n 6 px, .n 6 py, .b pi]) rfl) rfl rfl rfl) ?_
    refine stpx (fun _ _ => ex_assign _) ?_
    exact GSteps.nil
  intro γ1 w1 hb1 hB1 hn1
  refine th_r ?_
  have A2 : SB 38 w1 (γ1 0) [.n 4 x] := (hB1 0 (by decide)).2
  have le2 := (hB1 0 (by decide)).1
  have A3 : SB 28 w1 (γ1 1) [.n 6 px, .n 6 py, .b pi] := (hB1 1 (by decide)).2
  have le3 := (hB1 1 (by decide)).1
  have HB4 := below_then (Below.refl w.heap.size w) hb1.out
  refine wp_seq (region_0 [19, 20, 21, 22, 23, 11] [.slice ap m cp, .int .i64 ((m : Nat) : Int), .slice ak mk ck, .int .i64 ((mk : Nat) : Int), .int .i64 ((n : Nat) : Int), .int .i64 ((n : Nat) : Int)] ?_ ?_)
  · refine stpx (fun _ _ => ex_move _) ?_
    refine stpx (fun _ _ => ex_lenR slP1 (m := m) rfl) ?_
    refine stpx (fun _ _ => ex_move _) ?_
    refine stpx (fun _ _ => ex_lenR slR1 (m := mk) rfl) ?_
    refine stpx (fun _ _ => ex_imin3 rfl rfl rfl _ hmin) ?_
    refine stpx (fun _ _ => ex_assign _) ?_
    exact GSteps.nil
  intro w5 hb5
  refine th_r ?_
  have A6 := A2.keep hb5.out
  have A7 := A3.keep hb5.out
  have HB8 := below_then HB4 hb5.out
  refine wp_seq (region_cl (A := ((.slice ap m cp) :: (.slice ak mk ck) :: (.int .i64 z) :: (nv 4 [x]) :: (sv [.n 6 px, .n 6 py, .b pi]) :: undef :: undef :: undef :: (.pointer (some ⟨(γ1 0), 0, none⟩)) :: (.pointer (some ⟨(γ1 1), 0, none⟩)) :: (.bool false) :: (.int .i64 ((n : Nat) : Int)) :: undef :: undef :: undef :: undef :: undef :: undef :: undef :: (.slice ap m cp) :: (.int .i64 ((m : Nat) : Int)) :: (.slice ak mk ck) :: (.int .i64 ((mk : Nat) : Int)) :: (.int .i64 ((n : Nat) : Int)) :: undef :: undef :: undef :: undef :: undef :: undef :: undef :: undef :: undef :: undef :: undef :: undef :: undef :: undef :: undef :: undef :: undef :: undef :: undef :: undef :: undef :: undef :: undef :: undef :: undef :: undef :: undef :: undef :: undef :: undef :: undef :: undef :: undef :: undef :: undef :: undef :: undef :: undef :: undef :: undef :: undef :: undef :: undef :: undef :: undef :: undef :: undef :: undef :: undef :: undef :: undef :: undef :: undef :: undef :: undef :: undef :: undef :: undef :: undef :: undef :: undef :: undef :: undef :: undef :: undef :: undef :: undef :: undef :: undef :: undef :: undef :: undef :: undef :: undef :: undef :: undef :: undef :: undef :: undef :: undef :: undef :: [])) (B := ((.slice ap n cp) :: (.slice ak n ck) :: (.int .i64 z) :: (nv 4 [x]) :: (sv [.n 6 px, .n 6 py, .b pi]) :: undef :: undef :: undef :: (.pointer (some ⟨(γ1 0), 0, none⟩)) :: (.pointer (some ⟨(γ1 1), 0, none⟩)) :: (.bool false) :: (.int .i64 ((n : Nat) : Int)) :: undef :: undef :: undef :: undef :: undef :: undef :: undef :: (.slice ap m cp) :: (.int .i64 ((m : Nat) : Int)) :: (.slice ak mk ck) :: (.int .i64 ((mk : Nat) : Int)) :: (.int .i64 ((n : Nat) : Int)) :: (.slice ap m cp) :: (.int .i64 ((n : Nat) : Int)) :: (.slice ap n cp) :: (.slice ak mk ck) :: (.int .i64 ((n : Nat) : Int)) :: (.slice ak n ck) :: undef :: undef :: undef :: undef :: undef :: undef :: undef :: undef :: undef :: undef :: undef :: undef :: undef :: undef :: undef :: undef :: undef :: undef :: undef :: undef :: undef :: undef :: undef :: undef :: undef :: undef :: undef :: undef :: undef :: undef :: undef :: undef :: undef :: undef :: undef :: undef :: undef :: undef :: undef :: undef :: undef :: undef :: undef :: undef :: undef :: undef :: undef :: undef :: undef :: undef :: undef :: undef :: undef :: undef :: undef :: undef :: undef :: undef :: undef :: undef :: undef :: undef :: undef :: undef :: undef :: undef :: undef :: undef :: undef :: undef :: undef :: undef :: undef :: undef :: undef :: [])) (fun i => match i with | 0 => some 0 | 3 => some 1 | _ => none) [24, 25, 26, 27, 28, 29, 0, 1] (by kernel_rfl) (by kernel_rfl) (by kernel_rfl) (by kernel_rfl) rfl rfl ⟨⟨24, .slice ap m cp, rfl, rfl, rfl, fun _ => ex_move _⟩, ⟨25, .int .i64 ((n : Nat) : Int), rfl, rfl, rfl, fun _ => ex_move _⟩, ⟨26, .slice ap n cp, rfl, rfl, rfl, fun _ => ex_cutN slP1 (a := ap) (m := m) (c := cp) (k := n) rfl rfl (by omega)⟩, ⟨27, .slice ak mk ck, rfl, rfl, rfl, fun _ => ex_move _⟩, ⟨28, .int .i64 ((n : Nat) : Int), rfl, rfl, rfl, fun _ => ex_move _⟩, ⟨29, .slice ak n ck, rfl, rfl, rfl, fun _ => ex_cutN slR1 (a := ak) (m := mk) (c := ck) (k := n) rfl rfl (by omega)⟩, ⟨0, .slice ap n cp, rfl, rfl, rfl, fun _ => ex_assign _⟩, ⟨1, .slice ak n ck, rfl, rfl, rfl, fun _ => ex_assign _⟩, trivial⟩ ?_)
  intro w9 hb9
  refine th_r ?_
  have A10 := A6.keep hb9.out
  have A11 := A7.keep hb9.out
  have HB12 := below_then HB8 hb9.out
  refine wp_seq (region_c 1 (fun _ => 28) (fun _ => 6) (fun _ => 7) (fun _ => segs [.n 6 0, .n 6 0, .b false]) (fun _ => segs [.n 6 (ax (((sumE1 S A n)).pt)), .n 6 (ay (((sumE1 S A n)).pt)), .b (ai (((sumE1 S A n)).pt))]) [31, 32, 33, 30, 34, 35, 12, 13] (fun γ => [.slice ap n cp, .slice ak n ck, .tuple #[sv [.n 6 (ax (((sumE1 S A n)).pt)), .n 6 (ay (((sumE1 S A n)).pt)), .b (ai (((sumE1 S A n)).pt))], .int .i64 0], .tuple #[sv [.n 6 (ax (((sumE1 S A n)).pt)), .n 6 (ay (((sumE1 S A n)).pt)), .b (ai (((sumE1 S A n)).pt))], .int .i64 0], sv [.n 6 (ax (((sumE1 S A n)).pt)), .n 6 (ay (((sumE1 S A n)).pt)), .b (ai (((sumE1 S A n)).pt))], .int .i64 0, .pointer (some ⟨γ 0, 0, none⟩), .int .i64 0]) ?_ ?_)
  · refine stpx (fun _ _ => ex_move _) ?_
    refine stpx (fun _ _ => ex_move _) ?_
    refine stpc (.tuple #[sv [.n 6 (ax (((sumE1 S A n)).pt)), .n 6 (ay (((sumE1 S A n)).pt)), .b (ai (((sumE1 S A n)).pt))], .int .i64 0]) (fun γ w => ex_call (vs := [.slice ap n cp, .slice ak n ck]) rfl Try.call7 rfl) (fun w h => sumAny1_p n (by omega) S A ap ak cp ck (fun i hi => HA i (by omega)) _ (HS.keep (below_here HB12 h)) (HKn.keep (below_here HB12 h))) ?_
    refine stpx (fun _ _ => ex_move _) ?_
    refine stpx (fun _ _ => ex_extract (vs := [sv [.n 6 (ax (((sumE1 S A n)).pt)), .n 6 (ay (((sumE1 S A n)).pt)), .b (ai (((sumE1 S A n)).pt))], .int .i64 0]) rfl rfl) ?_
    refine stpx (fun _ _ => ex_extract (vs := [sv [.n 6 (ax (((sumE1 S A n)).pt)), .n 6 (ay (((sumE1 S A n)).pt)), .b (ai (((sumE1 S A n)).pt))], .int .i64 0]) rfl rfl) ?_
    refine GSteps.cons (gm_new 0 rfl (fun _ => rfl) (fun _ _ => rfl) (fun γ w => ex_allocs (l := [.n 6 0, .n 6 0, .b false]) zG1) rfl (by kernel_rfl)) ?_
    refine GSteps.cons (gm_store 0 rfl rfl (fun _ => rfl) (len_segs (l := [.n 6 (ax (((sumE1 S A n)).pt)), .n 6 (ay (((sumE1 S A n)).pt)), .b (ai (((sumE1 S A n)).pt))]) (l' := [.n 6 0, .n 6 0, .b false]) rfl) (fun γ w h => ex_stores 0 3 (l := [.n 6 0, .n 6 0, .b false]) (m := [.n 6 (ax (((sumE1 S A n)).pt)), .n 6 (ay (((sumE1 S A n)).pt)), .b (ai (((sumE1 S A n)).pt))]) flG1.2 rfl rfl rfl rfl h rfl rfl) rfl rfl (by kernel_rfl)) ?_
    refine stpx (fun _ _ => ex_assign _) ?_
    exact GSteps.nil
  intro γ13 w13 hb13 hB13 _
  refine th_r ?_
  have A14 := A10.keep hb13.out
  have A15 := A11.keep hb13.out
  have A16 : SB 28 w13 (γ13 0) [.n 6 (ax (((sumE1 S A n)).pt)), .n 6 (ay (((sumE1 S A n)).pt)), .b (ai (((sumE1 S A n)).pt))] := (hB13 0 (by decide)).2
  have le16 := (hB13 0 (by decide)).1
  have HB17 := below_then HB12 hb13.out
  refine wp_seq ?_
  refine wp_seq (region_0 [36, 37, 38, 39, 40, 41, 42] [.int .i64 0, .bool false, .bool false, sv [.n 6 px, .n 6 py, .b pi], .bool false, .bool true, .bool true] ?_ ?_)
  · refine stpx (fun _ _ => ex_move _) ?_
    refine stpx (fun _ _ => ex_neqi rfl rfl _ rfl) ?_
    refine stpx (fun _ _ => ex_move _) ?_
    refine stpv (fun γ w h => ex_loads 0 3 (m := [.n 6 px, .n 6 py, .b pi]) flG1 rfl rfl (A15.keep h.out) rfl rfl) ?_
    refine stpc (.bool false) (fun γ w => ex_call (vs := [sv [.n 6 px, .n 6 py, .b pi]]) rfl Try.call6 rfl) (fun w h => oneRight_no hpx hpy hpb _) ?_
    refine stpx (fun _ _ => ex_not (r := false) rfl) ?_
    refine stpx (fun _ _ => ex_pick (r := false) rfl) ?_
    exact GSteps.nil
  intro w18 hb18
  refine th_r ?_
  have A19 := A14.keep hb18.out
  have A20 := A15.keep hb18.out
  have A21 := A16.keep hb18.out
  have HB22 := below_then HB17 hb18.out
  refine wp_cond_true rfl ?_
  refine wp_seq (region_0 [43, 44, 45, 46, 47, 48, 49, 50, 51, 52, 10] [.bool true, .bool true, .int .i64 0, .bool true, .bool true, undef, undef, undef, .bool true, .bool true, .bool true] ?_ ?_)
  · refine stpc (.bool true) (fun γ w => ex_call (vs := []) rfl Try.call9 rfl) (fun w h => sumalive_v _) ?_
    refine stpx (fun _ _ => ex_move _) ?_
    refine stpx (fun _ _ => ex_move _) ?_
    refine stpx (fun _ _ => ex_eqi rfl rfl _ rfl) ?_
    refine stpx (fun _ _ => ex_move _) ?_
    refine stps ?_
    refine stps ?_
    refine stps ?_
    refine stpx (fun _ _ => ex_pick (r := true) rfl) ?_
    refine stpx (fun _ _ => ex_pick (r := true) rfl) ?_
    refine stpx (fun _ _ => ex_assign _) ?_
    exact GSteps.nil
  intro w23 hb23
  refine th_r ?_
  have A24 := A19.keep hb23.out
  have A25 := A20.keep hb23.out
  have A26 := A21.keep hb23.out
  have HB27 := below_then HB22 hb23.out
  exact wp_ret (th_ret (bodyPost_ret (ret1 Try.results4 (res_tmp rfl)) rfl ⟨rfl, HB27⟩))
set_option maxRecDepth 20000 in
set_option maxHeartbeats 4000000 in
theorem sumOrder_ok (m mk n : Nat) (ap ak : Option Addr) (cp ck : Nat) (hmc : m ≤ cp) (hmk : mk ≤ ck) (hcp : ap = none → cp = 0) (hck : ak = none → ck = 0) (hnm : n ≤ m) (hnk : n ≤ mk) (hn20 : n ≤ 20) (hmin : ((n : Nat) : Int) = min (min ((m : Nat) : Int) ((mk : Nat) : Int)) 20) (X Y : Nat → Nat) (I : Nat → Bool) (hXY : ∀ i, i < m → X i < fpB ∧ Y i < fpB) (A : Nat → Nat) (HA : ∀ i, i < mk → A i < frB) (z : Int) (x : Nat) (hxB : x < frB) (S : Nat → E1) (hS : ∀ i, i < n → rw1 X Y I i = pt1 (S i)) (P : E1) (k : Nat) (hkn : k ≤ n) (hz1 : -((n : Nat) : Int) ≤ z.tmod ((n + 1 : Nat) : Int)) (hz2 : z.tmod ((n + 1 : Nat) : Int) ≤ ((n : Nat) : Int)) (hkz : (z.tmod ((n + 1 : Nat) : Int) + ((n : Nat) : Int) + 1).tmod ((n + 1 : Nat) : Int) = ((k : Nat) : Int)) (w : World) (HP : Row w ap 13 m (rw1 X Y I)) (HK : Row w ak 4 mk (fun i => [.n 4 (A i)])) :
    Calls Try.prog 4 #[.slice ap m cp, .slice ak mk ck, .int .i64 z, nv 4 [x], sv [.n 6 (ax P.pt), .n 6 (ay P.pt), .b (ai P.pt)]] w (Is (.bool true) w) := by
  have HKn := HK.less hnk
  have HS : Row w ap 13 n (fun i => pt1 (S i)) := (HP.less hnm).ext hS
  have hncp : n ≤ cp := by omega
  have hnck : n ≤ ck := by omega
  go_enter Try.func4, Try.ntmps4
  refine wp_seq (region_c 2 (fun j_ => match j_ with | 0 => 38 | _ => 28) (fun j_ => match j_ with | 0 => 0 | _ => 1) (fun j_ => match j_ with | 0 => 0 | _ => 1) (fun j_ => match j_ with | 0 => segs [.n 4 x] | _ => segs [.n 6 (ax P.pt), .n 6 (ay P.pt), .b (ai P.pt)]) (fun j_ => match j_ with | 0 => segs [.n 4 x] | _ => segs [.n 6 (ax P.pt), .n 6 (ay P.pt), .b (ai P.pt)]) [8, 9, 10] (fun γ => [.pointer (some ⟨γ 0, 0, none⟩), .pointer (some ⟨γ 1, 0, none⟩), .bool false]) ?_ ?_)
  · refine GSteps.cons (gm_box 0 rfl (fun _ => rfl) (fun _ _ => rfl) (fun γ w h => ex_boxsn (K := 4) (l := [x]) rfl) rfl rfl rfl) ?_
    refine GSteps.cons (gm_box 1 rfl (fun _ => rfl) (fun _ _ => rfl) (fun γ w h => ex_boxs (l := [.n 6 (ax P.pt), .n 6 (ay P.pt), .b (ai P.pt)]) rfl) rfl rfl rfl) ?_
    refine stpx (fun _ _ => ex_assign _) ?_
    exact GSteps.nil
  intro γ1 w1 hb1 hB1 hn1
  refine th_r ?_
  have A2 : SB 38 w1 (γ1 0) [.n 4 x] := (hB1 0 (by decide)).2
  have le2 := (hB1 0 (by decide)).1
  have A3 : SB 28 w1 (γ1 1) [.n 6 (ax P.pt), .n 6 (ay P.pt), .b (ai P.pt)] := (hB1 1 (by decide)).2
  have le3 := (hB1 1 (by decide)).1
  have HB4 := below_then (Below.refl w.heap.size w) hb1.out
  refine wp_seq (region_0 [19, 20, 21, 22, 23, 11] [.slice ap m cp, .int .i64 ((m : Nat) : Int), .slice ak mk ck, .int .i64 ((mk : Nat) : Int), .int .i64 ((n : Nat) : Int), .int .i64 ((n : Nat) : Int)] ?_ ?_)
  · refine stpx (fun _ _ => ex_move _) ?_
    refine stpx (fun _ _ => ex_lenR slP1 (m := m) rfl) ?_
    refine stpx (fun _ _ => ex_move _) ?_
    refine stpx (fun _ _ => ex_lenR slR1 (m := mk) rfl) ?_
    refine stpx (fun _ _ => ex_imin3 rfl rfl rfl _ hmin) ?_
    refine stpx (fun _ _ => ex_assign _) ?_
    exact GSteps.nil
  intro w5 hb5
  refine th_r ?_
  have A6 := A2.keep hb5.out
  have A7 := A3.keep hb5.out
  have HB8 := below_then HB4 hb5.out
  refine wp_seq (region_cl (A := ((.slice ap m cp) :: (.slice ak mk ck) :: (.int .i64 z) :: (nv 4 [x]) :: (sv [.n 6 (ax P.pt), .n 6 (ay P.pt), .b (ai P.pt)]) :: undef :: undef :: undef :: (.pointer (some ⟨(γ1 0), 0, none⟩)) :: (.pointer (some ⟨(γ1 1), 0, none⟩)) :: (.bool false) :: (.int .i64 ((n : Nat) : Int)) :: undef :: undef :: undef :: undef :: undef :: undef :: undef :: (.slice ap m cp) :: (.int .i64 ((m : Nat) : Int)) :: (.slice ak mk ck) :: (.int .i64 ((mk : Nat) : Int)) :: (.int .i64 ((n : Nat) : Int)) :: undef :: undef :: undef :: undef :: undef :: undef :: undef :: undef :: undef :: undef :: undef :: undef :: undef :: undef :: undef :: undef :: undef :: undef :: undef :: undef :: undef :: undef :: undef :: undef :: undef :: undef :: undef :: undef :: undef :: undef :: undef :: undef :: undef :: undef :: undef :: undef :: undef :: undef :: undef :: undef :: undef :: undef :: undef :: undef :: undef :: undef :: undef :: undef :: undef :: undef :: undef :: undef :: undef :: undef :: undef :: undef :: undef :: undef :: undef :: undef :: undef :: undef :: undef :: undef :: undef :: undef :: undef :: undef :: undef :: undef :: undef :: undef :: undef :: undef :: undef :: undef :: undef :: undef :: undef :: undef :: undef :: [])) (B := ((.slice ap n cp) :: (.slice ak n ck) :: (.int .i64 z) :: (nv 4 [x]) :: (sv [.n 6 (ax P.pt), .n 6 (ay P.pt), .b (ai P.pt)]) :: undef :: undef :: undef :: (.pointer (some ⟨(γ1 0), 0, none⟩)) :: (.pointer (some ⟨(γ1 1), 0, none⟩)) :: (.bool false) :: (.int .i64 ((n : Nat) : Int)) :: undef :: undef :: undef :: undef :: undef :: undef :: undef :: (.slice ap m cp) :: (.int .i64 ((m : Nat) : Int)) :: (.slice ak mk ck) :: (.int .i64 ((mk : Nat) : Int)) :: (.int .i64 ((n : Nat) : Int)) :: (.slice ap m cp) :: (.int .i64 ((n : Nat) : Int)) :: (.slice ap n cp) :: (.slice ak mk ck) :: (.int .i64 ((n : Nat) : Int)) :: (.slice ak n ck) :: undef :: undef :: undef :: undef :: undef :: undef :: undef :: undef :: undef :: undef :: undef :: undef :: undef :: undef :: undef :: undef :: undef :: undef :: undef :: undef :: undef :: undef :: undef :: undef :: undef :: undef :: undef :: undef :: undef :: undef :: undef :: undef :: undef :: undef :: undef :: undef :: undef :: undef :: undef :: undef :: undef :: undef :: undef :: undef :: undef :: undef :: undef :: undef :: undef :: undef :: undef :: undef :: undef :: undef :: undef :: undef :: undef :: undef :: undef :: undef :: undef :: undef :: undef :: undef :: undef :: undef :: undef :: undef :: undef :: undef :: undef :: undef :: undef :: undef :: undef :: [])) (fun i => match i with | 0 => some 0 | 3 => some 1 | _ => none) [24, 25, 26, 27, 28, 29, 0, 1] (by kernel_rfl) (by kernel_rfl) (by kernel_rfl) (by kernel_rfl) rfl rfl ⟨⟨24, .slice ap m cp, rfl, rfl, rfl, fun _ => ex_move _⟩, ⟨25, .int .i64 ((n : Nat) : Int), rfl, rfl, rfl, fun _ => ex_move _⟩, ⟨26, .slice ap n cp, rfl, rfl, rfl, fun _ => ex_cutN slP1 (a := ap) (m := m) (c := cp) (k := n) rfl rfl (by omega)⟩, ⟨27, .slice ak mk ck, rfl, rfl, rfl, fun _ => ex_move _⟩, ⟨28, .int .i64 ((n : Nat) : Int), rfl, rfl, rfl, fun _ => ex_move _⟩, ⟨29, .slice ak n ck, rfl, rfl, rfl, fun _ => ex_cutN slR1 (a := ak) (m := mk) (c := ck) (k := n) rfl rfl (by omega)⟩, ⟨0, .slice ap n cp, rfl, rfl, rfl, fun _ => ex_assign _⟩, ⟨1, .slice ak n ck, rfl, rfl, rfl, fun _ => ex_assign _⟩, trivial⟩ ?_)
  intro w9 hb9
  refine th_r ?_
  have A10 := A6.keep hb9.out
  have A11 := A7.keep hb9.out
  have HB12 := below_then HB8 hb9.out
  refine wp_seq (region_c 1 (fun _ => 28) (fun _ => 6) (fun _ => 7) (fun _ => segs [.n 6 0, .n 6 0, .b false]) (fun _ => segs [.n 6 (ax (((sumE1 S A n)).pt)), .n 6 (ay (((sumE1 S A n)).pt)), .b (ai (((sumE1 S A n)).pt))]) [31, 32, 33, 30, 34, 35, 12, 13] (fun γ => [.slice ap n cp, .slice ak n ck, .tuple #[sv [.n 6 (ax (((sumE1 S A n)).pt)), .n 6 (ay (((sumE1 S A n)).pt)), .b (ai (((sumE1 S A n)).pt))], .int .i64 0], .tuple #[sv [.n 6 (ax (((sumE1 S A n)).pt)), .n 6 (ay (((sumE1 S A n)).pt)), .b (ai (((sumE1 S A n)).pt))], .int .i64 0], sv [.n 6 (ax (((sumE1 S A n)).pt)), .n 6 (ay (((sumE1 S A n)).pt)), .b (ai (((sumE1 S A n)).pt))], .int .i64 0, .pointer (some ⟨γ 0, 0, none⟩), .int .i64 0]) ?_ ?_)
  · refine stpx (fun _ _ => ex_move _) ?_
    refine stpx (fun _ _ => ex_move _) ?_
    refine stpc (.tuple #[sv [.n 6 (ax (((sumE1 S A n)).pt)), .n 6 (ay (((sumE1 S A n)).pt)), .b (ai (((sumE1 S A n)).pt))], .int .i64 0]) (fun γ w => ex_call (vs := [.slice ap n cp, .slice ak n ck]) rfl Try.call7 rfl) (fun w h => sumAny1_p n (by omega) S A ap ak cp ck (fun i hi => HA i (by omega)) _ (HS.keep (below_here HB12 h)) (HKn.keep (below_here HB12 h))) ?_
    refine stpx (fun _ _ => ex_move _) ?_
    refine stpx (fun _ _ => ex_extract (vs := [sv [.n 6 (ax (((sumE1 S A n)).pt)), .n 6 (ay (((sumE1 S A n)).pt)), .b (ai (((sumE1 S A n)).pt))], .int .i64 0]) rfl rfl) ?_
    refine stpx (fun _ _ => ex_extract (vs := [sv [.n 6 (ax (((sumE1 S A n)).pt)), .n 6 (ay (((sumE1 S A n)).pt)), .b (ai (((sumE1 S A n)).pt))], .int .i64 0]) rfl rfl) ?_
    refine GSteps.cons (gm_new 0 rfl (fun _ => rfl) (fun _ _ => rfl) (fun γ w => ex_allocs (l := [.n 6 0, .n 6 0, .b false]) zG1) rfl (by kernel_rfl)) ?_
    refine GSteps.cons (gm_store 0 rfl rfl (fun _ => rfl) (len_segs (l := [.n 6 (ax (((sumE1 S A n)).pt)), .n 6 (ay (((sumE1 S A n)).pt)), .b (ai (((sumE1 S A n)).pt))]) (l' := [.n 6 0, .n 6 0, .b false]) rfl) (fun γ w h => ex_stores 0 3 (l := [.n 6 0, .n 6 0, .b false]) (m := [.n 6 (ax (((sumE1 S A n)).pt)), .n 6 (ay (((sumE1 S A n)).pt)), .b (ai (((sumE1 S A n)).pt))]) flG1.2 rfl rfl rfl rfl h rfl rfl) rfl rfl (by kernel_rfl)) ?_
    refine stpx (fun _ _ => ex_assign _) ?_
    exact GSteps.nil
  intro γ13 w13 hb13 hB13 _
  refine th_r ?_
  have A14 := A10.keep hb13.out
  have A15 := A11.keep hb13.out
  have A16 : SB 28 w13 (γ13 0) [.n 6 (ax (((sumE1 S A n)).pt)), .n 6 (ay (((sumE1 S A n)).pt)), .b (ai (((sumE1 S A n)).pt))] := (hB13 0 (by decide)).2
  have le16 := (hB13 0 (by decide)).1
  have HB17 := below_then HB12 hb13.out
  refine wp_seq ?_
  refine wp_seq (region_0 [36, 37, 38, 39, 40, 41, 42] [.int .i64 0, .bool false, .bool false, sv [.n 6 (ax P.pt), .n 6 (ay P.pt), .b (ai P.pt)], .bool true, .bool false, .bool false] ?_ ?_)
  · refine stpx (fun _ _ => ex_move _) ?_
    refine stpx (fun _ _ => ex_neqi rfl rfl _ rfl) ?_
    refine stpx (fun _ _ => ex_move _) ?_
    refine stpv (fun γ w h => ex_loads 0 3 (m := [.n 6 (ax P.pt), .n 6 (ay P.pt), .b (ai P.pt)]) flG1 rfl rfl (A15.keep h.out) rfl rfl) ?_
    refine stpc (.bool true) (fun γ w => ex_call (vs := [sv [.n 6 (ax P.pt), .n 6 (ay P.pt), .b (ai P.pt)]]) rfl Try.call6 rfl) (fun w h => oneRight_p P _) ?_
    refine stpx (fun _ _ => ex_not (r := true) rfl) ?_
    refine stpx (fun _ _ => ex_pick (r := false) rfl) ?_
    exact GSteps.nil
  intro w18 hb18
  refine th_r ?_
  have A19 := A14.keep hb18.out
  have A20 := A15.keep hb18.out
  have A21 := A16.keep hb18.out
  have HB22 := below_then HB17 hb18.out
  refine wp_cond_false rfl ?_
  refine wp_skip ?_
  refine th_r ?_
  refine wp_seq (region_0 [53, 54, 55, 56, 57, 58, 59, 60, 61, 62, 14] [.int .i64 z, .int .i64 ((n : Nat) : Int), .int .i64 ((n + 1 : Nat) : Int), .int .i64 (z.tmod ((n + 1 : Nat) : Int)), .int .i64 ((n : Nat) : Int), .int .i64 ((z.tmod ((n + 1 : Nat) : Int)) + ((n : Nat) : Int)), .int .i64 ((z.tmod ((n + 1 : Nat) : Int)) + ((n : Nat) : Int) + 1), .int .i64 ((n : Nat) : Int), .int .i64 ((n + 1 : Nat) : Int), .int .i64 ((k : Nat) : Int), .int .i64 ((k : Nat) : Int)] ?_ ?_)
  · refine stpx (fun _ _ => ex_move _) ?_
    refine stpx (fun _ _ => ex_move _) ?_
    refine stpx (fun _ _ => ex_iadd rfl rfl ((n + 1 : Nat) : Int) (cnt_up (by omega))) ?_
    refine stpx (fun _ _ => ex_iremZ (b := n + 1) rfl rfl (by omega) _ rfl) ?_
    refine stpx (fun _ _ => ex_move _) ?_
    refine stpx (fun _ _ => ex_iadd rfl rfl ((z.tmod ((n + 1 : Nat) : Int)) + ((n : Nat) : Int)) (wrapI64 (by omega) (by omega))) ?_
    refine stpx (fun _ _ => ex_iadd rfl rfl ((z.tmod ((n + 1 : Nat) : Int)) + ((n : Nat) : Int) + 1) (wrapI64 (by omega) (by omega))) ?_
    refine stpx (fun _ _ => ex_move _) ?_
    refine stpx (fun _ _ => ex_iadd rfl rfl ((n + 1 : Nat) : Int) (cnt_up (by omega))) ?_
    refine stpx (fun _ _ => ex_iremZ (b := n + 1) rfl rfl (by omega) _ hkz) ?_
    refine stpx (fun _ _ => ex_assign _) ?_
    exact GSteps.nil
  intro w23 hb23
  refine th_r ?_
  have A24 := A19.keep hb23.out
  have A25 := A20.keep hb23.out
  have A26 := A21.keep hb23.out
  have HB27 := below_then HB22 hb23.out
  have HS28 := HS.keep HB27
  refine wp_seq (region_ap (F := fun γ => ⟨List.toArray ((.slice ap n cp) :: (.slice ak n ck) :: (.int .i64 z) :: (nv 4 [x]) :: (sv [.n 6 (ax P.pt), .n 6 (ay P.pt), .b (ai P.pt)]) :: undef :: undef :: undef :: (.pointer (some ⟨(γ1 0), 0, none⟩)) :: (.pointer (some ⟨(γ1 1), 0, none⟩)) :: (.bool false) :: (.int .i64 ((n : Nat) : Int)) :: (.pointer (some ⟨(γ13 0), 0, none⟩)) :: (.int .i64 0) :: (.int .i64 ((k : Nat) : Int)) :: ((γ 5)) :: undef :: undef :: undef :: (.slice ap m cp) :: (.int .i64 ((m : Nat) : Int)) :: (.slice ak mk ck) :: (.int .i64 ((mk : Nat) : Int)) :: (.int .i64 ((n : Nat) : Int)) :: (.slice ap m cp) :: (.int .i64 ((n : Nat) : Int)) :: (.slice ap n cp) :: (.slice ak mk ck) :: (.int .i64 ((n : Nat) : Int)) :: (.slice ak n ck) :: (.tuple #[sv [.n 6 (ax (((sumE1 S A n)).pt)), .n 6 (ay (((sumE1 S A n)).pt)), .b (ai (((sumE1 S A n)).pt))], .int .i64 0]) :: (.slice ap n cp) :: (.slice ak n ck) :: (.tuple #[sv [.n 6 (ax (((sumE1 S A n)).pt)), .n 6 (ay (((sumE1 S A n)).pt)), .b (ai (((sumE1 S A n)).pt))], .int .i64 0]) :: (sv [.n 6 (ax (((sumE1 S A n)).pt)), .n 6 (ay (((sumE1 S A n)).pt)), .b (ai (((sumE1 S A n)).pt))]) :: (.int .i64 0) :: (.int .i64 0) :: (.bool false) :: (.bool false) :: (sv [.n 6 (ax P.pt), .n 6 (ay P.pt), .b (ai P.pt)]) :: (.bool true) :: (.bool false) :: (.bool false) :: undef :: undef :: undef :: undef :: undef :: undef :: undef :: undef :: undef :: undef :: (.int .i64 z) :: (.int .i64 ((n : Nat) : Int)) :: (.int .i64 ((n + 1 : Nat) : Int)) :: (.int .i64 (z.tmod ((n + 1 : Nat) : Int))) :: (.int .i64 ((n : Nat) : Int)) :: (.int .i64 ((z.tmod ((n + 1 : Nat) : Int)) + ((n : Nat) : Int))) :: (.int .i64 ((z.tmod ((n + 1 : Nat) : Int)) + ((n : Nat) : Int) + 1)) :: (.int .i64 ((n : Nat) : Int)) :: (.int .i64 ((n + 1 : Nat) : Int)) :: (.int .i64 ((k : Nat) : Int)) :: (sv [.n 6 (ax P.pt), .n 6 (ay P.pt), .b (ai P.pt)]) :: ((γ 0)) :: (.slice ap n cp) :: (.int .i64 ((k : Nat) : Int)) :: (.slice (cutA ap 13 cp k) ((n - k)) ((cp - k))) :: ((γ 2)) :: (sv [.n 6 (ax Z1.pt), .n 6 (ay Z1.pt), .b (ai Z1.pt)]) :: ((γ 1)) :: ((γ 3)) :: (.slice ap n cp) :: (.int .i64 ((k : Nat) : Int)) :: (.slice ap k cp) :: ((γ 4)) :: undef :: undef :: undef :: undef :: undef :: undef :: undef :: undef :: undef :: undef :: undef :: undef :: undef :: undef :: undef :: undef :: undef :: undef :: undef :: undef :: undef :: undef :: undef :: undef :: undef :: undef :: undef :: undef :: undef :: []), []⟩) 28 13 6 (fun i => match i with | 0 => 1 | 1 => 7 | 2 => 5 | 3 => 8 | 4 => 12 | _ => 13) (fun i => match i with | 0 => some 5 | 1 => some 8 | 2 => some 8 | 3 => some 12 | 4 => some 13 | _ => none) (fun i => match i with | 0 => 1 | 1 => 1 | 2 => 1 + (n - k) | 3 => 1 + (n - k) + 1 | _ => 1 + (n - k) + 1 + k) (fun i => match i with | 0 => segs [.n 6 (ax P.pt), .n 6 (ay P.pt), .b (ai P.pt)] | 1 => segs [.n 6 (ax Z1.pt), .n 6 (ay Z1.pt), .b (ai Z1.pt)] | 2 => segs [.n 6 (ax P.pt), .n 6 (ay P.pt), .b (ai P.pt)] ++ segs (cat (fun i => pt1 (S (k + i))) (n - k)) | 3 => segs [.n 6 (ax P.pt), .n 6 (ay P.pt), .b (ai P.pt)] ++ segs (cat (fun i => pt1 (S (k + i))) (n - k)) ++ segs [.n 6 (ax Z1.pt), .n 6 (ay Z1.pt), .b (ai Z1.pt)] | _ => segs [.n 6 (ax P.pt), .n 6 (ay P.pt), .b (ai P.pt)] ++ segs (cat (fun i => pt1 (S (k + i))) (n - k)) ++ segs [.n 6 (ax Z1.pt), .n 6 (ay Z1.pt), .b (ai Z1.pt)] ++ segs (cat (fun i => pt1 (S i)) k)) 5 [63, 64, 65, 66, 67, 68, 69, 70, 71, 72, 73, 74, 75, 15] (by kernel_rfl) (by kernel_rfl) rfl rfl rfl rfl rfl ?_ ?_)
  · refine GSteps.cons (ap_val (fun _ => sv [.n 6 (ax P.pt), .n 6 (ay P.pt), .b (ai P.pt)]) rfl (fun _ => rfl) (fun _ => rfl) (fun γ w h => ex_loads 0 3 (m := [.n 6 (ax P.pt), .n 6 (ay P.pt), .b (ai P.pt)]) flG1 rfl rfl (A25.keep h.out) rfl rfl) rfl) ?_
    refine GSteps.cons (ap_new 0 1 rfl (fun _ => rfl) (fun _ _ => rfl) (fun γ w h => ex_bsl slP1 (k := 1) (zc := segs [.n 6 0, .n 6 0, .b false]) (z := [.n 6 0, .n 6 0, .b false]) (l := [.n 6 (ax P.pt), .n 6 (ay P.pt), .b (ai P.pt)]) (vs := [(0, sv [.n 6 (ax P.pt), .n 6 (ay P.pt), .b (ai P.pt)])]) zG1 bs_slP1_1 rfl rfl rfl ((fills_cons 0 3 (m := [.n 6 (ax P.pt), .n 6 (ay P.pt), .b (ai P.pt)]) (z' := [.n 6 (ax P.pt), .n 6 (ay P.pt), .b (ai P.pt)]) rfl rfl rfl rfl rfl rfl).trans rfl)) rfl rfl (by decide)) ?_
    refine GSteps.cons (ap_val (fun _ => .slice ap n cp) rfl (fun _ => rfl) (fun _ => rfl) (fun γ w h => ex_move _) rfl) ?_
    refine GSteps.cons (ap_val (fun _ => .int .i64 ((k : Nat) : Int)) rfl (fun _ => rfl) (fun _ => rfl) (fun γ w h => ex_move _) rfl) ?_
    refine GSteps.cons (ap_val (fun _ => .slice (cutA ap 13 cp k) ((n - k)) ((cp - k))) rfl (fun _ => rfl) (fun _ => rfl) (fun γ w h => ex_cutFrom slP1 (a := ap) (m := n) (c := cp) (k := k) rfl rfl hkn) rfl) ?_
    refine GSteps.cons (ap_app 0 2 (n - k) 104 (segs (cat (fun i => pt1 (S (k + i))) (n - k))) (fun r => match r with | 1 => [6] | 4 => [8] | _ => []) rfl rfl slP1.und inf_g1 (by decide) (by decide) (fun _ => rfl) (fun _ => rfl) (by decide) rfl (by kernel_rfl) rfl (fun _ _ => rfl) (by kernel_rfl) rfl (by rw [cat_len (n := 13) (S := (fun i => pt1 (S (k + i)))) (fun _ => rfl), Nat.mul_comm]) ones_of rfl rfl (show 1 + (n - k) ≤ 5000 by omega) (fun γ L w hJ _ _ => arg_row (S := (fun i => pt1 (S (k + i)))) (fun _ => rfl) (by decide) ((HS28.from hncp hkn).keep hJ.bel.out) (cutA_none hcp))) ?_
    refine GSteps.cons (ap_call (v := sv [.n 6 (ax Z1.pt), .n 6 (ay Z1.pt), .b (ai Z1.pt)]) rfl (fun _ => rfl) (fun _ => rfl) (fun γ w => ex_call (vs := []) rfl Try.call10 rfl) (fun w h => oneZero_p _) rfl) ?_
    refine GSteps.cons (ap_new 1 1 rfl (fun _ => rfl) (fun _ _ => rfl) (fun γ w h => ex_bsl slP1 (k := 1) (zc := segs [.n 6 0, .n 6 0, .b false]) (z := [.n 6 0, .n 6 0, .b false]) (l := [.n 6 (ax Z1.pt), .n 6 (ay Z1.pt), .b (ai Z1.pt)]) (vs := [(0, sv [.n 6 (ax Z1.pt), .n 6 (ay Z1.pt), .b (ai Z1.pt)])]) zG1 bs_slP1_1 rfl rfl rfl ((fills_cons 0 3 (m := [.n 6 (ax Z1.pt), .n 6 (ay Z1.pt), .b (ai Z1.pt)]) (z' := [.n 6 (ax Z1.pt), .n 6 (ay Z1.pt), .b (ai Z1.pt)]) rfl rfl rfl rfl rfl rfl).trans rfl)) rfl rfl (by decide)) ?_
    refine GSteps.cons (ap_app 2 3 1 104 (segs [.n 6 (ax Z1.pt), .n 6 (ay Z1.pt), .b (ai Z1.pt)]) (fun _ => []) rfl rfl slP1.und inf_g1 (by decide) (by decide) (fun _ => rfl) (fun _ => rfl) (by decide) rfl (by kernel_rfl) rfl (fun _ _ => rfl) (by kernel_rfl) rfl rfl ones_of rfl rfl (show 1 + (n - k) + 1 ≤ 5000 by omega) (fun γ L w hJ hL hdep => .inr (arg_own (hJ.own 1 (by decide) (hdep 7 (by kernel_rfl)) hL) (by decide)))) ?_
    refine GSteps.cons (ap_val (fun _ => .slice ap n cp) rfl (fun _ => rfl) (fun _ => rfl) (fun γ w h => ex_move _) rfl) ?_
    refine GSteps.cons (ap_val (fun _ => .int .i64 ((k : Nat) : Int)) rfl (fun _ => rfl) (fun _ => rfl) (fun γ w h => ex_move _) rfl) ?_
    refine GSteps.cons (ap_val (fun _ => .slice ap k cp) rfl (fun _ => rfl) (fun _ => rfl) (fun γ w h => ex_cutN slP1 (a := ap) (m := n) (c := cp) (k := k) rfl rfl (by omega)) rfl) ?_
    refine GSteps.cons (ap_app 3 4 k 104 (segs (cat (fun i => pt1 (S i)) k)) (fun r => match r with | 0 => [8] | _ => []) rfl rfl slP1.und inf_g1 (by decide) (by decide) (fun _ => rfl) (fun _ => rfl) (by decide) rfl (by kernel_rfl) rfl (fun _ _ => rfl) (by kernel_rfl) rfl (by rw [cat_len (n := 13) (S := (fun i => pt1 (S i))) (fun _ => rfl), Nat.mul_comm]) ones_of rfl rfl (show 1 + (n - k) + 1 + k ≤ 5000 by omega) (fun γ L w hJ _ _ => arg_row (S := (fun i => pt1 (S i))) (fun _ => rfl) (by decide) ((HS28.less hkn).keep hJ.bel.out) hcp)) ?_
    refine GSteps.cons (ap_move 4 5 (fun _ => []) rfl (fun _ => rfl) (by decide) rfl (by kernel_rfl) rfl (fun _ _ => rfl) (by kernel_rfl) rfl rfl rfl rfl (fun γ w h => ex_assign _)) ?_
    exact GSteps.nil
  intro γ28 w28 hb28 hO28
  refine th_r ?_
  have hP28 : w28.ownsRow w23.heap.size 28 13 (γ28 5) (1 + (n - k) + 1 + k) (segs (cat (fun i => pt1 (rotS P Z1 S n k i)) (1 + (n - k) + 1 + k))) := by rw [rotS_map pt1 P Z1 S n k, ← rot_segs]; exact hO28
  obtain ⟨a28, c28, e28, R28⟩ := own_row (n := 13) (S := (fun i => pt1 (rotS P Z1 S n k i))) (fun _ => rfl) hP28 (show 0 < (1 + (n - k) + 1 + k) by omega)
  rw [e28]
  have A29 := A24.keep hb28.out
  have A30 := A25.keep hb28.out
  have A31 := A26.keep hb28.out
  have HB32 := below_then HB27 hb28.out
  have HKn33 := HKn.keep HB32
  refine wp_seq (region_ap (F := fun γ => ⟨List.toArray ((.slice ap n cp) :: (.slice ak n ck) :: (.int .i64 z) :: (nv 4 [x]) :: (sv [.n 6 (ax P.pt), .n 6 (ay P.pt), .b (ai P.pt)]) :: undef :: undef :: undef :: (.pointer (some ⟨(γ1 0), 0, none⟩)) :: (.pointer (some ⟨(γ1 1), 0, none⟩)) :: (.bool false) :: (.int .i64 ((n : Nat) : Int)) :: (.pointer (some ⟨(γ13 0), 0, none⟩)) :: (.int .i64 0) :: (.int .i64 ((k : Nat) : Int)) :: (.slice a28 ((1 + (n - k) + 1 + k)) c28) :: ((γ 5)) :: undef :: undef :: (.slice ap m cp) :: (.int .i64 ((m : Nat) : Int)) :: (.slice ak mk ck) :: (.int .i64 ((mk : Nat) : Int)) :: (.int .i64 ((n : Nat) : Int)) :: (.slice ap m cp) :: (.int .i64 ((n : Nat) : Int)) :: (.slice ap n cp) :: (.slice ak mk ck) :: (.int .i64 ((n : Nat) : Int)) :: (.slice ak n ck) :: (.tuple #[sv [.n 6 (ax (((sumE1 S A n)).pt)), .n 6 (ay (((sumE1 S A n)).pt)), .b (ai (((sumE1 S A n)).pt))], .int .i64 0]) :: (.slice ap n cp) :: (.slice ak n ck) :: (.tuple #[sv [.n 6 (ax (((sumE1 S A n)).pt)), .n 6 (ay (((sumE1 S A n)).pt)), .b (ai (((sumE1 S A n)).pt))], .int .i64 0]) :: (sv [.n 6 (ax (((sumE1 S A n)).pt)), .n 6 (ay (((sumE1 S A n)).pt)), .b (ai (((sumE1 S A n)).pt))]) :: (.int .i64 0) :: (.int .i64 0) :: (.bool false) :: (.bool false) :: (sv [.n 6 (ax P.pt), .n 6 (ay P.pt), .b (ai P.pt)]) :: (.bool true) :: (.bool false) :: (.bool false) :: undef :: undef :: undef :: undef :: undef :: undef :: undef :: undef :: undef :: undef :: (.int .i64 z) :: (.int .i64 ((n : Nat) : Int)) :: (.int .i64 ((n + 1 : Nat) : Int)) :: (.int .i64 (z.tmod ((n + 1 : Nat) : Int))) :: (.int .i64 ((n : Nat) : Int)) :: (.int .i64 ((z.tmod ((n + 1 : Nat) : Int)) + ((n : Nat) : Int))) :: (.int .i64 ((z.tmod ((n + 1 : Nat) : Int)) + ((n : Nat) : Int) + 1)) :: (.int .i64 ((n : Nat) : Int)) :: (.int .i64 ((n + 1 : Nat) : Int)) :: (.int .i64 ((k : Nat) : Int)) :: (sv [.n 6 (ax P.pt), .n 6 (ay P.pt), .b (ai P.pt)]) :: ((γ28 0)) :: (.slice ap n cp) :: (.int .i64 ((k : Nat) : Int)) :: (.slice (cutA ap 13 cp k) ((n - k)) ((cp - k))) :: ((γ28 2)) :: (sv [.n 6 (ax Z1.pt), .n 6 (ay Z1.pt), .b (ai Z1.pt)]) :: ((γ28 1)) :: ((γ28 3)) :: (.slice ap n cp) :: (.int .i64 ((k : Nat) : Int)) :: (.slice ap k cp) :: ((γ28 4)) :: (nv 4 [0]) :: ((γ 0)) :: (.slice ak n ck) :: (.int .i64 ((k : Nat) : Int)) :: (.slice (cutA ak 4 ck k) ((n - k)) ((ck - k))) :: ((γ 2)) :: (nv 4 [x]) :: ((γ 1)) :: ((γ 3)) :: (.slice ak n ck) :: (.int .i64 ((k : Nat) : Int)) :: (.slice ak k ck) :: ((γ 4)) :: undef :: undef :: undef :: undef :: undef :: undef :: undef :: undef :: undef :: undef :: undef :: undef :: undef :: undef :: undef :: undef :: []), []⟩) 38 4 6 (fun i => match i with | 0 => 1 | 1 => 7 | 2 => 5 | 3 => 8 | 4 => 12 | _ => 13) (fun i => match i with | 0 => some 5 | 1 => some 8 | 2 => some 8 | 3 => some 12 | 4 => some 13 | _ => none) (fun i => match i with | 0 => 1 | 1 => 1 | 2 => 1 + (n - k) | 3 => 1 + (n - k) + 1 | _ => 1 + (n - k) + 1 + k) (fun i => match i with | 0 => segs [.n 4 0] | 1 => segs [.n 4 x] | 2 => segs [.n 4 0] ++ segs (cat (fun i => [.n 4 (A (k + i))]) (n - k)) | 3 => segs [.n 4 0] ++ segs (cat (fun i => [.n 4 (A (k + i))]) (n - k)) ++ segs [.n 4 x] | _ => segs [.n 4 0] ++ segs (cat (fun i => [.n 4 (A (k + i))]) (n - k)) ++ segs [.n 4 x] ++ segs (cat (fun i => [.n 4 (A i)]) k)) 5 [76, 77, 78, 79, 80, 81, 82, 83, 84, 85, 86, 87, 88, 16] (by kernel_rfl) (by kernel_rfl) rfl rfl rfl rfl rfl ?_ ?_)
  · refine GSteps.cons (ap_val (fun _ => nv 4 [0]) rfl (fun _ => rfl) (fun _ => rfl) (fun γ w h => ex_zeroR) rfl) ?_
    refine GSteps.cons (ap_new 0 1 rfl (fun _ => rfl) (fun _ _ => rfl) (fun γ w h => ex_bsl slR1 (k := 1) (zc := segs [.n 4 0]) (z := [.n 4 0]) (l := [.n 4 0]) (vs := [(0, nv 4 [0])]) zFrS bs_slR1_1 rfl rfl rfl ((fills_cons 0 1 (m := [.n 4 0]) (z' := [.n 4 0]) rfl (nv_cells 4 [0]) rfl rfl rfl rfl).trans rfl)) rfl rfl (by decide)) ?_
    refine GSteps.cons (ap_val (fun _ => .slice ak n ck) rfl (fun _ => rfl) (fun _ => rfl) (fun γ w h => ex_move _) rfl) ?_
    refine GSteps.cons (ap_val (fun _ => .int .i64 ((k : Nat) : Int)) rfl (fun _ => rfl) (fun _ => rfl) (fun γ w h => ex_move _) rfl) ?_
    refine GSteps.cons (ap_val (fun _ => .slice (cutA ak 4 ck k) ((n - k)) ((ck - k))) rfl (fun _ => rfl) (fun _ => rfl) (fun γ w h => ex_cutFrom slR1 (a := ak) (m := n) (c := ck) (k := k) rfl rfl hkn) rfl) ?_
    refine GSteps.cons (ap_app 0 2 (n - k) 32 (segs (cat (fun i => [.n 4 (A (k + i))]) (n - k))) (fun r => match r with | 1 => [6] | 4 => [8] | _ => []) rfl rfl slR1.und inf_fr (by decide) (by decide) (fun _ => rfl) (fun _ => rfl) (by decide) rfl (by kernel_rfl) rfl (fun _ _ => rfl) (by kernel_rfl) rfl (by rw [cat_len (n := 4) (S := (fun i => [.n 4 (A (k + i))])) (fun _ => rfl), Nat.mul_comm]) ones_of rfl rfl (show 1 + (n - k) ≤ 5000 by omega) (fun γ L w hJ _ _ => arg_row (S := (fun i => [.n 4 (A (k + i))])) (fun _ => rfl) (by decide) ((HKn33.from hnck hkn).keep hJ.bel.out) (cutA_none hck))) ?_
    refine GSteps.cons (ap_val (fun _ => nv 4 [x]) rfl (fun _ => rfl) (fun _ => rfl) (fun γ w h => ex_loadsn (K := 4) 0 1 (m := [x]) flFr rfl rfl (A29.keep h.out) rfl rfl) rfl) ?_
    refine GSteps.cons (ap_new 1 1 rfl (fun _ => rfl) (fun _ _ => rfl) (fun γ w h => ex_bsl slR1 (k := 1) (zc := segs [.n 4 0]) (z := [.n 4 0]) (l := [.n 4 x]) (vs := [(0, nv 4 [x])]) zFrS bs_slR1_1 rfl rfl rfl ((fills_cons 0 1 (m := [.n 4 x]) (z' := [.n 4 x]) rfl (nv_cells 4 [x]) rfl rfl rfl rfl).trans rfl)) rfl rfl (by decide)) ?_
    refine GSteps.cons (ap_app 2 3 1 32 (segs [.n 4 x]) (fun _ => []) rfl rfl slR1.und inf_fr (by decide) (by decide) (fun _ => rfl) (fun _ => rfl) (by decide) rfl (by kernel_rfl) rfl (fun _ _ => rfl) (by kernel_rfl) rfl rfl ones_of rfl rfl (show 1 + (n - k) + 1 ≤ 5000 by omega) (fun γ L w hJ hL hdep => .inr (arg_own (hJ.own 1 (by decide) (hdep 7 (by kernel_rfl)) hL) (by decide)))) ?_
    refine GSteps.cons (ap_val (fun _ => .slice ak n ck) rfl (fun _ => rfl) (fun _ => rfl) (fun γ w h => ex_move _) rfl) ?_
    refine GSteps.cons (ap_val (fun _ => .int .i64 ((k : Nat) : Int)) rfl (fun _ => rfl) (fun _ => rfl) (fun γ w h => ex_move _) rfl) ?_
    refine GSteps.cons (ap_val (fun _ => .slice ak k ck) rfl (fun _ => rfl) (fun _ => rfl) (fun γ w h => ex_cutN slR1 (a := ak) (m := n) (c := ck) (k := k) rfl rfl (by omega)) rfl) ?_
    refine GSteps.cons (ap_app 3 4 k 32 (segs (cat (fun i => [.n 4 (A i)]) k)) (fun r => match r with | 0 => [8] | _ => []) rfl rfl slR1.und inf_fr (by decide) (by decide) (fun _ => rfl) (fun _ => rfl) (by decide) rfl (by kernel_rfl) rfl (fun _ _ => rfl) (by kernel_rfl) rfl (by rw [cat_len (n := 4) (S := (fun i => [.n 4 (A i)])) (fun _ => rfl), Nat.mul_comm]) ones_of rfl rfl (show 1 + (n - k) + 1 + k ≤ 5000 by omega) (fun γ L w hJ _ _ => arg_row (S := (fun i => [.n 4 (A i)])) (fun _ => rfl) (by decide) ((HKn33.less hkn).keep hJ.bel.out) hck)) ?_
    refine GSteps.cons (ap_move 4 5 (fun _ => []) rfl (fun _ => rfl) (by decide) rfl (by kernel_rfl) rfl (fun _ _ => rfl) (by kernel_rfl) rfl rfl rfl rfl (fun γ w h => ex_assign _)) ?_
    exact GSteps.nil
  intro γ33 w33 hb33 hO33
  refine th_r ?_
  have hP33 : w33.ownsRow w28.heap.size 38 4 (γ33 5) (1 + (n - k) + 1 + k) (segs (cat (fun i => [.n 4 (rotS 0 x A n k i)]) (1 + (n - k) + 1 + k))) := by rw [rotS_map (fun a => [Seg.n 4 a]) 0 x A n k, ← rot_segs]; exact hO33
  obtain ⟨a33, c33, e33, R33⟩ := own_row (n := 4) (S := (fun i => [.n 4 (rotS 0 x A n k i)])) (fun _ => rfl) hP33 (show 0 < (1 + (n - k) + 1 + k) by omega)
  rw [e33]
  have A34 := A29.keep hb33.out
  have A35 := A30.keep hb33.out
  have A36 := A31.keep hb33.out
  have HB37 := below_then HB32 hb33.out
  refine wp_seq (region_c 1 (fun _ => 28) (fun _ => 6) (fun _ => 7) (fun _ => segs [.n 6 0, .n 6 0, .b false]) (fun _ => segs [.n 6 (ax (((sumE1 (rotS P Z1 S n k) (rotS 0 x A n k) (1 + (n - k) + 1 + k))).pt)), .n 6 (ay (((sumE1 (rotS P Z1 S n k) (rotS 0 x A n k) (1 + (n - k) + 1 + k))).pt)), .b (ai (((sumE1 (rotS P Z1 S n k) (rotS 0 x A n k) (1 + (n - k) + 1 + k))).pt))]) [90, 91, 92, 89, 93, 94, 17, 18] (fun γ => [.slice a28 ((1 + (n - k) + 1 + k)) c28, .slice a33 ((1 + (n - k) + 1 + k)) c33, .tuple #[sv [.n 6 (ax (((sumE1 (rotS P Z1 S n k) (rotS 0 x A n k) (1 + (n - k) + 1 + k))).pt)), .n 6 (ay (((sumE1 (rotS P Z1 S n k) (rotS 0 x A n k) (1 + (n - k) + 1 + k))).pt)), .b (ai (((sumE1 (rotS P Z1 S n k) (rotS 0 x A n k) (1 + (n - k) + 1 + k))).pt))], .int .i64 0], .tuple #[sv [.n 6 (ax (((sumE1 (rotS P Z1 S n k) (rotS 0 x A n k) (1 + (n - k) + 1 + k))).pt)), .n 6 (ay (((sumE1 (rotS P Z1 S n k) (rotS 0 x A n k) (1 + (n - k) + 1 + k))).pt)), .b (ai (((sumE1 (rotS P Z1 S n k) (rotS 0 x A n k) (1 + (n - k) + 1 + k))).pt))], .int .i64 0], sv [.n 6 (ax (((sumE1 (rotS P Z1 S n k) (rotS 0 x A n k) (1 + (n - k) + 1 + k))).pt)), .n 6 (ay (((sumE1 (rotS P Z1 S n k) (rotS 0 x A n k) (1 + (n - k) + 1 + k))).pt)), .b (ai (((sumE1 (rotS P Z1 S n k) (rotS 0 x A n k) (1 + (n - k) + 1 + k))).pt))], .int .i64 0, .pointer (some ⟨γ 0, 0, none⟩), .int .i64 0]) ?_ ?_)
  · refine stpx (fun _ _ => ex_move _) ?_
    refine stpx (fun _ _ => ex_move _) ?_
    refine stpc (.tuple #[sv [.n 6 (ax (((sumE1 (rotS P Z1 S n k) (rotS 0 x A n k) (1 + (n - k) + 1 + k))).pt)), .n 6 (ay (((sumE1 (rotS P Z1 S n k) (rotS 0 x A n k) (1 + (n - k) + 1 + k))).pt)), .b (ai (((sumE1 (rotS P Z1 S n k) (rotS 0 x A n k) (1 + (n - k) + 1 + k))).pt))], .int .i64 0]) (fun γ w => ex_call (vs := [.slice a28 ((1 + (n - k) + 1 + k)) c28, .slice a33 ((1 + (n - k) + 1 + k)) c33]) rfl Try.call7 rfl) (fun w h => sumAny1_p (1 + (n - k) + 1 + k) (by omega) (rotS P Z1 S n k) (rotS 0 x A n k) a28 a33 c28 c33 (rot_bound hxB (fun i hi => HA i (by omega)) hkn) _ ((R28.keep hb33.out).keep h.out) (R33.keep h.out)) ?_
    refine stpx (fun _ _ => ex_move _) ?_
    refine stpx (fun _ _ => ex_extract (vs := [sv [.n 6 (ax (((sumE1 (rotS P Z1 S n k) (rotS 0 x A n k) (1 + (n - k) + 1 + k))).pt)), .n 6 (ay (((sumE1 (rotS P Z1 S n k) (rotS 0 x A n k) (1 + (n - k) + 1 + k))).pt)), .b (ai (((sumE1 (rotS P Z1 S n k) (rotS 0 x A n k) (1 + (n - k) + 1 + k))).pt))], .int .i64 0]) rfl rfl) ?_
    refine stpx (fun _ _ => ex_extract (vs := [sv [.n 6 (ax (((sumE1 (rotS P Z1 S n k) (rotS 0 x A n k) (1 + (n - k) + 1 + k))).pt)), .n 6 (ay (((sumE1 (rotS P Z1 S n k) (rotS 0 x A n k) (1 + (n - k) + 1 + k))).pt)), .b (ai (((sumE1 (rotS P Z1 S n k) (rotS 0 x A n k) (1 + (n - k) + 1 + k))).pt))], .int .i64 0]) rfl rfl) ?_
    refine GSteps.cons (gm_new 0 rfl (fun _ => rfl) (fun _ _ => rfl) (fun γ w => ex_allocs (l := [.n 6 0, .n 6 0, .b false]) zG1) rfl (by kernel_rfl)) ?_
    refine GSteps.cons (gm_store 0 rfl rfl (fun _ => rfl) (len_segs (l := [.n 6 (ax (((sumE1 (rotS P Z1 S n k) (rotS 0 x A n k) (1 + (n - k) + 1 + k))).pt)), .n 6 (ay (((sumE1 (rotS P Z1 S n k) (rotS 0 x A n k) (1 + (n - k) + 1 + k))).pt)), .b (ai (((sumE1 (rotS P Z1 S n k) (rotS 0 x A n k) (1 + (n - k) + 1 + k))).pt))]) (l' := [.n 6 0, .n 6 0, .b false]) rfl) (fun γ w h => ex_stores 0 3 (l := [.n 6 0, .n 6 0, .b false]) (m := [.n 6 (ax (((sumE1 (rotS P Z1 S n k) (rotS 0 x A n k) (1 + (n - k) + 1 + k))).pt)), .n 6 (ay (((sumE1 (rotS P Z1 S n k) (rotS 0 x A n k) (1 + (n - k) + 1 + k))).pt)), .b (ai (((sumE1 (rotS P Z1 S n k) (rotS 0 x A n k) (1 + (n - k) + 1 + k))).pt))]) flG1.2 rfl rfl rfl rfl h rfl rfl) rfl rfl (by kernel_rfl)) ?_
    refine stpx (fun _ _ => ex_assign _) ?_
    exact GSteps.nil
  intro γ38 w38 hb38 hB38 _
  refine th_r ?_
  have A39 := A34.keep hb38.out
  have A40 := A35.keep hb38.out
  have A41 := A36.keep hb38.out
  have A42 : SB 28 w38 (γ38 0) [.n 6 (ax (((sumE1 (rotS P Z1 S n k) (rotS 0 x A n k) (1 + (n - k) + 1 + k))).pt)), .n 6 (ay (((sumE1 (rotS P Z1 S n k) (rotS 0 x A n k) (1 + (n - k) + 1 + k))).pt)), .b (ai (((sumE1 (rotS P Z1 S n k) (rotS 0 x A n k) (1 + (n - k) + 1 + k))).pt))] := (hB38 0 (by decide)).2
  have le42 := (hB38 0 (by decide)).1
  have HB43 := below_then HB37 hb38.out
  refine wp_seq (region_0 [95, 96, 97, 98, 99, 100, 101, 102, 103, 104, 10] [.bool true, .bool true, .int .i64 0, .bool true, .bool true, .bool true, sv [.n 6 (ax (((sumE1 (rotS P Z1 S n k) (rotS 0 x A n k) (1 + (n - k) + 1 + k))).pt)), .n 6 (ay (((sumE1 (rotS P Z1 S n k) (rotS 0 x A n k) (1 + (n - k) + 1 + k))).pt)), .b (ai (((sumE1 (rotS P Z1 S n k) (rotS 0 x A n k) (1 + (n - k) + 1 + k))).pt))], sv [.n 6 (ax (((sumE1 S A n)).pt)), .n 6 (ay (((sumE1 S A n)).pt)), .b (ai (((sumE1 S A n)).pt))], .bool true, .bool true, .bool true] ?_ ?_)
  · refine stpc (.bool true) (fun γ w => ex_call (vs := []) rfl Try.call9 rfl) (fun w h => sumalive_v _) ?_
    refine stpx (fun _ _ => ex_move _) ?_
    refine stpx (fun _ _ => ex_move _) ?_
    refine stpx (fun _ _ => ex_eqi rfl rfl _ rfl) ?_
    refine stpx (fun _ _ => ex_pick (r := true) rfl) ?_
    refine stpx (fun _ _ => ex_move _) ?_
    refine stpv (fun γ w h => ex_loads 0 3 (m := [.n 6 (ax (((sumE1 (rotS P Z1 S n k) (rotS 0 x A n k) (1 + (n - k) + 1 + k))).pt)), .n 6 (ay (((sumE1 (rotS P Z1 S n k) (rotS 0 x A n k) (1 + (n - k) + 1 + k))).pt)), .b (ai (((sumE1 (rotS P Z1 S n k) (rotS 0 x A n k) (1 + (n - k) + 1 + k))).pt))]) flG1 rfl rfl (A42.keep h.out) rfl rfl) ?_
    refine stpv (fun γ w h => ex_loads 0 3 (m := [.n 6 (ax (((sumE1 S A n)).pt)), .n 6 (ay (((sumE1 S A n)).pt)), .b (ai (((sumE1 S A n)).pt))]) flG1 rfl rfl (A41.keep h.out) rfl rfl) ?_
    refine stpx (fun _ _ => ex_eqs gdG1 eqG1 rfl rfl rfl (shG1_of (ax_B (((sumE1 (rotS P Z1 S n k) (rotS 0 x A n k) (1 + (n - k) + 1 + k))).pt)) (ay_B (((sumE1 (rotS P Z1 S n k) (rotS 0 x A n k) (1 + (n - k) + 1 + k))).pt))) (shG1_of (ax_B (((sumE1 S A n)).pt)) (ay_B (((sumE1 S A n)).pt))) true (onept_eq _ _ true (by simp only [true_iff]; exact rot_sum P x S A n k hkn))) ?_
    refine stpx (fun _ _ => ex_pick (r := true) rfl) ?_
    refine stpx (fun _ _ => ex_assign _) ?_
    exact GSteps.nil
  intro w44 hb44
  refine th_r ?_
  have A45 := A39.keep hb44.out
  have A46 := A40.keep hb44.out
  have A47 := A41.keep hb44.out
  have A48 := A42.keep hb44.out
  have HB49 := below_then HB43 hb44.out
  exact wp_ret (bodyPost_ret (ret1 Try.results4 (res_tmp rfl)) rfl ⟨rfl, HB49⟩)
theorem sumOrder_v (m mk : Nat) (ap ak : Option Addr) (cp ck : Nat) (hmc : m ≤ cp) (hmk : mk ≤ ck) (hcp : ap = none → cp = 0) (hck : ak = none → ck = 0) (X Y : Nat → Nat) (I : Nat → Bool) (hXY : ∀ i, i < m → X i < fpB ∧ Y i < fpB) (A : Nat → Nat) (HA : ∀ i, i < mk → A i < frB) (z : Int) (x : Nat) (hxB : x < frB) (px py : Nat) (pi : Bool) (hpx : px < fpB) (hpy : py < fpB) (w : World) (HP : Row w ap 13 m (rw1 X Y I)) (HK : Row w ak 4 mk (fun i => [.n 4 (A i)])) :
    Calls Try.prog 4 #[.slice ap m cp, .slice ak mk ck, .int .i64 z, nv 4 [x], sv [.n 6 px, .n 6 py, .b pi]] w (Is (.bool true) w) := by
  obtain ⟨n, hn⟩ : ∃ n, n = min (min m mk) 20 := ⟨_, rfl⟩
  have hnm : n ≤ m := by omega
  have hnk : n ≤ mk := by omega
  have hn20 : n ≤ 20 := by omega
  have hmin : ((n : Nat) : Int) = min (min ((m : Nat) : Int) ((mk : Nat) : Int)) 20 := by omega
  cases hw : wrB X Y I n with
  | true =>
    obtain ⟨j, hj, hok, hbad⟩ := wr_yes hw
    exact sumOrder_cur m mk n ap ak cp ck hmc hmk hcp hck hnm hnk hn20 hmin X Y I hXY A HA z x hxB j hj hok hbad px py pi w HP HK
  | false =>
    obtain ⟨S, hS⟩ := ok_points (wr_no hw)
    by_cases hp : RawOk px py pi
    · obtain ⟨P, rfl, rfl, rfl⟩ := hp
      obtain ⟨h1, h2, k, hk, hkz⟩ := turn_of z n
      exact sumOrder_ok m mk n ap ak cp ck hmc hmk hcp hck hnm hnk hn20 hmin X Y I hXY A HA z x hxB S hS P k hk h1 h2 hkz w HP HK
    · exact sumOrder_raw m mk n ap ak cp ck hmc hmk hcp hck hnm hnk hn20 hmin X Y I hXY A HA z x hxB S hS px py pi hpx hpy hp w HP HK
end
end
end
end Go.Proofs.Ytkkmekdhejhapaa
