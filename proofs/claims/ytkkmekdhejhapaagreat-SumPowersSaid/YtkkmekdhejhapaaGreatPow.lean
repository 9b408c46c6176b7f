/- What is proved here: a contract of mont.Pow: a power modulo a modulus; everything else is refused. -/
import Derived.Test.YtkkmekdhejhapaaGreatMontFns
import Derived.Test.YtkkmekdhejhapaaGreatBitsDown
import Derived.Deep.Cut
import Derived.Deep.CutRange
import Derived.Deep.RegionHeld3
namespace Go.Proofs.YtkkmekdhejhapaaGreat
open Go.RowKit Go.Shelf
attribute [local go_sem] Oper.semAt_some
theorem wp_calm {P : Program} {c : Code} {K : Act → World → Prop} {Q : Exit → Act → World → Prop} {a : Act} {w : World} (h : c.wp P (Exit.then K (fun _ _ _ => False)) a w) : c.wp P (Exit.then K Q) a w :=
  Code.wp_mono (fun e a w hq => by cases e <;> first | exact hq | exact False.elim hq) h
theorem s3_alloc {w1 X : World} {p q : Addr} {u v : Value} (h : X.cell? p = some u ∧ X.cell? q = some v ∧ Below w1.heap.size w1 X) (o : Obj) :
    (X.alloc o).cell? p = some u ∧ (X.alloc o).cell? q = some v ∧ Below w1.heap.size w1 (X.alloc o) :=
  ⟨(World.cell?_alloc_some _ _ _ (by rw [h.1]; rfl)).trans h.1, (World.cell?_alloc_some _ _ _ (by rw [h.2.1]; rfl)).trans h.2.1, h.2.2.alloc h.2.2.size _⟩
theorem s3_drew {w1 X : World} {p q : Addr} {u v : Value} (h : X.cell? p = some u ∧ X.cell? q = some v ∧ Below w1.heap.size w1 X) :
    X.drew.cell? p = some u ∧ X.drew.cell? q = some v ∧ Below w1.heap.size w1 X.drew := ⟨h.1, h.2.1, h.2.2.drew⟩
theorem s4_view {w1 X : World} {p q : Addr} {u v : Value} (h : X.cell? p = some u ∧ X.cell? q = some v ∧ Below w1.heap.size w1 X) {a : Option Addr} {n : Nat} {xs : List Nat} (hv : View w1 a n xs) : View X a n xs := hv.below (Nat.le_refl _) h.2.2
theorem s4_below {w1 X : World} {p q : Addr} {u v : Value} (h : X.cell? p = some u ∧ X.cell? q = some v ∧ Below w1.heap.size w1 X) : Below w1.heap.size w1 X := h.2.2
theorem size_drew' (w : World) : w.drew.heap.size = w.heap.size := rfl
theorem boxed_new2 (W : World) (o : Obj) (t : TypeId) (v : Value) : Boxed ((W.alloc o).alloc (.cells #[v] t)) (W.heap.size + 1) t v := by
  have := Boxed.new (W.alloc o) t v
  rwa [World.size_alloc] at this
theorem boxed_keep {X Y : World} {b : Nat} {t : TypeId} {v : Value} (h : Boxed X b t v) (k : Below X.heap.size X Y) : Boxed Y b t v := (k.block b h.lt).trans h
theorem Own.keep {X Y : World} {g : Nat} {xs : List Nat} (h : Own X g xs) (k : Below X.heap.size X Y) : Own Y g xs := h.below h.lt k
theorem boxed_far {W : World} {b b' : Nat} {t t' : TypeId} {u u' : Value} (h : Boxed W b t u) (_h' : Boxed W b' t' u') (hne : b ≠ b') (v : Value) : Boxed (W.setCell ⟨b', 0, none⟩ v) b t u := h.other hne v
theorem boxed_far_new {W : World} {b : Nat} {t : TypeId} {u : Value} (t' : TypeId) (h : Boxed W b t u) (y v : Value) : ((W.alloc (.cells #[y] t')).setCell ⟨b, 0, none⟩ v).cell? ⟨W.heap.size, 0, none⟩ = some y :=
  ((Boxed.new W t' y).other (fun e => by have := h.lt; omega) v).cell
theorem boxed_far_newf {W : World} {b : Nat} {t : TypeId} {u : Value} (t' : TypeId) (h : Boxed W b t u) (y v : Value) : ((W.alloc (.cells #[y] t')).setCell ⟨b, 0, none⟩ v).frozen? ⟨W.heap.size, 0, none⟩ = false :=
  ((Boxed.new W t' y).other (fun e => by have := h.lt; omega) v).frozen
theorem own_ne_box {w : World} {g b : Nat} {xs : List Nat} {t : TypeId} {v : Value} (h : Own w g xs) (k : Boxed w b t v) (ht : 22 ≠ t) : g ≠ b := by
  intro e
  subst e
  have h' : w.heap[g]? = _ := h
  rw [show w.heap[g]? = _ from k] at h'
  simp only [Option.some.injEq, Obj.cells.injEq] at h'
  exact ht h'.2.1.symm
theorem own_but {w w' : World} {g : Nat} {r : Option Nat} {xs : List Nat} (h : Own w g xs) (k : w.grownBy w' r) (hne : some g ≠ r) : Own w' g xs := (k.block g h.lt hne).trans h
theorem but_refl (w : World) (r : Option Nat) : w.grownBy w r := ⟨rfl, rfl, rfl, Nat.le_refl _, fun _ _ _ => rfl⟩
theorem but_then {w w1 w2 : World} {r r' : Option Nat} (h : w.grownBy w1 r) (k : w1.grownBy w2 r') (hne : ∀ i, i < w.heap.size → some i ≠ r') : w.grownBy w2 r :=
  ⟨k.os.trans h.os, k.tape.trans h.tape, k.output.trans h.output, Nat.le_trans h.size k.size, fun i hi hr => (k.block i (Nat.lt_of_lt_of_le hi h.size) (hne i hi)).trans (h.block i hi hr)⟩
theorem but_same {w w1 w2 : World} {r : Option Nat} (h : w.grownBy w1 r) (k : w1.grownBy w2 r) : w.grownBy w2 r :=
  ⟨k.os.trans h.os, k.tape.trans h.tape, k.output.trans h.output, Nat.le_trans h.size k.size, fun i hi hr => (k.block i (Nat.lt_of_lt_of_le hi h.size) hr).trans (h.block i hi hr)⟩
theorem boxed_set0 {W : World} {b : Nat} {t : TypeId} {v : Value} (h : Boxed W b t (.slice none 0 0)) : Boxed (W.setCell ⟨b, 0, none⟩ v) b t v := h.set v
theorem Own.setAny {w : World} {g b : Nat} {xs : List Nat} (h : Own w g xs) (hne : g ≠ b) (v : Value) : Own (w.setCell ⟨b, 0, none⟩ v) g xs :=
  ((grownBy_setCell' w b v).block g h.lt (fun e => hne (by cases e; rfl))).trans h
theorem s3_set {w1 X : World} {p q : Addr} {u v : Value} (h : X.cell? p = some u ∧ X.cell? q = some v ∧ Below w1.heap.size w1 X) (hp : p.block < w1.heap.size) (hq : q.block < w1.heap.size) {b : Nat} (hb : w1.heap.size ≤ b) (y : Value) :
    (X.setCell ⟨b, 0, none⟩ y).cell? p = some u ∧ (X.setCell ⟨b, 0, none⟩ y).cell? q = some v ∧ Below w1.heap.size w1 (X.setCell ⟨b, 0, none⟩ y) := by
  have k : Below w1.heap.size X (X.setCell ⟨b, 0, none⟩ y) := (Below.refl _ _).setCell hb _
  exact ⟨(k.cell hp).trans h.1, (k.cell hq).trans h.2.1, h.2.2.trans k⟩
theorem s3_call {w1 X Y : World} {p q : Addr} {u v : Value} (h : X.cell? p = some u ∧ X.cell? q = some v ∧ Below w1.heap.size w1 X) (hp : p.block < w1.heap.size) (hq : q.block < w1.heap.size) (k : Below X.heap.size X Y) :
    Y.cell? p = some u ∧ Y.cell? q = some v ∧ Below w1.heap.size w1 Y := by
  have k' := k.mono h.2.2.size
  exact ⟨(k'.cell hp).trans h.1, (k'.cell hq).trans h.2.1, h.2.2.trans k'⟩
theorem val_elem' {n M v : Nat} (hM : M < 2 ^ (64 * n)) (hv : v < M) : val (row n v) = v := val_row_of (by omega)
theorem mont_times {M A B k v : Nat} (hM : M % 2 = 1) (hv : v < M) (h : v * 2 ^ k % M = (A * 2 ^ k % M) * (B * 2 ^ k % M) % M) : v = A * B * 2 ^ k % M := by
  refine cancel_lt hM hv (Nat.mod_lt _ (by omega)) (k := k) ?_
  rw [h, ← Nat.mul_mod, Nat.mod_mul_mod]
  congr 1
  rw [Nat.mul_assoc, Nat.mul_assoc A B, Nat.mul_assoc A]
  congr 1
  rw [Nat.mul_left_comm, Nat.mul_assoc]
theorem mont_out {M A k v : Nat} (hM : M % 2 = 1) (hv : v < M) (h : v * 2 ^ k % M = A * 2 ^ k % M % M) : v = A % M :=
  cancel_lt hM hv (Nat.mod_lt _ (by omega)) (k := k) (by rw [h, Nat.mod_mod, Nat.mod_mul_mod])
theorem num_one {X x : Nat} {pre : List Nat} (h : x = 1) : X ^ numOf (pre ++ [x]) = X ^ numOf pre * X ^ numOf pre * X := by
  rw [numOf_snoc, if_pos h, Nat.pow_add, Nat.two_mul, Nat.pow_add, Nat.pow_one]
theorem num_none {X x : Nat} {pre : List Nat} (h : ¬ x = 1) : X ^ numOf (pre ++ [x]) = X ^ numOf pre * X ^ numOf pre := by
  rw [numOf_snoc, if_neg h, Nat.add_zero, Nat.two_mul, Nat.pow_add]
set_option maxRecDepth 100000 in
set_option maxHeartbeats 40000000 in
theorem montPow_any (a : Option Addr) (c : Nat) (xs : List Nat) (ae : Option Addr) (ne ce : Nat) (es : List Nat) (am : Option Addr) (n cm : Nat) (ms : List Nat) (w : World) (hn : n ≤ c) (hm : c ≤ maxLen) (hne : ne ≤ ce) (hme : ce ≤ maxLen) (h16 : ne ≤ 16) (hnm : n ≤ cm) (hmm : cm ≤ maxLen)
    (hv : View w a n xs) (hve : View w ae ne es) (hvm : View w am n ms) (hM : IsMod n ms) (hx : val xs < val ms) :
    Calls Tryz.prog 68 #[.slice a n c, .slice ae ne ce, .slice am n cm] w (MakesE n (val xs ^ val es % val ms) w) := by
  have hM' := hM
  obtain ⟨h1, h8, hodd, hM1⟩ := hM'
  obtain ⟨mb, mo, rfl, hmb, hm0⟩ := hvm.cell 0 (by omega)
  rw [Nat.add_zero] at hm0
  have hn0 : 0 < n := by omega
  have hM0 : 0 < val ms := by omega
  have hNmax : n ≤ maxLen := by unfold maxLen; omega
  have pM := Lib.hid (val_lt_of hvm.small (K := n) (by rw [hvm.len]; exact Nat.le_refl _))
  have HM := Lib.hid hM
  clear hM
  have bx : Below w.heap.size w (w.alloc (.cells #[.slice (some ⟨mb, mo, none⟩) n cm] 103)) := below_alloc w _
  have BX := Lib.hid bx
  have U1 := Lib.hid (hv.below (Nat.le_refl _) bx)
  have U3 := Lib.hid (hvm.below (Nat.le_refl _) bx)
  have h16i : ¬ (16 : Int) < (ne : Int) := by omega
  clear bx
  refine (callsIn_wide (n := 8)).1 (callsIn_of_wp_marks Tryz.func68 rfl trivial (wpIn_wide.2 ?_) rfl)
  simp only [Tryz.ntmps68, List.size_toArray, List.length_cons, List.length_nil, Nat.reduceAdd, Nat.reduceSub, Array.replicate_succ, Array.replicate_zero, List.push_toArray, List.append_toArray, List.nil_append, List.cons_append]
  go_wp2_with fail
  refine (isModulus_any _ n cm ms _ hnm hmm U3.out true (true_iff_of HM.out)).mono ?_
  rintro e w' ⟨rfl, rfl⟩
  go_wp2_with fail
  refine (isElement_any _ n c xs _ n cm ms _ hn hm hnm hmm U1.out U3.out (by omega) true (true_iff_of ⟨rfl, hx⟩)).mono ?_
  rintro e w' ⟨rfl, rfl⟩
  go_upto_region 3 with fail
  obtain ⟨w1, hw1⟩ : ∃ w1, w.alloc (.cells #[.slice (some ⟨mb, mo, none⟩) n cm] 103) = w1 := ⟨_, rfl⟩
  have bm : w1.heap[w.heap.size]? = some (.cells #[.slice (some ⟨mb, mo, none⟩) n cm] 103 (0, 0)) := by rw [← hw1]; exact heap_alloc_new w _
  rw [hw1] at U1 U3 BX ⊢
  have hbl1 : w.heap.size < w1.heap.size := by rw [← hw1]; simp
  have hc1 := cell_box bm
  have hm1 : w1.cell? ⟨mb, mo, none⟩ = _ := (BX.out.cell (p := ⟨mb, mo, none⟩) hmb).trans hm0
  have BM := Lib.hid bm
  have hl0 := hvm.lt 0
  clear hw1 bm
  generalize hm0e : lm ms 0 = m0 at *
  go_cut [8, 9] from 27 to 33 (fun u nb wx => ∃ gU bN ng, u = .slice (some ⟨gU, 0, none⟩) n n ∧ nb = .pointer (some ⟨bN, 0, none⟩) ∧ Own wx gU (row n 1) ∧ wx.heap[bN]? = some (.cells #[.int .u64 ((ng : Nat) : Int)] 22 (0, 0)) ∧ NegOf m0 ng ∧ Below w1.heap.size w1 wx)
  case first =>
    refine wp_calm ?_
    go_region_held3 (fun w' => w'.cell? ⟨w.heap.size, 0, none⟩ = some (.slice (some ⟨mb, mo, none⟩) n cm) ∧ w'.cell? ⟨mb, mo, none⟩ = some (.int .u64 (m0 : Int)) ∧ Below w1.heap.size w1 w')
      (first
        | exact ⟨hc1, hm1, (Below.refl _ _).drew⟩
        | exact hS2
        | exact s3_drew (s3_alloc ⟨hc1, hm1, Below.refl _ _⟩ _)
        | (refine s3_alloc ?_ _; assumption)
        | (refine s3_set ?_ hbl1 (Nat.lt_trans hmb hbl1) ?_ _; assumption; first | exact Nat.le_refl _ | exact HB2.out.size))
      (first
        | (go_at_call 124; refine (one_any n _ h1 (by omega)).mono ?_; rintro e w2 ⟨g2, rfl, o2, hg2, hb2⟩; have hS2 := s3_call (p := ⟨w.heap.size, 0, none⟩) (q := ⟨mb, mo, none⟩) ‹_› hbl1 (Nat.lt_trans hmb hbl1) hb2; have O2 := Lib.hid o2; have HB2 := Lib.hid hS2.2.2; have HK2 := Lib.hid hb2; have HG2 := Lib.hid hg2; (try (have hbx : Boxed w2 w1.heap.size 22 (.int .u64 0) := boxed_keep (by first | exact Boxed.new w1 _ _ | fail) hb2; have hbc := hbx.cell; have hbf := hbx.frozen; have HBX := Lib.hid hbx; clear hbx)); clear o2 hg2 hb2)
        | (go_at_call 125; refine (neg_nat _ _ hl0).mono ?_; rintro e w' ⟨ng, rfl, rfl, hng⟩; have HNG := Lib.hid hng; clear hng))
    all_goals
      go_wp2_with fail
      go_meet
      first
        | exact ⟨g2, w2.heap.size, ng, rfl, rfl, O2.out.alloc _, Boxed.new w2 _ _, HNG.out, HB2.out.alloc HB2.out.size _⟩
        | exact ⟨g2, w1.heap.size, ng, rfl, rfl, O2.out.setAny (by have := HG2.out; simp at this; omega) _, HBX.out.set _, HNG.out, HB2.out.setCell (Nat.le_refl _) _⟩
  case rest =>
    obtain ⟨gU, bN, ng, rfl, rfl, oU, bxN, hng, hb1c⟩ := hcut
    have hb0c := BX.out.trans (hb1c.mono BX.out.size)
    have bmc : Boxed wc w.heap.size 103 (.slice (some ⟨mb, mo, none⟩) n cm) := (hb1c.block _ hbl1).trans BM.out
    have hblc : w.heap.size < wc.heap.size := Nat.lt_of_lt_of_le hbl1 hb1c.size
    have hcc := bmc.cell
    have V1 := Lib.hid (hv.below (Nat.le_refl _) hb0c)
    have V3 := Lib.hid (hvm.below (Nat.le_refl _) hb0c)
    have VU := Lib.hid oU.vrow
    have VE := Lib.hid (hve.below (Nat.le_refl _) hb0c)
    have OU := Lib.hid oU
    have BXN := Lib.hid bxN
    have BMC := Lib.hid bmc
    have HNG := Lib.hid hng
    have HB0C := Lib.hid hb0c
    have HV1 := Lib.hid (val_one h1)
    clear oU bxN hng hb1c hb0c bmc hc1 hm1 BM BX U1 U3 hbl1
    go_upto_region 4 with fail
    go_cut [10, 11] from 34 to 39 (fun p q wx => ∃ gB gP bB bP, p = .pointer (some ⟨bB, 0, none⟩) ∧ q = .pointer (some ⟨bP, 0, none⟩) ∧ Own wx gB (row n (val xs * 2 ^ (64 * n) % val ms)) ∧ Own wx gP (row n (2 ^ (64 * n) % val ms)) ∧ Boxed wx bB 103 (.slice (some ⟨gB, 0, none⟩) n n) ∧ Boxed wx bP 103 (.slice (some ⟨gP, 0, none⟩) n n) ∧ gP ≠ gB ∧ wc.heap.size ≤ gP ∧ Below wc.heap.size wc wx)
    case first =>
      refine wp_calm ?_
      clear hne hme h16 hv hve hx hodd hvm hmb hl0 hm0e HM HNG BXN BMC HB0C VE OU hM0 pM
      go_region_held3 (fun w' => w'.cell? ⟨w.heap.size, 0, none⟩ = some (.slice (some ⟨mb, mo, none⟩) n cm) ∧ w'.cell? ⟨w.heap.size, 0, none⟩ = some (.slice (some ⟨mb, mo, none⟩) n cm) ∧ Below wc.heap.size wc w')
        (first
          | exact ⟨hcc, hcc, (Below.refl _ _).drew⟩
          | exact hS3
          | exact hS2
          | exact s3_drew (s3_alloc ⟨hcc, hcc, Below.refl _ _⟩ _)
          | exact s3_drew (s3_alloc (s3_alloc ⟨hcc, hcc, Below.refl _ _⟩ _) _)
          | (repeat' (first | exact hS3 | exact hS2 | assumption | refine s3_alloc ?_ _ | refine s3_set ?_ hblc hblc (by omega) _)))
        (first
          | (go_at_call 126; (with_reducible refine (bring_any a n c xs _ cm ms _ hn hm hnm hmm (s4_view (p := ⟨w.heap.size, 0, none⟩) (q := ⟨w.heap.size, 0, none⟩) (by assumption) V1.out) (s4_view (p := ⟨w.heap.size, 0, none⟩) (q := ⟨w.heap.size, 0, none⟩) (by assumption) V3.out) h1 h8 (by omega)).mono ?_); rintro e y1 ⟨gB, rfl, oB, hgB, hbB⟩; have hS2 := s3_call (p := ⟨w.heap.size, 0, none⟩) (q := ⟨w.heap.size, 0, none⟩) ‹_› hblc hblc hbB; have OB := Lib.hid oB; have LB := oB.lt; have SB := hbB.size; (try (have hxa : Boxed y1 wc.heap.size 103 (.slice none 0 0) := boxed_keep (by first | exact Boxed.new wc _ _ | exact (Boxed.new wc _ _).alloc _) hbB; have hxac := hxa.cell; have hxaf := hxa.frozen; have HXA := Lib.hid hxa; clear hxa)); (try (have hxb : Boxed y1 (wc.heap.size + 1) 103 (.slice none 0 0) := boxed_keep (by first | exact boxed_new2 wc _ _ _ | fail) hbB; have hxbc := hxb.cell; have hxbf := hxb.frozen; have HXB := Lib.hid hxb; clear hxb)); (try simp only [World.size_alloc, size_drew'] at hgB SB); clear oB hbB)
          | (go_at_call 126; (with_reducible refine (bring_any (some ⟨gU, 0, none⟩) n n (row n 1) _ cm ms _ (Nat.le_refl _) (by unfold maxLen; omega) hnm hmm (s4_view (p := ⟨w.heap.size, 0, none⟩) (q := ⟨w.heap.size, 0, none⟩) (by assumption) VU.out) (s4_view (p := ⟨w.heap.size, 0, none⟩) (q := ⟨w.heap.size, 0, none⟩) (by assumption) V3.out) h1 h8 (by omega)).mono ?_); rintro e y2 ⟨gP, rfl, oP, hgP, hbP⟩; rw [HV1.out, Nat.one_mul] at oP; have hS3 := s3_call (p := ⟨w.heap.size, 0, none⟩) (q := ⟨w.heap.size, 0, none⟩) ‹_› hblc hblc hbP; have OP := Lib.hid oP; have LP := oP.lt; have SP := hbP.size; have OB2 : Hid (Own y2 gB (row n (val xs * 2 ^ (64 * n) % val ms))) := (by first | exact OB.out | exact OB.out.alloc _ | exact (OB.out.alloc _).alloc _ : Own _ gB _).keep hbP; (try (have hza : Boxed y2 wc.heap.size 103 (.slice none 0 0) := boxed_keep (by first | exact HXA.out | exact HXA.out.alloc _ | exact (HXA.out.alloc _).alloc _) hbP; have hzac := hza.cell; have hzaf := hza.frozen; have HZA := Lib.hid hza; clear hza)); (try (have hzb : Boxed y2 (wc.heap.size + 1) 103 (.slice none 0 0) := boxed_keep (by first | exact HXB.out | exact HXB.out.alloc _ | exact (HXB.out.alloc _).alloc _) hbP; have hzbc := hzb.cell; have hzbf := hzb.frozen; have HZB := Lib.hid hzb; clear hzb)); (try (have hzc : Boxed y2 y1.heap.size 103 (.slice none 0 0) := boxed_keep (by first | exact Boxed.new y1 _ _ | exact (Boxed.new y1 _ _).alloc _) hbP; have hzcc := hzc.cell; have hzcf := hzc.frozen; have HZC := Lib.hid hzc; clear hzc)); (try (have hzd : Boxed y2 (y1.heap.size + 1) 103 (.slice none 0 0) := boxed_keep (by first | exact boxed_new2 y1 _ _ _ | fail) hbP; have hzdc := hzd.cell; have hzdf := hzd.frozen; have HZD := Lib.hid hzd; clear hzd)); (try simp only [World.size_alloc] at hgP SP); (try (have qa1 := fun o => ((HZA.out).alloc o).cell; have qa2 := fun o => ((HZA.out).alloc o).frozen; have qa3 := boxed_far_new 103 HZA.out; have qa4 := boxed_far_newf 103 HZA.out)); (try (have qb1 := fun o => ((HZB.out).alloc o).cell; have qb2 := fun o => ((HZB.out).alloc o).frozen; have qb3 := boxed_far_new 103 HZB.out; have qb4 := boxed_far_newf 103 HZB.out)); (try (have qc1 := fun o => ((HZC.out).alloc o).cell; have qc2 := fun o => ((HZC.out).alloc o).frozen; have qc3 := boxed_far_new 103 HZC.out; have qc4 := boxed_far_newf 103 HZC.out)); (try (have qd1 := fun o => ((HZD.out).alloc o).cell; have qd2 := fun o => ((HZD.out).alloc o).frozen; have qd3 := boxed_far_new 103 HZD.out; have qd4 := boxed_far_newf 103 HZD.out)); (try (have rab := fun v => (boxed_far HZA.out HZB.out (by omega) v).cell; have sab := fun v => (boxed_far HZA.out HZB.out (by omega) v).frozen)); (try (have rba := fun v => (boxed_far HZB.out HZA.out (by omega) v).cell; have sba := fun v => (boxed_far HZB.out HZA.out (by omega) v).frozen)); (try (have rac := fun v => (boxed_far HZA.out HZC.out (by omega) v).cell; have sac := fun v => (boxed_far HZA.out HZC.out (by omega) v).frozen)); (try (have rca := fun v => (boxed_far HZC.out HZA.out (by omega) v).cell; have sca := fun v => (boxed_far HZC.out HZA.out (by omega) v).frozen)); (try (have rcd := fun v => (boxed_far HZC.out HZD.out (by omega) v).cell; have scd := fun v => (boxed_far HZC.out HZD.out (by omega) v).frozen)); (try (have rdc := fun v => (boxed_far HZD.out HZC.out (by omega) v).cell; have sdc := fun v => (boxed_far HZD.out HZC.out (by omega) v).frozen)); clear oP hbP))
      all_goals
        go_wp2_with fail
        go_meet
        refine ⟨gB, gP, _, _, rfl, rfl, ?_, ?_, ?_, ?_, by omega, by omega, s4_below (p := ⟨w.heap.size, 0, none⟩) (q := ⟨w.heap.size, 0, none⟩) (by assumption)⟩
        · (repeat' (first | exact OB2.out | refine Own.alloc ?_ _ | refine Own.setAny ?_ (by omega) _))
        · (repeat' (first | exact OP.out | refine Own.alloc ?_ _ | refine Own.setAny ?_ (by omega) _))
        · (repeat' (first | exact HZA.out | exact HZB.out | exact HZC.out | exact HZD.out | exact Boxed.new _ _ _ | exact boxed_new2 _ _ _ _ | refine boxed_set0 ?_ | refine Boxed.other ?_ (by omega) _ | refine Boxed.alloc ?_ _))
        · (repeat' (first | exact HZA.out | exact HZB.out | exact HZC.out | exact HZD.out | exact Boxed.new _ _ _ | exact boxed_new2 _ _ _ _ | refine boxed_set0 ?_ | refine Boxed.other ?_ (by omega) _ | refine Boxed.alloc ?_ _))
    case rest =>
      obtain ⟨gB, gP, bB, bP, rfl, rfl, oB, oP, bxB, bxP, hneq, hgP, hb⟩ := hcut
      have hb0 := HB0C.out.trans (hb.mono HB0C.out.size)
      have bmz := boxed_keep BMC.out hb
      have bnz : Boxed wc bN 22 (.int .u64 (ng : Int)) := boxed_keep BXN.out hb
      have ouz := OU.out.keep hb
      have neU := Nat.ne_of_gt (Nat.lt_of_lt_of_le OU.out.lt hgP)
      have neN := Nat.ne_of_gt (Nat.lt_of_lt_of_le (Boxed.lt BXN.out) hgP)
      have neM := Nat.ne_of_gt (Nat.lt_of_lt_of_le (Boxed.lt BMC.out) hgP)
      have neB := own_ne_box oP bxB (by decide)
      have neP := own_ne_box oP bxP (by decide)
      have hgPw := Nat.le_trans HB0C.out.size hgP
      clear hgP hb HB0C BMC BXN OU VU V1 V3 VE hcc hblc
      obtain ⟨w4, hw4⟩ : ∃ w4, wc.alloc (.cells #[.slice ae ne ce] 103) = w4 := ⟨_, rfl⟩
      have bez : Boxed w4 wc.heap.size 103 (.slice ae ne ce) := by rw [← hw4]; exact Boxed.new wc _ _
      have HMz : Hid (Boxed w4 w.heap.size 103 (.slice (some ⟨mb, mo, none⟩) n cm)) := by rw [← hw4]; exact bmz.alloc _
      have HNz : Hid (Boxed w4 bN 22 (.int .u64 (ng : Int))) := by rw [← hw4]; exact bnz.alloc _
      have HBz : Hid (Boxed w4 bB 103 (.slice (some ⟨gB, 0, none⟩) n n)) := by rw [← hw4]; exact bxB.alloc _
      have HPz : Hid (Boxed w4 bP 103 (.slice (some ⟨gP, 0, none⟩) n n)) := by rw [← hw4]; exact bxP.alloc _
      have OUz : Hid (Own w4 gU (row n 1)) := by rw [← hw4]; exact ouz.alloc _
      have OBz : Hid (Own w4 gB (row n (val xs * 2 ^ (64 * n) % val ms))) := by rw [← hw4]; exact oB.alloc _
      have OPz : Hid (Own w4 gP (row n (2 ^ (64 * n) % val ms))) := by rw [← hw4]; exact oP.alloc _
      have HB4 : Hid (Below w.heap.size w w4) := by rw [← hw4]; exact hb0.alloc hb0.size _
      have hlt4 : wc.heap.size < w4.heap.size := bez.lt
      have neE : gP ≠ wc.heap.size := fun e => by have := oP.lt; omega
      have HEz := Lib.hid bez
      clear bmz bnz bxB bxP ouz oB oP hb0 bez
      go_wp2_with fail
      refine (bitsDown_any _ _ _ _).mono ?_
      rintro e w' ⟨rfl, rfl⟩
      rw [hw4]
      clear hw4
      generalize hEB : wc.heap.size = eb at *
      clear hEB
      go_wp2_with fail
      have lt4 : gP < w4.heap.size := OPz.out.lt
      have HVE := Lib.hid (hve.viewB (Nat.le_refl _) HB4.out)
      refine (wpIn_wide (n := 8)).1 ?_
      refine wpIn_rangeFunc_ownF (F := Fence.wide) (n := 8) rfl (by omega) (gf := 176) (lb := #[.pointer (some ⟨eb, 0, none⟩)]) rfl trivial (enters_of Tryz.func176 (by kernel_rfl) rfl)
        (bitsDown1_stops 7 (by omega) eb w.heap.size ae ne ce es w4 hne hme h16 hlt4 HB4.out.size HEz.out HVE.out) keepsE_t (keepsE_b HB4.out.size hlt4) (Below.refl _ _) (fun _ => rfl)
        (fun pre W => Own W gP (row n (val xs ^ numOf pre * 2 ^ (64 * n) % val ms)) ∧ w4.grownBy W (some gP))
        (fun _ _ _ => False)
        (fun pre A B r hs hg hr => ⟨own_but hs.1 hg (fun e => by have := (hr gP e.symm).1; omega), but_then hs.2 hg (fun k hk e => by have := (hr k e.symm).1; omega)⟩)
        (fun _ _ _ _ _ hs _ _ => hs)
        ⟨by rw [show numOf [] = 0 from rfl, Nat.pow_zero, Nat.one_mul]; exact OPz.out, but_refl _ _⟩
        (fun x => { tmps := #[.slice a n c, .slice ae ne ce, .slice (some ⟨mb, mo, none⟩) n cm, undef, undef, .pointer (some ⟨w.heap.size, 0, none⟩), .slice none 0 0, .int .i64 0, .slice (some ⟨gU, 0, none⟩) n n, .pointer (some ⟨bN, 0, none⟩), .pointer (some ⟨bB, 0, none⟩), .pointer (some ⟨bP, 0, none⟩), .int .u64 (x : Int), .slice (some ⟨mb, mo, none⟩) n cm, .bool true, .bool false, .bool false, .slice a n c, .slice (some ⟨mb, mo, none⟩) n cm, .bool true, .bool false, .bool false, .bool false, .slice ae ne ce, .int .i64 (ne : Int), .bool (decide ((16 : Int) < (ne : Int))), .bool (decide ((16 : Int) < (ne : Int))), u27, u28, u29, u30, u31, u32, u33, u34, u35, u36, u37, u38, u39, .slice ae ne ce, .func (.func 176) #[] #[.pointer (some ⟨eb, 0, none⟩)], .int .u64 (x : Int), undef, undef, undef, undef, undef, undef, undef, undef, undef, undef, undef, undef, undef, undef, undef, undef, undef, undef, undef, undef, undef], defers := [] }) ?assign ?body ?done ?stop
      case assign =>
        intro l x W K hK
        gi_wp2
        exact hK
      case body =>
        rintro l pre x W ⟨hO, hG⟩ _
        have b11 := (HPz.out.kept hG (by simpa using neP.symm)).cell
        have b10 := (HBz.out.kept hG (by simpa using neB.symm)).cell
        have b9 := (HNz.out.kept hG (by simpa using neN.symm)).cell
        have b5 := (HMz.out.kept hG (by simpa using neM.symm)).cell
        have hOc : ∃ o, W.heap[gP]? = some o ∧ o.isCells = true := ⟨_, hO, rfl⟩
        have lv := Nat.mod_lt (val xs ^ numOf pre * 2 ^ (64 * n)) hM0
        have vv := val_elem' pM.out lv
        have VM := Lib.hid (hvm.below (Nat.le_refl _) (HB4.out.trans ((but_below hG lt4).mono hgPw)))
        have OBW := Lib.hid (own_but OBz.out hG (by simpa using hneq.symm))
        have HO := Lib.hid hO
        have HG := Lib.hid hG
        have HOC := Lib.hid hOc
        have LV := Lib.hid lv
        have VV := Lib.hid vv
        clear hO hG hOc lv vv
        gi_wp2_with fail
        refine ⟨trivial, (CallsIn.inRound l (callsIn_wide.2 (multiply_any gP n _ (row n (val xs ^ numOf pre * 2 ^ (64 * n) % val ms)) _ _ (row n (val xs ^ numOf pre * 2 ^ (64 * n) % val ms)) _ _ (row n (val xs ^ numOf pre * 2 ^ (64 * n) % val ms)) _ _ ms ng _ (Nat.le_refl _) hNmax HO.out (length_row _ _) HO.out.vrow HO.out.vrow VM.out HM.out (by rw [VV.out]; exact LV.out) (by rw [hm0e]; exact HNG.out)))).mono ?_⟩
        rintro e W2 ⟨v, ⟨rfl, ho2, hb2, hg2⟩, hv1, hv2⟩
        rw [VV.out] at hv2
        have ev := mont_times hodd hv1 hv2
        subst ev
        clear hv2
        have HG2 := Lib.hid (but_same HG.out hg2)
        have c11 := (HPz.out.kept HG2.out (by simpa using neP.symm)).cell
        have c10 := (HBz.out.kept HG2.out (by simpa using neB.symm)).cell
        have c9 := (HNz.out.kept HG2.out (by simpa using neN.symm)).cell
        have c5 := (HMz.out.kept HG2.out (by simpa using neM.symm)).cell
        have HO2 := Lib.hid ho2
        have HGW := Lib.hid hg2
        have LV2 := Lib.hid hv1
        clear ho2 hb2 hg2 hv1
        by_cases hx1 : x = 1
        · have hx1b : ((x : Int) == 1) = true := by simp; omega
          have VM2 := Lib.hid (hvm.below (Nat.le_refl _) (HB4.out.trans ((but_below HG2.out lt4).mono hgPw)))
          have OB2 := Lib.hid (own_but OBz.out HG2.out (by simpa using hneq.symm))
          have lb := Lib.hid (Nat.mod_lt (val xs * 2 ^ (64 * n)) hM0)
          have vb := Lib.hid (val_elem' pM.out lb.out)
          have vq := Lib.hid (val_elem' pM.out LV2.out)
          have HX1 := Lib.hid hx1
          clear hx1
          gi_wp2_with fail
          refine ⟨trivial, (CallsIn.inRound l (callsIn_wide.2 (multiply_any gP n _ _ _ _ _ _ _ (row n (val xs * 2 ^ (64 * n) % val ms)) _ _ ms ng _ (Nat.le_refl _) hNmax HO2.out (length_row _ _) HO2.out.vrow OB2.out.vrow VM2.out HM.out (by rw [vb.out]; exact lb.out) (by rw [hm0e]; exact HNG.out)))).mono ?_⟩
          rintro e W3 ⟨v, ⟨rfl, ho3, hb3, hg3⟩, hv1, hv2⟩
          rw [vb.out, vq.out] at hv2
          have ev := mont_times hodd hv1 hv2
          subst ev
          have HO3 := Lib.hid ho3
          have HGW3 := Lib.hid (but_same HGW.out hg3)
          have HG3 := Lib.hid (but_same HG2.out hg3)
          clear ho3 hb3 hg3 hv1 hv2
          gi_wp2
          exact ⟨KeepsOthers.of_grownBy HGW3.out (fun j o e ho => by cases e; obtain ⟨o', h1', h2'⟩ := HOC.out; rw [h1'] at ho; cases ho; exact h2'), ⟨(but_below HGW3.out HO.out.lt).mono hgPw, HGW3.out.block eb (Nat.lt_of_lt_of_le hlt4 HG.out.size) (by simpa using neE.symm)⟩, by rw [num_one HX1.out]; exact HO3.out, HG3.out⟩
        · have hx1b : ((x : Int) == 1) = false := by simp; omega
          have HX1 := Lib.hid hx1
          clear hx1
          gi_wp2
          exact ⟨KeepsOthers.of_grownBy HGW.out (fun j o e ho => by cases e; obtain ⟨o', h1', h2'⟩ := HOC.out; rw [h1'] at ho; cases ho; exact h2'), ⟨(but_below HGW.out HO.out.lt).mono hgPw, HGW.out.block eb (Nat.lt_of_lt_of_le hlt4 HG.out.size) (by simpa using neE.symm)⟩, by rw [num_none HX1.out]; exact HO2.out, HG2.out⟩
      case done =>
        rintro D ys W hD hnum ⟨hO, hG⟩ hK
        rw [hnum] at hO
        have c11 := (HPz.out.kept hG (by simpa using neP.symm)).cell
        have c9 := (HNz.out.kept hG (by simpa using neN.symm)).cell
        have c5 := (HMz.out.kept hG (by simpa using neM.symm)).cell
        have VM := Lib.hid (hvm.below (Nat.le_refl _) (HB4.out.trans ((but_below hG lt4).mono hgPw)))
        have OUW := Lib.hid (own_but OUz.out hG (by simpa using neU.symm))
        have lv := Lib.hid (Nat.mod_lt (val xs ^ val es * 2 ^ (64 * n)) hM0)
        have vv := Lib.hid (val_elem' pM.out lv.out)
        have HO := Lib.hid hO
        have HG := Lib.hid hG
        have HK := Lib.hid hK
        clear hO hG hK
        go_wp2_with fail
        refine (multiply_any gP n _ _ _ _ _ _ _ (row n 1) _ _ ms ng _ (Nat.le_refl _) hNmax HO.out (length_row _ _) HO.out.vrow OUW.out.vrow VM.out HM.out (by rw [HV1.out]; exact hM1) (by rw [hm0e]; exact HNG.out)).mono ?_
        rintro e W2 ⟨v, ⟨rfl, ho2, hb2, hg2⟩, hv1, hv2⟩
        rw [vv.out, HV1.out, Nat.mul_one] at hv2
        have ev := mont_out hodd hv1 hv2
        subst ev
        have hDlt : D < W.heap.size := (Array.getElem?_eq_some_iff.1 HK.out).1
        have hK2 : W2.heap[D]? = some (.deferred (some [])) := (hg2.block D hDlt (fun e => by cases e; omega)).trans HK.out
        have HG2 := Lib.hid (but_same HG.out hg2)
        have d11 := (HPz.out.kept HG2.out (by simpa using neP.symm)).cell
        have HO2 := Lib.hid ho2
        have HK2 := Lib.hid hK2
        clear ho2 hb2 hg2 hv1 hv2 hK2
        go_wp2
        refine ⟨by simp, .inl ⟨_, _, rfl, run_takeDeferred HK2.out, ?_⟩⟩
        exact ⟨_, results_tmp2 rfl _ _ _, gP, rfl, own_but HO2.out (grownBy_putObj' W2 D _) (fun e => by cases e; omega), hgPw, (HB4.out.trans ((but_below HG2.out lt4).mono hgPw)).trans (belowK_b (w := w) (Nat.le_refl _) W2 D _ _ (Nat.le_trans HB4.out.size hD) HK2.out rfl rfl)⟩
      case stop =>
        rintro D c pre W _ _ h _
        exact h.elim
end Go.Proofs.YtkkmekdhejhapaaGreat
