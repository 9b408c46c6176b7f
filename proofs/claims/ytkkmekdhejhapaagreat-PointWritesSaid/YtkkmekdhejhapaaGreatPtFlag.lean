/- What is proved here: the struct of functions of package point, the error's type, texts and functions in blocks, and what the reference tells of bytes, as segments; bytes with flags in the three highest bits of the first one: flags set and taken off; rows of zeros; flags of bytes in package point: set, taken off, asked and checked. -/
import Derived.Test.YtkkmekdhejhapaaGreatOneZ
import Derived.Test.YtkkmekdhejhapaaGreatTwoZ
import Derived.Test.YtkkmekdhejhapaaGreatFlag
import Derived.Test.YtkkmekdhejhapaaGreatGet
import Derived.Test.YtkkmekdhejhapaaGreatComp
namespace Go.Proofs.YtkkmekdhejhapaaGreat
section
open Go.RowKit Cv
theorem sgT3 : Single 59 := ⟨Tryz.isAgg59, Tryz.sizeOf59⟩
theorem sgT5 : Single 61 := ⟨Tryz.isAgg61, Tryz.sizeOf61⟩
theorem sgT10 : Single 66 := ⟨Tryz.isAgg66, Tryz.sizeOf66⟩
theorem sgT11 : Single 35 := ⟨Tryz.isAgg35, Tryz.sizeOf35⟩
theorem sgT12 : Single 70 := ⟨Tryz.isAgg70, Tryz.sizeOf70⟩
theorem sgT14 : Single 72 := ⟨Tryz.isAgg72, Tryz.sizeOf72⟩
theorem sgT19 : Single 76 := ⟨Tryz.isAgg76, Tryz.sizeOf76⟩
theorem sgT20 : Single 36 := ⟨Tryz.isAgg36, Tryz.sizeOf36⟩
theorem cv1_fields : Tryz.prog.underlying 68 = some (.struct (List.toArray [⟨"size", 3, 0, false, "", "chirograph/point", 0⟩, ⟨"write", 59, 1, false, "", "chirograph/point", 8⟩, ⟨"read", 60, 2, false, "", "chirograph/point", 16⟩, ⟨"high", 61, 3, false, "", "chirograph/point", 24⟩, ⟨"negative", 62, 4, false, "", "chirograph/point", 32⟩, ⟨"level", 63, 5, false, "", "chirograph/point", 40⟩, ⟨"zero", 64, 6, false, "", "chirograph/point", 48⟩, ⟨"made", 65, 7, false, "", "chirograph/point", 56⟩, ⟨"parts", 66, 8, false, "", "chirograph/point", 64⟩, ⟨"right", 35, 9, false, "", "chirograph/point", 72⟩, ⟨"group", 35, 10, false, "", "chirograph/point", 80⟩])) := Tryz.underlying68
theorem flCv1 : Flat 68 11 := ⟨Tryz.isAgg68, Tryz.sizeOf68⟩
theorem faCv1_1 : FieldAt 68 1 1 := ⟨_, _, 0, cv1_fields, rfl, rfl, Tryz.sizeOf59⟩
theorem faCv1_3 : FieldAt 68 3 3 := ⟨_, _, 0, cv1_fields, rfl, rfl, Tryz.sizeOf61⟩
theorem faCv1_8 : FieldAt 68 8 8 := ⟨_, _, 0, cv1_fields, rfl, rfl, Tryz.sizeOf66⟩
theorem faCv1_9 : FieldAt 68 9 9 := ⟨_, _, 0, cv1_fields, rfl, rfl, Tryz.sizeOf35⟩
theorem faCv1_10 : FieldAt 68 10 10 := ⟨_, _, 0, cv1_fields, rfl, rfl, Tryz.sizeOf35⟩
theorem zCv1 (w : World) : (zeroValue 68).run Tryz.prog w = .ok (sv [.i .i64 0, .v .nilFunc, .v .nilFunc, .v .nilFunc, .v .nilFunc, .v .nilFunc, .v .nilFunc, .v .nilFunc, .v .nilFunc, .v .nilFunc, .v .nilFunc]) w := Tryz.zeroValue68 w
theorem stCv1 : StructS 68 [.i .i64 0, .v .nilFunc, .v .nilFunc, .v .nilFunc, .v .nilFunc, .v .nilFunc, .v .nilFunc, .v .nilFunc, .v .nilFunc, .v .nilFunc, .v .nilFunc] [(0, 1), (1, 1), (2, 1), (3, 1), (4, 1), (5, 1), (6, 1), (7, 1), (8, 1), (9, 1), (10, 1)] := by
  refine ⟨_, cv1_fields, zCv1, fun w => ?_⟩
  simp [Sem.run_bind, Tryz.sizeOf3, Tryz.sizeOf59, Tryz.sizeOf60, Tryz.sizeOf61, Tryz.sizeOf62, Tryz.sizeOf63, Tryz.sizeOf64, Tryz.sizeOf65, Tryz.sizeOf66, Tryz.sizeOf35]
theorem cv2_fields : Tryz.prog.underlying 78 = some (.struct (List.toArray [⟨"size", 3, 0, false, "", "chirograph/point", 0⟩, ⟨"write", 70, 1, false, "", "chirograph/point", 8⟩, ⟨"read", 71, 2, false, "", "chirograph/point", 16⟩, ⟨"high", 72, 3, false, "", "chirograph/point", 24⟩, ⟨"negative", 73, 4, false, "", "chirograph/point", 32⟩, ⟨"level", 74, 5, false, "", "chirograph/point", 40⟩, ⟨"zero", 46, 6, false, "", "chirograph/point", 48⟩, ⟨"made", 75, 7, false, "", "chirograph/point", 56⟩, ⟨"parts", 76, 8, false, "", "chirograph/point", 64⟩, ⟨"right", 36, 9, false, "", "chirograph/point", 72⟩, ⟨"group", 36, 10, false, "", "chirograph/point", 80⟩])) := Tryz.underlying78
theorem flCv2 : Flat 78 11 := ⟨Tryz.isAgg78, Tryz.sizeOf78⟩
theorem faCv2_1 : FieldAt 78 1 1 := ⟨_, _, 0, cv2_fields, rfl, rfl, Tryz.sizeOf70⟩
theorem faCv2_3 : FieldAt 78 3 3 := ⟨_, _, 0, cv2_fields, rfl, rfl, Tryz.sizeOf72⟩
theorem faCv2_8 : FieldAt 78 8 8 := ⟨_, _, 0, cv2_fields, rfl, rfl, Tryz.sizeOf76⟩
theorem faCv2_9 : FieldAt 78 9 9 := ⟨_, _, 0, cv2_fields, rfl, rfl, Tryz.sizeOf36⟩
theorem faCv2_10 : FieldAt 78 10 10 := ⟨_, _, 0, cv2_fields, rfl, rfl, Tryz.sizeOf36⟩
theorem zCv2 (w : World) : (zeroValue 78).run Tryz.prog w = .ok (sv [.i .i64 0, .v .nilFunc, .v .nilFunc, .v .nilFunc, .v .nilFunc, .v .nilFunc, .v .nilFunc, .v .nilFunc, .v .nilFunc, .v .nilFunc, .v .nilFunc]) w := Tryz.zeroValue78 w
theorem stCv2 : StructS 78 [.i .i64 0, .v .nilFunc, .v .nilFunc, .v .nilFunc, .v .nilFunc, .v .nilFunc, .v .nilFunc, .v .nilFunc, .v .nilFunc, .v .nilFunc, .v .nilFunc] [(0, 1), (1, 1), (2, 1), (3, 1), (4, 1), (5, 1), (6, 1), (7, 1), (8, 1), (9, 1), (10, 1)] := by
  refine ⟨_, cv2_fields, zCv2, fun w => ?_⟩
  simp [Sem.run_bind, Tryz.sizeOf3, Tryz.sizeOf70, Tryz.sizeOf71, Tryz.sizeOf72, Tryz.sizeOf73, Tryz.sizeOf74, Tryz.sizeOf46, Tryz.sizeOf75, Tryz.sizeOf76, Tryz.sizeOf36]
end

section
section
open Go.RowKit
def mark (k : Nat) : List UInt8 → List UInt8
  | [] => []
  | b :: t => UInt8.ofNat (b.toNat + 32 * k) :: t
def low : List UInt8 → List UInt8
  | [] => []
  | b :: t => UInt8.ofNat (b.toNat % 32) :: t
def Led (l : List UInt8) : Prop := ∃ b t, l = b :: t ∧ b.toNat < 32
theorem length_mark (k : Nat) (l : List UInt8) : (mark k l).length = l.length := by cases l <;> rfl
theorem led_be {x : Nat} (h : x < pN) : Led (be 48 x) := by
  obtain ⟨b, t, h1, _, h3, _⟩ := flag_be (m := 47) (v := x) (f := 0) (Nat.lt_trans h p_381) (by decide)
  exact ⟨b, t, h1, h3⟩
theorem led_app {l m : List UInt8} (h : Led l) : Led (l ++ m) := by
  obtain ⟨b, t, rfl, hb⟩ := h
  exact ⟨b, t ++ m, rfl, hb⟩
def f6 (k : Nat) : Bool := k / 2 % 2 == 1
def f5 (k : Nat) : Bool := k % 2 == 1
def fk (a b c : Bool) : Nat := (if a then 4 else 0) + (if b then 2 else 0) + (if c then 1 else 0)
theorem fk_lt (a b c : Bool) : fk a b c < 8 := by cases a <;> cases b <;> cases c <;> decide
theorem or_flag (k : Fin 8) (n : Fin 32) : bits .or .u8 (n.val : Int) ((32 * k.val : Nat) : Int) = ((n.val + 32 * k.val : Nat) : Int) := by
  revert k n; decide +kernel
theorem or_flags {n k : Nat} (hn : n < 32) (hk : k < 8) : bits .or .u8 (n : Int) ((32 * k : Nat) : Int) = ((n + 32 * k : Nat) : Int) := or_flag ⟨k, hk⟩ ⟨n, hn⟩
end

section
open Go.RowKit Cv
set_option maxRecDepth 20000
set_option maxHeartbeats 4000000
theorem ex_blit {ρ : Operand → Value} {d : Option Tmp} {ty0 : TypeId} {pos : String} {after : Array Edge} {guard : Option (Nat × Bool)} {w : World} {x : Operand} {a : Int} (hx : ρ x = .int .u8 a) :
    (execOp ρ ⟨d, .buildSlice 114 1 #[(0, x)], ty0, pos, after, guard⟩).run Tryz.prog w = .ok (.value (.slice (some ⟨w.heap.size, 0, none⟩) 1 1)) (w.alloc (.cells (segs [.i .u8 a]).toArray 5)) := by
  simp [execOp, hx, go_sem]
  rfl
theorem ex_bback {ρ : Operand → Value} {d : Option Tmp} {ty0 : TypeId} {pos : String} {after : Array Edge} {guard : Option (Nat × Bool)} {w : World} {x : Operand} {t : TypeId} {g n : Nat} (hx : ρ x = .slice (some ⟨g, 0, none⟩) 1 1) (hA : Blk t w g (segs [.i .u8 (n : Int)])) (hn : n < 256) :
    (execOp ρ ⟨d, .convert 114 9 x, ty0, pos, after, guard⟩).run Tryz.prog w = .ok (.value (str [UInt8.ofNat n])) w := by
  have h := run_convert_bytes_back (P := Tryz.prog) w 114 9 5 ⟨g, 0, none⟩ 1 [UInt8.ofNat n] Tryz.underlying114 Tryz.underlying5 Tryz.underlying9 (fun j hj => by
    have hj0 : j = 0 := by simpa using hj
    subst hj0
    have hc := hA.cell (i := 0) (show 0 < 1 from Nat.zero_lt_one)
    show w.cell? ⟨g, 0 + 0, none⟩ = some (.int .u8 (((UInt8.ofNat n).toNat : Nat) : Int))
    rw [toNat_ofNat hn]
    exact hc)
  simp [execOp, hx]
  exact (congrArg (fun r => Result.andThen r _) h).trans rfl
theorem ptflag_t (c : Int) : CI 78 #[.int .u8 c, .bool true] (.int .u8 c) := fun w => by
  go_enter Tryz.func78, Tryz.ntmps78
  refine rh0 (brf w) [4] [.int .u8 0] ?_ ?_
  · exact stpa .nil
  intro w1 hb1 HB2
  refine wp_seq ?_
  refine rh0 HB2 [5] [.bool true] ?_ ?_
  · exact stpm .nil
  intro w3 hb3 HB4
  refine wp_cond_true rfl ?_
  refine rh0 HB4 [6, 4] [.int .u8 c, .int .u8 c] ?_ ?_
  · refine stpm ?_
    exact stpa .nil
  intro w5 hb5 HB6
  exact wprt (ret1 Tryz.results78 (res_tmp rfl)) HB6
theorem ptflag_f (c : Int) : CI 78 #[.int .u8 c, .bool false] (.int .u8 0) := fun w => by
  go_enter Tryz.func78, Tryz.ntmps78
  refine rh0 (brf w) [4] [.int .u8 0] ?_ ?_
  · exact stpa .nil
  intro w1 hb1 HB2
  refine wp_seq ?_
  refine rh0 HB2 [5] [.bool false] ?_ ?_
  · exact stpm .nil
  intro w3 hb3 HB4
  refine wp_cond_false rfl ?_
  refine wp_skip ?_
  refine th_r ?_
  refine rh0 HB4 [4] [.int .u8 0] ?_ ?_
  · exact stpa .nil
  intro w5 hb5 HB6
  exact wpr (ret1 Tryz.results78 (res_tmp rfl)) HB6
theorem ptmarked_v (b : UInt8) (t : List UInt8) (k : Nat) (hb : b.toNat < 32) (hk : k < 8) (ht : t.length ≤ 500) : CI 79 #[str ((b :: t)), .int .u8 ((32 * k : Nat) : Int)] (str ((UInt8.ofNat (b.toNat + 32 * k) :: t))) := fun w => by
  go_enter Tryz.func79, Tryz.ntmps79
  refine rh0 (brf w) [4] [str []] ?_ ?_
  · exact stpa .nil
  intro w1 hb1 HB2
  refine rh1 HB2 5 4 [.i .u8 (((b.toNat + 32 * k : Nat) : Int))] [5, 6, 7, 8, 9, 10, 11, 12, 13, 4] (fun γ => [str ((b :: t)), .int .u8 (b.toNat : Int), .int .u8 ((32 * k : Nat) : Int), .int .u8 ((b.toNat + 32 * k : Nat) : Int), .slice (some ⟨γ 0, 0, none⟩) 1 1, str [UInt8.ofNat (b.toNat + 32 * k)], str ((b :: t)), str t, str (UInt8.ofNat (b.toNat + 32 * k) :: t), str (UInt8.ofNat (b.toNat + 32 * k) :: t)]) ?_ ?_
  · refine stpm ?_
    refine stpx (fun _ _ => ex_idxL (l := (b :: t)) 0 rfl rfl rfl) ?_
    refine stpm ?_
    refine stpx (fun _ _ => ex_bitsor rfl rfl _ (or_flags hb hk)) ?_
    refine GSteps.cons (gm_lit 0 rfl (fun n => .slice (some ⟨n, 0, none⟩) 1 1) (fun _ => rfl) (fun _ _ => rfl) (fun γ w h => ex_blit rfl) rfl rfl rfl) ?_
    refine GSteps.cons (gm_read 0 rfl rfl (fun _ => rfl) (fun _ => rfl) (fun γ w h => ex_bback rfl h (by omega)) rfl rfl rfl (by kernel_rfl)) ?_
    refine stpm ?_
    refine stpx (fun _ _ => ex_fromL (l := (b :: t)) 1 rfl rfl (by simp)) ?_
    refine stpx (fun _ _ => ex_catL (a := [UInt8.ofNat (b.toNat + 32 * k)]) (b := t) rfl rfl (by simp; omega)) ?_
    exact stpa .nil
  intro γ3 w3 hb3 _ _ HB5
  exact wpr (ret1 Tryz.results79 (res_tmp rfl)) HB5
theorem ptmarked_q (l : List UInt8) (h : Led l) (hn : l.length ≤ 500) (k : Nat) (hk : k < 8) (w : World) : Calls Tryz.prog 79 #[str l, .int .u8 ((32 * k : Nat) : Int)] w (Is (str ((mark k l))) w) := by
  obtain ⟨b, t, rfl, hb⟩ := h
  exact ptmarked_v b t k hb hk (by simp at hn; omega) w
theorem ptflag_64 (i : Bool) (w : World) : Calls Tryz.prog 78 #[.int .u8 64, .bool i] w (Is (.int .u8 ((32 * fk false i false : Nat) : Int)) w) := by
  cases i
  · exact ptflag_f 64 w
  · exact ptflag_t 64 w
theorem ptflag_32 (i : Bool) (w : World) : Calls Tryz.prog 78 #[.int .u8 32, .bool i] w (Is (.int .u8 ((32 * fk false false i : Nat) : Int)) w) := by
  cases i
  · exact ptflag_f 32 w
  · exact ptflag_t 32 w
theorem or_128 (i : Bool) : bits .or .u8 128 ((32 * fk false i false : Nat) : Int) = ((32 * fk true i false : Nat) : Int) := by cases i <;> decide +kernel
theorem or_32 (i h : Bool) : bits .or .u8 ((32 * fk true i false : Nat) : Int) ((32 * fk false false h : Nat) : Int) = ((32 * fk true i h : Nat) : Int) := by cases i <;> cases h <;> decide +kernel
end
end
end Go.Proofs.YtkkmekdhejhapaaGreat
