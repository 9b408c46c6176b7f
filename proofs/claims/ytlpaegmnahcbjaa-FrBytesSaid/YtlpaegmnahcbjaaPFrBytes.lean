/- Proved: the law FrBytes of chirographlaw03, called with any arguments that can be read (number of four limbs, text), returns true and leaves its arguments as they were; there are no conditions. -/
import Derived.Test.YtlpaegmnahcbjaaRows
import Derived.Test.YtlpaegmnahcbjaaTyFr
import Derived.LoopN
import Derived.Test.YtlpaegmnahcbjaaFn7Fr
import Derived.Test.YtlpaegmnahcbjaaRef2Fr
import Derived.Test.YtlpaegmnahcbjaaShelf
import Derived.Lib.Repeat
import Derived.Test.YtlpaegmnahcbjaaFn6Fr
import Derived.Test.YtlpaegmnahcbjaaRef5Fr
import Derived.Test.YtlpaegmnahcbjaaRef6Fr
import Derived.Test.YtlpaegmnahcbjaaLw1Fr
import Derived.Test.YtlpaegmnahcbjaaRowIn
import Derived.WalkKit
import Derived.ProofKit
import Derived.OpenShut
import Derived.ShutString
import Derived.ChangeOld
import Derived.Below
namespace Go.Proofs.Ytlpaegmnahcbjaa
open Go.RowKit

/-- A loop of n rounds, by what holds ahead of each. -/
theorem wp_loop_ind {P : Program} {c : Code} {Q : Exit → Act → World → Prop} {a : Act} {w : World} (n : Nat) (I : Nat → Act → World → Prop) (h0 : I 0 a w)
    (hstep : ∀ k, k < n → ∀ a w, I k a w → ∀ K : Act → World → Prop, Shut (∀ a' w', I (k + 1) a' w' → K a' w') → c.wp P (Exit.then K Q) a w)
    (hend : ∀ a w, I n a w → ∀ K : Act → World → Prop, c.wp P (Exit.then K Q) a w) : (Code.loop c).wp P Q a w := by
  refine wp_loop_rounds (n + 1) ?_
  have key : ∀ m k, k + m = n → ∀ a w, I k a w → Code.rounds P c Q (m + 1) a w := by
    intro m
    induction m with
    | zero =>
      intro k hk a w h
      obtain rfl : k = n := by omega
      exact hend a w h _
    | succ m ih =>
      intro k hk a w h
      exact hstep k (by omega) a w h _ (fun a' w' h' => ih (k + 1) (by omega) a' w' h')
  exact key n 0 (by omega) a w h0

theorem inblock_l {id : Nat} {Q : Exit → Act → World → Prop} {a : Act} {w : World} (h : Q .normal a w) : Exit.inBlock id Q .normal a w := h
theorem then_l {K : Act → World → Prop} {Q : Exit → Act → World → Prop} {a : Act} {w : World} (h : K a w) : Exit.then K Q .normal a w := h
theorem then_x {K : Act → World → Prop} {Q : Exit → Act → World → Prop} {id : Nat} {a : Act} {w : World} (h : Q (.exit id) a w) : Exit.then K Q (.exit id) a w := h
theorem exit_l {id : Nat} {Q : Exit → Act → World → Prop} {a : Act} {w : World} (h : Q .normal a w) : Exit.inBlock id Q (.exit id) a w := by
  show (if id = id then Q .normal a w else Q (.exit id) a w)
  rw [if_pos rfl]
  exact h

section
variable {ρ : Operand → Value} {d : Option Tmp} {ty0 : TypeId} {pos : String} {after : Array Edge} {guard : Option (Nat × Bool)} {w : World}

theorem ex_lenS {x : Operand} {s : ByteArray} {n : Nat} (hx : ρ x = .string s) (hs : s.size = n) :
    (execOp ρ ⟨d, .call ⟨.builtin .len, #[x], #[9]⟩, ty0, pos, after, guard⟩).run Try.prog w = .ok (.value (.int .i64 (n : Int))) w := by
  simp [hx, go_sem, hs]

theorem wrap_nat {n : Nat} (h : n < 9223372036854775808) : IntKind.i64.wrap (n : Int) = (n : Int) := by
  rw [IntKind.wrap_i64]
  omega

theorem ex_remN {t t2 : TypeId} {x y : Operand} {a b r : Nat} (hx : ρ x = .int .i64 (a : Int)) (hy : ρ y = .int .i64 (b : Int)) (hb : 0 < b) (_ha : a < 9223372036854775808) (hr : r = a % b) :
    (execOp ρ ⟨d, .binOp .rem t x y t2, ty0, pos, after, guard⟩).run Try.prog w = .ok (.value (.int .i64 (r : Int))) w := by
  subst hr
  have h1 : ¬ b = 0 := by omega
  simp [execOp, hx, hy, go_sem, h1]
  rfl

theorem ex_subN {t t2 : TypeId} {x y : Operand} {a b r : Nat} (hx : ρ x = .int .i64 (a : Int)) (hy : ρ y = .int .i64 (b : Int)) (hb : b ≤ a) (ha : a < 9223372036854775808) (hr : r = a - b) :
    (execOp ρ ⟨d, .binOp .sub t x y t2, ty0, pos, after, guard⟩).run Try.prog w = .ok (.value (.int .i64 (r : Int))) w := by
  have h1 : (a : Int) - (b : Int) = (r : Int) := by omega
  have h2 := wrap_nat (n := r) (by omega)
  simp [execOp, hx, hy, go_sem, h1, h2]

theorem ex_addN {t t2 : TypeId} {x y : Operand} {a b r : Nat} (hx : ρ x = .int .i64 (a : Int)) (hy : ρ y = .int .i64 (b : Int)) (ha : r < 9223372036854775808) (hr : r = a + b) :
    (execOp ρ ⟨d, .binOp .add t x y t2, ty0, pos, after, guard⟩).run Try.prog w = .ok (.value (.int .i64 (r : Int))) w := by
  have h1 : (a : Int) + (b : Int) = (r : Int) := by omega
  have h2 := wrap_nat (n := r) ha
  simp [execOp, hx, hy, go_sem, h1, h2]

theorem ex_lssN {t t2 : TypeId} {x y : Operand} {a b : Nat} (hx : ρ x = .int .i64 (a : Int)) (hy : ρ y = .int .i64 (b : Int)) (r : Bool) (hr : r = decide (a < b)) :
    (execOp ρ ⟨d, .binOp .lss t x y t2, ty0, pos, after, guard⟩).run Try.prog w = .ok (.value (.bool r)) w := by
  subst hr
  simp [execOp, hx, hy, eqGuard, binOp, Op.intCmp]

theorem ex_gtrN {t t2 : TypeId} {x y : Operand} {a b : Nat} (hx : ρ x = .int .i64 (a : Int)) (hy : ρ y = .int .i64 (b : Int)) (r : Bool) (hr : r = decide (b < a)) :
    (execOp ρ ⟨d, .binOp .gtr t x y t2, ty0, pos, after, guard⟩).run Try.prog w = .ok (.value (.bool r)) w := by
  subst hr
  simp [execOp, hx, hy, eqGuard, binOp, Op.intCmp]

theorem ex_cutTo {x y : Operand} {s : ByteArray} {n : Nat} (hx : ρ x = .string s) (hy : ρ y = .int .i64 (n : Int)) (hn : n ≤ s.size) :
    (execOp ρ ⟨d, .slice 9 x none (some y) none, ty0, pos, after, guard⟩).run Try.prog w = .ok (.value (.string (s.extract 0 n))) w := by
  have h1 : (0 : Int) ≤ (n : Int) ∧ (n : Int) ≤ (s.size : Int) := ⟨by omega, by omega⟩
  simp [execOp, hx, hy, go_sem, hn]

theorem ex_cutFT {x y z : Operand} {s : ByteArray} {m n : Nat} (hx : ρ x = .string s) (hy : ρ y = .int .i64 (m : Int)) (hz : ρ z = .int .i64 (n : Int)) (hm : m ≤ n) (hn : n ≤ s.size) :
    (execOp ρ ⟨d, .slice 9 x (some y) (some z) none, ty0, pos, after, guard⟩).run Try.prog w = .ok (.value (.string (s.extract m n))) w := by
  simp [execOp, hx, hy, hz, go_sem, hn, hm]

theorem ex_catN {t t2 : TypeId} {x y : Operand} {a b : ByteArray} (hx : ρ x = .string a) (hy : ρ y = .string b) (h : a.size + b.size ≤ 100) :
    (execOp ρ ⟨d, .binOp .add t x y t2, ty0, pos, after, guard⟩).run Try.prog w = .ok (.value (.string (a ++ b))) w := by
  simp [execOp, hx, hy, go_sem]
  omega

theorem ex_byte {x y : Operand} {s : ByteArray} {i b : Nat} (hx : ρ x = .string s) (hy : ρ y = .int .i64 (i : Int)) (hi : i < s.size) (hb : b = s[i].toNat) :
    (execOp ρ ⟨d, .index 9 x y, ty0, pos, after, guard⟩).run Try.prog w = .ok (.value (.int .u8 (b : Int))) w := by
  subst hb
  simp [execOp, hx, hy, go_sem, hi]

theorem ex_widen {x : Operand} {b : Nat} (hx : ρ x = .int .u8 (b : Int)) (hb : b < 256) :
    (execOp ρ ⟨d, .convert 5 22 x, ty0, pos, after, guard⟩).run Try.prog w = .ok (.value (.int .u64 (b : Int))) w := by
  have h2 : IntKind.u64.wrap (b : Int) = (b : Int) := by rw [IntKind.wrap_u64]; omega
  simp [execOp, hx, go_sem, h2]
end

set_option maxRecDepth 20000 in
set_option maxHeartbeats 4000000 in
theorem frmoveUp_u (a : Nat) (w : World) (ha : a < rN) (v : Nat) (hv : v = a * 2 ^ (64 * 4) % rN) :
    Calls Try.prog 24 #[frV a] w (Is (frV v) w) := by
  have HXB := Lib.hid (Nat.lt_trans ha frM_lt)
  have HV := Lib.hid (show val (row 4 a) * 2 ^ (64 * 4) % val (row 4 rN) = v by rw [frval HXB.out, frval_M, hv])
  have HXV := Lib.hid (show val (row 4 a) < val (row 4 rN) by rw [frval HXB.out, frval_M]; exact ha)
  obtain ⟨w3, hw3, a1, a3, hb0, hsz⟩ := fr_lay_vz 24 w a
  have HW := Lib.hid hw3
  have A1 := Lib.hid a1
  have A3 := Lib.hid a3
  have HB0 := Lib.hid hb0
  clear ha hw3 a1 a3 hb0 hsz hv
  go_enter Try.func24, Try.ntmps24
  go_wp2_with fail
  rw [HW.out]
  clear HW
  refine (frorder_v _).mono ?_
  rintro e w5 ⟨rfl, hb5⟩
  obtain ⟨w6, hw6, a6, hb6, hs6⟩ := fr_lay_v 24 w5 rN
  have HW6 := Lib.hid hw6
  have X1 := Lib.hid ((A1.out.keep hb5).keep hb6).vrow
  have X3 := Lib.hid ((A3.out.keep hb5).keep hb6)
  have X4 := Lib.hid a6.vrow
  have XB := Lib.hid (below_then HB0.out (below_then hb5 hb6))
  clear hw6 a6 hb5 hb6 hs6 A1 A3 HB0
  go_wp2_with fail
  rw [HW6.out]
  clear HW6
  go_region_with (go_at_call 48; refine (montInto_any _ 4 _ _ 4 4 _ _ (by decide) (by decide) (by decide) (by decide) X1.out.drew X4.out.drew frisMod HXV.out).mono ?_; rintro e w7 ⟨g7, rfl, ho7, hg7, hb7⟩; have hb7' : Below w6.heap.size w6 w7 := (Below.refl w6.heap.size w6).drew.trans hb7; rw [HV.out] at ho7; have E1 := Lib.hid ho7.vrow; have E3 := Lib.hid (X3.out.keep hb7'); have EB := Lib.hid (below_then XB.out hb7'); clear ho7 hg7 hb7 hb7')
  all_goals
    go_wp2_with fail
    refine (frnumber_v _ 4 4 v _ rfl E1.out).mono ?_
    rintro e w9 ⟨rfl, hb9⟩
    have ZE := E3.out.keep hb9
    have m0 := ZE.frc0
    have m1 := ZE.frc1
    have m2 := ZE.frc2
    have m3 := ZE.frc3
    have q0 := ZE.frozen 0
    have q1 := ZE.frozen 1
    have q2 := ZE.frozen 2
    have q3 := ZE.frozen 3
    have HBE := Lib.hid (below_then EB.out hb9)
    clear hb9 ZE
    go_wp2
    refine bodyPost_ret (v := frV v) (by simp [results, Try.results24, go_sem, m0, m1, m2, m3]) rfl ⟨rfl, ?_⟩
    exact fr_below HBE.out (by omega) _ _ _ _

/-- What the first m bytes are hashed to. -/
def hsh (s : ByteArray) (m : Nat) : Nat := bval ((bl s).take m) % rN

theorem hsh_lt (s : ByteArray) (m : Nat) : hsh s m < rN := frM_mod _

theorem bl_cut (s : ByteArray) (m n : Nat) : bl (s.extract m n) = ((bl s).drop m).take (n - m) := by
  unfold bl
  simp [ByteArray.data_extract]

theorem bl_cat (a b : ByteArray) : bl (a ++ b) = bl a ++ bl b := by
  unfold bl
  simp

theorem bl_len (s : ByteArray) : (bl s).length = s.size := length_bl s

theorem hsh_zero (s : ByteArray) : hsh s 0 = 0 := by
  unfold hsh
  rw [List.take_zero]
  show 0 % rN = 0
  exact Nat.zero_mod _

theorem take_split (l : List UInt8) (m k : Nat) : l.take (m + k) = l.take m ++ (l.drop m).take k := List.take_add

theorem hsh_add (s : ByteArray) (m k : Nat) (h : m + k ≤ s.size) : hsh s (m + k) = (hsh s m * 256 ^ k + bval (bl (s.extract m (m + k)))) % rN := by
  have h1 : ((bl s).drop m |>.take k).length = k := by
    rw [List.length_take, List.length_drop, bl_len]
    omega
  unfold hsh
  rw [bl_cut, take_split, bval_append, h1, Nat.add_sub_cancel_left, Nat.add_mod (bval ((bl s).take m) % rN * 256 ^ k), Nat.mod_mul_mod, ← Nat.add_mod]

theorem hsh_block (s : ByteArray) (m : Nat) (h : m + 32 ≤ s.size) : hsh s (m + 32) = (hsh s m * 2 ^ (64 * 4) % rN + bval (bl (s.extract m (m + 32)))) % rN := by
  have e : (2 : Nat) ^ (64 * 4) = 256 ^ 32 := by decide +kernel
  rw [hsh_add s m 32 h, e, Nat.mod_add_mod]

theorem bval_zeros : ∀ k : Nat, bval (Lib.repeatL [0] k) = 0
  | 0 => rfl
  | k + 1 => by
    rw [Lib.repeatL, bval_append, bval_zeros k]
    have : bval [(0 : UInt8)] = 0 := by decide
    rw [this, Nat.zero_mul]

/-- The zeros that are put ahead. -/
def zer (q : Nat) : ByteArray := ⟨(Lib.repeatL [0] q).toArray⟩

theorem zer_bl (q : Nat) : bl (zer q) = Lib.repeatL [0] q := by simp [bl, zer]

theorem zer_size (q : Nat) : (zer q).size = q := by
  rw [← bl_len, zer_bl, Lib.repeatL_length]
  simp

theorem head_size (s : ByteArray) {h q : Nat} (hq : q = 32 - h) (hh : h < 32) (hs : h ≤ s.size) : (zer q ++ s.extract 0 h).size = 32 := by
  rw [ByteArray.size_append, zer_size, ByteArray.size_extract]
  omega

theorem head_val (s : ByteArray) {h q : Nat} (hh : h < 32) (hs : h ≤ s.size) : bval (bl (zer q ++ s.extract 0 h)) = hsh s h := by
  have h1 : ((bl s).take h).length = h := by
    rw [List.length_take, bl_len]
    omega
  have h2 := bval_lt ((bl s).take h)
  rw [h1] at h2
  have h3 : 256 ^ h ≤ 256 ^ 31 := Nat.pow_le_pow_right (by decide) (by omega)
  have h4 : (256 : Nat) ^ 31 < rN := by decide +kernel
  rw [bl_cat, bval_append, zer_bl, bval_zeros, Nat.zero_mul, Nat.zero_add, bl_cut, List.drop_zero, Nat.sub_zero]
  unfold hsh
  rw [Nat.mod_eq_of_lt (Nat.lt_of_lt_of_le h2 (Nat.le_trans h3 (Nat.le_of_lt h4)))]

theorem hsh_byte (s : ByteArray) (m : Nat) (h : m < s.size) : hsh s (m + 1) = (hsh s m * 2 ^ 8 % rN + s[m].toNat) % rN := by
  have e : bl (s.extract m (m + 1)) = [s[m]] := by
    rw [bl_cut, Nat.add_sub_cancel_left]
    have h2 : m < (bl s).length := by rw [bl_len]; exact h
    rw [List.drop_eq_getElem_cons h2]
    simp [bl]
    rfl
  have b1 : ∀ x : UInt8, bval [x] = x.toNat := fun x => by
    have := bval_snoc [] x
    rw [List.nil_append] at this
    rw [this]
    show 0 * 256 + _ = _
    omega
  rw [hsh_add s m 1 h, e, b1, Nat.mod_add_mod, Nat.pow_one]

theorem double_mod (a j : Nat) : (a * 2 ^ j % rN + a * 2 ^ j % rN) % rN = a * 2 ^ (j + 1) % rN := by
  rw [← Nat.add_mod, Nat.pow_succ, ← Nat.mul_assoc, Nat.mul_two]

theorem ex_limb {ρ : Operand → Value} {d : Option Tmp} {ty0 : TypeId} {pos : String} {after : Array Edge} {guard : Option (Nat × Bool)} {w : World} {x : Operand} {b : Nat} (hx : ρ x = .int .u64 (b : Int)) (hb : b < 2 ^ 64) :
    (execOp ρ ⟨d, .build 24 #[(0, x)], ty0, pos, after, guard⟩).run Try.prog w = .ok (.value (nv 4 [b])) w := by
  rw [nv4R, fr_small hb]
  simp [execOp, Instr.build, Instr.fill, Value.cells, go_sem, hx]

theorem frread_b (s : ByteArray) (w : World) (hs : s.size = 32) (v : Nat) (hv : v = bval (bl s)) : Calls Try.prog 15 #[.string s] w (Is (nv 4 [v]) w) := by
  rw [nv4R]
  exact frread_v s w hs v hv

theorem frmoveUp_b (a : Nat) (w : World) (ha : a < rN) (v : Nat) (hv : v = a * 2 ^ (64 * 4) % rN) : Calls Try.prog 24 #[nv 4 [a]] w (Is (nv 4 [v]) w) := by
  rw [nv4R, nv4R]
  exact frmoveUp_u a w ha v hv

theorem r3Add_b (a b : Nat) (w : World) (hs : a + b < frB) (v : Nat) (hv : v = (a + b) % rN) : Calls Try.prog 25 #[nv 4 [a], nv 4 [b]] w (Is (nv 4 [v]) w) := by
  rw [nv4R, nv4R, nv4R]
  exact r3Add_v a b w hs v hv

set_option maxRecDepth 20000 in
set_option maxHeartbeats 4000000 in
theorem frHash_any (s : ByteArray) (w : World) (hs : s.size ≤ 5000) (v : Nat) (hv : v = hsh s s.size) :
    Calls Try.prog 11 #[.string s] w (Is (nv 4 [v]) w) := by
  obtain ⟨f, hf⟩ : ∃ f : Nat → Nat, ∀ k, f k = s.size % 32 + 32 * k := ⟨_, fun _ => rfl⟩
  obtain ⟨n, hn⟩ : ∃ n, n = s.size / 32 := ⟨_, rfl⟩
  obtain ⟨H, hH⟩ : ∃ H : Nat → Nat, ∀ k, H k = hsh s (f k) := ⟨_, fun _ => rfl⟩
  obtain ⟨B, hB⟩ : ∃ B : Nat → Nat, ∀ k, B k = bval (bl (s.extract (f k) (f (k + 1)))) := ⟨_, fun _ => rfl⟩
  obtain ⟨U, hU⟩ : ∃ U : Nat → Nat, ∀ k, U k = H k * 2 ^ (64 * 4) % rN := ⟨_, fun _ => rfl⟩
  have hf0 : f 0 = s.size % 32 := by rw [hf, Nat.mul_zero, Nat.add_zero]
  have hh : f 0 ≤ 32 := by rw [hf0]; omega
  have hh2 : f 0 < 32 := by rw [hf0]; omega
  have hf0s : f 0 ≤ s.size := by rw [hf0]; exact Nat.mod_le _ _
  obtain ⟨qq, hq⟩ : ∃ q, q = 32 - f 0 := ⟨_, rfl⟩
  have hsz : s.size < 9223372036854775808 := by omega
  have hfs : ∀ k, f (k + 1) = f k + 32 := fun k => by rw [hf, hf]; omega
  have hfe : ∀ k, k < n → f (k + 1) ≤ s.size := fun k hk => by rw [hf]; omega
  have hfb : ∀ k, k < n → f (k + 1) < 9223372036854775808 := fun k hk => by have := hfe k hk; omega
  have hfm : ∀ k, f k ≤ f (k + 1) := fun k => by rw [hfs]; omega
  have hlt : ∀ k, k < n → true = decide (f k < s.size) := fun k hk => (decide_eq_true (by have := hfe k hk; rw [hfs] at this; omega)).symm
  have hfn : f n = s.size := by rw [hf]; omega
  have hend : false = decide (f n < s.size) := (decide_eq_false (by rw [hfn]; exact Nat.lt_irrefl _)).symm
  have hcat : (zer qq).size + (s.extract 0 (f 0)).size ≤ 100 := by rw [zer_size, ByteArray.size_extract]; omega
  have HR : ∀ W, Calls Try.prog 23 #[.string ⟨#[0]⟩, .int .i64 (qq : Int)] W (Is (.string (zer qq)) W) := fun W => Try.strings_Repeat ⟨#[0]⟩ qq W (by omega) (by show 1 * qq ≤ _; omega)
  have HZ : ∀ W, Calls Try.prog 15 #[.string (zer qq ++ s.extract 0 (f 0))] W (Is (nv 4 [H 0]) W) := fun W => frread_b _ W (head_size s hq hh2 hf0s) (H 0) (by rw [hH, head_val s hh2 hf0s])
  have HM : ∀ k W, Calls Try.prog 24 #[nv 4 [H k]] W (Is (nv 4 [U k]) W) := fun k W => frmoveUp_b (H k) W (by rw [hH]; exact hsh_lt _ _) (U k) (hU k)
  have hbs : ∀ k, k < n → (s.extract (f k) (f (k + 1))).size = 32 := fun k hk => by
    have := hfe k hk
    rw [ByteArray.size_extract, hfs]
    rw [hfs] at this
    omega
  have HS : ∀ k, k < n → ∀ W, Calls Try.prog 15 #[.string (s.extract (f k) (f (k + 1)))] W (Is (nv 4 [B k]) W) := fun k hk W => frread_b _ W (hbs k hk) (B k) (hB k)
  have HA : ∀ k, k < n → ∀ W, Calls Try.prog 19 #[nv 4 [U k], nv 4 [B k]] W (Is (nv 4 [H (k + 1)]) W) := fun k hk W => by
    have h1 : U k < frB := by rw [hU]; exact Nat.lt_trans (frM_mod _) frM_lt
    have h2 : B k < frB := by rw [hB]; exact frGot_bytes (hbs k hk)
    refine frAdd_n (U k) (B k) W h1 h2 _ ?_
    have h3 := hfe k hk
    rw [hfs] at h3
    rw [hH, hfs, hsh_block s (f k) h3, hU, hH, hB, hfs]
  rw [show v = H n by rw [hv, hH, hfn]]
  clear hv hf hH hB hU hbs hn hfn hh2
  go_enter Try.func11, Try.ntmps11
  refine seq_lit ?_
  refine sq_new (a' := ⟨List.toArray ((.string s) :: undef :: (.pointer (some ⟨w.heap.size, 0, none⟩)) :: undef :: undef :: undef :: undef :: undef :: undef :: undef :: undef :: undef :: undef :: undef :: undef :: undef :: undef :: undef :: undef :: undef :: undef :: undef :: undef :: undef :: undef :: undef :: undef :: undef :: undef :: undef :: undef :: undef :: undef :: undef :: []), []⟩) (xs := rows 4 [0]) rfl rfl (ex_alloc zFr) ?_
  intro w1 N1 hb1
  have HB2 := below_then (Below.refl w.heap.size w) hb1
  refine seq_nil ?_
  refine seq_lit ?_
  refine sq_val (a' := ⟨List.toArray ((.string s) :: undef :: (.pointer (some ⟨w.heap.size, 0, none⟩)) :: undef :: undef :: undef :: (.string s) :: undef :: undef :: undef :: undef :: undef :: undef :: undef :: undef :: undef :: undef :: undef :: undef :: undef :: undef :: undef :: undef :: undef :: undef :: undef :: undef :: undef :: undef :: undef :: undef :: undef :: undef :: undef :: []), []⟩) (v := .string s) rfl rfl (ex_move _) ?_
  refine sq_val (a' := ⟨List.toArray ((.string s) :: undef :: (.pointer (some ⟨w.heap.size, 0, none⟩)) :: undef :: undef :: undef :: (.string s) :: (.int .i64 (s.size : Int)) :: undef :: undef :: undef :: undef :: undef :: undef :: undef :: undef :: undef :: undef :: undef :: undef :: undef :: undef :: undef :: undef :: undef :: undef :: undef :: undef :: undef :: undef :: undef :: undef :: undef :: undef :: []), []⟩) (v := .int .i64 (s.size : Int)) rfl rfl (ex_lenS rfl rfl) ?_
  refine sq_val (a' := ⟨List.toArray ((.string s) :: undef :: (.pointer (some ⟨w.heap.size, 0, none⟩)) :: undef :: undef :: undef :: (.string s) :: (.int .i64 (s.size : Int)) :: (.int .i64 ((f 0 : Nat) : Int)) :: undef :: undef :: undef :: undef :: undef :: undef :: undef :: undef :: undef :: undef :: undef :: undef :: undef :: undef :: undef :: undef :: undef :: undef :: undef :: undef :: undef :: undef :: undef :: undef :: undef :: []), []⟩) (v := .int .i64 ((f 0 : Nat) : Int)) rfl rfl (ex_remN rfl rfl (by decide) hsz hf0) ?_
  refine sq_val (a' := ⟨List.toArray ((.string s) :: undef :: (.pointer (some ⟨w.heap.size, 0, none⟩)) :: (.int .i64 ((f 0 : Nat) : Int)) :: undef :: undef :: (.string s) :: (.int .i64 (s.size : Int)) :: (.int .i64 ((f 0 : Nat) : Int)) :: undef :: undef :: undef :: undef :: undef :: undef :: undef :: undef :: undef :: undef :: undef :: undef :: undef :: undef :: undef :: undef :: undef :: undef :: undef :: undef :: undef :: undef :: undef :: undef :: undef :: []), []⟩) (v := .int .i64 ((f 0 : Nat) : Int)) rfl rfl (ex_assign _) ?_
  refine seq_nil ?_
  refine wp_seq (wp_region_one (F := fun γ => ⟨List.toArray ((.string s) :: undef :: (.pointer (some ⟨w.heap.size, 0, none⟩)) :: (.int .i64 ((f 0 : Nat) : Int)) :: (.pointer (some ⟨γ, 0, none⟩)) :: undef :: (.string s) :: (.int .i64 (s.size : Int)) :: (.int .i64 ((f 0 : Nat) : Int)) :: (.int .i64 ((f 0 : Nat) : Int)) :: (.int .i64 ((qq : Nat) : Int)) :: (.string (zer qq)) :: (.string s) :: (.int .i64 ((f 0 : Nat) : Int)) :: (.string (s.extract 0 (f 0))) :: (.string (zer qq ++ s.extract 0 (f 0))) :: (nv 4 [(H 0)]) :: undef :: undef :: undef :: undef :: undef :: undef :: undef :: undef :: undef :: undef :: undef :: undef :: undef :: undef :: undef :: undef :: undef :: []), []⟩) 24 4 8 9 [0] [(H 0)] [(4, .pointer (some ⟨0, 0, none⟩)), (9, .int .i64 ((f 0 : Nat) : Int)), (10, .int .i64 ((qq : Nat) : Int)), (11, .string (zer qq)), (12, .string s), (13, .int .i64 ((f 0 : Nat) : Int)), (14, .string (s.extract 0 (f 0))), (15, .string (zer qq ++ s.extract 0 (f 0))), (16, nv 4 [(H 0)])] (by kernel_rfl) (by kernel_rfl) (by kernel_rfl) (by kernel_rfl) rfl (by simp only [putAll, List.setIfInBounds_toArray, List.set_cons_zero, List.set_cons_succ]) rfl rfl ?_ ?_)
  · refine GSteps.cons (g1_val (v := .int .i64 ((f 0 : Nat) : Int)) rfl (fun γ => rfl) (fun γ => rfl) (fun γ W' h => ex_move _) rfl rfl) ?_
    refine GSteps.cons (g1_val (v := .int .i64 ((qq : Nat) : Int)) rfl (fun γ => rfl) (fun γ => rfl) (fun γ W' h => ex_subN rfl rfl hh (by decide) hq) rfl rfl) ?_
    refine GSteps.cons (g1_call (v := .string (zer qq)) rfl (fun γ => rfl) (fun γ => rfl) (fun γ W' => ex_call (vs := [.string ⟨#[0]⟩, .int .i64 ((qq : Nat) : Int)]) rfl Try.call23 rfl) (fun W' h => HR _) rfl rfl) ?_
    refine GSteps.cons (g1_val (v := .string s) rfl (fun γ => rfl) (fun γ => rfl) (fun γ W' h => ex_move _) rfl rfl) ?_
    refine GSteps.cons (g1_val (v := .int .i64 ((f 0 : Nat) : Int)) rfl (fun γ => rfl) (fun γ => rfl) (fun γ W' h => ex_move _) rfl rfl) ?_
    refine GSteps.cons (g1_val (v := .string (s.extract 0 (f 0))) rfl (fun γ => rfl) (fun γ => rfl) (fun γ W' h => ex_cutTo rfl rfl hf0s) rfl rfl) ?_
    refine GSteps.cons (g1_val (v := .string (zer qq ++ s.extract 0 (f 0))) rfl (fun γ => rfl) (fun γ => rfl) (fun γ W' h => ex_catN rfl rfl hcat) rfl rfl) ?_
    refine GSteps.cons (g1_call (v := nv 4 [(H 0)]) rfl (fun γ => rfl) (fun γ => rfl) (fun γ W' => ex_call (vs := [.string (zer qq ++ s.extract 0 (f 0))]) rfl Try.call15 rfl) (fun W' h => HZ _) rfl rfl) ?_
    refine GSteps.cons (g1_new (fun γ => rfl) (fun γ n => rfl) (fun γ W' => ex_alloc zFr) rfl rfl (by kernel_rfl)) ?_
    refine GSteps.cons (g1_store rfl (fun γ => rfl) rfl (fun γ W' hA => ex_storen (K := 4) (l := [0]) (m := [(H 0)]) flFr rfl rfl hA rfl) rfl rfl (by kernel_rfl)) ?_
    exact GSteps.nil
  intro g3 w3 hb3 le3 N3
  refine then_nR ?_
  have A4 := N1.keep hb3.out
  have HB5 := below_then HB2 hb3.out
  refine wp_seq ?_
  refine seq_lit ?_
  refine sq_val (a' := ⟨List.toArray ((.string s) :: undef :: (.pointer (some ⟨w.heap.size, 0, none⟩)) :: (.int .i64 ((f 0 : Nat) : Int)) :: (.pointer (some ⟨g3, 0, none⟩)) :: undef :: (.string s) :: (.int .i64 (s.size : Int)) :: (.int .i64 ((f 0 : Nat) : Int)) :: (.int .i64 ((f 0 : Nat) : Int)) :: (.int .i64 ((qq : Nat) : Int)) :: (.string (zer qq)) :: (.string s) :: (.int .i64 ((f 0 : Nat) : Int)) :: (.string (s.extract 0 (f 0))) :: (.string (zer qq ++ s.extract 0 (f 0))) :: (nv 4 [(H 0)]) :: (.int .i64 ((f 0 : Nat) : Int)) :: undef :: undef :: undef :: undef :: undef :: undef :: undef :: undef :: undef :: undef :: undef :: undef :: undef :: undef :: undef :: undef :: []), []⟩) (v := .int .i64 ((f 0 : Nat) : Int)) rfl rfl (ex_move _) ?_
  refine sq_val (a' := ⟨List.toArray ((.string s) :: undef :: (.pointer (some ⟨w.heap.size, 0, none⟩)) :: (.int .i64 ((f 0 : Nat) : Int)) :: (.pointer (some ⟨g3, 0, none⟩)) :: (.int .i64 ((f 0 : Nat) : Int)) :: (.string s) :: (.int .i64 (s.size : Int)) :: (.int .i64 ((f 0 : Nat) : Int)) :: (.int .i64 ((f 0 : Nat) : Int)) :: (.int .i64 ((qq : Nat) : Int)) :: (.string (zer qq)) :: (.string s) :: (.int .i64 ((f 0 : Nat) : Int)) :: (.string (s.extract 0 (f 0))) :: (.string (zer qq ++ s.extract 0 (f 0))) :: (nv 4 [(H 0)]) :: (.int .i64 ((f 0 : Nat) : Int)) :: undef :: undef :: undef :: undef :: undef :: undef :: undef :: undef :: undef :: undef :: undef :: undef :: undef :: undef :: undef :: undef :: []), []⟩) (v := .int .i64 ((f 0 : Nat) : Int)) rfl rfl (ex_assign _) ?_
  refine seq_nil ?_
  refine wp_block ?_
  refine wp_loop_ind (n) (fun q a v => ∃ j18 j19 j20 j21 j22 j23 j24 j25 j26 j27 j28 j29 j30 j31 j32 : Value, a = ⟨List.toArray ((.string s) :: undef :: (.pointer (some ⟨w.heap.size, 0, none⟩)) :: (.int .i64 ((f 0 : Nat) : Int)) :: (.pointer (some ⟨g3, 0, none⟩)) :: (.int .i64 ((f q : Nat) : Int)) :: (.string s) :: (.int .i64 (s.size : Int)) :: (.int .i64 ((f 0 : Nat) : Int)) :: (.int .i64 ((f 0 : Nat) : Int)) :: (.int .i64 ((qq : Nat) : Int)) :: (.string (zer qq)) :: (.string s) :: (.int .i64 ((f 0 : Nat) : Int)) :: (.string (s.extract 0 (f 0))) :: (.string (zer qq ++ s.extract 0 (f 0))) :: (nv 4 [(H 0)]) :: (.int .i64 ((f 0 : Nat) : Int)) :: j18 :: j19 :: j20 :: j21 :: j22 :: j23 :: j24 :: j25 :: j26 :: j27 :: j28 :: j29 :: j30 :: j31 :: j32 :: undef :: []), []⟩ ∧ Arr 24 v (w.heap.size) (rows 4 [0]) ∧ Arr 24 v (g3) (rows 4 [(H q)]) ∧ Below w.heap.size w v) ⟨_, _, _, _, _, _, _, _, _, _, _, _, _, _, _, rfl, A4, N3, HB5⟩ ?_ ?_
  · intro k6 hk6
    rintro _ w6 ⟨i6_18, i6_19, i6_20, i6_21, i6_22, i6_23, i6_24, i6_25, i6_26, i6_27, i6_28, i6_29, i6_30, i6_31, i6_32, rfl, A6_0, A6_1, HB6⟩ K6 hK6
    refine wp_seq ?_
    refine seq_lit ?_
    refine sq_val (a' := ⟨List.toArray ((.string s) :: undef :: (.pointer (some ⟨w.heap.size, 0, none⟩)) :: (.int .i64 ((f 0 : Nat) : Int)) :: (.pointer (some ⟨g3, 0, none⟩)) :: (.int .i64 ((f k6 : Nat) : Int)) :: (.string s) :: (.int .i64 (s.size : Int)) :: (.int .i64 ((f 0 : Nat) : Int)) :: (.int .i64 ((f 0 : Nat) : Int)) :: (.int .i64 ((qq : Nat) : Int)) :: (.string (zer qq)) :: (.string s) :: (.int .i64 ((f 0 : Nat) : Int)) :: (.string (s.extract 0 (f 0))) :: (.string (zer qq ++ s.extract 0 (f 0))) :: (nv 4 [(H 0)]) :: (.int .i64 ((f 0 : Nat) : Int)) :: (.int .i64 ((f k6 : Nat) : Int)) :: i6_19 :: i6_20 :: i6_21 :: i6_22 :: i6_23 :: i6_24 :: i6_25 :: i6_26 :: i6_27 :: i6_28 :: i6_29 :: i6_30 :: i6_31 :: i6_32 :: undef :: []), []⟩) (v := .int .i64 ((f k6 : Nat) : Int)) rfl rfl (ex_move _) ?_
    refine sq_val (a' := ⟨List.toArray ((.string s) :: undef :: (.pointer (some ⟨w.heap.size, 0, none⟩)) :: (.int .i64 ((f 0 : Nat) : Int)) :: (.pointer (some ⟨g3, 0, none⟩)) :: (.int .i64 ((f k6 : Nat) : Int)) :: (.string s) :: (.int .i64 (s.size : Int)) :: (.int .i64 ((f 0 : Nat) : Int)) :: (.int .i64 ((f 0 : Nat) : Int)) :: (.int .i64 ((qq : Nat) : Int)) :: (.string (zer qq)) :: (.string s) :: (.int .i64 ((f 0 : Nat) : Int)) :: (.string (s.extract 0 (f 0))) :: (.string (zer qq ++ s.extract 0 (f 0))) :: (nv 4 [(H 0)]) :: (.int .i64 ((f 0 : Nat) : Int)) :: (.int .i64 ((f k6 : Nat) : Int)) :: (.string s) :: i6_20 :: i6_21 :: i6_22 :: i6_23 :: i6_24 :: i6_25 :: i6_26 :: i6_27 :: i6_28 :: i6_29 :: i6_30 :: i6_31 :: i6_32 :: undef :: []), []⟩) (v := .string s) rfl rfl (ex_move _) ?_
    refine sq_val (a' := ⟨List.toArray ((.string s) :: undef :: (.pointer (some ⟨w.heap.size, 0, none⟩)) :: (.int .i64 ((f 0 : Nat) : Int)) :: (.pointer (some ⟨g3, 0, none⟩)) :: (.int .i64 ((f k6 : Nat) : Int)) :: (.string s) :: (.int .i64 (s.size : Int)) :: (.int .i64 ((f 0 : Nat) : Int)) :: (.int .i64 ((f 0 : Nat) : Int)) :: (.int .i64 ((qq : Nat) : Int)) :: (.string (zer qq)) :: (.string s) :: (.int .i64 ((f 0 : Nat) : Int)) :: (.string (s.extract 0 (f 0))) :: (.string (zer qq ++ s.extract 0 (f 0))) :: (nv 4 [(H 0)]) :: (.int .i64 ((f 0 : Nat) : Int)) :: (.int .i64 ((f k6 : Nat) : Int)) :: (.string s) :: (.int .i64 (s.size : Int)) :: i6_21 :: i6_22 :: i6_23 :: i6_24 :: i6_25 :: i6_26 :: i6_27 :: i6_28 :: i6_29 :: i6_30 :: i6_31 :: i6_32 :: undef :: []), []⟩) (v := .int .i64 (s.size : Int)) rfl rfl (ex_lenS rfl rfl) ?_
    refine sq_val (a' := ⟨List.toArray ((.string s) :: undef :: (.pointer (some ⟨w.heap.size, 0, none⟩)) :: (.int .i64 ((f 0 : Nat) : Int)) :: (.pointer (some ⟨g3, 0, none⟩)) :: (.int .i64 ((f k6 : Nat) : Int)) :: (.string s) :: (.int .i64 (s.size : Int)) :: (.int .i64 ((f 0 : Nat) : Int)) :: (.int .i64 ((f 0 : Nat) : Int)) :: (.int .i64 ((qq : Nat) : Int)) :: (.string (zer qq)) :: (.string s) :: (.int .i64 ((f 0 : Nat) : Int)) :: (.string (s.extract 0 (f 0))) :: (.string (zer qq ++ s.extract 0 (f 0))) :: (nv 4 [(H 0)]) :: (.int .i64 ((f 0 : Nat) : Int)) :: (.int .i64 ((f k6 : Nat) : Int)) :: (.string s) :: (.int .i64 (s.size : Int)) :: (.bool true) :: i6_22 :: i6_23 :: i6_24 :: i6_25 :: i6_26 :: i6_27 :: i6_28 :: i6_29 :: i6_30 :: i6_31 :: i6_32 :: undef :: []), []⟩) (v := .bool true) rfl rfl (ex_lssN rfl rfl true (hlt k6 hk6)) ?_
    refine seq_nil ?_
    refine wp_cond_true rfl ?_
    refine wp_skip ?_
    refine then_nR ?_
    refine wp_seq ?_
    refine wp_block ?_
    refine wp_region_last (F := ⟨List.toArray ((.string s) :: undef :: (.pointer (some ⟨w.heap.size, 0, none⟩)) :: (.int .i64 ((f 0 : Nat) : Int)) :: (.pointer (some ⟨g3, 0, none⟩)) :: (.int .i64 ((f k6 : Nat) : Int)) :: (.string s) :: (.int .i64 (s.size : Int)) :: (.int .i64 ((f 0 : Nat) : Int)) :: (.int .i64 ((f 0 : Nat) : Int)) :: (.int .i64 ((qq : Nat) : Int)) :: (.string (zer qq)) :: (.string s) :: (.int .i64 ((f 0 : Nat) : Int)) :: (.string (s.extract 0 (f 0))) :: (.string (zer qq ++ s.extract 0 (f 0))) :: (nv 4 [(H 0)]) :: (.int .i64 ((f 0 : Nat) : Int)) :: (.int .i64 ((f k6 : Nat) : Int)) :: (.string s) :: (.int .i64 (s.size : Int)) :: (.bool true) :: i6_22 :: i6_23 :: (nv 4 [(H k6)]) :: (nv 4 [(U k6)]) :: (.string s) :: (.int .i64 ((f k6 : Nat) : Int)) :: (.int .i64 ((f k6 : Nat) : Int)) :: (.int .i64 ((f (k6 + 1) : Nat) : Int)) :: (.string (s.extract (f k6) (f (k6 + 1)))) :: (nv 4 [(B k6)]) :: (nv 4 [(H (k6 + 1))]) :: undef :: []), []⟩) (S := Bel w6) [(24, nv 4 [(H k6)]), (25, nv 4 [(U k6)]), (26, .string s), (27, .int .i64 ((f k6 : Nat) : Int)), (28, .int .i64 ((f k6 : Nat) : Int)), (29, .int .i64 ((f (k6 + 1) : Nat) : Int)), (30, .string (s.extract (f k6) (f (k6 + 1)))), (31, nv 4 [(B k6)]), (32, nv 4 [(H (k6 + 1))])] 9 _ (by kernel_rfl) (by kernel_rfl) (by kernel_rfl) (by kernel_rfl) rfl rfl (by kernel_rfl) rfl (by simp only [putAll, List.setIfInBounds_toArray, List.set_cons_zero, List.set_cons_succ]) (Bel.start _) ?_ ?_
    · refine PlanInit.cons (ps_val (v := nv 4 [(H k6)]) rfl rfl rfl (fun W' h => ex_loadn (K := 4) (k := 0) (j := 1) (l := [(H k6)]) flFr rfl (A6_1.keep h.out) rfl _ rfl)) ?_
      refine PlanInit.cons (ps_call (v := nv 4 [(U k6)]) rfl rfl rfl (fun W' => ex_call (vs := [nv 4 [(H k6)]]) rfl Try.call24 rfl) (fun W' h => HM k6 _)) ?_
      refine PlanInit.cons (ps_val (v := .string s) rfl rfl rfl (fun W' h => ex_move _)) ?_
      refine PlanInit.cons (ps_val (v := .int .i64 ((f k6 : Nat) : Int)) rfl rfl rfl (fun W' h => ex_move _)) ?_
      refine PlanInit.cons (ps_val (v := .int .i64 ((f k6 : Nat) : Int)) rfl rfl rfl (fun W' h => ex_move _)) ?_
      refine PlanInit.cons (ps_val (v := .int .i64 ((f (k6 + 1) : Nat) : Int)) rfl rfl rfl (fun W' h => ex_addN rfl rfl (hfb k6 hk6) (hfs k6))) ?_
      refine PlanInit.cons (ps_val (v := .string (s.extract (f k6) (f (k6 + 1)))) rfl rfl rfl (fun W' h => ex_cutFT rfl rfl rfl (hfm k6) (hfe k6 hk6))) ?_
      refine PlanInit.cons (ps_call (v := nv 4 [(B k6)]) rfl rfl rfl (fun W' => ex_call (vs := [.string (s.extract (f k6) (f (k6 + 1)))]) rfl Try.call15 rfl) (fun W' h => HS k6 hk6 _)) ?_
      refine PlanInit.cons (ps_call (v := nv 4 [(H (k6 + 1))]) rfl rfl rfl (fun W' => ex_call (vs := [nv 4 [(U k6)], nv 4 [(B k6)]]) rfl Try.call19 rfl) (fun W' h => HA k6 hk6 _)) ?_
      exact PlanInit.one
    refine last_store (t := 24) (xs := rows 4 [(H k6)]) (ys := rows 4 [(H (k6 + 1))]) rfl rfl (fun W' h => A6_1.keep h.out) (len_rows rfl) (fun W' h => ex_storen (K := 4) (l := [(H k6)]) (m := [(H (k6 + 1))]) flFr rfl rfl (A6_1.keep h.out) rfl) ?_
    intro w7 w8 hb7 N8 hst8 hoth8
    have A9 := A6_0.keep hb7.out
    have A10 := A6_1.keep hb7.out
    have HB11 := below_then HB6 hb7.out
    have A12 := hoth8 _ _ _ (Nat.ne_of_lt (Nat.lt_of_lt_of_le N1.lt le3)) A9
    have HB13 := hst8 _ _ HB11 (Nat.le_trans HB2.size le3)
    refine inblock_l ?_
    refine then_nR ?_
    refine wp_region_lit ?_
    refine sq_val (a' := ⟨List.toArray ((.string s) :: undef :: (.pointer (some ⟨w.heap.size, 0, none⟩)) :: (.int .i64 ((f 0 : Nat) : Int)) :: (.pointer (some ⟨g3, 0, none⟩)) :: (.int .i64 ((f k6 : Nat) : Int)) :: (.string s) :: (.int .i64 (s.size : Int)) :: (.int .i64 ((f 0 : Nat) : Int)) :: (.int .i64 ((f 0 : Nat) : Int)) :: (.int .i64 ((qq : Nat) : Int)) :: (.string (zer qq)) :: (.string s) :: (.int .i64 ((f 0 : Nat) : Int)) :: (.string (s.extract 0 (f 0))) :: (.string (zer qq ++ s.extract 0 (f 0))) :: (nv 4 [(H 0)]) :: (.int .i64 ((f 0 : Nat) : Int)) :: (.int .i64 ((f k6 : Nat) : Int)) :: (.string s) :: (.int .i64 (s.size : Int)) :: (.bool true) :: (.int .i64 ((f k6 : Nat) : Int)) :: i6_23 :: (nv 4 [(H k6)]) :: (nv 4 [(U k6)]) :: (.string s) :: (.int .i64 ((f k6 : Nat) : Int)) :: (.int .i64 ((f k6 : Nat) : Int)) :: (.int .i64 ((f (k6 + 1) : Nat) : Int)) :: (.string (s.extract (f k6) (f (k6 + 1)))) :: (nv 4 [(B k6)]) :: (nv 4 [(H (k6 + 1))]) :: undef :: []), []⟩) (v := .int .i64 ((f k6 : Nat) : Int)) rfl rfl (ex_move _) ?_
    refine sq_val (a' := ⟨List.toArray ((.string s) :: undef :: (.pointer (some ⟨w.heap.size, 0, none⟩)) :: (.int .i64 ((f 0 : Nat) : Int)) :: (.pointer (some ⟨g3, 0, none⟩)) :: (.int .i64 ((f k6 : Nat) : Int)) :: (.string s) :: (.int .i64 (s.size : Int)) :: (.int .i64 ((f 0 : Nat) : Int)) :: (.int .i64 ((f 0 : Nat) : Int)) :: (.int .i64 ((qq : Nat) : Int)) :: (.string (zer qq)) :: (.string s) :: (.int .i64 ((f 0 : Nat) : Int)) :: (.string (s.extract 0 (f 0))) :: (.string (zer qq ++ s.extract 0 (f 0))) :: (nv 4 [(H 0)]) :: (.int .i64 ((f 0 : Nat) : Int)) :: (.int .i64 ((f k6 : Nat) : Int)) :: (.string s) :: (.int .i64 (s.size : Int)) :: (.bool true) :: (.int .i64 ((f k6 : Nat) : Int)) :: (.int .i64 ((f (k6 + 1) : Nat) : Int)) :: (nv 4 [(H k6)]) :: (nv 4 [(U k6)]) :: (.string s) :: (.int .i64 ((f k6 : Nat) : Int)) :: (.int .i64 ((f k6 : Nat) : Int)) :: (.int .i64 ((f (k6 + 1) : Nat) : Int)) :: (.string (s.extract (f k6) (f (k6 + 1)))) :: (nv 4 [(B k6)]) :: (nv 4 [(H (k6 + 1))]) :: undef :: []), []⟩) (v := .int .i64 ((f (k6 + 1) : Nat) : Int)) rfl rfl (ex_addN rfl rfl (hfb k6 hk6) (hfs k6)) ?_
    refine sq_val (a' := ⟨List.toArray ((.string s) :: undef :: (.pointer (some ⟨w.heap.size, 0, none⟩)) :: (.int .i64 ((f 0 : Nat) : Int)) :: (.pointer (some ⟨g3, 0, none⟩)) :: (.int .i64 ((f (k6 + 1) : Nat) : Int)) :: (.string s) :: (.int .i64 (s.size : Int)) :: (.int .i64 ((f 0 : Nat) : Int)) :: (.int .i64 ((f 0 : Nat) : Int)) :: (.int .i64 ((qq : Nat) : Int)) :: (.string (zer qq)) :: (.string s) :: (.int .i64 ((f 0 : Nat) : Int)) :: (.string (s.extract 0 (f 0))) :: (.string (zer qq ++ s.extract 0 (f 0))) :: (nv 4 [(H 0)]) :: (.int .i64 ((f 0 : Nat) : Int)) :: (.int .i64 ((f k6 : Nat) : Int)) :: (.string s) :: (.int .i64 (s.size : Int)) :: (.bool true) :: (.int .i64 ((f k6 : Nat) : Int)) :: (.int .i64 ((f (k6 + 1) : Nat) : Int)) :: (nv 4 [(H k6)]) :: (nv 4 [(U k6)]) :: (.string s) :: (.int .i64 ((f k6 : Nat) : Int)) :: (.int .i64 ((f k6 : Nat) : Int)) :: (.int .i64 ((f (k6 + 1) : Nat) : Int)) :: (.string (s.extract (f k6) (f (k6 + 1)))) :: (nv 4 [(B k6)]) :: (nv 4 [(H (k6 + 1))]) :: undef :: []), []⟩) (v := .int .i64 ((f (k6 + 1) : Nat) : Int)) rfl rfl (ex_assign _) ?_
    refine wpList_nil ?_
    refine then_l ?_
    exact hK6.out _ _ ⟨_, _, _, _, _, _, _, _, _, _, _, _, _, _, _, rfl, A12, N8, HB13⟩
  · rintro _ w14 ⟨i14_18, i14_19, i14_20, i14_21, i14_22, i14_23, i14_24, i14_25, i14_26, i14_27, i14_28, i14_29, i14_30, i14_31, i14_32, rfl, A14_0, A14_1, HB14⟩ K14
    refine wp_seq ?_
    refine seq_lit ?_
    refine sq_val (a' := ⟨List.toArray ((.string s) :: undef :: (.pointer (some ⟨w.heap.size, 0, none⟩)) :: (.int .i64 ((f 0 : Nat) : Int)) :: (.pointer (some ⟨g3, 0, none⟩)) :: (.int .i64 ((f n : Nat) : Int)) :: (.string s) :: (.int .i64 (s.size : Int)) :: (.int .i64 ((f 0 : Nat) : Int)) :: (.int .i64 ((f 0 : Nat) : Int)) :: (.int .i64 ((qq : Nat) : Int)) :: (.string (zer qq)) :: (.string s) :: (.int .i64 ((f 0 : Nat) : Int)) :: (.string (s.extract 0 (f 0))) :: (.string (zer qq ++ s.extract 0 (f 0))) :: (nv 4 [(H 0)]) :: (.int .i64 ((f 0 : Nat) : Int)) :: (.int .i64 ((f n : Nat) : Int)) :: i14_19 :: i14_20 :: i14_21 :: i14_22 :: i14_23 :: i14_24 :: i14_25 :: i14_26 :: i14_27 :: i14_28 :: i14_29 :: i14_30 :: i14_31 :: i14_32 :: undef :: []), []⟩) (v := .int .i64 ((f n : Nat) : Int)) rfl rfl (ex_move _) ?_
    refine sq_val (a' := ⟨List.toArray ((.string s) :: undef :: (.pointer (some ⟨w.heap.size, 0, none⟩)) :: (.int .i64 ((f 0 : Nat) : Int)) :: (.pointer (some ⟨g3, 0, none⟩)) :: (.int .i64 ((f n : Nat) : Int)) :: (.string s) :: (.int .i64 (s.size : Int)) :: (.int .i64 ((f 0 : Nat) : Int)) :: (.int .i64 ((f 0 : Nat) : Int)) :: (.int .i64 ((qq : Nat) : Int)) :: (.string (zer qq)) :: (.string s) :: (.int .i64 ((f 0 : Nat) : Int)) :: (.string (s.extract 0 (f 0))) :: (.string (zer qq ++ s.extract 0 (f 0))) :: (nv 4 [(H 0)]) :: (.int .i64 ((f 0 : Nat) : Int)) :: (.int .i64 ((f n : Nat) : Int)) :: (.string s) :: i14_20 :: i14_21 :: i14_22 :: i14_23 :: i14_24 :: i14_25 :: i14_26 :: i14_27 :: i14_28 :: i14_29 :: i14_30 :: i14_31 :: i14_32 :: undef :: []), []⟩) (v := .string s) rfl rfl (ex_move _) ?_
    refine sq_val (a' := ⟨List.toArray ((.string s) :: undef :: (.pointer (some ⟨w.heap.size, 0, none⟩)) :: (.int .i64 ((f 0 : Nat) : Int)) :: (.pointer (some ⟨g3, 0, none⟩)) :: (.int .i64 ((f n : Nat) : Int)) :: (.string s) :: (.int .i64 (s.size : Int)) :: (.int .i64 ((f 0 : Nat) : Int)) :: (.int .i64 ((f 0 : Nat) : Int)) :: (.int .i64 ((qq : Nat) : Int)) :: (.string (zer qq)) :: (.string s) :: (.int .i64 ((f 0 : Nat) : Int)) :: (.string (s.extract 0 (f 0))) :: (.string (zer qq ++ s.extract 0 (f 0))) :: (nv 4 [(H 0)]) :: (.int .i64 ((f 0 : Nat) : Int)) :: (.int .i64 ((f n : Nat) : Int)) :: (.string s) :: (.int .i64 (s.size : Int)) :: i14_21 :: i14_22 :: i14_23 :: i14_24 :: i14_25 :: i14_26 :: i14_27 :: i14_28 :: i14_29 :: i14_30 :: i14_31 :: i14_32 :: undef :: []), []⟩) (v := .int .i64 (s.size : Int)) rfl rfl (ex_lenS rfl rfl) ?_
    refine sq_val (a' := ⟨List.toArray ((.string s) :: undef :: (.pointer (some ⟨w.heap.size, 0, none⟩)) :: (.int .i64 ((f 0 : Nat) : Int)) :: (.pointer (some ⟨g3, 0, none⟩)) :: (.int .i64 ((f n : Nat) : Int)) :: (.string s) :: (.int .i64 (s.size : Int)) :: (.int .i64 ((f 0 : Nat) : Int)) :: (.int .i64 ((f 0 : Nat) : Int)) :: (.int .i64 ((qq : Nat) : Int)) :: (.string (zer qq)) :: (.string s) :: (.int .i64 ((f 0 : Nat) : Int)) :: (.string (s.extract 0 (f 0))) :: (.string (zer qq ++ s.extract 0 (f 0))) :: (nv 4 [(H 0)]) :: (.int .i64 ((f 0 : Nat) : Int)) :: (.int .i64 ((f n : Nat) : Int)) :: (.string s) :: (.int .i64 (s.size : Int)) :: (.bool false) :: i14_22 :: i14_23 :: i14_24 :: i14_25 :: i14_26 :: i14_27 :: i14_28 :: i14_29 :: i14_30 :: i14_31 :: i14_32 :: undef :: []), []⟩) (v := .bool false) rfl rfl (ex_lssN rfl rfl false hend) ?_
    refine seq_nil ?_
    refine wp_cond_false rfl ?_
    refine wp_exit ((then_x (then_x (exit_l ?_))))
    refine then_nR ?_
    refine seq_lit ?_
    refine sq_val (a' := ⟨List.toArray ((.string s) :: undef :: (.pointer (some ⟨w.heap.size, 0, none⟩)) :: (.int .i64 ((f 0 : Nat) : Int)) :: (.pointer (some ⟨g3, 0, none⟩)) :: (.int .i64 ((f n : Nat) : Int)) :: (.string s) :: (.int .i64 (s.size : Int)) :: (.int .i64 ((f 0 : Nat) : Int)) :: (.int .i64 ((f 0 : Nat) : Int)) :: (.int .i64 ((qq : Nat) : Int)) :: (.string (zer qq)) :: (.string s) :: (.int .i64 ((f 0 : Nat) : Int)) :: (.string (s.extract 0 (f 0))) :: (.string (zer qq ++ s.extract 0 (f 0))) :: (nv 4 [(H 0)]) :: (.int .i64 ((f 0 : Nat) : Int)) :: (.int .i64 ((f n : Nat) : Int)) :: (.string s) :: (.int .i64 (s.size : Int)) :: (.bool false) :: i14_22 :: i14_23 :: i14_24 :: i14_25 :: i14_26 :: i14_27 :: i14_28 :: i14_29 :: i14_30 :: i14_31 :: i14_32 :: (nv 4 [(H n)]) :: []), []⟩) (v := nv 4 [(H n)]) rfl rfl (ex_loadn (K := 4) (k := 0) (j := 1) (l := [(H n)]) flFr rfl A14_1 rfl _ rfl) ?_
    refine sq_store (a' := ⟨List.toArray ((.string s) :: undef :: (.pointer (some ⟨w.heap.size, 0, none⟩)) :: (.int .i64 ((f 0 : Nat) : Int)) :: (.pointer (some ⟨g3, 0, none⟩)) :: (.int .i64 ((f n : Nat) : Int)) :: (.string s) :: (.int .i64 (s.size : Int)) :: (.int .i64 ((f 0 : Nat) : Int)) :: (.int .i64 ((f 0 : Nat) : Int)) :: (.int .i64 ((qq : Nat) : Int)) :: (.string (zer qq)) :: (.string s) :: (.int .i64 ((f 0 : Nat) : Int)) :: (.string (s.extract 0 (f 0))) :: (.string (zer qq ++ s.extract 0 (f 0))) :: (nv 4 [(H 0)]) :: (.int .i64 ((f 0 : Nat) : Int)) :: (.int .i64 ((f n : Nat) : Int)) :: (.string s) :: (.int .i64 (s.size : Int)) :: (.bool false) :: i14_22 :: i14_23 :: i14_24 :: i14_25 :: i14_26 :: i14_27 :: i14_28 :: i14_29 :: i14_30 :: i14_31 :: i14_32 :: (nv 4 [(H n)]) :: []), []⟩) (t := 24) (xs := rows 4 [0]) (ys := rows 4 [(H n)]) rfl rfl A14_0 (len_rows rfl) (ex_storen (K := 4) (l := [0]) (m := [(H n)]) flFr rfl rfl A14_0 rfl) ?_
    intro w15 N15 hst15 hoth15
    have A16 := hoth15 _ _ _ (Ne.symm (Nat.ne_of_lt (Nat.lt_of_lt_of_le N1.lt le3))) A14_1
    have HB17 := hst15 _ _ HB14 (Nat.le_refl _)
    refine seq_nil ?_
    exact wp_ret (bodyPost_ret (ret_cellnR (K := 4) Try.results11 rfl N15 flFr) rfl ⟨rfl, HB17⟩)

set_option maxRecDepth 20000 in
set_option maxHeartbeats 4000000 in
theorem r3Hash_any (s : ByteArray) (w : World) (hs : s.size ≤ 5000) (v : Nat) (hv : v = hsh s s.size) :
    Calls Try.prog 12 #[.string s] w (Is (nv 4 [v]) w) := by
  obtain ⟨E, hE⟩ : ∃ E : Nat → Nat → Nat, ∀ k j, E k j = hsh s k * 2 ^ j % rN := ⟨_, fun _ _ => rfl⟩
  obtain ⟨Y, hYd⟩ : ∃ Y : Nat → Nat, ∀ k, Y k = if h : k < s.size then s[k].toNat else 0 := ⟨_, fun _ => rfl⟩
  have hsz : s.size < 9223372036854775808 := by omega
  have hY : ∀ k (hk : k < s.size), Y k = s[k].toNat := fun k hk => by rw [hYd, dif_pos hk]
  have hY2 : ∀ k, k < s.size → Y k < 256 := fun k hk => by rw [hY k hk]; exact UInt8.toNat_lt _
  have hY3 : ∀ k, k < s.size → Y k < 2 ^ 64 := fun k hk => Nat.lt_trans (hY2 k hk) (by decide)
  have hEP : ∀ k j, E k j < rN := fun k j => by rw [hE]; exact frM_mod _
  have hE0 : E 0 0 = 0 := by rw [hE, hsh_zero, Nat.zero_mul, Nat.zero_mod]
  have HD : ∀ k j W, Calls Try.prog 25 #[nv 4 [E k j], nv 4 [E k j]] W (Is (nv 4 [E k (j + 1)]) W) := fun k j W => r3Add_b _ _ W (Nat.lt_trans (Nat.add_lt_add (hEP k j) (hEP k j)) (by decide +kernel)) _ (by rw [hE, hE, double_mod])
  have HB : ∀ k, k < s.size → ∀ W, Calls Try.prog 25 #[nv 4 [E k 8], nv 4 [Y k]] W (Is (nv 4 [E (k + 1) 0]) W) := fun k hk W => r3Add_b _ _ W (Nat.lt_trans (Nat.add_lt_add (hEP k 8) (Nat.lt_trans (hY2 k hk) (show 256 < rN by decide +kernel))) (by decide +kernel)) _ (by rw [hE, hE, hY k hk, ← hsh_byte s k hk, Nat.pow_zero, Nat.mul_one, Nat.mod_eq_of_lt (hsh_lt _ _)])
  have hend : false = decide (s.size < s.size) := (decide_eq_false (Nat.lt_irrefl _)).symm
  rw [show v = E s.size 0 by rw [hv, hE, Nat.pow_zero, Nat.mul_one, Nat.mod_eq_of_lt (hsh_lt _ _)]]
  clear hv hE hYd hEP
  go_enter Try.func12, Try.ntmps12
  refine seq_lit ?_
  refine sq_new (a' := ⟨#[.string s, undef, .pointer (some ⟨w.heap.size, 0, none⟩), undef, undef, undef, undef, undef, undef, undef, undef, undef, undef, undef, undef, undef, undef, undef, undef, undef, undef, undef, undef, undef, undef, undef, undef, undef], []⟩) (xs := rows 4 [0]) rfl rfl (ex_alloc zFr) ?_
  intro w1 N1 hb1
  have HB2 := below_then (Below.refl w.heap.size w) hb1
  refine seq_nil ?_
  refine seq_lit ?_
  refine sq_val (a' := ⟨#[.string s, undef, .pointer (some ⟨w.heap.size, 0, none⟩), undef, undef, undef, nv 4 [0], undef, undef, undef, undef, undef, undef, undef, undef, undef, undef, undef, undef, undef, undef, undef, undef, undef, undef, undef, undef, undef], []⟩) (v := nv 4 [0]) rfl rfl (ex_zeroR) ?_
  refine sq_new (a' := ⟨#[.string s, undef, .pointer (some ⟨w.heap.size, 0, none⟩), .pointer (some ⟨w1.heap.size, 0, none⟩), undef, undef, nv 4 [0], undef, undef, undef, undef, undef, undef, undef, undef, undef, undef, undef, undef, undef, undef, undef, undef, undef, undef, undef, undef, undef], []⟩) (xs := rows 4 [0]) rfl rfl (ex_alloc zFr) ?_
  intro w3 N3 hb3
  have A4 := N1.keep hb3
  have HB5 := below_then HB2 hb3
  refine sq_store (a' := ⟨#[.string s, undef, .pointer (some ⟨w.heap.size, 0, none⟩), .pointer (some ⟨w1.heap.size, 0, none⟩), undef, undef, nv 4 [0], undef, undef, undef, undef, undef, undef, undef, undef, undef, undef, undef, undef, undef, undef, undef, undef, undef, undef, undef, undef, undef], []⟩) (t := 24) (xs := rows 4 [0]) (ys := rows 4 [0]) rfl rfl N3 (len_rows rfl) (ex_storen (K := 4) (l := [0]) (m := [0]) flFr rfl rfl N3 rfl) ?_
  intro w7 N7 hst7 hoth7
  have A8 := hoth7 _ _ _ (Nat.ne_of_lt N1.lt) A4
  have HB9 := hst7 _ _ HB5 HB2.size
  refine seq_nil ?_
  refine wp_seq ?_
  refine seq_lit ?_
  refine sq_val (a' := ⟨#[.string s, undef, .pointer (some ⟨w.heap.size, 0, none⟩), .pointer (some ⟨w1.heap.size, 0, none⟩), .int .i64 0, undef, nv 4 [0], undef, undef, undef, undef, undef, undef, undef, undef, undef, undef, undef, undef, undef, undef, undef, undef, undef, undef, undef, undef, undef], []⟩) (v := .int .i64 0) rfl rfl (ex_assign _) ?_
  refine seq_nil ?_
  refine wp_block ?_
  refine wp_loop_ind (s.size) (fun q a v => ∃ j5 j7 j8 j9 j10 j11 j12 j13 j14 j15 j16 j17 j18 j19 j20 j21 j22 j23 j24 j25 j26 : Value, a = ⟨#[.string s, undef, .pointer (some ⟨w.heap.size, 0, none⟩), .pointer (some ⟨w1.heap.size, 0, none⟩), .int .i64 ((q : Nat) : Int), j5, nv 4 [0], j7, j8, j9, j10, j11, j12, j13, j14, j15, j16, j17, j18, j19, j20, j21, j22, j23, j24, j25, j26, undef], []⟩ ∧ Arr 24 v (w.heap.size) (rows 4 [0]) ∧ Arr 24 v (w1.heap.size) (rows 4 [(E q 0)]) ∧ Below w.heap.size w v) ⟨_, _, _, _, _, _, _, _, _, _, _, _, _, _, _, _, _, _, _, _, _, rfl, A8, (by rw [hE0]; exact N7), HB9⟩ ?_ ?_
  · intro k10 hk10
    rintro _ w10 ⟨i10_5, i10_7, i10_8, i10_9, i10_10, i10_11, i10_12, i10_13, i10_14, i10_15, i10_16, i10_17, i10_18, i10_19, i10_20, i10_21, i10_22, i10_23, i10_24, i10_25, i10_26, rfl, A10_0, A10_1, HB10⟩ K10 hK10
    refine wp_seq ?_
    refine seq_lit ?_
    refine sq_val (a' := ⟨#[.string s, undef, .pointer (some ⟨w.heap.size, 0, none⟩), .pointer (some ⟨w1.heap.size, 0, none⟩), .int .i64 ((k10 : Nat) : Int), i10_5, nv 4 [0], .int .i64 ((k10 : Nat) : Int), i10_8, i10_9, i10_10, i10_11, i10_12, i10_13, i10_14, i10_15, i10_16, i10_17, i10_18, i10_19, i10_20, i10_21, i10_22, i10_23, i10_24, i10_25, i10_26, undef], []⟩) (v := .int .i64 ((k10 : Nat) : Int)) rfl rfl (ex_move _) ?_
    refine sq_val (a' := ⟨#[.string s, undef, .pointer (some ⟨w.heap.size, 0, none⟩), .pointer (some ⟨w1.heap.size, 0, none⟩), .int .i64 ((k10 : Nat) : Int), i10_5, nv 4 [0], .int .i64 ((k10 : Nat) : Int), .string s, i10_9, i10_10, i10_11, i10_12, i10_13, i10_14, i10_15, i10_16, i10_17, i10_18, i10_19, i10_20, i10_21, i10_22, i10_23, i10_24, i10_25, i10_26, undef], []⟩) (v := .string s) rfl rfl (ex_move _) ?_
    refine sq_val (a' := ⟨#[.string s, undef, .pointer (some ⟨w.heap.size, 0, none⟩), .pointer (some ⟨w1.heap.size, 0, none⟩), .int .i64 ((k10 : Nat) : Int), i10_5, nv 4 [0], .int .i64 ((k10 : Nat) : Int), .string s, .int .i64 (s.size : Int), i10_10, i10_11, i10_12, i10_13, i10_14, i10_15, i10_16, i10_17, i10_18, i10_19, i10_20, i10_21, i10_22, i10_23, i10_24, i10_25, i10_26, undef], []⟩) (v := .int .i64 (s.size : Int)) rfl rfl (ex_lenS rfl rfl) ?_
    refine sq_val (a' := ⟨#[.string s, undef, .pointer (some ⟨w.heap.size, 0, none⟩), .pointer (some ⟨w1.heap.size, 0, none⟩), .int .i64 ((k10 : Nat) : Int), i10_5, nv 4 [0], .int .i64 ((k10 : Nat) : Int), .string s, .int .i64 (s.size : Int), .bool true, i10_11, i10_12, i10_13, i10_14, i10_15, i10_16, i10_17, i10_18, i10_19, i10_20, i10_21, i10_22, i10_23, i10_24, i10_25, i10_26, undef], []⟩) (v := .bool true) rfl rfl (ex_lssN rfl rfl true (decide_eq_true hk10).symm) ?_
    refine seq_nil ?_
    refine wp_cond_true rfl ?_
    refine wp_skip ?_
    refine then_nR ?_
    refine wp_seq ?_
    refine wp_block ?_
    refine wp_seq ?_
    refine seq_lit ?_
    refine sq_val (a' := ⟨#[.string s, undef, .pointer (some ⟨w.heap.size, 0, none⟩), .pointer (some ⟨w1.heap.size, 0, none⟩), .int .i64 ((k10 : Nat) : Int), .int .i64 0, nv 4 [0], .int .i64 ((k10 : Nat) : Int), .string s, .int .i64 (s.size : Int), .bool true, i10_11, i10_12, i10_13, i10_14, i10_15, i10_16, i10_17, i10_18, i10_19, i10_20, i10_21, i10_22, i10_23, i10_24, i10_25, i10_26, undef], []⟩) (v := .int .i64 0) rfl rfl (ex_assign _) ?_
    refine seq_nil ?_
    refine wp_block ?_
    refine wp_loop_ind (8) (fun q a v => ∃ j13 j14 j15 j16 j17 j18 j19 : Value, a = ⟨#[.string s, undef, .pointer (some ⟨w.heap.size, 0, none⟩), .pointer (some ⟨w1.heap.size, 0, none⟩), .int .i64 ((k10 : Nat) : Int), .int .i64 ((q : Nat) : Int), nv 4 [0], .int .i64 ((k10 : Nat) : Int), .string s, .int .i64 (s.size : Int), .bool true, i10_11, i10_12, j13, j14, j15, j16, j17, j18, j19, i10_20, i10_21, i10_22, i10_23, i10_24, i10_25, i10_26, undef], []⟩ ∧ Arr 24 v (w.heap.size) (rows 4 [0]) ∧ Arr 24 v (w1.heap.size) (rows 4 [(E k10 q)]) ∧ Below w.heap.size w v) ⟨_, _, _, _, _, _, _, rfl, A10_0, A10_1, HB10⟩ ?_ ?_
    · intro k11 hk11
      rintro _ w11 ⟨i11_13, i11_14, i11_15, i11_16, i11_17, i11_18, i11_19, rfl, A11_0, A11_1, HB11⟩ K11 hK11
      refine wp_seq ?_
      refine seq_lit ?_
      refine sq_val (a' := ⟨#[.string s, undef, .pointer (some ⟨w.heap.size, 0, none⟩), .pointer (some ⟨w1.heap.size, 0, none⟩), .int .i64 ((k10 : Nat) : Int), .int .i64 ((k11 : Nat) : Int), nv 4 [0], .int .i64 ((k10 : Nat) : Int), .string s, .int .i64 (s.size : Int), .bool true, i10_11, i10_12, .int .i64 ((k11 : Nat) : Int), i11_14, i11_15, i11_16, i11_17, i11_18, i11_19, i10_20, i10_21, i10_22, i10_23, i10_24, i10_25, i10_26, undef], []⟩) (v := .int .i64 ((k11 : Nat) : Int)) rfl rfl (ex_move _) ?_
      refine sq_val (a' := ⟨#[.string s, undef, .pointer (some ⟨w.heap.size, 0, none⟩), .pointer (some ⟨w1.heap.size, 0, none⟩), .int .i64 ((k10 : Nat) : Int), .int .i64 ((k11 : Nat) : Int), nv 4 [0], .int .i64 ((k10 : Nat) : Int), .string s, .int .i64 (s.size : Int), .bool true, i10_11, i10_12, .int .i64 ((k11 : Nat) : Int), .bool true, i11_15, i11_16, i11_17, i11_18, i11_19, i10_20, i10_21, i10_22, i10_23, i10_24, i10_25, i10_26, undef], []⟩) (v := .bool true) rfl rfl (ex_lssN (b := 8) rfl rfl true (decide_eq_true hk11).symm) ?_
      refine seq_nil ?_
      refine wp_cond_true rfl ?_
      refine wp_skip ?_
      refine then_nR ?_
      refine wp_seq ?_
      refine wp_block ?_
      refine wp_region_lit ?_
      refine sq_val (a' := ⟨#[.string s, undef, .pointer (some ⟨w.heap.size, 0, none⟩), .pointer (some ⟨w1.heap.size, 0, none⟩), .int .i64 ((k10 : Nat) : Int), .int .i64 ((k11 : Nat) : Int), nv 4 [0], .int .i64 ((k10 : Nat) : Int), .string s, .int .i64 (s.size : Int), .bool true, i10_11, i10_12, .int .i64 ((k11 : Nat) : Int), .bool true, i11_15, i11_16, nv 4 [(E k10 k11)], i11_18, i11_19, i10_20, i10_21, i10_22, i10_23, i10_24, i10_25, i10_26, undef], []⟩) (v := nv 4 [(E k10 k11)]) rfl rfl (ex_loadn (K := 4) (k := 0) (j := 1) (l := [(E k10 k11)]) flFr rfl A11_1 rfl _ rfl) ?_
      refine sq_val (a' := ⟨#[.string s, undef, .pointer (some ⟨w.heap.size, 0, none⟩), .pointer (some ⟨w1.heap.size, 0, none⟩), .int .i64 ((k10 : Nat) : Int), .int .i64 ((k11 : Nat) : Int), nv 4 [0], .int .i64 ((k10 : Nat) : Int), .string s, .int .i64 (s.size : Int), .bool true, i10_11, i10_12, .int .i64 ((k11 : Nat) : Int), .bool true, i11_15, i11_16, nv 4 [(E k10 k11)], nv 4 [(E k10 k11)], i11_19, i10_20, i10_21, i10_22, i10_23, i10_24, i10_25, i10_26, undef], []⟩) (v := nv 4 [(E k10 k11)]) rfl rfl (ex_loadn (K := 4) (k := 0) (j := 1) (l := [(E k10 k11)]) flFr rfl A11_1 rfl _ rfl) ?_
      refine sq_call (a' := ⟨#[.string s, undef, .pointer (some ⟨w.heap.size, 0, none⟩), .pointer (some ⟨w1.heap.size, 0, none⟩), .int .i64 ((k10 : Nat) : Int), .int .i64 ((k11 : Nat) : Int), nv 4 [0], .int .i64 ((k10 : Nat) : Int), .string s, .int .i64 (s.size : Int), .bool true, i10_11, i10_12, .int .i64 ((k11 : Nat) : Int), .bool true, i11_15, i11_16, nv 4 [(E k10 k11)], nv 4 [(E k10 k11)], nv 4 [(E k10 (k11 + 1))], i10_20, i10_21, i10_22, i10_23, i10_24, i10_25, i10_26, undef], []⟩) (v := nv 4 [(E k10 (k11 + 1))]) rfl rfl (ex_call (vs := [nv 4 [(E k10 k11)], nv 4 [(E k10 k11)]]) rfl Try.call25 rfl) (HD k10 k11 _) ?_
      intro w12 hb12
      have A13 := A11_0.keep hb12
      have A14 := A11_1.keep hb12
      have HB15 := below_then HB11 hb12
      refine sq_store (a' := ⟨#[.string s, undef, .pointer (some ⟨w.heap.size, 0, none⟩), .pointer (some ⟨w1.heap.size, 0, none⟩), .int .i64 ((k10 : Nat) : Int), .int .i64 ((k11 : Nat) : Int), nv 4 [0], .int .i64 ((k10 : Nat) : Int), .string s, .int .i64 (s.size : Int), .bool true, i10_11, i10_12, .int .i64 ((k11 : Nat) : Int), .bool true, i11_15, i11_16, nv 4 [(E k10 k11)], nv 4 [(E k10 k11)], nv 4 [(E k10 (k11 + 1))], i10_20, i10_21, i10_22, i10_23, i10_24, i10_25, i10_26, undef], []⟩) (t := 24) (xs := rows 4 [(E k10 k11)]) (ys := rows 4 [(E k10 (k11 + 1))]) rfl rfl A14 (len_rows rfl) (ex_storen (K := 4) (l := [(E k10 k11)]) (m := [(E k10 (k11 + 1))]) flFr rfl rfl A14 rfl) ?_
      intro w16 N16 hst16 hoth16
      have A17 := hoth16 _ _ _ (Nat.ne_of_lt N1.lt) A13
      have HB18 := hst16 _ _ HB15 HB2.size
      refine wpList_nil ?_
      refine inblock_l ?_
      refine then_nR ?_
      refine wp_region_lit ?_
      refine sq_val (a' := ⟨#[.string s, undef, .pointer (some ⟨w.heap.size, 0, none⟩), .pointer (some ⟨w1.heap.size, 0, none⟩), .int .i64 ((k10 : Nat) : Int), .int .i64 ((k11 : Nat) : Int), nv 4 [0], .int .i64 ((k10 : Nat) : Int), .string s, .int .i64 (s.size : Int), .bool true, i10_11, i10_12, .int .i64 ((k11 : Nat) : Int), .bool true, .int .i64 ((k11 : Nat) : Int), i11_16, nv 4 [(E k10 k11)], nv 4 [(E k10 k11)], nv 4 [(E k10 (k11 + 1))], i10_20, i10_21, i10_22, i10_23, i10_24, i10_25, i10_26, undef], []⟩) (v := .int .i64 ((k11 : Nat) : Int)) rfl rfl (ex_move _) ?_
      refine sq_val (a' := ⟨#[.string s, undef, .pointer (some ⟨w.heap.size, 0, none⟩), .pointer (some ⟨w1.heap.size, 0, none⟩), .int .i64 ((k10 : Nat) : Int), .int .i64 ((k11 : Nat) : Int), nv 4 [0], .int .i64 ((k10 : Nat) : Int), .string s, .int .i64 (s.size : Int), .bool true, i10_11, i10_12, .int .i64 ((k11 : Nat) : Int), .bool true, .int .i64 ((k11 : Nat) : Int), .int .i64 ((k11 + 1 : Nat) : Int), nv 4 [(E k10 k11)], nv 4 [(E k10 k11)], nv 4 [(E k10 (k11 + 1))], i10_20, i10_21, i10_22, i10_23, i10_24, i10_25, i10_26, undef], []⟩) (v := .int .i64 ((k11 + 1 : Nat) : Int)) rfl rfl (ex_addN (b := 1) rfl rfl (by omega) rfl) ?_
      refine sq_val (a' := ⟨#[.string s, undef, .pointer (some ⟨w.heap.size, 0, none⟩), .pointer (some ⟨w1.heap.size, 0, none⟩), .int .i64 ((k10 : Nat) : Int), .int .i64 ((k11 + 1 : Nat) : Int), nv 4 [0], .int .i64 ((k10 : Nat) : Int), .string s, .int .i64 (s.size : Int), .bool true, i10_11, i10_12, .int .i64 ((k11 : Nat) : Int), .bool true, .int .i64 ((k11 : Nat) : Int), .int .i64 ((k11 + 1 : Nat) : Int), nv 4 [(E k10 k11)], nv 4 [(E k10 k11)], nv 4 [(E k10 (k11 + 1))], i10_20, i10_21, i10_22, i10_23, i10_24, i10_25, i10_26, undef], []⟩) (v := .int .i64 ((k11 + 1 : Nat) : Int)) rfl rfl (ex_assign _) ?_
      refine wpList_nil ?_
      refine then_l ?_
      exact hK11.out _ _ ⟨_, _, _, _, _, _, _, rfl, A17, N16, HB18⟩
    · rintro _ w19 ⟨i19_13, i19_14, i19_15, i19_16, i19_17, i19_18, i19_19, rfl, A19_0, A19_1, HB19⟩ K19
      refine wp_seq ?_
      refine seq_lit ?_
      refine sq_val (a' := ⟨#[.string s, undef, .pointer (some ⟨w.heap.size, 0, none⟩), .pointer (some ⟨w1.heap.size, 0, none⟩), .int .i64 ((k10 : Nat) : Int), .int .i64 ((8 : Nat) : Int), nv 4 [0], .int .i64 ((k10 : Nat) : Int), .string s, .int .i64 (s.size : Int), .bool true, i10_11, i10_12, .int .i64 ((8 : Nat) : Int), i19_14, i19_15, i19_16, i19_17, i19_18, i19_19, i10_20, i10_21, i10_22, i10_23, i10_24, i10_25, i10_26, undef], []⟩) (v := .int .i64 ((8 : Nat) : Int)) rfl rfl (ex_move _) ?_
      refine sq_val (a' := ⟨#[.string s, undef, .pointer (some ⟨w.heap.size, 0, none⟩), .pointer (some ⟨w1.heap.size, 0, none⟩), .int .i64 ((k10 : Nat) : Int), .int .i64 ((8 : Nat) : Int), nv 4 [0], .int .i64 ((k10 : Nat) : Int), .string s, .int .i64 (s.size : Int), .bool true, i10_11, i10_12, .int .i64 ((8 : Nat) : Int), .bool false, i19_15, i19_16, i19_17, i19_18, i19_19, i10_20, i10_21, i10_22, i10_23, i10_24, i10_25, i10_26, undef], []⟩) (v := .bool false) rfl rfl (ex_lssN (a := 8) (b := 8) rfl rfl false rfl) ?_
      refine seq_nil ?_
      refine wp_cond_false rfl ?_
      refine wp_exit ((then_x (then_x (exit_l ?_))))
      refine then_nR ?_
      refine wp_region_last (F := ⟨#[.string s, undef, .pointer (some ⟨w.heap.size, 0, none⟩), .pointer (some ⟨w1.heap.size, 0, none⟩), .int .i64 ((k10 : Nat) : Int), .int .i64 ((8 : Nat) : Int), nv 4 [0], .int .i64 ((k10 : Nat) : Int), .string s, .int .i64 (s.size : Int), .bool true, i10_11, i10_12, .int .i64 ((8 : Nat) : Int), .bool false, i19_15, i19_16, i19_17, i19_18, i19_19, nv 4 [(E k10 8)], .string s, .int .i64 ((k10 : Nat) : Int), .int .u8 ((Y k10 : Nat) : Int), .int .u64 ((Y k10 : Nat) : Int), nv 4 [(Y k10)], nv 4 [(E (k10 + 1) 0)], undef], []⟩) (S := Bel w19) [(20, nv 4 [(E k10 8)]), (21, .string s), (22, .int .i64 ((k10 : Nat) : Int)), (23, .int .u8 ((Y k10 : Nat) : Int)), (24, .int .u64 ((Y k10 : Nat) : Int)), (25, nv 4 [(Y k10)]), (26, nv 4 [(E (k10 + 1) 0)])] 7 _ (by kernel_rfl) (by kernel_rfl) (by kernel_rfl) (by kernel_rfl) rfl rfl (by kernel_rfl) rfl (by simp only [putAll, List.setIfInBounds_toArray, List.set_cons_zero, List.set_cons_succ]) (Bel.start _) ?_ ?_
      · refine PlanInit.cons (ps_val (v := nv 4 [(E k10 8)]) rfl rfl rfl (fun W' h => ex_loadn (K := 4) (k := 0) (j := 1) (l := [(E k10 8)]) flFr rfl (A19_1.keep h.out) rfl _ rfl)) ?_
        refine PlanInit.cons (ps_val (v := .string s) rfl rfl rfl (fun W' h => ex_move _)) ?_
        refine PlanInit.cons (ps_val (v := .int .i64 ((k10 : Nat) : Int)) rfl rfl rfl (fun W' h => ex_move _)) ?_
        refine PlanInit.cons (ps_val (v := .int .u8 ((Y k10 : Nat) : Int)) rfl rfl rfl (fun W' h => ex_byte rfl rfl hk10 (hY k10 hk10))) ?_
        refine PlanInit.cons (ps_val (v := .int .u64 ((Y k10 : Nat) : Int)) rfl rfl rfl (fun W' h => ex_widen rfl (hY2 k10 hk10))) ?_
        refine PlanInit.cons (ps_val (v := nv 4 [(Y k10)]) rfl rfl rfl (fun W' h => ex_limb rfl (hY3 k10 hk10))) ?_
        refine PlanInit.cons (ps_call (v := nv 4 [(E (k10 + 1) 0)]) rfl rfl rfl (fun W' => ex_call (vs := [nv 4 [(E k10 8)], nv 4 [(Y k10)]]) rfl Try.call25 rfl) (fun W' h => HB k10 hk10 _)) ?_
        exact PlanInit.one
      refine last_store (t := 24) (xs := rows 4 [(E k10 8)]) (ys := rows 4 [(E (k10 + 1) 0)]) rfl rfl (fun W' h => A19_1.keep h.out) (len_rows rfl) (fun W' h => ex_storen (K := 4) (l := [(E k10 8)]) (m := [(E (k10 + 1) 0)]) flFr rfl rfl (A19_1.keep h.out) rfl) ?_
      intro w20 w21 hb20 N21 hst21 hoth21
      have A22 := A19_0.keep hb20.out
      have A23 := A19_1.keep hb20.out
      have HB24 := below_then HB19 hb20.out
      have A25 := hoth21 _ _ _ (Nat.ne_of_lt N1.lt) A22
      have HB26 := hst21 _ _ HB24 HB2.size
      refine inblock_l ?_
      refine then_nR ?_
      refine wp_region_lit ?_
      refine sq_val (a' := ⟨#[.string s, undef, .pointer (some ⟨w.heap.size, 0, none⟩), .pointer (some ⟨w1.heap.size, 0, none⟩), .int .i64 ((k10 : Nat) : Int), .int .i64 ((8 : Nat) : Int), nv 4 [0], .int .i64 ((k10 : Nat) : Int), .string s, .int .i64 (s.size : Int), .bool true, .int .i64 ((k10 : Nat) : Int), i10_12, .int .i64 ((8 : Nat) : Int), .bool false, i19_15, i19_16, i19_17, i19_18, i19_19, nv 4 [(E k10 8)], .string s, .int .i64 ((k10 : Nat) : Int), .int .u8 ((Y k10 : Nat) : Int), .int .u64 ((Y k10 : Nat) : Int), nv 4 [(Y k10)], nv 4 [(E (k10 + 1) 0)], undef], []⟩) (v := .int .i64 ((k10 : Nat) : Int)) rfl rfl (ex_move _) ?_
      refine sq_val (a' := ⟨#[.string s, undef, .pointer (some ⟨w.heap.size, 0, none⟩), .pointer (some ⟨w1.heap.size, 0, none⟩), .int .i64 ((k10 : Nat) : Int), .int .i64 ((8 : Nat) : Int), nv 4 [0], .int .i64 ((k10 : Nat) : Int), .string s, .int .i64 (s.size : Int), .bool true, .int .i64 ((k10 : Nat) : Int), .int .i64 ((k10 + 1 : Nat) : Int), .int .i64 ((8 : Nat) : Int), .bool false, i19_15, i19_16, i19_17, i19_18, i19_19, nv 4 [(E k10 8)], .string s, .int .i64 ((k10 : Nat) : Int), .int .u8 ((Y k10 : Nat) : Int), .int .u64 ((Y k10 : Nat) : Int), nv 4 [(Y k10)], nv 4 [(E (k10 + 1) 0)], undef], []⟩) (v := .int .i64 ((k10 + 1 : Nat) : Int)) rfl rfl (ex_addN (b := 1) rfl rfl (by omega) rfl) ?_
      refine sq_val (a' := ⟨#[.string s, undef, .pointer (some ⟨w.heap.size, 0, none⟩), .pointer (some ⟨w1.heap.size, 0, none⟩), .int .i64 ((k10 + 1 : Nat) : Int), .int .i64 ((8 : Nat) : Int), nv 4 [0], .int .i64 ((k10 : Nat) : Int), .string s, .int .i64 (s.size : Int), .bool true, .int .i64 ((k10 : Nat) : Int), .int .i64 ((k10 + 1 : Nat) : Int), .int .i64 ((8 : Nat) : Int), .bool false, i19_15, i19_16, i19_17, i19_18, i19_19, nv 4 [(E k10 8)], .string s, .int .i64 ((k10 : Nat) : Int), .int .u8 ((Y k10 : Nat) : Int), .int .u64 ((Y k10 : Nat) : Int), nv 4 [(Y k10)], nv 4 [(E (k10 + 1) 0)], undef], []⟩) (v := .int .i64 ((k10 + 1 : Nat) : Int)) rfl rfl (ex_assign _) ?_
      refine wpList_nil ?_
      refine then_l ?_
      exact hK10.out _ _ ⟨_, _, _, _, _, _, _, _, _, _, _, _, _, _, _, _, _, _, _, _, _, rfl, A25, N21, HB26⟩
  · rintro _ w27 ⟨i27_5, i27_7, i27_8, i27_9, i27_10, i27_11, i27_12, i27_13, i27_14, i27_15, i27_16, i27_17, i27_18, i27_19, i27_20, i27_21, i27_22, i27_23, i27_24, i27_25, i27_26, rfl, A27_0, A27_1, HB27⟩ K27
    refine wp_seq ?_
    refine seq_lit ?_
    refine sq_val (a' := ⟨#[.string s, undef, .pointer (some ⟨w.heap.size, 0, none⟩), .pointer (some ⟨w1.heap.size, 0, none⟩), .int .i64 ((s.size : Nat) : Int), i27_5, nv 4 [0], .int .i64 ((s.size : Nat) : Int), i27_8, i27_9, i27_10, i27_11, i27_12, i27_13, i27_14, i27_15, i27_16, i27_17, i27_18, i27_19, i27_20, i27_21, i27_22, i27_23, i27_24, i27_25, i27_26, undef], []⟩) (v := .int .i64 ((s.size : Nat) : Int)) rfl rfl (ex_move _) ?_
    refine sq_val (a' := ⟨#[.string s, undef, .pointer (some ⟨w.heap.size, 0, none⟩), .pointer (some ⟨w1.heap.size, 0, none⟩), .int .i64 ((s.size : Nat) : Int), i27_5, nv 4 [0], .int .i64 ((s.size : Nat) : Int), .string s, i27_9, i27_10, i27_11, i27_12, i27_13, i27_14, i27_15, i27_16, i27_17, i27_18, i27_19, i27_20, i27_21, i27_22, i27_23, i27_24, i27_25, i27_26, undef], []⟩) (v := .string s) rfl rfl (ex_move _) ?_
    refine sq_val (a' := ⟨#[.string s, undef, .pointer (some ⟨w.heap.size, 0, none⟩), .pointer (some ⟨w1.heap.size, 0, none⟩), .int .i64 ((s.size : Nat) : Int), i27_5, nv 4 [0], .int .i64 ((s.size : Nat) : Int), .string s, .int .i64 (s.size : Int), i27_10, i27_11, i27_12, i27_13, i27_14, i27_15, i27_16, i27_17, i27_18, i27_19, i27_20, i27_21, i27_22, i27_23, i27_24, i27_25, i27_26, undef], []⟩) (v := .int .i64 (s.size : Int)) rfl rfl (ex_lenS rfl rfl) ?_
    refine sq_val (a' := ⟨#[.string s, undef, .pointer (some ⟨w.heap.size, 0, none⟩), .pointer (some ⟨w1.heap.size, 0, none⟩), .int .i64 ((s.size : Nat) : Int), i27_5, nv 4 [0], .int .i64 ((s.size : Nat) : Int), .string s, .int .i64 (s.size : Int), .bool false, i27_11, i27_12, i27_13, i27_14, i27_15, i27_16, i27_17, i27_18, i27_19, i27_20, i27_21, i27_22, i27_23, i27_24, i27_25, i27_26, undef], []⟩) (v := .bool false) rfl rfl (ex_lssN rfl rfl false hend) ?_
    refine seq_nil ?_
    refine wp_cond_false rfl ?_
    refine wp_exit ((then_x (then_x (exit_l ?_))))
    refine then_nR ?_
    refine seq_lit ?_
    refine sq_val (a' := ⟨#[.string s, undef, .pointer (some ⟨w.heap.size, 0, none⟩), .pointer (some ⟨w1.heap.size, 0, none⟩), .int .i64 ((s.size : Nat) : Int), i27_5, nv 4 [0], .int .i64 ((s.size : Nat) : Int), .string s, .int .i64 (s.size : Int), .bool false, i27_11, i27_12, i27_13, i27_14, i27_15, i27_16, i27_17, i27_18, i27_19, i27_20, i27_21, i27_22, i27_23, i27_24, i27_25, i27_26, nv 4 [(E s.size 0)]], []⟩) (v := nv 4 [(E s.size 0)]) rfl rfl (ex_loadn (K := 4) (k := 0) (j := 1) (l := [(E s.size 0)]) flFr rfl A27_1 rfl _ rfl) ?_
    refine sq_store (a' := ⟨#[.string s, undef, .pointer (some ⟨w.heap.size, 0, none⟩), .pointer (some ⟨w1.heap.size, 0, none⟩), .int .i64 ((s.size : Nat) : Int), i27_5, nv 4 [0], .int .i64 ((s.size : Nat) : Int), .string s, .int .i64 (s.size : Int), .bool false, i27_11, i27_12, i27_13, i27_14, i27_15, i27_16, i27_17, i27_18, i27_19, i27_20, i27_21, i27_22, i27_23, i27_24, i27_25, i27_26, nv 4 [(E s.size 0)]], []⟩) (t := 24) (xs := rows 4 [0]) (ys := rows 4 [(E s.size 0)]) rfl rfl A27_0 (len_rows rfl) (ex_storen (K := 4) (l := [0]) (m := [(E s.size 0)]) flFr rfl rfl A27_0 rfl) ?_
    intro w28 N28 hst28 hoth28
    have A29 := hoth28 _ _ _ (Ne.symm (Nat.ne_of_lt N1.lt)) A27_1
    have HB30 := hst28 _ _ HB27 (Nat.le_refl _)
    refine seq_nil ?_
    exact wp_ret (bodyPost_ret (ret_cellnR (K := 4) Try.results12 rfl N28 flFr) rfl ⟨rfl, HB30⟩)

theorem ex_eqsB {ρ : Operand → Value} {d : Option Tmp} {ty0 : TypeId} {pos : String} {after : Array Edge} {guard : Option (Nat × Bool)} {w : World} {t t2 : TypeId} {x y : Operand} {s : ByteArray} (hx : ρ x = .string s) (hy : ρ y = .string s) :
    (execOp ρ ⟨d, .binOp .eql t x y t2, ty0, pos, after, guard⟩).run Try.prog w = .ok (.value (.bool true)) w := by
  simp [execOp, hx, hy, go_sem]

set_option maxRecDepth 20000 in
set_option maxHeartbeats 4000000 in
theorem frBytes_long (a : Nat) (s : ByteArray) (w : World) (ha : a < frB) (hs : 5000 < s.size) :
    Calls Try.prog 3 #[nv 4 [a], .string s] w (Is (.bool true) w) := by
  have hlen : ((s.extract 0 5000)).size ≤ 5000 := by rw [ByteArray.size_extract]; omega
  have hgt : true = decide (5000 < s.size) := (decide_eq_true hs).symm
  obtain ⟨z, hz⟩ : ∃ z, z = a % rN := ⟨_, rfl⟩
  have hzM : z < rN := by rw [hz]; exact frM_mod a
  obtain ⟨x, hx⟩ : ∃ x : ByteArray, x = ⟨(be 32 z).toArray⟩ := ⟨_, rfl⟩
  have HP : ∀ W, Calls Try.prog 8 #[nv 4 [a]] W (Is (.string x) W) := fun W => by rw [hx, hz, nv4R]; exact frPut_v a W ha
  have HC3 : ∀ W, Calls Try.prog 10 #[nv 4 [a]] W (Is (nv 4 [z]) W) := fun W => by rw [nv4R, nv4R]; exact r3Clean_v a W ha z hz
  have HP3 : ∀ W, Calls Try.prog 9 #[nv 4 [z]] W (Is (.string x) W) := fun W => by rw [hx, nv4R]; exact r3Put_v z W (Nat.lt_trans hzM frM_lt)
  obtain ⟨v, hv⟩ : ∃ v, v = frGotV ((s.extract 0 5000)) := ⟨_, rfl⟩
  obtain ⟨c, hc⟩ : ∃ c, c = frGotE ((s.extract 0 5000)) := ⟨_, rfl⟩
  have HG : ∀ W, Calls Try.prog 5 #[.string ((s.extract 0 5000))] W (Is (.tuple #[nv 4 [v], .int .i64 c]) W) := fun W => by rw [nv4R]; exact frGet_v _ W v hv c hc
  have HG3 : ∀ W, Calls Try.prog 6 #[.string ((s.extract 0 5000))] W (Is (.tuple #[nv 4 [v], .int .i64 c]) W) := fun W => by rw [nv4R]; exact r3Get_v _ W v hv c hc
  obtain ⟨y, hh⟩ : ∃ y, y = hsh ((s.extract 0 5000)) ((s.extract 0 5000)).size := ⟨_, rfl⟩
  have HH : ∀ W, Calls Try.prog 11 #[.string ((s.extract 0 5000))] W (Is (nv 4 [y]) W) := fun W => frHash_any _ W hlen y hh
  have HH3 : ∀ W, Calls Try.prog 12 #[.string ((s.extract 0 5000))] W (Is (nv 4 [y]) W) := fun W => r3Hash_any _ W hlen y hh
  clear hx hz hv hc hh hlen
  go_enter Try.func3, Try.ntmps3
  refine seq_lit ?_
  refine sq_new (a' := ⟨List.toArray ((nv 4 [a]) :: (.string s) :: (.pointer (some ⟨w.heap.size, 0, none⟩)) :: undef :: undef :: undef :: undef :: undef :: undef :: undef :: undef :: undef :: undef :: undef :: undef :: undef :: undef :: undef :: undef :: undef :: undef :: undef :: undef :: undef :: undef :: undef :: undef :: undef :: undef :: undef :: undef :: undef :: undef :: undef :: undef :: undef :: undef :: undef :: undef :: undef :: undef :: undef :: undef :: undef :: undef :: undef :: undef :: undef :: undef :: undef :: []), []⟩) (xs := rows 4 [a]) rfl rfl (ex_boxn (K := 4) (l := [a]) rfl) ?_
  intro w1 N1 hb1
  have HB2 := below_then (Below.refl w.heap.size w) hb1
  refine sq_val (a' := ⟨List.toArray ((nv 4 [a]) :: (.string s) :: (.pointer (some ⟨w.heap.size, 0, none⟩)) :: undef :: (.bool false) :: undef :: undef :: undef :: undef :: undef :: undef :: undef :: undef :: undef :: undef :: undef :: undef :: undef :: undef :: undef :: undef :: undef :: undef :: undef :: undef :: undef :: undef :: undef :: undef :: undef :: undef :: undef :: undef :: undef :: undef :: undef :: undef :: undef :: undef :: undef :: undef :: undef :: undef :: undef :: undef :: undef :: undef :: undef :: undef :: undef :: []), []⟩) (v := .bool false) rfl rfl (ex_assign _) ?_
  refine seq_nil ?_
  refine wp_seq ?_
  refine seq_lit ?_
  refine sq_val (a' := ⟨List.toArray ((nv 4 [a]) :: (.string s) :: (.pointer (some ⟨w.heap.size, 0, none⟩)) :: undef :: (.bool false) :: undef :: undef :: undef :: undef :: (.string s) :: undef :: undef :: undef :: undef :: undef :: undef :: undef :: undef :: undef :: undef :: undef :: undef :: undef :: undef :: undef :: undef :: undef :: undef :: undef :: undef :: undef :: undef :: undef :: undef :: undef :: undef :: undef :: undef :: undef :: undef :: undef :: undef :: undef :: undef :: undef :: undef :: undef :: undef :: undef :: undef :: []), []⟩) (v := .string s) rfl rfl (ex_move _) ?_
  refine sq_val (a' := ⟨List.toArray ((nv 4 [a]) :: (.string s) :: (.pointer (some ⟨w.heap.size, 0, none⟩)) :: undef :: (.bool false) :: undef :: undef :: undef :: undef :: (.string s) :: (.int .i64 (s.size : Int)) :: undef :: undef :: undef :: undef :: undef :: undef :: undef :: undef :: undef :: undef :: undef :: undef :: undef :: undef :: undef :: undef :: undef :: undef :: undef :: undef :: undef :: undef :: undef :: undef :: undef :: undef :: undef :: undef :: undef :: undef :: undef :: undef :: undef :: undef :: undef :: undef :: undef :: undef :: undef :: []), []⟩) (v := .int .i64 (s.size : Int)) rfl rfl (ex_lenS rfl rfl) ?_
  refine sq_val (a' := ⟨List.toArray ((nv 4 [a]) :: (.string s) :: (.pointer (some ⟨w.heap.size, 0, none⟩)) :: undef :: (.bool false) :: undef :: undef :: undef :: undef :: (.string s) :: (.int .i64 (s.size : Int)) :: (.bool true) :: undef :: undef :: undef :: undef :: undef :: undef :: undef :: undef :: undef :: undef :: undef :: undef :: undef :: undef :: undef :: undef :: undef :: undef :: undef :: undef :: undef :: undef :: undef :: undef :: undef :: undef :: undef :: undef :: undef :: undef :: undef :: undef :: undef :: undef :: undef :: undef :: undef :: undef :: []), []⟩) (v := .bool true) rfl rfl (ex_gtrN (b := 5000) rfl rfl true hgt) ?_
  refine seq_nil ?_
  refine wp_cond_true rfl ?_
  refine wp_region_lit ?_
  refine sq_val (a' := ⟨List.toArray ((nv 4 [a]) :: (.string s) :: (.pointer (some ⟨w.heap.size, 0, none⟩)) :: undef :: (.bool false) :: undef :: undef :: undef :: undef :: (.string s) :: (.int .i64 (s.size : Int)) :: (.bool true) :: (.string s) :: undef :: undef :: undef :: undef :: undef :: undef :: undef :: undef :: undef :: undef :: undef :: undef :: undef :: undef :: undef :: undef :: undef :: undef :: undef :: undef :: undef :: undef :: undef :: undef :: undef :: undef :: undef :: undef :: undef :: undef :: undef :: undef :: undef :: undef :: undef :: undef :: undef :: []), []⟩) (v := .string s) rfl rfl (ex_move _) ?_
  refine sq_val (a' := ⟨List.toArray ((nv 4 [a]) :: (.string s) :: (.pointer (some ⟨w.heap.size, 0, none⟩)) :: undef :: (.bool false) :: undef :: undef :: undef :: undef :: (.string s) :: (.int .i64 (s.size : Int)) :: (.bool true) :: (.string s) :: (.string (s.extract 0 5000)) :: undef :: undef :: undef :: undef :: undef :: undef :: undef :: undef :: undef :: undef :: undef :: undef :: undef :: undef :: undef :: undef :: undef :: undef :: undef :: undef :: undef :: undef :: undef :: undef :: undef :: undef :: undef :: undef :: undef :: undef :: undef :: undef :: undef :: undef :: undef :: undef :: []), []⟩) (v := .string (s.extract 0 5000)) rfl rfl (ex_cutTo (n := 5000) rfl rfl (by omega)) ?_
  refine sq_val (a' := ⟨List.toArray ((nv 4 [a]) :: (.string (s.extract 0 5000)) :: (.pointer (some ⟨w.heap.size, 0, none⟩)) :: undef :: (.bool false) :: undef :: undef :: undef :: undef :: (.string s) :: (.int .i64 (s.size : Int)) :: (.bool true) :: (.string s) :: (.string (s.extract 0 5000)) :: undef :: undef :: undef :: undef :: undef :: undef :: undef :: undef :: undef :: undef :: undef :: undef :: undef :: undef :: undef :: undef :: undef :: undef :: undef :: undef :: undef :: undef :: undef :: undef :: undef :: undef :: undef :: undef :: undef :: undef :: undef :: undef :: undef :: undef :: undef :: undef :: []), []⟩) (v := .string (s.extract 0 5000)) rfl rfl (ex_assign _) ?_
  refine wpList_nil (then_nR ?_)
  refine seq_lit ?_
  refine sq_val (a' := ⟨List.toArray ((nv 4 [a]) :: (.string (s.extract 0 5000)) :: (.pointer (some ⟨w.heap.size, 0, none⟩)) :: undef :: (.bool false) :: undef :: undef :: undef :: undef :: (.string s) :: (.int .i64 (s.size : Int)) :: (.bool true) :: (.string s) :: (.string (s.extract 0 5000)) :: undef :: (.string (s.extract 0 5000)) :: undef :: undef :: undef :: undef :: undef :: undef :: undef :: undef :: undef :: undef :: undef :: undef :: undef :: undef :: undef :: undef :: undef :: undef :: undef :: undef :: undef :: undef :: undef :: undef :: undef :: undef :: undef :: undef :: undef :: undef :: undef :: undef :: undef :: undef :: []), []⟩) (v := .string (s.extract 0 5000)) rfl rfl (ex_move _) ?_
  refine sq_call (a' := ⟨List.toArray ((nv 4 [a]) :: (.string (s.extract 0 5000)) :: (.pointer (some ⟨w.heap.size, 0, none⟩)) :: undef :: (.bool false) :: undef :: undef :: undef :: undef :: (.string s) :: (.int .i64 (s.size : Int)) :: (.bool true) :: (.string s) :: (.string (s.extract 0 5000)) :: undef :: (.string (s.extract 0 5000)) :: (.tuple #[nv 4 [v], .int .i64 c]) :: undef :: undef :: undef :: undef :: undef :: undef :: undef :: undef :: undef :: undef :: undef :: undef :: undef :: undef :: undef :: undef :: undef :: undef :: undef :: undef :: undef :: undef :: undef :: undef :: undef :: undef :: undef :: undef :: undef :: undef :: undef :: undef :: undef :: []), []⟩) (v := .tuple #[nv 4 [v], .int .i64 c]) rfl rfl (ex_call (vs := [.string (s.extract 0 5000)]) rfl Try.call5 rfl) (HG _) ?_
  intro w3 hb3
  have A4 := N1.keep hb3
  have HB5 := below_then HB2 hb3
  refine sq_val (a' := ⟨List.toArray ((nv 4 [a]) :: (.string (s.extract 0 5000)) :: (.pointer (some ⟨w.heap.size, 0, none⟩)) :: undef :: (.bool false) :: undef :: undef :: undef :: undef :: (.string s) :: (.int .i64 (s.size : Int)) :: (.bool true) :: (.string s) :: (.string (s.extract 0 5000)) :: (.tuple #[nv 4 [v], .int .i64 c]) :: (.string (s.extract 0 5000)) :: (.tuple #[nv 4 [v], .int .i64 c]) :: undef :: undef :: undef :: undef :: undef :: undef :: undef :: undef :: undef :: undef :: undef :: undef :: undef :: undef :: undef :: undef :: undef :: undef :: undef :: undef :: undef :: undef :: undef :: undef :: undef :: undef :: undef :: undef :: undef :: undef :: undef :: undef :: undef :: []), []⟩) (v := .tuple #[nv 4 [v], .int .i64 c]) rfl rfl (ex_move _) ?_
  refine sq_val (a' := ⟨List.toArray ((nv 4 [a]) :: (.string (s.extract 0 5000)) :: (.pointer (some ⟨w.heap.size, 0, none⟩)) :: undef :: (.bool false) :: undef :: undef :: undef :: undef :: (.string s) :: (.int .i64 (s.size : Int)) :: (.bool true) :: (.string s) :: (.string (s.extract 0 5000)) :: (.tuple #[nv 4 [v], .int .i64 c]) :: (.string (s.extract 0 5000)) :: (.tuple #[nv 4 [v], .int .i64 c]) :: (nv 4 [v]) :: undef :: undef :: undef :: undef :: undef :: undef :: undef :: undef :: undef :: undef :: undef :: undef :: undef :: undef :: undef :: undef :: undef :: undef :: undef :: undef :: undef :: undef :: undef :: undef :: undef :: undef :: undef :: undef :: undef :: undef :: undef :: undef :: []), []⟩) (v := nv 4 [v]) rfl rfl (ex_extract (vs := [nv 4 [v], .int .i64 c]) rfl rfl) ?_
  refine sq_val (a' := ⟨List.toArray ((nv 4 [a]) :: (.string (s.extract 0 5000)) :: (.pointer (some ⟨w.heap.size, 0, none⟩)) :: undef :: (.bool false) :: undef :: undef :: undef :: undef :: (.string s) :: (.int .i64 (s.size : Int)) :: (.bool true) :: (.string s) :: (.string (s.extract 0 5000)) :: (.tuple #[nv 4 [v], .int .i64 c]) :: (.string (s.extract 0 5000)) :: (.tuple #[nv 4 [v], .int .i64 c]) :: (nv 4 [v]) :: (.int .i64 c) :: undef :: undef :: undef :: undef :: undef :: undef :: undef :: undef :: undef :: undef :: undef :: undef :: undef :: undef :: undef :: undef :: undef :: undef :: undef :: undef :: undef :: undef :: undef :: undef :: undef :: undef :: undef :: undef :: undef :: undef :: undef :: []), []⟩) (v := .int .i64 c) rfl rfl (ex_extract (vs := [nv 4 [v], .int .i64 c]) rfl rfl) ?_
  refine sq_new (a' := ⟨List.toArray ((nv 4 [a]) :: (.string (s.extract 0 5000)) :: (.pointer (some ⟨w.heap.size, 0, none⟩)) :: undef :: (.bool false) :: (.pointer (some ⟨w3.heap.size, 0, none⟩)) :: undef :: undef :: undef :: (.string s) :: (.int .i64 (s.size : Int)) :: (.bool true) :: (.string s) :: (.string (s.extract 0 5000)) :: (.tuple #[nv 4 [v], .int .i64 c]) :: (.string (s.extract 0 5000)) :: (.tuple #[nv 4 [v], .int .i64 c]) :: (nv 4 [v]) :: (.int .i64 c) :: undef :: undef :: undef :: undef :: undef :: undef :: undef :: undef :: undef :: undef :: undef :: undef :: undef :: undef :: undef :: undef :: undef :: undef :: undef :: undef :: undef :: undef :: undef :: undef :: undef :: undef :: undef :: undef :: undef :: undef :: undef :: []), []⟩) (xs := rows 4 [0]) rfl rfl (ex_alloc zFr) ?_
  intro w6 N6 hb6
  have A7 := A4.keep hb6
  have HB8 := below_then HB5 hb6
  refine sq_store (a' := ⟨List.toArray ((nv 4 [a]) :: (.string (s.extract 0 5000)) :: (.pointer (some ⟨w.heap.size, 0, none⟩)) :: undef :: (.bool false) :: (.pointer (some ⟨w3.heap.size, 0, none⟩)) :: undef :: undef :: undef :: (.string s) :: (.int .i64 (s.size : Int)) :: (.bool true) :: (.string s) :: (.string (s.extract 0 5000)) :: (.tuple #[nv 4 [v], .int .i64 c]) :: (.string (s.extract 0 5000)) :: (.tuple #[nv 4 [v], .int .i64 c]) :: (nv 4 [v]) :: (.int .i64 c) :: undef :: undef :: undef :: undef :: undef :: undef :: undef :: undef :: undef :: undef :: undef :: undef :: undef :: undef :: undef :: undef :: undef :: undef :: undef :: undef :: undef :: undef :: undef :: undef :: undef :: undef :: undef :: undef :: undef :: undef :: undef :: []), []⟩) (t := 24) (xs := rows 4 [0]) (ys := rows 4 [v]) rfl rfl N6 (len_rows rfl) (ex_storen (K := 4) (l := [0]) (m := [v]) flFr rfl rfl N6 rfl) ?_
  intro w10 N10 hst10 hoth10
  have A11 := hoth10 _ _ _ (Nat.ne_of_lt A4.lt) A7
  have HB12 := hst10 _ _ HB8 HB5.size
  refine sq_val (a' := ⟨List.toArray ((nv 4 [a]) :: (.string (s.extract 0 5000)) :: (.pointer (some ⟨w.heap.size, 0, none⟩)) :: undef :: (.bool false) :: (.pointer (some ⟨w3.heap.size, 0, none⟩)) :: (.int .i64 c) :: undef :: undef :: (.string s) :: (.int .i64 (s.size : Int)) :: (.bool true) :: (.string s) :: (.string (s.extract 0 5000)) :: (.tuple #[nv 4 [v], .int .i64 c]) :: (.string (s.extract 0 5000)) :: (.tuple #[nv 4 [v], .int .i64 c]) :: (nv 4 [v]) :: (.int .i64 c) :: undef :: undef :: undef :: undef :: undef :: undef :: undef :: undef :: undef :: undef :: undef :: undef :: undef :: undef :: undef :: undef :: undef :: undef :: undef :: undef :: undef :: undef :: undef :: undef :: undef :: undef :: undef :: undef :: undef :: undef :: undef :: []), []⟩) (v := .int .i64 c) rfl rfl (ex_assign _) ?_
  refine seq_nil ?_
  refine seq_lit ?_
  refine sq_val (a' := ⟨List.toArray ((nv 4 [a]) :: (.string (s.extract 0 5000)) :: (.pointer (some ⟨w.heap.size, 0, none⟩)) :: undef :: (.bool false) :: (.pointer (some ⟨w3.heap.size, 0, none⟩)) :: (.int .i64 c) :: undef :: undef :: (.string s) :: (.int .i64 (s.size : Int)) :: (.bool true) :: (.string s) :: (.string (s.extract 0 5000)) :: (.tuple #[nv 4 [v], .int .i64 c]) :: (.string (s.extract 0 5000)) :: (.tuple #[nv 4 [v], .int .i64 c]) :: (nv 4 [v]) :: (.int .i64 c) :: undef :: (.string (s.extract 0 5000)) :: undef :: undef :: undef :: undef :: undef :: undef :: undef :: undef :: undef :: undef :: undef :: undef :: undef :: undef :: undef :: undef :: undef :: undef :: undef :: undef :: undef :: undef :: undef :: undef :: undef :: undef :: undef :: undef :: undef :: []), []⟩) (v := .string (s.extract 0 5000)) rfl rfl (ex_move _) ?_
  refine sq_call (a' := ⟨List.toArray ((nv 4 [a]) :: (.string (s.extract 0 5000)) :: (.pointer (some ⟨w.heap.size, 0, none⟩)) :: undef :: (.bool false) :: (.pointer (some ⟨w3.heap.size, 0, none⟩)) :: (.int .i64 c) :: undef :: undef :: (.string s) :: (.int .i64 (s.size : Int)) :: (.bool true) :: (.string s) :: (.string (s.extract 0 5000)) :: (.tuple #[nv 4 [v], .int .i64 c]) :: (.string (s.extract 0 5000)) :: (.tuple #[nv 4 [v], .int .i64 c]) :: (nv 4 [v]) :: (.int .i64 c) :: undef :: (.string (s.extract 0 5000)) :: (.tuple #[nv 4 [v], .int .i64 c]) :: undef :: undef :: undef :: undef :: undef :: undef :: undef :: undef :: undef :: undef :: undef :: undef :: undef :: undef :: undef :: undef :: undef :: undef :: undef :: undef :: undef :: undef :: undef :: undef :: undef :: undef :: undef :: undef :: []), []⟩) (v := .tuple #[nv 4 [v], .int .i64 c]) rfl rfl (ex_call (vs := [.string (s.extract 0 5000)]) rfl Try.call6 rfl) (HG3 _) ?_
  intro w13 hb13
  have A14 := A11.keep hb13
  have A15 := N10.keep hb13
  have HB16 := below_then HB12 hb13
  refine sq_val (a' := ⟨List.toArray ((nv 4 [a]) :: (.string (s.extract 0 5000)) :: (.pointer (some ⟨w.heap.size, 0, none⟩)) :: undef :: (.bool false) :: (.pointer (some ⟨w3.heap.size, 0, none⟩)) :: (.int .i64 c) :: undef :: undef :: (.string s) :: (.int .i64 (s.size : Int)) :: (.bool true) :: (.string s) :: (.string (s.extract 0 5000)) :: (.tuple #[nv 4 [v], .int .i64 c]) :: (.string (s.extract 0 5000)) :: (.tuple #[nv 4 [v], .int .i64 c]) :: (nv 4 [v]) :: (.int .i64 c) :: (.tuple #[nv 4 [v], .int .i64 c]) :: (.string (s.extract 0 5000)) :: (.tuple #[nv 4 [v], .int .i64 c]) :: undef :: undef :: undef :: undef :: undef :: undef :: undef :: undef :: undef :: undef :: undef :: undef :: undef :: undef :: undef :: undef :: undef :: undef :: undef :: undef :: undef :: undef :: undef :: undef :: undef :: undef :: undef :: undef :: []), []⟩) (v := .tuple #[nv 4 [v], .int .i64 c]) rfl rfl (ex_move _) ?_
  refine sq_val (a' := ⟨List.toArray ((nv 4 [a]) :: (.string (s.extract 0 5000)) :: (.pointer (some ⟨w.heap.size, 0, none⟩)) :: undef :: (.bool false) :: (.pointer (some ⟨w3.heap.size, 0, none⟩)) :: (.int .i64 c) :: undef :: undef :: (.string s) :: (.int .i64 (s.size : Int)) :: (.bool true) :: (.string s) :: (.string (s.extract 0 5000)) :: (.tuple #[nv 4 [v], .int .i64 c]) :: (.string (s.extract 0 5000)) :: (.tuple #[nv 4 [v], .int .i64 c]) :: (nv 4 [v]) :: (.int .i64 c) :: (.tuple #[nv 4 [v], .int .i64 c]) :: (.string (s.extract 0 5000)) :: (.tuple #[nv 4 [v], .int .i64 c]) :: (nv 4 [v]) :: undef :: undef :: undef :: undef :: undef :: undef :: undef :: undef :: undef :: undef :: undef :: undef :: undef :: undef :: undef :: undef :: undef :: undef :: undef :: undef :: undef :: undef :: undef :: undef :: undef :: undef :: undef :: []), []⟩) (v := nv 4 [v]) rfl rfl (ex_extract (vs := [nv 4 [v], .int .i64 c]) rfl rfl) ?_
  refine sq_val (a' := ⟨List.toArray ((nv 4 [a]) :: (.string (s.extract 0 5000)) :: (.pointer (some ⟨w.heap.size, 0, none⟩)) :: undef :: (.bool false) :: (.pointer (some ⟨w3.heap.size, 0, none⟩)) :: (.int .i64 c) :: undef :: undef :: (.string s) :: (.int .i64 (s.size : Int)) :: (.bool true) :: (.string s) :: (.string (s.extract 0 5000)) :: (.tuple #[nv 4 [v], .int .i64 c]) :: (.string (s.extract 0 5000)) :: (.tuple #[nv 4 [v], .int .i64 c]) :: (nv 4 [v]) :: (.int .i64 c) :: (.tuple #[nv 4 [v], .int .i64 c]) :: (.string (s.extract 0 5000)) :: (.tuple #[nv 4 [v], .int .i64 c]) :: (nv 4 [v]) :: (.int .i64 c) :: undef :: undef :: undef :: undef :: undef :: undef :: undef :: undef :: undef :: undef :: undef :: undef :: undef :: undef :: undef :: undef :: undef :: undef :: undef :: undef :: undef :: undef :: undef :: undef :: undef :: undef :: []), []⟩) (v := .int .i64 c) rfl rfl (ex_extract (vs := [nv 4 [v], .int .i64 c]) rfl rfl) ?_
  refine sq_new (a' := ⟨List.toArray ((nv 4 [a]) :: (.string (s.extract 0 5000)) :: (.pointer (some ⟨w.heap.size, 0, none⟩)) :: undef :: (.bool false) :: (.pointer (some ⟨w3.heap.size, 0, none⟩)) :: (.int .i64 c) :: (.pointer (some ⟨w13.heap.size, 0, none⟩)) :: undef :: (.string s) :: (.int .i64 (s.size : Int)) :: (.bool true) :: (.string s) :: (.string (s.extract 0 5000)) :: (.tuple #[nv 4 [v], .int .i64 c]) :: (.string (s.extract 0 5000)) :: (.tuple #[nv 4 [v], .int .i64 c]) :: (nv 4 [v]) :: (.int .i64 c) :: (.tuple #[nv 4 [v], .int .i64 c]) :: (.string (s.extract 0 5000)) :: (.tuple #[nv 4 [v], .int .i64 c]) :: (nv 4 [v]) :: (.int .i64 c) :: undef :: undef :: undef :: undef :: undef :: undef :: undef :: undef :: undef :: undef :: undef :: undef :: undef :: undef :: undef :: undef :: undef :: undef :: undef :: undef :: undef :: undef :: undef :: undef :: undef :: undef :: []), []⟩) (xs := rows 4 [0]) rfl rfl (ex_alloc zFr) ?_
  intro w17 N17 hb17
  have A18 := A14.keep hb17
  have A19 := A15.keep hb17
  have HB20 := below_then HB16 hb17
  refine sq_store (a' := ⟨List.toArray ((nv 4 [a]) :: (.string (s.extract 0 5000)) :: (.pointer (some ⟨w.heap.size, 0, none⟩)) :: undef :: (.bool false) :: (.pointer (some ⟨w3.heap.size, 0, none⟩)) :: (.int .i64 c) :: (.pointer (some ⟨w13.heap.size, 0, none⟩)) :: undef :: (.string s) :: (.int .i64 (s.size : Int)) :: (.bool true) :: (.string s) :: (.string (s.extract 0 5000)) :: (.tuple #[nv 4 [v], .int .i64 c]) :: (.string (s.extract 0 5000)) :: (.tuple #[nv 4 [v], .int .i64 c]) :: (nv 4 [v]) :: (.int .i64 c) :: (.tuple #[nv 4 [v], .int .i64 c]) :: (.string (s.extract 0 5000)) :: (.tuple #[nv 4 [v], .int .i64 c]) :: (nv 4 [v]) :: (.int .i64 c) :: undef :: undef :: undef :: undef :: undef :: undef :: undef :: undef :: undef :: undef :: undef :: undef :: undef :: undef :: undef :: undef :: undef :: undef :: undef :: undef :: undef :: undef :: undef :: undef :: undef :: undef :: []), []⟩) (t := 24) (xs := rows 4 [0]) (ys := rows 4 [v]) rfl rfl N17 (len_rows rfl) (ex_storen (K := 4) (l := [0]) (m := [v]) flFr rfl rfl N17 rfl) ?_
  intro w23 N23 hst23 hoth23
  have A24 := hoth23 _ _ _ (Nat.ne_of_lt A14.lt) A18
  have A25 := hoth23 _ _ _ (Nat.ne_of_lt A15.lt) A19
  have HB26 := hst23 _ _ HB20 HB16.size
  refine sq_val (a' := ⟨List.toArray ((nv 4 [a]) :: (.string (s.extract 0 5000)) :: (.pointer (some ⟨w.heap.size, 0, none⟩)) :: undef :: (.bool false) :: (.pointer (some ⟨w3.heap.size, 0, none⟩)) :: (.int .i64 c) :: (.pointer (some ⟨w13.heap.size, 0, none⟩)) :: (.int .i64 c) :: (.string s) :: (.int .i64 (s.size : Int)) :: (.bool true) :: (.string s) :: (.string (s.extract 0 5000)) :: (.tuple #[nv 4 [v], .int .i64 c]) :: (.string (s.extract 0 5000)) :: (.tuple #[nv 4 [v], .int .i64 c]) :: (nv 4 [v]) :: (.int .i64 c) :: (.tuple #[nv 4 [v], .int .i64 c]) :: (.string (s.extract 0 5000)) :: (.tuple #[nv 4 [v], .int .i64 c]) :: (nv 4 [v]) :: (.int .i64 c) :: undef :: undef :: undef :: undef :: undef :: undef :: undef :: undef :: undef :: undef :: undef :: undef :: undef :: undef :: undef :: undef :: undef :: undef :: undef :: undef :: undef :: undef :: undef :: undef :: undef :: undef :: []), []⟩) (v := .int .i64 c) rfl rfl (ex_assign _) ?_
  refine seq_nil ?_
  refine wp_seq (wp_region_p (F := ⟨List.toArray ((nv 4 [a]) :: (.string (s.extract 0 5000)) :: (.pointer (some ⟨w.heap.size, 0, none⟩)) :: undef :: (.bool true) :: (.pointer (some ⟨w3.heap.size, 0, none⟩)) :: (.int .i64 c) :: (.pointer (some ⟨w13.heap.size, 0, none⟩)) :: (.int .i64 c) :: (.string s) :: (.int .i64 (s.size : Int)) :: (.bool true) :: (.string s) :: (.string (s.extract 0 5000)) :: (.tuple #[nv 4 [v], .int .i64 c]) :: (.string (s.extract 0 5000)) :: (.tuple #[nv 4 [v], .int .i64 c]) :: (nv 4 [v]) :: (.int .i64 c) :: (.tuple #[nv 4 [v], .int .i64 c]) :: (.string (s.extract 0 5000)) :: (.tuple #[nv 4 [v], .int .i64 c]) :: (nv 4 [v]) :: (.int .i64 c) :: (.bool true) :: (.bool true) :: (nv 4 [a]) :: (.string x) :: (nv 4 [a]) :: (nv 4 [z]) :: (.string x) :: (.bool true) :: (.bool true) :: (.bool true) :: (nv 4 [v]) :: (nv 4 [v]) :: (.bool true) :: (.bool true) :: (.bool true) :: (.int .i64 c) :: (.int .i64 c) :: (.bool true) :: (.bool true) :: (.bool true) :: (.string (s.extract 0 5000)) :: (nv 4 [y]) :: (.string (s.extract 0 5000)) :: (nv 4 [y]) :: (.bool true) :: (.bool true) :: []), []⟩) (S := Bel w23) [(24, .bool true), (25, .bool true), (26, nv 4 [a]), (27, .string x), (28, nv 4 [a]), (29, nv 4 [z]), (30, .string x), (31, .bool true), (32, .bool true), (33, .bool true), (34, nv 4 [v]), (35, nv 4 [v]), (36, .bool true), (37, .bool true), (38, .bool true), (39, .int .i64 c), (40, .int .i64 c), (41, .bool true), (42, .bool true), (43, .bool true), (44, .string (s.extract 0 5000)), (45, nv 4 [y]), (46, .string (s.extract 0 5000)), (47, nv 4 [y]), (48, .bool true), (49, .bool true), (4, .bool true)] (by kernel_rfl) (by kernel_rfl) (by kernel_rfl) (by kernel_rfl) rfl (by simp only [putAll, List.setIfInBounds_toArray, List.set_cons_zero, List.set_cons_succ]) (Bel.start _) ?_ ?_)
  · refine PlanSteps.cons (ps_call (v := .bool true) rfl rfl rfl (fun W' => ex_call (vs := []) rfl Try.call7 rfl) (fun W' h => fralive_v _)) ?_
    refine PlanSteps.cons (ps_val (v := .bool true) rfl rfl rfl (fun W' h => ex_move _)) ?_
    refine PlanSteps.cons (ps_val (v := nv 4 [a]) rfl rfl rfl (fun W' h => ex_loadn (K := 4) (k := 0) (j := 1) (l := [a]) flFr rfl (A24.keep h.out) rfl _ rfl)) ?_
    refine PlanSteps.cons (ps_call (v := .string x) rfl rfl rfl (fun W' => ex_call (vs := [nv 4 [a]]) rfl Try.call8 rfl) (fun W' h => HP _)) ?_
    refine PlanSteps.cons (ps_val (v := nv 4 [a]) rfl rfl rfl (fun W' h => ex_loadn (K := 4) (k := 0) (j := 1) (l := [a]) flFr rfl (A24.keep h.out) rfl _ rfl)) ?_
    refine PlanSteps.cons (ps_call (v := nv 4 [z]) rfl rfl rfl (fun W' => ex_call (vs := [nv 4 [a]]) rfl Try.call10 rfl) (fun W' h => HC3 _)) ?_
    refine PlanSteps.cons (ps_call (v := .string x) rfl rfl rfl (fun W' => ex_call (vs := [nv 4 [z]]) rfl Try.call9 rfl) (fun W' h => HP3 _)) ?_
    refine PlanSteps.cons (ps_val (v := .bool true) rfl rfl rfl (fun W' h => ex_eqsB rfl rfl)) ?_
    refine PlanSteps.cons (ps_val (v := .bool true) rfl rfl rfl (fun W' h => ex_pick (r := true) rfl)) ?_
    refine PlanSteps.cons (ps_val (v := .bool true) rfl rfl rfl (fun W' h => ex_move _)) ?_
    refine PlanSteps.cons (ps_val (v := nv 4 [v]) rfl rfl rfl (fun W' h => ex_loadn (K := 4) (k := 0) (j := 1) (l := [v]) flFr rfl (A25.keep h.out) rfl _ rfl)) ?_
    refine PlanSteps.cons (ps_val (v := nv 4 [v]) rfl rfl rfl (fun W' h => ex_loadn (K := 4) (k := 0) (j := 1) (l := [v]) flFr rfl (N23.keep h.out) rfl _ rfl)) ?_
    refine PlanSteps.cons (ps_val (v := .bool true) rfl rfl rfl (fun W' h => ex_eqt (K := 4) (l := [v]) eqFr rfl rfl rfl rfl)) ?_
    refine PlanSteps.cons (ps_val (v := .bool true) rfl rfl rfl (fun W' h => ex_pick (r := true) rfl)) ?_
    refine PlanSteps.cons (ps_val (v := .bool true) rfl rfl rfl (fun W' h => ex_move _)) ?_
    refine PlanSteps.cons (ps_val (v := .int .i64 c) rfl rfl rfl (fun W' h => ex_move _)) ?_
    refine PlanSteps.cons (ps_val (v := .int .i64 c) rfl rfl rfl (fun W' h => ex_move _)) ?_
    refine PlanSteps.cons (ps_val (v := .bool true) rfl rfl rfl (fun W' h => ex_eqi rfl rfl true (by simp))) ?_
    refine PlanSteps.cons (ps_val (v := .bool true) rfl rfl rfl (fun W' h => ex_pick (r := true) rfl)) ?_
    refine PlanSteps.cons (ps_val (v := .bool true) rfl rfl rfl (fun W' h => ex_move _)) ?_
    refine PlanSteps.cons (ps_val (v := .string (s.extract 0 5000)) rfl rfl rfl (fun W' h => ex_move _)) ?_
    refine PlanSteps.cons (ps_call (v := nv 4 [y]) rfl rfl rfl (fun W' => ex_call (vs := [.string (s.extract 0 5000)]) rfl Try.call11 rfl) (fun W' h => HH _)) ?_
    refine PlanSteps.cons (ps_val (v := .string (s.extract 0 5000)) rfl rfl rfl (fun W' h => ex_move _)) ?_
    refine PlanSteps.cons (ps_call (v := nv 4 [y]) rfl rfl rfl (fun W' => ex_call (vs := [.string (s.extract 0 5000)]) rfl Try.call12 rfl) (fun W' h => HH3 _)) ?_
    refine PlanSteps.cons (ps_val (v := .bool true) rfl rfl rfl (fun W' h => ex_eqt (K := 4) (l := [y]) eqFr rfl rfl rfl rfl)) ?_
    refine PlanSteps.cons (ps_val (v := .bool true) rfl rfl rfl (fun W' h => ex_pick (r := true) rfl)) ?_
    refine PlanSteps.cons (ps_val (v := .bool true) rfl rfl rfl (fun W' h => ex_assign _)) ?_
    exact PlanSteps.nil
  intro w27 hb27
  refine then_nR ?_
  have A28 := A24.keep hb27.out
  have A29 := A25.keep hb27.out
  have A30 := N23.keep hb27.out
  have HB31 := below_then HB26 hb27.out
  exact wp_ret (bodyPost_ret (ret_tmp Try.results3 rfl) rfl ⟨rfl, HB31⟩)

set_option maxRecDepth 20000 in
set_option maxHeartbeats 4000000 in
theorem frBytes_short (a : Nat) (s : ByteArray) (w : World) (ha : a < frB) (hs : s.size ≤ 5000) :
    Calls Try.prog 3 #[nv 4 [a], .string s] w (Is (.bool true) w) := by
  have hlen : (s).size ≤ 5000 := by omega
  have hgt : false = decide (5000 < s.size) := (decide_eq_false (by omega)).symm
  obtain ⟨z, hz⟩ : ∃ z, z = a % rN := ⟨_, rfl⟩
  have hzM : z < rN := by rw [hz]; exact frM_mod a
  obtain ⟨x, hx⟩ : ∃ x : ByteArray, x = ⟨(be 32 z).toArray⟩ := ⟨_, rfl⟩
  have HP : ∀ W, Calls Try.prog 8 #[nv 4 [a]] W (Is (.string x) W) := fun W => by rw [hx, hz, nv4R]; exact frPut_v a W ha
  have HC3 : ∀ W, Calls Try.prog 10 #[nv 4 [a]] W (Is (nv 4 [z]) W) := fun W => by rw [nv4R, nv4R]; exact r3Clean_v a W ha z hz
  have HP3 : ∀ W, Calls Try.prog 9 #[nv 4 [z]] W (Is (.string x) W) := fun W => by rw [hx, nv4R]; exact r3Put_v z W (Nat.lt_trans hzM frM_lt)
  obtain ⟨v, hv⟩ : ∃ v, v = frGotV (s) := ⟨_, rfl⟩
  obtain ⟨c, hc⟩ : ∃ c, c = frGotE (s) := ⟨_, rfl⟩
  have HG : ∀ W, Calls Try.prog 5 #[.string (s)] W (Is (.tuple #[nv 4 [v], .int .i64 c]) W) := fun W => by rw [nv4R]; exact frGet_v _ W v hv c hc
  have HG3 : ∀ W, Calls Try.prog 6 #[.string (s)] W (Is (.tuple #[nv 4 [v], .int .i64 c]) W) := fun W => by rw [nv4R]; exact r3Get_v _ W v hv c hc
  obtain ⟨y, hh⟩ : ∃ y, y = hsh (s) (s).size := ⟨_, rfl⟩
  have HH : ∀ W, Calls Try.prog 11 #[.string (s)] W (Is (nv 4 [y]) W) := fun W => frHash_any _ W hlen y hh
  have HH3 : ∀ W, Calls Try.prog 12 #[.string (s)] W (Is (nv 4 [y]) W) := fun W => r3Hash_any _ W hlen y hh
  clear hx hz hv hc hh hlen
  go_enter Try.func3, Try.ntmps3
  refine seq_lit ?_
  refine sq_new (a' := ⟨List.toArray ((nv 4 [a]) :: (.string s) :: (.pointer (some ⟨w.heap.size, 0, none⟩)) :: undef :: undef :: undef :: undef :: undef :: undef :: undef :: undef :: undef :: undef :: undef :: undef :: undef :: undef :: undef :: undef :: undef :: undef :: undef :: undef :: undef :: undef :: undef :: undef :: undef :: undef :: undef :: undef :: undef :: undef :: undef :: undef :: undef :: undef :: undef :: undef :: undef :: undef :: undef :: undef :: undef :: undef :: undef :: undef :: undef :: undef :: undef :: []), []⟩) (xs := rows 4 [a]) rfl rfl (ex_boxn (K := 4) (l := [a]) rfl) ?_
  intro w1 N1 hb1
  have HB2 := below_then (Below.refl w.heap.size w) hb1
  refine sq_val (a' := ⟨List.toArray ((nv 4 [a]) :: (.string s) :: (.pointer (some ⟨w.heap.size, 0, none⟩)) :: undef :: (.bool false) :: undef :: undef :: undef :: undef :: undef :: undef :: undef :: undef :: undef :: undef :: undef :: undef :: undef :: undef :: undef :: undef :: undef :: undef :: undef :: undef :: undef :: undef :: undef :: undef :: undef :: undef :: undef :: undef :: undef :: undef :: undef :: undef :: undef :: undef :: undef :: undef :: undef :: undef :: undef :: undef :: undef :: undef :: undef :: undef :: undef :: []), []⟩) (v := .bool false) rfl rfl (ex_assign _) ?_
  refine seq_nil ?_
  refine wp_seq ?_
  refine seq_lit ?_
  refine sq_val (a' := ⟨List.toArray ((nv 4 [a]) :: (.string s) :: (.pointer (some ⟨w.heap.size, 0, none⟩)) :: undef :: (.bool false) :: undef :: undef :: undef :: undef :: (.string s) :: undef :: undef :: undef :: undef :: undef :: undef :: undef :: undef :: undef :: undef :: undef :: undef :: undef :: undef :: undef :: undef :: undef :: undef :: undef :: undef :: undef :: undef :: undef :: undef :: undef :: undef :: undef :: undef :: undef :: undef :: undef :: undef :: undef :: undef :: undef :: undef :: undef :: undef :: undef :: undef :: []), []⟩) (v := .string s) rfl rfl (ex_move _) ?_
  refine sq_val (a' := ⟨List.toArray ((nv 4 [a]) :: (.string s) :: (.pointer (some ⟨w.heap.size, 0, none⟩)) :: undef :: (.bool false) :: undef :: undef :: undef :: undef :: (.string s) :: (.int .i64 (s.size : Int)) :: undef :: undef :: undef :: undef :: undef :: undef :: undef :: undef :: undef :: undef :: undef :: undef :: undef :: undef :: undef :: undef :: undef :: undef :: undef :: undef :: undef :: undef :: undef :: undef :: undef :: undef :: undef :: undef :: undef :: undef :: undef :: undef :: undef :: undef :: undef :: undef :: undef :: undef :: undef :: []), []⟩) (v := .int .i64 (s.size : Int)) rfl rfl (ex_lenS rfl rfl) ?_
  refine sq_val (a' := ⟨List.toArray ((nv 4 [a]) :: (.string s) :: (.pointer (some ⟨w.heap.size, 0, none⟩)) :: undef :: (.bool false) :: undef :: undef :: undef :: undef :: (.string s) :: (.int .i64 (s.size : Int)) :: (.bool false) :: undef :: undef :: undef :: undef :: undef :: undef :: undef :: undef :: undef :: undef :: undef :: undef :: undef :: undef :: undef :: undef :: undef :: undef :: undef :: undef :: undef :: undef :: undef :: undef :: undef :: undef :: undef :: undef :: undef :: undef :: undef :: undef :: undef :: undef :: undef :: undef :: undef :: undef :: []), []⟩) (v := .bool false) rfl rfl (ex_gtrN (b := 5000) rfl rfl false hgt) ?_
  refine seq_nil ?_
  refine wp_cond_false rfl ?_
  refine wp_skip (then_nR ?_)
  refine seq_lit ?_
  refine sq_val (a' := ⟨List.toArray ((nv 4 [a]) :: (.string s) :: (.pointer (some ⟨w.heap.size, 0, none⟩)) :: undef :: (.bool false) :: undef :: undef :: undef :: undef :: (.string s) :: (.int .i64 (s.size : Int)) :: (.bool false) :: undef :: undef :: undef :: (.string s) :: undef :: undef :: undef :: undef :: undef :: undef :: undef :: undef :: undef :: undef :: undef :: undef :: undef :: undef :: undef :: undef :: undef :: undef :: undef :: undef :: undef :: undef :: undef :: undef :: undef :: undef :: undef :: undef :: undef :: undef :: undef :: undef :: undef :: undef :: []), []⟩) (v := .string s) rfl rfl (ex_move _) ?_
  refine sq_call (a' := ⟨List.toArray ((nv 4 [a]) :: (.string s) :: (.pointer (some ⟨w.heap.size, 0, none⟩)) :: undef :: (.bool false) :: undef :: undef :: undef :: undef :: (.string s) :: (.int .i64 (s.size : Int)) :: (.bool false) :: undef :: undef :: undef :: (.string s) :: (.tuple #[nv 4 [v], .int .i64 c]) :: undef :: undef :: undef :: undef :: undef :: undef :: undef :: undef :: undef :: undef :: undef :: undef :: undef :: undef :: undef :: undef :: undef :: undef :: undef :: undef :: undef :: undef :: undef :: undef :: undef :: undef :: undef :: undef :: undef :: undef :: undef :: undef :: undef :: []), []⟩) (v := .tuple #[nv 4 [v], .int .i64 c]) rfl rfl (ex_call (vs := [.string s]) rfl Try.call5 rfl) (HG _) ?_
  intro w3 hb3
  have A4 := N1.keep hb3
  have HB5 := below_then HB2 hb3
  refine sq_val (a' := ⟨List.toArray ((nv 4 [a]) :: (.string s) :: (.pointer (some ⟨w.heap.size, 0, none⟩)) :: undef :: (.bool false) :: undef :: undef :: undef :: undef :: (.string s) :: (.int .i64 (s.size : Int)) :: (.bool false) :: undef :: undef :: (.tuple #[nv 4 [v], .int .i64 c]) :: (.string s) :: (.tuple #[nv 4 [v], .int .i64 c]) :: undef :: undef :: undef :: undef :: undef :: undef :: undef :: undef :: undef :: undef :: undef :: undef :: undef :: undef :: undef :: undef :: undef :: undef :: undef :: undef :: undef :: undef :: undef :: undef :: undef :: undef :: undef :: undef :: undef :: undef :: undef :: undef :: undef :: []), []⟩) (v := .tuple #[nv 4 [v], .int .i64 c]) rfl rfl (ex_move _) ?_
  refine sq_val (a' := ⟨List.toArray ((nv 4 [a]) :: (.string s) :: (.pointer (some ⟨w.heap.size, 0, none⟩)) :: undef :: (.bool false) :: undef :: undef :: undef :: undef :: (.string s) :: (.int .i64 (s.size : Int)) :: (.bool false) :: undef :: undef :: (.tuple #[nv 4 [v], .int .i64 c]) :: (.string s) :: (.tuple #[nv 4 [v], .int .i64 c]) :: (nv 4 [v]) :: undef :: undef :: undef :: undef :: undef :: undef :: undef :: undef :: undef :: undef :: undef :: undef :: undef :: undef :: undef :: undef :: undef :: undef :: undef :: undef :: undef :: undef :: undef :: undef :: undef :: undef :: undef :: undef :: undef :: undef :: undef :: undef :: []), []⟩) (v := nv 4 [v]) rfl rfl (ex_extract (vs := [nv 4 [v], .int .i64 c]) rfl rfl) ?_
  refine sq_val (a' := ⟨List.toArray ((nv 4 [a]) :: (.string s) :: (.pointer (some ⟨w.heap.size, 0, none⟩)) :: undef :: (.bool false) :: undef :: undef :: undef :: undef :: (.string s) :: (.int .i64 (s.size : Int)) :: (.bool false) :: undef :: undef :: (.tuple #[nv 4 [v], .int .i64 c]) :: (.string s) :: (.tuple #[nv 4 [v], .int .i64 c]) :: (nv 4 [v]) :: (.int .i64 c) :: undef :: undef :: undef :: undef :: undef :: undef :: undef :: undef :: undef :: undef :: undef :: undef :: undef :: undef :: undef :: undef :: undef :: undef :: undef :: undef :: undef :: undef :: undef :: undef :: undef :: undef :: undef :: undef :: undef :: undef :: undef :: []), []⟩) (v := .int .i64 c) rfl rfl (ex_extract (vs := [nv 4 [v], .int .i64 c]) rfl rfl) ?_
  refine sq_new (a' := ⟨List.toArray ((nv 4 [a]) :: (.string s) :: (.pointer (some ⟨w.heap.size, 0, none⟩)) :: undef :: (.bool false) :: (.pointer (some ⟨w3.heap.size, 0, none⟩)) :: undef :: undef :: undef :: (.string s) :: (.int .i64 (s.size : Int)) :: (.bool false) :: undef :: undef :: (.tuple #[nv 4 [v], .int .i64 c]) :: (.string s) :: (.tuple #[nv 4 [v], .int .i64 c]) :: (nv 4 [v]) :: (.int .i64 c) :: undef :: undef :: undef :: undef :: undef :: undef :: undef :: undef :: undef :: undef :: undef :: undef :: undef :: undef :: undef :: undef :: undef :: undef :: undef :: undef :: undef :: undef :: undef :: undef :: undef :: undef :: undef :: undef :: undef :: undef :: undef :: []), []⟩) (xs := rows 4 [0]) rfl rfl (ex_alloc zFr) ?_
  intro w6 N6 hb6
  have A7 := A4.keep hb6
  have HB8 := below_then HB5 hb6
  refine sq_store (a' := ⟨List.toArray ((nv 4 [a]) :: (.string s) :: (.pointer (some ⟨w.heap.size, 0, none⟩)) :: undef :: (.bool false) :: (.pointer (some ⟨w3.heap.size, 0, none⟩)) :: undef :: undef :: undef :: (.string s) :: (.int .i64 (s.size : Int)) :: (.bool false) :: undef :: undef :: (.tuple #[nv 4 [v], .int .i64 c]) :: (.string s) :: (.tuple #[nv 4 [v], .int .i64 c]) :: (nv 4 [v]) :: (.int .i64 c) :: undef :: undef :: undef :: undef :: undef :: undef :: undef :: undef :: undef :: undef :: undef :: undef :: undef :: undef :: undef :: undef :: undef :: undef :: undef :: undef :: undef :: undef :: undef :: undef :: undef :: undef :: undef :: undef :: undef :: undef :: undef :: []), []⟩) (t := 24) (xs := rows 4 [0]) (ys := rows 4 [v]) rfl rfl N6 (len_rows rfl) (ex_storen (K := 4) (l := [0]) (m := [v]) flFr rfl rfl N6 rfl) ?_
  intro w10 N10 hst10 hoth10
  have A11 := hoth10 _ _ _ (Nat.ne_of_lt A4.lt) A7
  have HB12 := hst10 _ _ HB8 HB5.size
  refine sq_val (a' := ⟨List.toArray ((nv 4 [a]) :: (.string s) :: (.pointer (some ⟨w.heap.size, 0, none⟩)) :: undef :: (.bool false) :: (.pointer (some ⟨w3.heap.size, 0, none⟩)) :: (.int .i64 c) :: undef :: undef :: (.string s) :: (.int .i64 (s.size : Int)) :: (.bool false) :: undef :: undef :: (.tuple #[nv 4 [v], .int .i64 c]) :: (.string s) :: (.tuple #[nv 4 [v], .int .i64 c]) :: (nv 4 [v]) :: (.int .i64 c) :: undef :: undef :: undef :: undef :: undef :: undef :: undef :: undef :: undef :: undef :: undef :: undef :: undef :: undef :: undef :: undef :: undef :: undef :: undef :: undef :: undef :: undef :: undef :: undef :: undef :: undef :: undef :: undef :: undef :: undef :: undef :: []), []⟩) (v := .int .i64 c) rfl rfl (ex_assign _) ?_
  refine seq_nil ?_
  refine seq_lit ?_
  refine sq_val (a' := ⟨List.toArray ((nv 4 [a]) :: (.string s) :: (.pointer (some ⟨w.heap.size, 0, none⟩)) :: undef :: (.bool false) :: (.pointer (some ⟨w3.heap.size, 0, none⟩)) :: (.int .i64 c) :: undef :: undef :: (.string s) :: (.int .i64 (s.size : Int)) :: (.bool false) :: undef :: undef :: (.tuple #[nv 4 [v], .int .i64 c]) :: (.string s) :: (.tuple #[nv 4 [v], .int .i64 c]) :: (nv 4 [v]) :: (.int .i64 c) :: undef :: (.string s) :: undef :: undef :: undef :: undef :: undef :: undef :: undef :: undef :: undef :: undef :: undef :: undef :: undef :: undef :: undef :: undef :: undef :: undef :: undef :: undef :: undef :: undef :: undef :: undef :: undef :: undef :: undef :: undef :: undef :: []), []⟩) (v := .string s) rfl rfl (ex_move _) ?_
  refine sq_call (a' := ⟨List.toArray ((nv 4 [a]) :: (.string s) :: (.pointer (some ⟨w.heap.size, 0, none⟩)) :: undef :: (.bool false) :: (.pointer (some ⟨w3.heap.size, 0, none⟩)) :: (.int .i64 c) :: undef :: undef :: (.string s) :: (.int .i64 (s.size : Int)) :: (.bool false) :: undef :: undef :: (.tuple #[nv 4 [v], .int .i64 c]) :: (.string s) :: (.tuple #[nv 4 [v], .int .i64 c]) :: (nv 4 [v]) :: (.int .i64 c) :: undef :: (.string s) :: (.tuple #[nv 4 [v], .int .i64 c]) :: undef :: undef :: undef :: undef :: undef :: undef :: undef :: undef :: undef :: undef :: undef :: undef :: undef :: undef :: undef :: undef :: undef :: undef :: undef :: undef :: undef :: undef :: undef :: undef :: undef :: undef :: undef :: undef :: []), []⟩) (v := .tuple #[nv 4 [v], .int .i64 c]) rfl rfl (ex_call (vs := [.string s]) rfl Try.call6 rfl) (HG3 _) ?_
  intro w13 hb13
  have A14 := A11.keep hb13
  have A15 := N10.keep hb13
  have HB16 := below_then HB12 hb13
  refine sq_val (a' := ⟨List.toArray ((nv 4 [a]) :: (.string s) :: (.pointer (some ⟨w.heap.size, 0, none⟩)) :: undef :: (.bool false) :: (.pointer (some ⟨w3.heap.size, 0, none⟩)) :: (.int .i64 c) :: undef :: undef :: (.string s) :: (.int .i64 (s.size : Int)) :: (.bool false) :: undef :: undef :: (.tuple #[nv 4 [v], .int .i64 c]) :: (.string s) :: (.tuple #[nv 4 [v], .int .i64 c]) :: (nv 4 [v]) :: (.int .i64 c) :: (.tuple #[nv 4 [v], .int .i64 c]) :: (.string s) :: (.tuple #[nv 4 [v], .int .i64 c]) :: undef :: undef :: undef :: undef :: undef :: undef :: undef :: undef :: undef :: undef :: undef :: undef :: undef :: undef :: undef :: undef :: undef :: undef :: undef :: undef :: undef :: undef :: undef :: undef :: undef :: undef :: undef :: undef :: []), []⟩) (v := .tuple #[nv 4 [v], .int .i64 c]) rfl rfl (ex_move _) ?_
  refine sq_val (a' := ⟨List.toArray ((nv 4 [a]) :: (.string s) :: (.pointer (some ⟨w.heap.size, 0, none⟩)) :: undef :: (.bool false) :: (.pointer (some ⟨w3.heap.size, 0, none⟩)) :: (.int .i64 c) :: undef :: undef :: (.string s) :: (.int .i64 (s.size : Int)) :: (.bool false) :: undef :: undef :: (.tuple #[nv 4 [v], .int .i64 c]) :: (.string s) :: (.tuple #[nv 4 [v], .int .i64 c]) :: (nv 4 [v]) :: (.int .i64 c) :: (.tuple #[nv 4 [v], .int .i64 c]) :: (.string s) :: (.tuple #[nv 4 [v], .int .i64 c]) :: (nv 4 [v]) :: undef :: undef :: undef :: undef :: undef :: undef :: undef :: undef :: undef :: undef :: undef :: undef :: undef :: undef :: undef :: undef :: undef :: undef :: undef :: undef :: undef :: undef :: undef :: undef :: undef :: undef :: undef :: []), []⟩) (v := nv 4 [v]) rfl rfl (ex_extract (vs := [nv 4 [v], .int .i64 c]) rfl rfl) ?_
  refine sq_val (a' := ⟨List.toArray ((nv 4 [a]) :: (.string s) :: (.pointer (some ⟨w.heap.size, 0, none⟩)) :: undef :: (.bool false) :: (.pointer (some ⟨w3.heap.size, 0, none⟩)) :: (.int .i64 c) :: undef :: undef :: (.string s) :: (.int .i64 (s.size : Int)) :: (.bool false) :: undef :: undef :: (.tuple #[nv 4 [v], .int .i64 c]) :: (.string s) :: (.tuple #[nv 4 [v], .int .i64 c]) :: (nv 4 [v]) :: (.int .i64 c) :: (.tuple #[nv 4 [v], .int .i64 c]) :: (.string s) :: (.tuple #[nv 4 [v], .int .i64 c]) :: (nv 4 [v]) :: (.int .i64 c) :: undef :: undef :: undef :: undef :: undef :: undef :: undef :: undef :: undef :: undef :: undef :: undef :: undef :: undef :: undef :: undef :: undef :: undef :: undef :: undef :: undef :: undef :: undef :: undef :: undef :: undef :: []), []⟩) (v := .int .i64 c) rfl rfl (ex_extract (vs := [nv 4 [v], .int .i64 c]) rfl rfl) ?_
  refine sq_new (a' := ⟨List.toArray ((nv 4 [a]) :: (.string s) :: (.pointer (some ⟨w.heap.size, 0, none⟩)) :: undef :: (.bool false) :: (.pointer (some ⟨w3.heap.size, 0, none⟩)) :: (.int .i64 c) :: (.pointer (some ⟨w13.heap.size, 0, none⟩)) :: undef :: (.string s) :: (.int .i64 (s.size : Int)) :: (.bool false) :: undef :: undef :: (.tuple #[nv 4 [v], .int .i64 c]) :: (.string s) :: (.tuple #[nv 4 [v], .int .i64 c]) :: (nv 4 [v]) :: (.int .i64 c) :: (.tuple #[nv 4 [v], .int .i64 c]) :: (.string s) :: (.tuple #[nv 4 [v], .int .i64 c]) :: (nv 4 [v]) :: (.int .i64 c) :: undef :: undef :: undef :: undef :: undef :: undef :: undef :: undef :: undef :: undef :: undef :: undef :: undef :: undef :: undef :: undef :: undef :: undef :: undef :: undef :: undef :: undef :: undef :: undef :: undef :: undef :: []), []⟩) (xs := rows 4 [0]) rfl rfl (ex_alloc zFr) ?_
  intro w17 N17 hb17
  have A18 := A14.keep hb17
  have A19 := A15.keep hb17
  have HB20 := below_then HB16 hb17
  refine sq_store (a' := ⟨List.toArray ((nv 4 [a]) :: (.string s) :: (.pointer (some ⟨w.heap.size, 0, none⟩)) :: undef :: (.bool false) :: (.pointer (some ⟨w3.heap.size, 0, none⟩)) :: (.int .i64 c) :: (.pointer (some ⟨w13.heap.size, 0, none⟩)) :: undef :: (.string s) :: (.int .i64 (s.size : Int)) :: (.bool false) :: undef :: undef :: (.tuple #[nv 4 [v], .int .i64 c]) :: (.string s) :: (.tuple #[nv 4 [v], .int .i64 c]) :: (nv 4 [v]) :: (.int .i64 c) :: (.tuple #[nv 4 [v], .int .i64 c]) :: (.string s) :: (.tuple #[nv 4 [v], .int .i64 c]) :: (nv 4 [v]) :: (.int .i64 c) :: undef :: undef :: undef :: undef :: undef :: undef :: undef :: undef :: undef :: undef :: undef :: undef :: undef :: undef :: undef :: undef :: undef :: undef :: undef :: undef :: undef :: undef :: undef :: undef :: undef :: undef :: []), []⟩) (t := 24) (xs := rows 4 [0]) (ys := rows 4 [v]) rfl rfl N17 (len_rows rfl) (ex_storen (K := 4) (l := [0]) (m := [v]) flFr rfl rfl N17 rfl) ?_
  intro w23 N23 hst23 hoth23
  have A24 := hoth23 _ _ _ (Nat.ne_of_lt A14.lt) A18
  have A25 := hoth23 _ _ _ (Nat.ne_of_lt A15.lt) A19
  have HB26 := hst23 _ _ HB20 HB16.size
  refine sq_val (a' := ⟨List.toArray ((nv 4 [a]) :: (.string s) :: (.pointer (some ⟨w.heap.size, 0, none⟩)) :: undef :: (.bool false) :: (.pointer (some ⟨w3.heap.size, 0, none⟩)) :: (.int .i64 c) :: (.pointer (some ⟨w13.heap.size, 0, none⟩)) :: (.int .i64 c) :: (.string s) :: (.int .i64 (s.size : Int)) :: (.bool false) :: undef :: undef :: (.tuple #[nv 4 [v], .int .i64 c]) :: (.string s) :: (.tuple #[nv 4 [v], .int .i64 c]) :: (nv 4 [v]) :: (.int .i64 c) :: (.tuple #[nv 4 [v], .int .i64 c]) :: (.string s) :: (.tuple #[nv 4 [v], .int .i64 c]) :: (nv 4 [v]) :: (.int .i64 c) :: undef :: undef :: undef :: undef :: undef :: undef :: undef :: undef :: undef :: undef :: undef :: undef :: undef :: undef :: undef :: undef :: undef :: undef :: undef :: undef :: undef :: undef :: undef :: undef :: undef :: undef :: []), []⟩) (v := .int .i64 c) rfl rfl (ex_assign _) ?_
  refine seq_nil ?_
  refine wp_seq (wp_region_p (F := ⟨List.toArray ((nv 4 [a]) :: (.string s) :: (.pointer (some ⟨w.heap.size, 0, none⟩)) :: undef :: (.bool true) :: (.pointer (some ⟨w3.heap.size, 0, none⟩)) :: (.int .i64 c) :: (.pointer (some ⟨w13.heap.size, 0, none⟩)) :: (.int .i64 c) :: (.string s) :: (.int .i64 (s.size : Int)) :: (.bool false) :: undef :: undef :: (.tuple #[nv 4 [v], .int .i64 c]) :: (.string s) :: (.tuple #[nv 4 [v], .int .i64 c]) :: (nv 4 [v]) :: (.int .i64 c) :: (.tuple #[nv 4 [v], .int .i64 c]) :: (.string s) :: (.tuple #[nv 4 [v], .int .i64 c]) :: (nv 4 [v]) :: (.int .i64 c) :: (.bool true) :: (.bool true) :: (nv 4 [a]) :: (.string x) :: (nv 4 [a]) :: (nv 4 [z]) :: (.string x) :: (.bool true) :: (.bool true) :: (.bool true) :: (nv 4 [v]) :: (nv 4 [v]) :: (.bool true) :: (.bool true) :: (.bool true) :: (.int .i64 c) :: (.int .i64 c) :: (.bool true) :: (.bool true) :: (.bool true) :: (.string s) :: (nv 4 [y]) :: (.string s) :: (nv 4 [y]) :: (.bool true) :: (.bool true) :: []), []⟩) (S := Bel w23) [(24, .bool true), (25, .bool true), (26, nv 4 [a]), (27, .string x), (28, nv 4 [a]), (29, nv 4 [z]), (30, .string x), (31, .bool true), (32, .bool true), (33, .bool true), (34, nv 4 [v]), (35, nv 4 [v]), (36, .bool true), (37, .bool true), (38, .bool true), (39, .int .i64 c), (40, .int .i64 c), (41, .bool true), (42, .bool true), (43, .bool true), (44, .string s), (45, nv 4 [y]), (46, .string s), (47, nv 4 [y]), (48, .bool true), (49, .bool true), (4, .bool true)] (by kernel_rfl) (by kernel_rfl) (by kernel_rfl) (by kernel_rfl) rfl (by simp only [putAll, List.setIfInBounds_toArray, List.set_cons_zero, List.set_cons_succ]) (Bel.start _) ?_ ?_)
  · refine PlanSteps.cons (ps_call (v := .bool true) rfl rfl rfl (fun W' => ex_call (vs := []) rfl Try.call7 rfl) (fun W' h => fralive_v _)) ?_
    refine PlanSteps.cons (ps_val (v := .bool true) rfl rfl rfl (fun W' h => ex_move _)) ?_
    refine PlanSteps.cons (ps_val (v := nv 4 [a]) rfl rfl rfl (fun W' h => ex_loadn (K := 4) (k := 0) (j := 1) (l := [a]) flFr rfl (A24.keep h.out) rfl _ rfl)) ?_
    refine PlanSteps.cons (ps_call (v := .string x) rfl rfl rfl (fun W' => ex_call (vs := [nv 4 [a]]) rfl Try.call8 rfl) (fun W' h => HP _)) ?_
    refine PlanSteps.cons (ps_val (v := nv 4 [a]) rfl rfl rfl (fun W' h => ex_loadn (K := 4) (k := 0) (j := 1) (l := [a]) flFr rfl (A24.keep h.out) rfl _ rfl)) ?_
    refine PlanSteps.cons (ps_call (v := nv 4 [z]) rfl rfl rfl (fun W' => ex_call (vs := [nv 4 [a]]) rfl Try.call10 rfl) (fun W' h => HC3 _)) ?_
    refine PlanSteps.cons (ps_call (v := .string x) rfl rfl rfl (fun W' => ex_call (vs := [nv 4 [z]]) rfl Try.call9 rfl) (fun W' h => HP3 _)) ?_
    refine PlanSteps.cons (ps_val (v := .bool true) rfl rfl rfl (fun W' h => ex_eqsB rfl rfl)) ?_
    refine PlanSteps.cons (ps_val (v := .bool true) rfl rfl rfl (fun W' h => ex_pick (r := true) rfl)) ?_
    refine PlanSteps.cons (ps_val (v := .bool true) rfl rfl rfl (fun W' h => ex_move _)) ?_
    refine PlanSteps.cons (ps_val (v := nv 4 [v]) rfl rfl rfl (fun W' h => ex_loadn (K := 4) (k := 0) (j := 1) (l := [v]) flFr rfl (A25.keep h.out) rfl _ rfl)) ?_
    refine PlanSteps.cons (ps_val (v := nv 4 [v]) rfl rfl rfl (fun W' h => ex_loadn (K := 4) (k := 0) (j := 1) (l := [v]) flFr rfl (N23.keep h.out) rfl _ rfl)) ?_
    refine PlanSteps.cons (ps_val (v := .bool true) rfl rfl rfl (fun W' h => ex_eqt (K := 4) (l := [v]) eqFr rfl rfl rfl rfl)) ?_
    refine PlanSteps.cons (ps_val (v := .bool true) rfl rfl rfl (fun W' h => ex_pick (r := true) rfl)) ?_
    refine PlanSteps.cons (ps_val (v := .bool true) rfl rfl rfl (fun W' h => ex_move _)) ?_
    refine PlanSteps.cons (ps_val (v := .int .i64 c) rfl rfl rfl (fun W' h => ex_move _)) ?_
    refine PlanSteps.cons (ps_val (v := .int .i64 c) rfl rfl rfl (fun W' h => ex_move _)) ?_
    refine PlanSteps.cons (ps_val (v := .bool true) rfl rfl rfl (fun W' h => ex_eqi rfl rfl true (by simp))) ?_
    refine PlanSteps.cons (ps_val (v := .bool true) rfl rfl rfl (fun W' h => ex_pick (r := true) rfl)) ?_
    refine PlanSteps.cons (ps_val (v := .bool true) rfl rfl rfl (fun W' h => ex_move _)) ?_
    refine PlanSteps.cons (ps_val (v := .string s) rfl rfl rfl (fun W' h => ex_move _)) ?_
    refine PlanSteps.cons (ps_call (v := nv 4 [y]) rfl rfl rfl (fun W' => ex_call (vs := [.string s]) rfl Try.call11 rfl) (fun W' h => HH _)) ?_
    refine PlanSteps.cons (ps_val (v := .string s) rfl rfl rfl (fun W' h => ex_move _)) ?_
    refine PlanSteps.cons (ps_call (v := nv 4 [y]) rfl rfl rfl (fun W' => ex_call (vs := [.string s]) rfl Try.call12 rfl) (fun W' h => HH3 _)) ?_
    refine PlanSteps.cons (ps_val (v := .bool true) rfl rfl rfl (fun W' h => ex_eqt (K := 4) (l := [y]) eqFr rfl rfl rfl rfl)) ?_
    refine PlanSteps.cons (ps_val (v := .bool true) rfl rfl rfl (fun W' h => ex_pick (r := true) rfl)) ?_
    refine PlanSteps.cons (ps_val (v := .bool true) rfl rfl rfl (fun W' h => ex_assign _)) ?_
    exact PlanSteps.nil
  intro w27 hb27
  refine then_nR ?_
  have A28 := A24.keep hb27.out
  have A29 := A25.keep hb27.out
  have A30 := N23.keep hb27.out
  have HB31 := below_then HB26 hb27.out
  exact wp_ret (bodyPost_ret (ret_tmp Try.results3 rfl) rfl ⟨rfl, HB31⟩)

theorem frBytes_v (a : Nat) (s : ByteArray) (w : World) (ha : a < frB) :
    Calls Try.prog 3 #[nv 4 [a], .string s] w (Is (.bool true) w) := by
  rcases Nat.lt_or_ge 5000 s.size with h | h
  · exact frBytes_long a s w ha h
  · exact frBytes_short a s w ha h

open Go.ChangeShapes Go.WideShapes Go.ChangeAt
open Go.ChangeMaps (open_string)

theorem frBytes_own : ownKnob Try.prog.godebug = none := by kernel_rfl
theorem frBytes_laidOut : laidOutB Try.prog = true := by kernel_rfl

/-! The row's step. -/
set_option maxRecDepth 100000 in
theorem frBytes_lifted (os : Os) (started : os.Started) (H : Type) (enc : TypeId × Value → H) :
    ReturnsInHanded {} Try.checked os 3 .any (Rows.frBytesSpec.pre6 enc Try.prog Try.f3 Rows.frBytesRow.domain false) (Rows.frBytesSpec.post enc Try.prog Try.f3 false true false false) := by
  refine returnsInHanded_of_change (C := Try.checked) frBytes_own started (by kernel_rfl) Try.func3
    (ChangeSpec.witness6 (enc := enc) (C := Try.checked) false ⟨#[], #[.agg #[.int .u64 0, .int .u64 0, .int .u64 0, .int .u64 0], .string ByteArray.empty], []⟩ 8 (by kernel_rfl) (by kernel_rfl) (by kernel_rfl) (by kernel_rfl)) ?_
  intro W base args ds gs before hval0 hW _ _
  have hval : ∀ (j : Nat) t v, Try.f3.params[j]? = some t → args[j]? = some v → Value.okWide Try.prog W .any base t v := hval0
  have hW' := hW
  obtain ⟨p, q, hA0, hV, rfl, hfz, hnd⟩ := hW
  have hA : DataW.TrodAll enc Try.prog W 0 (fun _ => true) true Try.f3.params.toList args.toList ds p := hA0
  rw [Try.params3] at hA hval
  obtain ⟨v0, vs0, d0, ds0, p0, q0, hargs, rfl, rfl, h0, r0⟩ := trodAll_cons hA
  obtain ⟨v1, vs1, d1, ds1, p1, q1, rfl, rfl, rfl, h1, r1⟩ := trodAll_cons r0
  obtain ⟨rfl, rfl, rfl⟩ := trodAll_nil r1
  obtain rfl : args = #[v0, v1] := by cases args; simp_all
  obtain ⟨rfl, rfl⟩ := trodVars_none hV
  have k0 := h0
  have lt0 : ∀ x ∈ p0, x.block < W.heap.size := by obtain ⟨m, hm⟩ := k0; exact DataW.trod_lt m _ _ _ hm
  obtain ⟨a0, w0, rfl⟩ := open_fr1 (hval 0 24 v0 rfl rfl) h0
  have k1 := h1
  have lt1 : ∀ x ∈ p1, x.block < W.heap.size := by obtain ⟨m, hm⟩ := k1; exact DataW.trod_lt m _ _ _ hm
  obtain ⟨a1, rfl, _, _, w1⟩ := open_string Try.underlying9 (hval 1 9 v1 rfl rfl) h1
  clear hA0 hval0
  refine (frBytes_v a0 a1 W w0).mono fun e W' ⟨he, bel⟩ => ?_
  subst he
  exact ⟨_, rfl, _, _, _, [], _, [], hW', trodAll_mk1 (shut_bool Try.underlying4 _), (trodAll_cons_mk (Below.trod frBytes_laidOut (by kernel_rfl) (of_decide_eq_true (by kernel_rfl)) k0 bel lt0) (trodAll_cons_mk (Below.trod frBytes_laidOut (by kernel_rfl) (of_decide_eq_true (by kernel_rfl)) k1 bel lt1) trodAll_mk0)), rfl, bel.frame _, fun h => by cases h⟩

theorem frBytes_over : Rows.frBytesRow.holds Try.pinned (OpenSpec.ofChange Rows.frBytesSpec) :=
  OpenClaim.holds_of_wide 3 Try.f3 rfl rfl rfl rfl rfl rfl rfl ⟨rfl, rfl, rfl, rfl, rfl⟩ rfl rfl rfl rfl rfl (by kernel_rfl) Try.func3 (by kernel_rfl)
    (of_decide_eq_true (by kernel_rfl)) (by unfold Func.isWrapper; first | (rw [if_pos (by decide +kernel)]; kernel_rfl) | (rw [if_neg (by decide +kernel)]; exact ⟨rfl, rfl⟩))
    (fun os started H enc _ => frBytes_lifted os started H enc)

/-- The statement. -/
theorem frBytes_holds : Rows.FrBytesSaid := frBytes_over
#print axioms frBytes_holds

end Go.Proofs.Ytlpaegmnahcbjaa
