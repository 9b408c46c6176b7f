/- What is proved here: contracts of nat.putLimb, nat.Put and of the reference's Put: a number's bytes, the highest first. -/
import Derived.Test.YtpjkcdkhfjcojaaBytes
namespace Go.Proofs.Ytpjkcdkhfjcojaa
open Go.RowKit

/-- What a call leaves that answers a row of bytes that is owned from base on. -/
def MakesB (base : Nat) (l : List UInt8) (w : World) (e : Ending) (w' : World) : Prop :=
  ∃ v, e = .returned v ∧ OwnBS w' base v l ∧ Below base w w'

theorem limb_byte (x k : Nat) : ((x : Int) / 2 ^ (8 * (7 - k)) % 256).toNat = x / 256 ^ (8 - 1 - k) % 256 := by
  rw [pow256, show 8 - 1 - k = 7 - k by omega]
  have : ((x : Int) / 2 ^ (8 * (7 - k)) % 256) = ((x / 2 ^ (8 * (7 - k)) % 256 : Nat) : Int) := by simp
  rw [this, Int.toNat_natCast]

/-- What a call leaves that answers a text. -/
def MakesT (l : List UInt8) (w : World) (e : Ending) (w' : World) : Prop :=
  e = .returned (.string ⟨l.toArray⟩) ∧ Below w.heap.size w w'

theorem OwnBS.alloc {w : World} {base : Nat} {v : Value} {l : List UInt8} (h : OwnBS w base v l) (o : Obj) : OwnBS (w.alloc o) base v l := World.ownsRow.alloc h o

theorem ownBS_empty (w : World) (base : Nat) (hb : base ≤ w.heap.size) : OwnBS (w.alloc (.cells #[] 5)) base (.slice (some ⟨w.heap.size, 0, none⟩) 0 0) [] :=
  World.ownsRow_lit w #[] 0 hb (Nat.zero_le _) (by simp)

theorem byte_of_limb (V q : Nat) : V / 2 ^ (64 * (q / 8)) % 2 ^ 64 / 2 ^ (8 * (q % 8)) % 256 = V / 256 ^ q % 256 := by
  have hr : q % 8 < 8 := Nat.mod_lt _ (by decide)
  have e : (2 : Nat) ^ 64 = 2 ^ (8 * (q % 8)) * (256 * 2 ^ (56 - 8 * (q % 8))) := by
    rw [show 256 = 2 ^ 8 from rfl, ← Nat.pow_add, ← Nat.pow_add]; congr 1; omega
  have e2 : 256 ^ q = 2 ^ (64 * (q / 8)) * 2 ^ (8 * (q % 8)) := by rw [pow256, ← Nat.pow_add]; congr 1; omega
  rw [e2, ← Nat.div_div_eq_div_mul]
  generalize V / 2 ^ (64 * (q / 8)) = U
  rw [e, Nat.mod_mul_right_div_self, Nat.mod_mul_right_mod]

theorem ref_byte (x s : Nat) : ((x : Int) / 2 ^ s).tmod 256 % 256 = ((x / 2 ^ s % 256 : Nat) : Int) := by
  rw [Int.tmod_eq_emod_of_nonneg (Int.ediv_nonneg (by omega) (Int.le_of_lt (Int.pow_pos (by decide)))), Int.emod_emod_of_dvd _ (Int.dvd_refl _)]
  simp
end Go.Proofs.Ytpjkcdkhfjcojaa
