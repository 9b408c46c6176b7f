/- What is proved here: contracts of mont.Mul, Into and From: of elements of a modulus what the document says; everything else is refused. -/
import Derived.Test.YtkkmekdhejhapaaMontSet
import Derived.Test.YtkkmekdhejhapaaNeg
namespace Go.Proofs.Ytkkmekdhejhapaa
open Go.RowKit
theorem true_iff_of {p : Prop} (h : p) : true = true ↔ p := ⟨fun _ => h, fun _ => rfl⟩
theorem from_of {M K X v : Nat} (hM : M % 2 = 1) (h1 : 1 < M) (hv : v < M) (h : v * 2 ^ (64 * K) % M = X % M) : v = fromOf M (64 * K) (X % M) :=
  fromOf_eq hM (Nat.mod_lt _ (by omega)) hv h
set_option maxHeartbeats 1000000 in
theorem montMul_any (a : Option Addr) (c : Nat) (xs : List Nat) (a' : Option Addr) (c' : Nat) (ys : List Nat) (am : Option Addr) (n cm : Nat) (ms : List Nat) (w : World) (hn : n ≤ c) (hm : c ≤ maxLen) (hn' : n ≤ c') (hm' : c' ≤ maxLen) (hnm : n ≤ cm) (hmm : cm ≤ maxLen)
    (hv : View w a n xs) (hv' : View w a' n ys) (hvm : View w am n ms) (hM : IsMod n ms) (hx : val xs < val ms) (hy : val ys < val ms) :
    Calls Try.prog 54 #[.slice a n c, .slice a' n c', .slice am n cm] w (MakesE n (fromOf (val ms) (64 * n) (val xs * val ys % val ms)) w) := by
  have hM' := hM
  obtain ⟨h1, h8, hodd, hM1⟩ := hM'
  obtain ⟨b, off, rfl, _, _⟩ := hvm.cell 0 (by omega)
  have hn0 : 0 < n := by omega
  have HM := Lib.hid hM
  clear hM
  go_enter Try.func54, Try.ntmps54
  go_wp2_with fail
  refine (isModulus_any _ n cm ms _ hnm hmm hvm true (true_iff_of HM.out)).mono ?_
  rintro e w' ⟨rfl, rfl⟩
  go_wp2_with fail
  refine (isElement_any _ n c xs _ n cm ms _ hn hm hnm hmm hv hvm (by omega) true (true_iff_of ⟨rfl, hx⟩)).mono ?_
  rintro e w' ⟨rfl, rfl⟩
  go_wp2_with fail
  refine (isElement_any _ n c' ys _ n cm ms _ hn' hm' hnm hmm hv' hvm (by omega) true (true_iff_of ⟨rfl, hy⟩)).mono ?_
  rintro e w' ⟨rfl, rfl⟩
  go_wp2_with (at_make; refine wpList_make_limbs _ rfl _ _ rfl n _ _ rfl rfl rfl rfl (by omega) ?_; intro w1 ho hbl; have HO := Lib.hid ho; have HB := Lib.hid hbl; have u1 := Lib.hid (hv.below (Nat.le_refl _) hbl); have u2 := Lib.hid (hv'.below (Nat.le_refl _) hbl); have u3 := Lib.hid (hvm.below (Nat.le_refl _) hbl); obtain ⟨_, _, e0, _, hc0⟩ := u3.out.cell 0 hn0; cases e0; rw [Nat.add_zero] at hc0; clear ho hbl)
  refine (neg_nat _ _ (hvm.lt 0)).mono ?_
  rintro e w' ⟨ng, rfl, rfl, hng⟩
  have HNG := Lib.hid hng
  clear hng
  go_wp2_with fail
  refine (multiply_any w.heap.size n _ (List.replicate n 0) _ _ xs _ _ ys _ _ ms ng _ hn' hm' HO.out (List.length_replicate ..) u1.out u2.out u3.out HM.out hy HNG.out).mono ?_
  rintro e w2 ⟨v, ⟨rfl, ho2, hb2, _⟩, hv1, hv2⟩
  have HO2 := Lib.hid ho2
  have HB2 := Lib.hid (HB.out.trans hb2)
  have HV := Lib.hid (from_of hodd hM1 hv1 hv2)
  clear ho2 hb2 hv1 hv2
  go_wp2
  go_ret2
  exact ⟨_, rfl, by rw [← HV.out]; exact HO2.out, Nat.le_refl _, HB2.out⟩
end Go.Proofs.Ytkkmekdhejhapaa
