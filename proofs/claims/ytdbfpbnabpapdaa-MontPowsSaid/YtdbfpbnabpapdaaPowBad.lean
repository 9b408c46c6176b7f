/- What is proved here: what mont.Pow refuses. -/
import Derived.Test.YtdbfpbnabpapdaaPow
namespace Go.Proofs.Ytdbfpbnabpapdaa
open Go.RowKit Go.Shelf

attribute [local go_sem] Oper.semAt_some

/-- What a refusal answers, where the call has laid memory of its own. -/
def RefusedB (w : World) (e : Ending) (w' : World) : Prop := e = .returned (.tuple #[.slice none 0 0, .int .i64 1]) ∧ Below w.heap.size w w'

set_option maxRecDepth 100000 in
set_option maxHeartbeats 4000000 in
theorem montPow_bad (a : Option Addr) (n c : Nat) (xs : List Nat) (ae : Option Addr) (ne ce : Nat) (am : Option Addr) (nm cm : Nat) (ms : List Nat) (w : World) (hn : n ≤ c) (hm : c ≤ maxLen) (hnm : nm ≤ cm) (hmm : cm ≤ maxLen)
    (hv : View w a n xs) (hvm : View w am nm ms) (hb : ¬ (IsMod nm ms ∧ IsElem n xs nm ms ∧ ne ≤ 16)) :
    Calls Try.prog 20 #[.slice a n c, .slice ae ne ce, .slice am nm cm] w (RefusedB w) := by
  have bx : Below w.heap.size w (w.alloc (.cells #[.slice am nm cm] 26)) := below_alloc w _
  have BX := Lib.hid bx
  have U1 := Lib.hid (hv.below (Nat.le_refl _) bx)
  have U3 := Lib.hid (hvm.below (Nat.le_refl _) bx)
  clear bx
  by_cases h1 : IsMod nm ms
  · have h16 : nm ≤ 16 := by have := h1.2.1; omega
    by_cases h2 : IsElem n xs nm ms
    · have h3 : ¬ ne ≤ 16 := fun h => hb ⟨h1, h2, h⟩
      have H1 := Lib.hid h1
      have H2 := Lib.hid h2
      have h3i : (16 : Int) < (ne : Int) := by omega
      clear h1 h2 h3 hb
      refine (callsIn_wide (n := 8)).1 (callsIn_of_wp_marks Try.func20 rfl trivial (wpIn_wide.2 ?_) rfl)
      simp only [Try.ntmps20, List.size_toArray, List.length_cons, List.length_nil, Nat.reduceAdd, Nat.reduceSub, Array.replicate_succ, Array.replicate_zero, List.push_toArray, List.append_toArray, List.nil_append, List.cons_append]
      go_wp2_with fail
      refine (isModulus_any _ nm cm ms _ hnm hmm U3.out true (true_iff_of H1.out)).mono ?_
      rintro e w' ⟨rfl, rfl⟩
      go_wp2_with fail
      refine (isElement_any _ n c xs _ nm cm ms _ hn hm hnm hmm U1.out U3.out h16 true (true_iff_of H2.out)).mono ?_
      rintro e w' ⟨rfl, rfl⟩
      go_wp2
      exact ⟨_, results_tmp2 rfl _ _ _, rfl, BX.out⟩
    · have H1 := Lib.hid h1
      have H2 := Lib.hid h2
      clear h1 h2 hb
      refine (callsIn_wide (n := 8)).1 (callsIn_of_wp_marks Try.func20 rfl trivial (wpIn_wide.2 ?_) rfl)
      simp only [Try.ntmps20, List.size_toArray, List.length_cons, List.length_nil, Nat.reduceAdd, Nat.reduceSub, Array.replicate_succ, Array.replicate_zero, List.push_toArray, List.append_toArray, List.nil_append, List.cons_append]
      go_wp2_with fail
      refine (isModulus_any _ nm cm ms _ hnm hmm U3.out true (true_iff_of H1.out)).mono ?_
      rintro e w' ⟨rfl, rfl⟩
      go_wp2_with fail
      refine (isElement_any _ n c xs _ nm cm ms _ hn hm hnm hmm U1.out U3.out h16 false (false_iff_of H2.out)).mono ?_
      rintro e w' ⟨rfl, rfl⟩
      go_wp2
      exact ⟨_, results_tmp2 rfl _ _ _, rfl, BX.out⟩
  · have H1 := Lib.hid h1
    clear h1 hb
    refine (callsIn_wide (n := 8)).1 (callsIn_of_wp_marks Try.func20 rfl trivial (wpIn_wide.2 ?_) rfl)
    simp only [Try.ntmps20, List.size_toArray, List.length_cons, List.length_nil, Nat.reduceAdd, Nat.reduceSub, Array.replicate_succ, Array.replicate_zero, List.push_toArray, List.append_toArray, List.nil_append, List.cons_append]
    go_wp2_with fail
    refine (isModulus_any _ nm cm ms _ hnm hmm U3.out false (false_iff_of H1.out)).mono ?_
    rintro e w' ⟨rfl, rfl⟩
    go_wp2
    exact ⟨_, results_tmp2 rfl _ _ _, rfl, BX.out⟩
end Go.Proofs.Ytdbfpbnabpapdaa
