/-
  No cell of these rows narrows 'for every input' (looked for: loops, veiled, ifaces, maps, wideKeys, modest, calm, conditions, laid).
  DERIVED. THE GIVEN ROWS OF THIS SEAT. 6 by the template 'for every input the law returns true; each argument reads behind the call as it read before'; 0 by the template 'total and deterministic' (their statements: YticglgegfebnjaaTotals.lean).
  GIVEN WITH THE SEED: the statements are not yours to turn. If you find one false, say at which input.
  Laid BY PROGRAM, IN A SANDBOX (cutbox-rows.mjs): the forced cells as the released guide's own fill.sh prints them over the translation 2cd17ed6af65067b… (all of the seat's roots in one cut). By AI agents, Wed Nov 11 2026. No macro, syntax, notation, axiom, sorry.
-/
import Derived.Test.YticglgegfebnjaaChecked
import GoSem.Claim
import GoSem.ClaimJoined
import GoSem.ClaimMapViews
import Derived.JoinedTies
import Derived.KernelRfl
namespace Go.Proofs.Yticglgegfebnjaa
/- THE CELL 'sum', in the pinned program and in every row, IS THE sha256 OF THE DUMP (.gsa) THAT YticglgegfebnjaaProg.lean LOADS. Nothing in Lean hashes anything: it is a label: what it is worth is what the hold of that sum in a sandbox is worth. -/
noncomputable def Try.pinned : Pinned := { name := "yticglgegfebnjaa", sum := "2cd17ed6af65067b829f878f0ed07367dcb16a87f6c220f66da40cc9eaee5a09", checked := Try.checked }
namespace Rows
def none {H : Type} : Left H := { results := [], args := [] }

/-- 'chirographlaw08.OneRights': WHATEVER THE INPUT: true; the input reads as it did. -/
def oneRightsSpec : ChangeSpec := { name := "oneRights", fn := fun _ => fun
  | [d] => { results := [.lit (.bool true)], args := [d] }
  | _ => none }
def oneRightsRow : OpenClaim := { program := "yticglgegfebnjaa", sum := "2cd17ed6af65067b829f878f0ed07367dcb16a87f6c220f66da40cc9eaee5a09", func := "chirograph/chirographlaw08.OneRights", spec := "oneRights", inPlace := ["math/bits.Sub64", "math/bits.Add64"], unfollowed := true, recurses := true, named := ["math/bits.divideError", "math/bits.overflowError"], apart := false }
def OneRightsSaid : Prop := oneRightsRow.holds Try.pinned (OpenSpec.ofChange oneRightsSpec)

/-- ITS FALSE NEIGHBOUR: 'it returns false'. Refute it at one input. -/
def oneRightsWrong : ChangeSpec := { name := "oneRights", fn := fun _ => fun
  | [d] => { results := [.lit (.bool false)], args := [d] }
  | _ => none }
def OneRightsWrongFalsely : Prop := oneRightsRow.holds Try.pinned (OpenSpec.ofChange oneRightsWrong)

/-- 'chirographlaw08.OneSums': WHATEVER THE INPUT: true; the input reads as it did. -/
def oneSumsSpec : ChangeSpec := { name := "oneSums", fn := fun _ => fun
  | [d1, d2] => { results := [.lit (.bool true)], args := [d1, d2] }
  | _ => none }
def oneSumsRow : OpenClaim := { program := "yticglgegfebnjaa", sum := "2cd17ed6af65067b829f878f0ed07367dcb16a87f6c220f66da40cc9eaee5a09", func := "chirograph/chirographlaw08.OneSums", spec := "oneSums", inPlace := ["math/bits.Sub64", "math/bits.Add64"], unfollowed := true, recurses := true, named := ["math/bits.divideError", "math/bits.overflowError"], apart := false }
def OneSumsSaid : Prop := oneSumsRow.holds Try.pinned (OpenSpec.ofChange oneSumsSpec)

/-- ITS FALSE NEIGHBOUR: 'it returns false'. Refute it at one input. -/
def oneSumsWrong : ChangeSpec := { name := "oneSums", fn := fun _ => fun
  | [d1, d2] => { results := [.lit (.bool false)], args := [d1, d2] }
  | _ => none }
def OneSumsWrongFalsely : Prop := oneSumsRow.holds Try.pinned (OpenSpec.ofChange oneSumsWrong)

/-- 'chirographlaw08.OneGroup': WHATEVER THE INPUT: true; the input reads as it did. -/
def oneGroupSpec : ChangeSpec := { name := "oneGroup", fn := fun _ => fun
  | [d1, d2, d3] => { results := [.lit (.bool true)], args := [d1, d2, d3] }
  | _ => none }
def oneGroupRow : OpenClaim := { program := "yticglgegfebnjaa", sum := "2cd17ed6af65067b829f878f0ed07367dcb16a87f6c220f66da40cc9eaee5a09", func := "chirograph/chirographlaw08.OneGroup", spec := "oneGroup", inPlace := ["math/bits.Sub64", "math/bits.Add64"], unfollowed := true, recurses := true, named := ["math/bits.divideError", "math/bits.overflowError"], apart := false }
def OneGroupSaid : Prop := oneGroupRow.holds Try.pinned (OpenSpec.ofChange oneGroupSpec)

/-- ITS FALSE NEIGHBOUR: 'it returns false'. Refute it at one input. -/
def oneGroupWrong : ChangeSpec := { name := "oneGroup", fn := fun _ => fun
  | [d1, d2, d3] => { results := [.lit (.bool false)], args := [d1, d2, d3] }
  | _ => none }
def OneGroupWrongFalsely : Prop := oneGroupRow.holds Try.pinned (OpenSpec.ofChange oneGroupWrong)

/-- 'chirographlaw08.OneTimes': WHATEVER THE INPUT: true; the input reads as it did. -/
def oneTimesSpec : ChangeSpec := { name := "oneTimes", fn := fun _ => fun
  | [d1, d2, d3, d4] => { results := [.lit (.bool true)], args := [d1, d2, d3, d4] }
  | _ => none }
def oneTimesRow : OpenClaim := { program := "yticglgegfebnjaa", sum := "2cd17ed6af65067b829f878f0ed07367dcb16a87f6c220f66da40cc9eaee5a09", func := "chirograph/chirographlaw08.OneTimes", spec := "oneTimes", inPlace := ["math/bits.Sub64", "math/bits.Add64"], unfollowed := true, recurses := true, named := ["math/bits.divideError", "math/bits.overflowError"], apart := false }
def OneTimesSaid : Prop := oneTimesRow.holds Try.pinned (OpenSpec.ofChange oneTimesSpec)

/-- ITS FALSE NEIGHBOUR: 'it returns false'. Refute it at one input. -/
def oneTimesWrong : ChangeSpec := { name := "oneTimes", fn := fun _ => fun
  | [d1, d2, d3, d4] => { results := [.lit (.bool false)], args := [d1, d2, d3, d4] }
  | _ => none }
def OneTimesWrongFalsely : Prop := oneTimesRow.holds Try.pinned (OpenSpec.ofChange oneTimesWrong)

/-- 'chirographlaw08.OneOrder': WHATEVER THE INPUT: true; the input reads as it did. -/
def oneOrderSpec : ChangeSpec := { name := "oneOrder", fn := fun _ => fun
  | [d1, d2, d3] => { results := [.lit (.bool true)], args := [d1, d2, d3] }
  | _ => none }
def oneOrderRow : OpenClaim := { program := "yticglgegfebnjaa", sum := "2cd17ed6af65067b829f878f0ed07367dcb16a87f6c220f66da40cc9eaee5a09", func := "chirograph/chirographlaw08.OneOrder", spec := "oneOrder", inPlace := ["math/bits.Sub64", "math/bits.Add64"], unfollowed := true, recurses := true, named := ["math/bits.divideError", "math/bits.overflowError"], apart := false }
def OneOrderSaid : Prop := oneOrderRow.holds Try.pinned (OpenSpec.ofChange oneOrderSpec)

/-- ITS FALSE NEIGHBOUR: 'it returns false'. Refute it at one input. -/
def oneOrderWrong : ChangeSpec := { name := "oneOrder", fn := fun _ => fun
  | [d1, d2, d3] => { results := [.lit (.bool false)], args := [d1, d2, d3] }
  | _ => none }
def OneOrderWrongFalsely : Prop := oneOrderRow.holds Try.pinned (OpenSpec.ofChange oneOrderWrong)

/-- 'chirographlaw08.OneNegs': WHATEVER THE INPUT: true; the input reads as it did. -/
def oneNegsSpec : ChangeSpec := { name := "oneNegs", fn := fun _ => fun
  | [d1, d2] => { results := [.lit (.bool true)], args := [d1, d2] }
  | _ => none }
def oneNegsRow : OpenClaim := { program := "yticglgegfebnjaa", sum := "2cd17ed6af65067b829f878f0ed07367dcb16a87f6c220f66da40cc9eaee5a09", func := "chirograph/chirographlaw08.OneNegs", spec := "oneNegs", inPlace := ["math/bits.Sub64", "math/bits.Add64"], unfollowed := true, recurses := true, named := ["math/bits.divideError", "math/bits.overflowError"], apart := false }
def OneNegsSaid : Prop := oneNegsRow.holds Try.pinned (OpenSpec.ofChange oneNegsSpec)

/-- ITS FALSE NEIGHBOUR: 'it returns false'. Refute it at one input. -/
def oneNegsWrong : ChangeSpec := { name := "oneNegs", fn := fun _ => fun
  | [d1, d2] => { results := [.lit (.bool false)], args := [d1, d2] }
  | _ => none }
def OneNegsWrongFalsely : Prop := oneNegsRow.holds Try.pinned (OpenSpec.ofChange oneNegsWrong)

/- THE SECOND FORM. 'bulk': how many values and letters a reading holds, each counted each time it is reached (what is shared counts as often as it is met; a slice's spare places count too). A statement '..UptoSaid' is the law's where the arguments, and the package variables that the reading takes, are together of bulk at most 1048576: NARROWER than '..Said'. Prove '..Said' where nothing that the law and all that it calls make is longer than what came in: it says more and counts as full. Else prove '..UptoSaid'. A law counts once. -/
mutual
def uptoBulk {H : Type} : DataW H → Nat
  | .lit (.string bytes) => bytes.length + 1
  | .lit _ => 1
  | .nil => 1
  | .ptr d => uptoBulk d + 1
  | .slice elems spare => uptoBulkAll elems + uptoBulkAll spare + 1
  | .agg parts => uptoBulkAll parts + 1
  | .iface _ d => uptoBulk d + 1
  | .map entries => uptoBulkEntries entries + 1
  | .held _ => 1
def uptoBulkAll {H : Type} : List (DataW H) → Nat
  | [] => 0
  | d :: r => uptoBulk d + uptoBulkAll r
def uptoBulkEntries {H : Type} : List (Lit × DataW H) → Nat
  | [] => 0
  | x :: r => uptoBulkEntry x + uptoBulkEntries r
def uptoBulkEntry {H : Type} : Lit × DataW H → Nat
  | (.string bytes, d) => bytes.length + uptoBulk d + 1
  | (_, d) => uptoBulk d + 1
 end
def uptoSmall : (H : Type) → List (DataW H) → Bool := fun _ ds => decide (uptoBulkAll ds ≤ 1048576)
def OpenSpec.upto (s : _root_.Go.ChangeSpec) : _root_.Go.OpenSpec := { _root_.Go.OpenSpec.ofChange s with cond := some uptoSmall }

/-- 'chirographlaw08.OneRights', WHERE WHAT IT READS IS OF BULK AT MOST 1048576: true; the input reads as it did. -/
def oneRightsUptoRow : OpenClaim := { program := "yticglgegfebnjaa", sum := "2cd17ed6af65067b829f878f0ed07367dcb16a87f6c220f66da40cc9eaee5a09", func := "chirograph/chirographlaw08.OneRights", spec := "oneRights", inPlace := ["math/bits.Sub64", "math/bits.Add64"], unfollowed := true, recurses := true, named := ["math/bits.divideError", "math/bits.overflowError"], apart := false, narrowed := true }
def OneRightsUptoSaid : Prop := oneRightsUptoRow.holds Try.pinned (OpenSpec.upto oneRightsSpec)

/-- 'chirographlaw08.OneSums', WHERE WHAT IT READS IS OF BULK AT MOST 1048576: true; the input reads as it did. -/
def oneSumsUptoRow : OpenClaim := { program := "yticglgegfebnjaa", sum := "2cd17ed6af65067b829f878f0ed07367dcb16a87f6c220f66da40cc9eaee5a09", func := "chirograph/chirographlaw08.OneSums", spec := "oneSums", inPlace := ["math/bits.Sub64", "math/bits.Add64"], unfollowed := true, recurses := true, named := ["math/bits.divideError", "math/bits.overflowError"], apart := false, narrowed := true }
def OneSumsUptoSaid : Prop := oneSumsUptoRow.holds Try.pinned (OpenSpec.upto oneSumsSpec)

/-- 'chirographlaw08.OneGroup', WHERE WHAT IT READS IS OF BULK AT MOST 1048576: true; the input reads as it did. -/
def oneGroupUptoRow : OpenClaim := { program := "yticglgegfebnjaa", sum := "2cd17ed6af65067b829f878f0ed07367dcb16a87f6c220f66da40cc9eaee5a09", func := "chirograph/chirographlaw08.OneGroup", spec := "oneGroup", inPlace := ["math/bits.Sub64", "math/bits.Add64"], unfollowed := true, recurses := true, named := ["math/bits.divideError", "math/bits.overflowError"], apart := false, narrowed := true }
def OneGroupUptoSaid : Prop := oneGroupUptoRow.holds Try.pinned (OpenSpec.upto oneGroupSpec)

/-- 'chirographlaw08.OneTimes', WHERE WHAT IT READS IS OF BULK AT MOST 1048576: true; the input reads as it did. -/
def oneTimesUptoRow : OpenClaim := { program := "yticglgegfebnjaa", sum := "2cd17ed6af65067b829f878f0ed07367dcb16a87f6c220f66da40cc9eaee5a09", func := "chirograph/chirographlaw08.OneTimes", spec := "oneTimes", inPlace := ["math/bits.Sub64", "math/bits.Add64"], unfollowed := true, recurses := true, named := ["math/bits.divideError", "math/bits.overflowError"], apart := false, narrowed := true }
def OneTimesUptoSaid : Prop := oneTimesUptoRow.holds Try.pinned (OpenSpec.upto oneTimesSpec)

/-- 'chirographlaw08.OneOrder', WHERE WHAT IT READS IS OF BULK AT MOST 1048576: true; the input reads as it did. -/
def oneOrderUptoRow : OpenClaim := { program := "yticglgegfebnjaa", sum := "2cd17ed6af65067b829f878f0ed07367dcb16a87f6c220f66da40cc9eaee5a09", func := "chirograph/chirographlaw08.OneOrder", spec := "oneOrder", inPlace := ["math/bits.Sub64", "math/bits.Add64"], unfollowed := true, recurses := true, named := ["math/bits.divideError", "math/bits.overflowError"], apart := false, narrowed := true }
def OneOrderUptoSaid : Prop := oneOrderUptoRow.holds Try.pinned (OpenSpec.upto oneOrderSpec)

/-- 'chirographlaw08.OneNegs', WHERE WHAT IT READS IS OF BULK AT MOST 1048576: true; the input reads as it did. -/
def oneNegsUptoRow : OpenClaim := { program := "yticglgegfebnjaa", sum := "2cd17ed6af65067b829f878f0ed07367dcb16a87f6c220f66da40cc9eaee5a09", func := "chirograph/chirographlaw08.OneNegs", spec := "oneNegs", inPlace := ["math/bits.Sub64", "math/bits.Add64"], unfollowed := true, recurses := true, named := ["math/bits.divideError", "math/bits.overflowError"], apart := false, narrowed := true }
def OneNegsUptoSaid : Prop := oneNegsUptoRow.holds Try.pinned (OpenSpec.upto oneNegsSpec)

end Rows
end Go.Proofs.Yticglgegfebnjaa
