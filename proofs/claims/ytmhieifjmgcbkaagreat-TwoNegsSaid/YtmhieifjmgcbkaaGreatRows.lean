/-
  No cell of these rows narrows 'for every input' (looked for: loops, veiled, ifaces, maps, wideKeys, modest, calm, conditions, laid).
  DERIVED. THE GIVEN ROWS OF THIS SEAT. 4 by the template 'for every input the law returns true; each argument reads behind the call as it read before'; 0 by the template 'total and deterministic' (their statements: YtmhieifjmgcbkaaGreatTotals.lean).
  GIVEN WITH THE SEED: the statements are not yours to turn. If you find one false, say at which input.
  Laid BY PROGRAM, IN A SANDBOX (cutbox-rows.mjs): the forced cells as the released guide's own fill.sh prints them over the translation 4f71a0a13feb8d69… (all of the seat's roots in one cut). By AI agents, Wed Nov 11 2026. No macro, syntax, notation, axiom, sorry.
-/
import Derived.Test.YtmhieifjmgcbkaaGreatChecked
import GoSem.Claim
import GoSem.ClaimJoined
import GoSem.ClaimMapViews
import Derived.JoinedTies
import Derived.KernelRfl
namespace Go.Proofs.YtmhieifjmgcbkaaGreat
/- THE CELL 'sum', in the pinned program and in every row, IS THE sha256 OF THE DUMP (.gsa) THAT YtmhieifjmgcbkaaGreatProg.lean LOADS. Nothing in Lean hashes anything: it is a label: what it is worth is what the hold of that sum in a sandbox is worth. -/
noncomputable def Tryz.pinned : Pinned := { name := "ytmhieifjmgcbkaagreat", sum := "4f71a0a13feb8d699c924bdee3e9a2a5127137defd8ffdf99d99da1d4202373b", checked := Tryz.checked }
namespace Rows
def none {H : Type} : Left H := { results := [], args := [] }

/-- 'chirographlaw09.TwoSums': WHATEVER THE INPUT: true; the input reads as it did. -/
def twoSumsSpec : ChangeSpec := { name := "twoSums", fn := fun _ => fun
  | [d1, d2] => { results := [.lit (.bool true)], args := [d1, d2] }
  | _ => none }
def twoSumsRow : OpenClaim := { program := "ytmhieifjmgcbkaagreat", sum := "4f71a0a13feb8d699c924bdee3e9a2a5127137defd8ffdf99d99da1d4202373b", func := "chirograph/chirographlaw09.TwoSums", spec := "twoSums", inPlace := ["math/bits.Sub64", "math/bits.Add64"], unfollowed := true, recurses := true, named := ["math/bits.divideError", "math/bits.overflowError"], apart := false }
def TwoSumsSaid : Prop := twoSumsRow.holds Tryz.pinned (OpenSpec.ofChange twoSumsSpec)

/-- ITS FALSE NEIGHBOUR: 'it returns false'. Refute it at one input. -/
def twoSumsWrong : ChangeSpec := { name := "twoSums", fn := fun _ => fun
  | [d1, d2] => { results := [.lit (.bool false)], args := [d1, d2] }
  | _ => none }
def TwoSumsWrongFalsely : Prop := twoSumsRow.holds Tryz.pinned (OpenSpec.ofChange twoSumsWrong)

/-- 'chirographlaw09.TwoTimes': WHATEVER THE INPUT: true; the input reads as it did. -/
def twoTimesSpec : ChangeSpec := { name := "twoTimes", fn := fun _ => fun
  | [d1, d2, d3, d4] => { results := [.lit (.bool true)], args := [d1, d2, d3, d4] }
  | _ => none }
def twoTimesRow : OpenClaim := { program := "ytmhieifjmgcbkaagreat", sum := "4f71a0a13feb8d699c924bdee3e9a2a5127137defd8ffdf99d99da1d4202373b", func := "chirograph/chirographlaw09.TwoTimes", spec := "twoTimes", inPlace := ["math/bits.Sub64", "math/bits.Add64"], unfollowed := true, recurses := true, named := ["math/bits.divideError", "math/bits.overflowError"], apart := false }
def TwoTimesSaid : Prop := twoTimesRow.holds Tryz.pinned (OpenSpec.ofChange twoTimesSpec)

/-- ITS FALSE NEIGHBOUR: 'it returns false'. Refute it at one input. -/
def twoTimesWrong : ChangeSpec := { name := "twoTimes", fn := fun _ => fun
  | [d1, d2, d3, d4] => { results := [.lit (.bool false)], args := [d1, d2, d3, d4] }
  | _ => none }
def TwoTimesWrongFalsely : Prop := twoTimesRow.holds Tryz.pinned (OpenSpec.ofChange twoTimesWrong)

/-- 'chirographlaw09.TwoOrder': WHATEVER THE INPUT: true; the input reads as it did. -/
def twoOrderSpec : ChangeSpec := { name := "twoOrder", fn := fun _ => fun
  | [d1, d2, d3] => { results := [.lit (.bool true)], args := [d1, d2, d3] }
  | _ => none }
def twoOrderRow : OpenClaim := { program := "ytmhieifjmgcbkaagreat", sum := "4f71a0a13feb8d699c924bdee3e9a2a5127137defd8ffdf99d99da1d4202373b", func := "chirograph/chirographlaw09.TwoOrder", spec := "twoOrder", inPlace := ["math/bits.Sub64", "math/bits.Add64"], unfollowed := true, recurses := true, named := ["math/bits.divideError", "math/bits.overflowError"], apart := false }
def TwoOrderSaid : Prop := twoOrderRow.holds Tryz.pinned (OpenSpec.ofChange twoOrderSpec)

/-- ITS FALSE NEIGHBOUR: 'it returns false'. Refute it at one input. -/
def twoOrderWrong : ChangeSpec := { name := "twoOrder", fn := fun _ => fun
  | [d1, d2, d3] => { results := [.lit (.bool false)], args := [d1, d2, d3] }
  | _ => none }
def TwoOrderWrongFalsely : Prop := twoOrderRow.holds Tryz.pinned (OpenSpec.ofChange twoOrderWrong)

/-- 'chirographlaw09.TwoNegs': WHATEVER THE INPUT: true; the input reads as it did. -/
def twoNegsSpec : ChangeSpec := { name := "twoNegs", fn := fun _ => fun
  | [d1, d2] => { results := [.lit (.bool true)], args := [d1, d2] }
  | _ => none }
def twoNegsRow : OpenClaim := { program := "ytmhieifjmgcbkaagreat", sum := "4f71a0a13feb8d699c924bdee3e9a2a5127137defd8ffdf99d99da1d4202373b", func := "chirograph/chirographlaw09.TwoNegs", spec := "twoNegs", inPlace := ["math/bits.Sub64", "math/bits.Add64"], unfollowed := true, recurses := true, named := ["math/bits.divideError", "math/bits.overflowError"], apart := false }
def TwoNegsSaid : Prop := twoNegsRow.holds Tryz.pinned (OpenSpec.ofChange twoNegsSpec)

/-- ITS FALSE NEIGHBOUR: 'it returns false'. Refute it at one input. -/
def twoNegsWrong : ChangeSpec := { name := "twoNegs", fn := fun _ => fun
  | [d1, d2] => { results := [.lit (.bool false)], args := [d1, d2] }
  | _ => none }
def TwoNegsWrongFalsely : Prop := twoNegsRow.holds Tryz.pinned (OpenSpec.ofChange twoNegsWrong)

/- THE SECOND FORM. 'bulk': how many values and letters a reading holds, each counted each time it is reached (what is shared counts as often as it is met; a slice's spare places count too). A statement '..UptoSaid' is the law's where the arguments, and the package variables that the reading takes, are together of bulk at most 1048576: NARROWER than '..Said'. Prove '..Said' where nothing that the law and all that it calls make is longer than what came in: it says more and counts as full. Else prove '..UptoSaid'. A law counts once. -/
mutual
def uptoBulk {H : Type} : DataW H → Nat
  | .lit (.string bytes) => bytes.length + 1
  | .lit _ => 1
  | .nil => 1
  | .ptr d => uptoBulk d + 1
  | .slice elems spare => uptoBulkAll elems + uptoBulkAll spare + 1
  | .agg parts => uptoBulkAll parts + 1
  | .iface _ d => uptoBulk d + 1
  | .map entries => uptoBulkEntries entries + 1
  | .held _ => 1
def uptoBulkAll {H : Type} : List (DataW H) → Nat
  | [] => 0
  | d :: r => uptoBulk d + uptoBulkAll r
def uptoBulkEntries {H : Type} : List (Lit × DataW H) → Nat
  | [] => 0
  | x :: r => uptoBulkEntry x + uptoBulkEntries r
def uptoBulkEntry {H : Type} : Lit × DataW H → Nat
  | (.string bytes, d) => bytes.length + uptoBulk d + 1
  | (_, d) => uptoBulk d + 1
 end
def uptoSmall : (H : Type) → List (DataW H) → Bool := fun _ ds => decide (uptoBulkAll ds ≤ 1048576)
def OpenSpec.upto (s : _root_.Go.ChangeSpec) : _root_.Go.OpenSpec := { _root_.Go.OpenSpec.ofChange s with cond := some uptoSmall }

/-- 'chirographlaw09.TwoSums', WHERE WHAT IT READS IS OF BULK AT MOST 1048576: true; the input reads as it did. -/
def twoSumsUptoRow : OpenClaim := { program := "ytmhieifjmgcbkaagreat", sum := "4f71a0a13feb8d699c924bdee3e9a2a5127137defd8ffdf99d99da1d4202373b", func := "chirograph/chirographlaw09.TwoSums", spec := "twoSums", inPlace := ["math/bits.Sub64", "math/bits.Add64"], unfollowed := true, recurses := true, named := ["math/bits.divideError", "math/bits.overflowError"], apart := false, narrowed := true }
def TwoSumsUptoSaid : Prop := twoSumsUptoRow.holds Tryz.pinned (OpenSpec.upto twoSumsSpec)

/-- 'chirographlaw09.TwoTimes', WHERE WHAT IT READS IS OF BULK AT MOST 1048576: true; the input reads as it did. -/
def twoTimesUptoRow : OpenClaim := { program := "ytmhieifjmgcbkaagreat", sum := "4f71a0a13feb8d699c924bdee3e9a2a5127137defd8ffdf99d99da1d4202373b", func := "chirograph/chirographlaw09.TwoTimes", spec := "twoTimes", inPlace := ["math/bits.Sub64", "math/bits.Add64"], unfollowed := true, recurses := true, named := ["math/bits.divideError", "math/bits.overflowError"], apart := false, narrowed := true }
def TwoTimesUptoSaid : Prop := twoTimesUptoRow.holds Tryz.pinned (OpenSpec.upto twoTimesSpec)

/-- 'chirographlaw09.TwoOrder', WHERE WHAT IT READS IS OF BULK AT MOST 1048576: true; the input reads as it did. -/
def twoOrderUptoRow : OpenClaim := { program := "ytmhieifjmgcbkaagreat", sum := "4f71a0a13feb8d699c924bdee3e9a2a5127137defd8ffdf99d99da1d4202373b", func := "chirograph/chirographlaw09.TwoOrder", spec := "twoOrder", inPlace := ["math/bits.Sub64", "math/bits.Add64"], unfollowed := true, recurses := true, named := ["math/bits.divideError", "math/bits.overflowError"], apart := false, narrowed := true }
def TwoOrderUptoSaid : Prop := twoOrderUptoRow.holds Tryz.pinned (OpenSpec.upto twoOrderSpec)

/-- 'chirographlaw09.TwoNegs', WHERE WHAT IT READS IS OF BULK AT MOST 1048576: true; the input reads as it did. -/
def twoNegsUptoRow : OpenClaim := { program := "ytmhieifjmgcbkaagreat", sum := "4f71a0a13feb8d699c924bdee3e9a2a5127137defd8ffdf99d99da1d4202373b", func := "chirograph/chirographlaw09.TwoNegs", spec := "twoNegs", inPlace := ["math/bits.Sub64", "math/bits.Add64"], unfollowed := true, recurses := true, named := ["math/bits.divideError", "math/bits.overflowError"], apart := false, narrowed := true }
def TwoNegsUptoSaid : Prop := twoNegsUptoRow.holds Tryz.pinned (OpenSpec.upto twoNegsSpec)

end Rows
end Go.Proofs.YtmhieifjmgcbkaaGreat
