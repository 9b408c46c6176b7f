/-
  No cell of these rows narrows 'for every input' (looked for: loops, veiled, ifaces, maps, wideKeys, modest, calm, conditions, laid).
  DERIVED. THE GIVEN ROWS OF THIS SEAT. 2 by the template 'for every input the law returns true; each argument reads behind the call as it read before'; 0 by the template 'total and deterministic' (their statements: YtmhieifjmgcbkaaTotals.lean).
  GIVEN WITH THE SEED: the statements are not yours to turn. If you find one false, say at which input.
  Laid BY PROGRAM, IN A SANDBOX (cutbox-rows.mjs): the forced cells as the released guide's own fill.sh prints them over the translation 6d7d8420670baed4… (all of the seat's roots in one cut). By AI agents, Wed Nov 11 2026. No macro, syntax, notation, axiom, sorry.
-/
import Derived.Test.YtmhieifjmgcbkaaChecked
import GoSem.Claim
import GoSem.ClaimJoined
import GoSem.ClaimMapViews
import Derived.JoinedTies
import Derived.KernelRfl
namespace Go.Proofs.Ytmhieifjmgcbkaa
/- THE CELL 'sum', in the pinned program and in every row, IS THE sha256 OF THE DUMP (.gsa) THAT YtmhieifjmgcbkaaProg.lean LOADS. Nothing in Lean hashes anything: it is a label: what it is worth is what the hold of that sum in a sandbox is worth. -/
noncomputable def Try.pinned : Pinned := { name := "ytmhieifjmgcbkaa", sum := "6d7d8420670baed488b1aab1222db462e273aae5d9d86562b8fccf90f749501c", checked := Try.checked }
namespace Rows
def none {H : Type} : Left H := { results := [], args := [] }

/-- 'chirographlaw09.TwoRights': WHATEVER THE INPUT: true; the input reads as it did. -/
def twoRightsSpec : ChangeSpec := { name := "twoRights", fn := fun _ => fun
  | [d] => { results := [.lit (.bool true)], args := [d] }
  | _ => none }
def twoRightsRow : OpenClaim := { program := "ytmhieifjmgcbkaa", sum := "6d7d8420670baed488b1aab1222db462e273aae5d9d86562b8fccf90f749501c", func := "chirograph/chirographlaw09.TwoRights", spec := "twoRights", inPlace := ["math/bits.Sub64", "math/bits.Add64"], unfollowed := true, recurses := true, named := ["math/bits.divideError", "math/bits.overflowError"], apart := false }
def TwoRightsSaid : Prop := twoRightsRow.holds Try.pinned (OpenSpec.ofChange twoRightsSpec)

/-- ITS FALSE NEIGHBOUR: 'it returns false'. Refute it at one input. -/
def twoRightsWrong : ChangeSpec := { name := "twoRights", fn := fun _ => fun
  | [d] => { results := [.lit (.bool false)], args := [d] }
  | _ => none }
def TwoRightsWrongFalsely : Prop := twoRightsRow.holds Try.pinned (OpenSpec.ofChange twoRightsWrong)

/-- 'chirographlaw09.TwoGroup': WHATEVER THE INPUT: true; the input reads as it did. -/
def twoGroupSpec : ChangeSpec := { name := "twoGroup", fn := fun _ => fun
  | [d1, d2, d3] => { results := [.lit (.bool true)], args := [d1, d2, d3] }
  | _ => none }
def twoGroupRow : OpenClaim := { program := "ytmhieifjmgcbkaa", sum := "6d7d8420670baed488b1aab1222db462e273aae5d9d86562b8fccf90f749501c", func := "chirograph/chirographlaw09.TwoGroup", spec := "twoGroup", inPlace := ["math/bits.Sub64", "math/bits.Add64"], unfollowed := true, recurses := true, named := ["math/bits.divideError", "math/bits.overflowError"], apart := false }
def TwoGroupSaid : Prop := twoGroupRow.holds Try.pinned (OpenSpec.ofChange twoGroupSpec)

/-- ITS FALSE NEIGHBOUR: 'it returns false'. Refute it at one input. -/
def twoGroupWrong : ChangeSpec := { name := "twoGroup", fn := fun _ => fun
  | [d1, d2, d3] => { results := [.lit (.bool false)], args := [d1, d2, d3] }
  | _ => none }
def TwoGroupWrongFalsely : Prop := twoGroupRow.holds Try.pinned (OpenSpec.ofChange twoGroupWrong)

/- THE SECOND FORM. 'bulk': how many values and letters a reading holds, each counted each time it is reached (what is shared counts as often as it is met; a slice's spare places count too). A statement '..UptoSaid' is the law's where the arguments, and the package variables that the reading takes, are together of bulk at most 1048576: NARROWER than '..Said'. Prove '..Said' where nothing that the law and all that it calls make is longer than what came in: it says more and counts as full. Else prove '..UptoSaid'. A law counts once. -/
mutual
def uptoBulk {H : Type} : DataW H → Nat
  | .lit (.string bytes) => bytes.length + 1
  | .lit _ => 1
  | .nil => 1
  | .ptr d => uptoBulk d + 1
  | .slice elems spare => uptoBulkAll elems + uptoBulkAll spare + 1
  | .agg parts => uptoBulkAll parts + 1
  | .iface _ d => uptoBulk d + 1
  | .map entries => uptoBulkEntries entries + 1
  | .held _ => 1
def uptoBulkAll {H : Type} : List (DataW H) → Nat
  | [] => 0
  | d :: r => uptoBulk d + uptoBulkAll r
def uptoBulkEntries {H : Type} : List (Lit × DataW H) → Nat
  | [] => 0
  | x :: r => uptoBulkEntry x + uptoBulkEntries r
def uptoBulkEntry {H : Type} : Lit × DataW H → Nat
  | (.string bytes, d) => bytes.length + uptoBulk d + 1
  | (_, d) => uptoBulk d + 1
 end
def uptoSmall : (H : Type) → List (DataW H) → Bool := fun _ ds => decide (uptoBulkAll ds ≤ 1048576)
def OpenSpec.upto (s : _root_.Go.ChangeSpec) : _root_.Go.OpenSpec := { _root_.Go.OpenSpec.ofChange s with cond := some uptoSmall }

/-- 'chirographlaw09.TwoRights', WHERE WHAT IT READS IS OF BULK AT MOST 1048576: true; the input reads as it did. -/
def twoRightsUptoRow : OpenClaim := { program := "ytmhieifjmgcbkaa", sum := "6d7d8420670baed488b1aab1222db462e273aae5d9d86562b8fccf90f749501c", func := "chirograph/chirographlaw09.TwoRights", spec := "twoRights", inPlace := ["math/bits.Sub64", "math/bits.Add64"], unfollowed := true, recurses := true, named := ["math/bits.divideError", "math/bits.overflowError"], apart := false, narrowed := true }
def TwoRightsUptoSaid : Prop := twoRightsUptoRow.holds Try.pinned (OpenSpec.upto twoRightsSpec)

/-- 'chirographlaw09.TwoGroup', WHERE WHAT IT READS IS OF BULK AT MOST 1048576: true; the input reads as it did. -/
def twoGroupUptoRow : OpenClaim := { program := "ytmhieifjmgcbkaa", sum := "6d7d8420670baed488b1aab1222db462e273aae5d9d86562b8fccf90f749501c", func := "chirograph/chirographlaw09.TwoGroup", spec := "twoGroup", inPlace := ["math/bits.Sub64", "math/bits.Add64"], unfollowed := true, recurses := true, named := ["math/bits.divideError", "math/bits.overflowError"], apart := false, narrowed := true }
def TwoGroupUptoSaid : Prop := twoGroupUptoRow.holds Try.pinned (OpenSpec.upto twoGroupSpec)

end Rows
end Go.Proofs.Ytmhieifjmgcbkaa
