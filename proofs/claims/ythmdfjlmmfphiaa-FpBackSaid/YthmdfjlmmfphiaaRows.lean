/-
  No cell of these rows narrows 'for every input' (looked for: loops, veiled, ifaces, maps, wideKeys, modest, calm, conditions, laid).
  DERIVED. THE GIVEN ROWS OF THIS SEAT. 9 by the template 'for every input the law returns true; each argument reads behind the call as it read before'; 0 by the template 'total and deterministic' (their statements: YthmdfjlmmfphiaaTotals.lean).
  GIVEN WITH THE SEED: the statements are not yours to turn. If you find one false, say at which input.
  Laid BY PROGRAM, IN A SANDBOX (cutbox-rows.mjs): the forced cells as the released guide's own fill.sh prints them over the translation fed9428fd16bd77e… (all of the seat's roots in one cut). By AI agents, Wed Nov 11 2026. No macro, syntax, notation, axiom, sorry.
-/
import Derived.Test.YthmdfjlmmfphiaaChecked
import GoSem.Claim
import GoSem.ClaimJoined
import GoSem.ClaimMapViews
import Derived.JoinedTies
import Derived.KernelRfl
namespace Go.Proofs.Ythmdfjlmmfphiaa
/- THE CELL 'sum', in the pinned program and in every row, IS THE sha256 OF THE DUMP (.gsa) THAT YthmdfjlmmfphiaaProg.lean LOADS. Nothing in Lean hashes anything: it is a label: what it is worth is what the hold of that sum in a sandbox is worth. -/
noncomputable def Try.pinned : Pinned := { name := "ythmdfjlmmfphiaa", sum := "fed9428fd16bd77e212e1ad67884dbd86e06e4d7eade201dcdb0daabd6bb51df", checked := Try.checked }
namespace Rows
def none {H : Type} : Left H := { results := [], args := [] }

/-- 'chirographlaw04.FpRights': WHATEVER THE INPUT: true; the input reads as it did. -/
def fpRightsSpec : ChangeSpec := { name := "fpRights", fn := fun _ => fun
  | [d1, d2] => { results := [.lit (.bool true)], args := [d1, d2] }
  | _ => none }
def fpRightsRow : OpenClaim := { program := "ythmdfjlmmfphiaa", sum := "fed9428fd16bd77e212e1ad67884dbd86e06e4d7eade201dcdb0daabd6bb51df", func := "chirograph/chirographlaw04.FpRights", spec := "fpRights", inPlace := ["math/bits.Sub64", "math/bits.Add64"], apart := false }
def FpRightsSaid : Prop := fpRightsRow.holds Try.pinned (OpenSpec.ofChange fpRightsSpec)

/-- ITS FALSE NEIGHBOUR: 'it returns false'. Refute it at one input. -/
def fpRightsWrong : ChangeSpec := { name := "fpRights", fn := fun _ => fun
  | [d1, d2] => { results := [.lit (.bool false)], args := [d1, d2] }
  | _ => none }
def FpRightsWrongFalsely : Prop := fpRightsRow.holds Try.pinned (OpenSpec.ofChange fpRightsWrong)

/-- 'chirographlaw04.FpAdds': WHATEVER THE INPUT: true; the input reads as it did. -/
def fpAddsSpec : ChangeSpec := { name := "fpAdds", fn := fun _ => fun
  | [d1, d2] => { results := [.lit (.bool true)], args := [d1, d2] }
  | _ => none }
def fpAddsRow : OpenClaim := { program := "ythmdfjlmmfphiaa", sum := "fed9428fd16bd77e212e1ad67884dbd86e06e4d7eade201dcdb0daabd6bb51df", func := "chirograph/chirographlaw04.FpAdds", spec := "fpAdds", inPlace := ["math/bits.Sub64", "math/bits.Add64"], apart := false }
def FpAddsSaid : Prop := fpAddsRow.holds Try.pinned (OpenSpec.ofChange fpAddsSpec)

/-- ITS FALSE NEIGHBOUR: 'it returns false'. Refute it at one input. -/
def fpAddsWrong : ChangeSpec := { name := "fpAdds", fn := fun _ => fun
  | [d1, d2] => { results := [.lit (.bool false)], args := [d1, d2] }
  | _ => none }
def FpAddsWrongFalsely : Prop := fpAddsRow.holds Try.pinned (OpenSpec.ofChange fpAddsWrong)

/-- 'chirographlaw04.FpMuls': WHATEVER THE INPUT: true; the input reads as it did. -/
def fpMulsSpec : ChangeSpec := { name := "fpMuls", fn := fun _ => fun
  | [d1, d2] => { results := [.lit (.bool true)], args := [d1, d2] }
  | _ => none }
def fpMulsRow : OpenClaim := { program := "ythmdfjlmmfphiaa", sum := "fed9428fd16bd77e212e1ad67884dbd86e06e4d7eade201dcdb0daabd6bb51df", func := "chirograph/chirographlaw04.FpMuls", spec := "fpMuls", inPlace := ["math/bits.Sub64", "math/bits.Add64"], unfollowed := true, recurses := true, named := ["math/bits.divideError", "math/bits.overflowError"], apart := false }
def FpMulsSaid : Prop := fpMulsRow.holds Try.pinned (OpenSpec.ofChange fpMulsSpec)

/-- ITS FALSE NEIGHBOUR: 'it returns false'. Refute it at one input. -/
def fpMulsWrong : ChangeSpec := { name := "fpMuls", fn := fun _ => fun
  | [d1, d2] => { results := [.lit (.bool false)], args := [d1, d2] }
  | _ => none }
def FpMulsWrongFalsely : Prop := fpMulsRow.holds Try.pinned (OpenSpec.ofChange fpMulsWrong)

/-- 'chirographlaw04.FpPows': WHATEVER THE INPUT: true; the input reads as it did. -/
def fpPowsSpec : ChangeSpec := { name := "fpPows", fn := fun _ => fun
  | [d1, d2] => { results := [.lit (.bool true)], args := [d1, d2] }
  | _ => none }
def fpPowsRow : OpenClaim := { program := "ythmdfjlmmfphiaa", sum := "fed9428fd16bd77e212e1ad67884dbd86e06e4d7eade201dcdb0daabd6bb51df", func := "chirograph/chirographlaw04.FpPows", spec := "fpPows", inPlace := ["math/bits.Sub64", "math/bits.Add64"], unfollowed := true, recurses := true, named := ["math/bits.divideError", "math/bits.overflowError"], apart := false }
def FpPowsSaid : Prop := fpPowsRow.holds Try.pinned (OpenSpec.ofChange fpPowsSpec)

/-- ITS FALSE NEIGHBOUR: 'it returns false'. Refute it at one input. -/
def fpPowsWrong : ChangeSpec := { name := "fpPows", fn := fun _ => fun
  | [d1, d2] => { results := [.lit (.bool false)], args := [d1, d2] }
  | _ => none }
def FpPowsWrongFalsely : Prop := fpPowsRow.holds Try.pinned (OpenSpec.ofChange fpPowsWrong)

/-- 'chirographlaw04.FpRoots': WHATEVER THE INPUT: true; the input reads as it did. -/
def fpRootsSpec : ChangeSpec := { name := "fpRoots", fn := fun _ => fun
  | [d] => { results := [.lit (.bool true)], args := [d] }
  | _ => none }
def fpRootsRow : OpenClaim := { program := "ythmdfjlmmfphiaa", sum := "fed9428fd16bd77e212e1ad67884dbd86e06e4d7eade201dcdb0daabd6bb51df", func := "chirograph/chirographlaw04.FpRoots", spec := "fpRoots", inPlace := ["math/bits.Sub64", "math/bits.Add64"], unfollowed := true, recurses := true, named := ["math/bits.divideError", "math/bits.overflowError"], apart := false }
def FpRootsSaid : Prop := fpRootsRow.holds Try.pinned (OpenSpec.ofChange fpRootsSpec)

/-- ITS FALSE NEIGHBOUR: 'it returns false'. Refute it at one input. -/
def fpRootsWrong : ChangeSpec := { name := "fpRoots", fn := fun _ => fun
  | [d] => { results := [.lit (.bool false)], args := [d] }
  | _ => none }
def FpRootsWrongFalsely : Prop := fpRootsRow.holds Try.pinned (OpenSpec.ofChange fpRootsWrong)

/-- 'chirographlaw04.FpBytes': WHATEVER THE INPUT: true; the input reads as it did. -/
def fpBytesSpec : ChangeSpec := { name := "fpBytes", fn := fun _ => fun
  | [d1, d2] => { results := [.lit (.bool true)], args := [d1, d2] }
  | _ => none }
def fpBytesRow : OpenClaim := { program := "ythmdfjlmmfphiaa", sum := "fed9428fd16bd77e212e1ad67884dbd86e06e4d7eade201dcdb0daabd6bb51df", func := "chirograph/chirographlaw04.FpBytes", spec := "fpBytes", inPlace := ["math/bits.Sub64", "math/bits.Add64"], apart := false }
def FpBytesSaid : Prop := fpBytesRow.holds Try.pinned (OpenSpec.ofChange fpBytesSpec)

/-- ITS FALSE NEIGHBOUR: 'it returns false'. Refute it at one input. -/
def fpBytesWrong : ChangeSpec := { name := "fpBytes", fn := fun _ => fun
  | [d1, d2] => { results := [.lit (.bool false)], args := [d1, d2] }
  | _ => none }
def FpBytesWrongFalsely : Prop := fpBytesRow.holds Try.pinned (OpenSpec.ofChange fpBytesWrong)

/-- 'chirographlaw04.FpField': WHATEVER THE INPUT: true; the input reads as it did. -/
def fpFieldSpec : ChangeSpec := { name := "fpField", fn := fun _ => fun
  | [d1, d2, d3] => { results := [.lit (.bool true)], args := [d1, d2, d3] }
  | _ => none }
def fpFieldRow : OpenClaim := { program := "ythmdfjlmmfphiaa", sum := "fed9428fd16bd77e212e1ad67884dbd86e06e4d7eade201dcdb0daabd6bb51df", func := "chirograph/chirographlaw04.FpField", spec := "fpField", inPlace := ["math/bits.Sub64", "math/bits.Add64"], unfollowed := true, recurses := true, named := ["math/bits.divideError", "math/bits.overflowError"], apart := false }
def FpFieldSaid : Prop := fpFieldRow.holds Try.pinned (OpenSpec.ofChange fpFieldSpec)

/-- ITS FALSE NEIGHBOUR: 'it returns false'. Refute it at one input. -/
def fpFieldWrong : ChangeSpec := { name := "fpField", fn := fun _ => fun
  | [d1, d2, d3] => { results := [.lit (.bool false)], args := [d1, d2, d3] }
  | _ => none }
def FpFieldWrongFalsely : Prop := fpFieldRow.holds Try.pinned (OpenSpec.ofChange fpFieldWrong)

/-- 'chirographlaw04.FpSquares': WHATEVER THE INPUT: true; the input reads as it did. -/
def fpSquaresSpec : ChangeSpec := { name := "fpSquares", fn := fun _ => fun
  | [d1, d2] => { results := [.lit (.bool true)], args := [d1, d2] }
  | _ => none }
def fpSquaresRow : OpenClaim := { program := "ythmdfjlmmfphiaa", sum := "fed9428fd16bd77e212e1ad67884dbd86e06e4d7eade201dcdb0daabd6bb51df", func := "chirograph/chirographlaw04.FpSquares", spec := "fpSquares", inPlace := ["math/bits.Sub64", "math/bits.Add64"], unfollowed := true, recurses := true, named := ["math/bits.divideError", "math/bits.overflowError"], apart := false }
def FpSquaresSaid : Prop := fpSquaresRow.holds Try.pinned (OpenSpec.ofChange fpSquaresSpec)

/-- ITS FALSE NEIGHBOUR: 'it returns false'. Refute it at one input. -/
def fpSquaresWrong : ChangeSpec := { name := "fpSquares", fn := fun _ => fun
  | [d1, d2] => { results := [.lit (.bool false)], args := [d1, d2] }
  | _ => none }
def FpSquaresWrongFalsely : Prop := fpSquaresRow.holds Try.pinned (OpenSpec.ofChange fpSquaresWrong)

/-- 'chirographlaw04.FpBack': WHATEVER THE INPUT: true; the input reads as it did. -/
def fpBackSpec : ChangeSpec := { name := "fpBack", fn := fun _ => fun
  | [d1, d2] => { results := [.lit (.bool true)], args := [d1, d2] }
  | _ => none }
def fpBackRow : OpenClaim := { program := "ythmdfjlmmfphiaa", sum := "fed9428fd16bd77e212e1ad67884dbd86e06e4d7eade201dcdb0daabd6bb51df", func := "chirograph/chirographlaw04.FpBack", spec := "fpBack", inPlace := ["math/bits.Sub64", "math/bits.Add64"], apart := false }
def FpBackSaid : Prop := fpBackRow.holds Try.pinned (OpenSpec.ofChange fpBackSpec)

/-- ITS FALSE NEIGHBOUR: 'it returns false'. Refute it at one input. -/
def fpBackWrong : ChangeSpec := { name := "fpBack", fn := fun _ => fun
  | [d1, d2] => { results := [.lit (.bool false)], args := [d1, d2] }
  | _ => none }
def FpBackWrongFalsely : Prop := fpBackRow.holds Try.pinned (OpenSpec.ofChange fpBackWrong)

/- THE SECOND FORM. 'bulk': how many values and letters a reading holds, each counted each time it is reached (what is shared counts as often as it is met; a slice's spare places count too). A statement '..UptoSaid' is the law's where the arguments, and the package variables that the reading takes, are together of bulk at most 1048576: NARROWER than '..Said'. Prove '..Said' where nothing that the law and all that it calls make is longer than what came in: it says more and counts as full. Else prove '..UptoSaid'. A law counts once. -/
mutual
def uptoBulk {H : Type} : DataW H → Nat
  | .lit (.string bytes) => bytes.length + 1
  | .lit _ => 1
  | .nil => 1
  | .ptr d => uptoBulk d + 1
  | .slice elems spare => uptoBulkAll elems + uptoBulkAll spare + 1
  | .agg parts => uptoBulkAll parts + 1
  | .iface _ d => uptoBulk d + 1
  | .map entries => uptoBulkEntries entries + 1
  | .held _ => 1
def uptoBulkAll {H : Type} : List (DataW H) → Nat
  | [] => 0
  | d :: r => uptoBulk d + uptoBulkAll r
def uptoBulkEntries {H : Type} : List (Lit × DataW H) → Nat
  | [] => 0
  | x :: r => uptoBulkEntry x + uptoBulkEntries r
def uptoBulkEntry {H : Type} : Lit × DataW H → Nat
  | (.string bytes, d) => bytes.length + uptoBulk d + 1
  | (_, d) => uptoBulk d + 1
 end
def uptoSmall : (H : Type) → List (DataW H) → Bool := fun _ ds => decide (uptoBulkAll ds ≤ 1048576)
def OpenSpec.upto (s : _root_.Go.ChangeSpec) : _root_.Go.OpenSpec := { _root_.Go.OpenSpec.ofChange s with cond := some uptoSmall }

/-- 'chirographlaw04.FpRights', WHERE WHAT IT READS IS OF BULK AT MOST 1048576: true; the input reads as it did. -/
def fpRightsUptoRow : OpenClaim := { program := "ythmdfjlmmfphiaa", sum := "fed9428fd16bd77e212e1ad67884dbd86e06e4d7eade201dcdb0daabd6bb51df", func := "chirograph/chirographlaw04.FpRights", spec := "fpRights", inPlace := ["math/bits.Sub64", "math/bits.Add64"], apart := false, narrowed := true }
def FpRightsUptoSaid : Prop := fpRightsUptoRow.holds Try.pinned (OpenSpec.upto fpRightsSpec)

/-- 'chirographlaw04.FpAdds', WHERE WHAT IT READS IS OF BULK AT MOST 1048576: true; the input reads as it did. -/
def fpAddsUptoRow : OpenClaim := { program := "ythmdfjlmmfphiaa", sum := "fed9428fd16bd77e212e1ad67884dbd86e06e4d7eade201dcdb0daabd6bb51df", func := "chirograph/chirographlaw04.FpAdds", spec := "fpAdds", inPlace := ["math/bits.Sub64", "math/bits.Add64"], apart := false, narrowed := true }
def FpAddsUptoSaid : Prop := fpAddsUptoRow.holds Try.pinned (OpenSpec.upto fpAddsSpec)

/-- 'chirographlaw04.FpMuls', WHERE WHAT IT READS IS OF BULK AT MOST 1048576: true; the input reads as it did. -/
def fpMulsUptoRow : OpenClaim := { program := "ythmdfjlmmfphiaa", sum := "fed9428fd16bd77e212e1ad67884dbd86e06e4d7eade201dcdb0daabd6bb51df", func := "chirograph/chirographlaw04.FpMuls", spec := "fpMuls", inPlace := ["math/bits.Sub64", "math/bits.Add64"], unfollowed := true, recurses := true, named := ["math/bits.divideError", "math/bits.overflowError"], apart := false, narrowed := true }
def FpMulsUptoSaid : Prop := fpMulsUptoRow.holds Try.pinned (OpenSpec.upto fpMulsSpec)

/-- 'chirographlaw04.FpPows', WHERE WHAT IT READS IS OF BULK AT MOST 1048576: true; the input reads as it did. -/
def fpPowsUptoRow : OpenClaim := { program := "ythmdfjlmmfphiaa", sum := "fed9428fd16bd77e212e1ad67884dbd86e06e4d7eade201dcdb0daabd6bb51df", func := "chirograph/chirographlaw04.FpPows", spec := "fpPows", inPlace := ["math/bits.Sub64", "math/bits.Add64"], unfollowed := true, recurses := true, named := ["math/bits.divideError", "math/bits.overflowError"], apart := false, narrowed := true }
def FpPowsUptoSaid : Prop := fpPowsUptoRow.holds Try.pinned (OpenSpec.upto fpPowsSpec)

/-- 'chirographlaw04.FpRoots', WHERE WHAT IT READS IS OF BULK AT MOST 1048576: true; the input reads as it did. -/
def fpRootsUptoRow : OpenClaim := { program := "ythmdfjlmmfphiaa", sum := "fed9428fd16bd77e212e1ad67884dbd86e06e4d7eade201dcdb0daabd6bb51df", func := "chirograph/chirographlaw04.FpRoots", spec := "fpRoots", inPlace := ["math/bits.Sub64", "math/bits.Add64"], unfollowed := true, recurses := true, named := ["math/bits.divideError", "math/bits.overflowError"], apart := false, narrowed := true }
def FpRootsUptoSaid : Prop := fpRootsUptoRow.holds Try.pinned (OpenSpec.upto fpRootsSpec)

/-- 'chirographlaw04.FpBytes', WHERE WHAT IT READS IS OF BULK AT MOST 1048576: true; the input reads as it did. -/
def fpBytesUptoRow : OpenClaim := { program := "ythmdfjlmmfphiaa", sum := "fed9428fd16bd77e212e1ad67884dbd86e06e4d7eade201dcdb0daabd6bb51df", func := "chirograph/chirographlaw04.FpBytes", spec := "fpBytes", inPlace := ["math/bits.Sub64", "math/bits.Add64"], apart := false, narrowed := true }
def FpBytesUptoSaid : Prop := fpBytesUptoRow.holds Try.pinned (OpenSpec.upto fpBytesSpec)

/-- 'chirographlaw04.FpField', WHERE WHAT IT READS IS OF BULK AT MOST 1048576: true; the input reads as it did. -/
def fpFieldUptoRow : OpenClaim := { program := "ythmdfjlmmfphiaa", sum := "fed9428fd16bd77e212e1ad67884dbd86e06e4d7eade201dcdb0daabd6bb51df", func := "chirograph/chirographlaw04.FpField", spec := "fpField", inPlace := ["math/bits.Sub64", "math/bits.Add64"], unfollowed := true, recurses := true, named := ["math/bits.divideError", "math/bits.overflowError"], apart := false, narrowed := true }
def FpFieldUptoSaid : Prop := fpFieldUptoRow.holds Try.pinned (OpenSpec.upto fpFieldSpec)

/-- 'chirographlaw04.FpSquares', WHERE WHAT IT READS IS OF BULK AT MOST 1048576: true; the input reads as it did. -/
def fpSquaresUptoRow : OpenClaim := { program := "ythmdfjlmmfphiaa", sum := "fed9428fd16bd77e212e1ad67884dbd86e06e4d7eade201dcdb0daabd6bb51df", func := "chirograph/chirographlaw04.FpSquares", spec := "fpSquares", inPlace := ["math/bits.Sub64", "math/bits.Add64"], unfollowed := true, recurses := true, named := ["math/bits.divideError", "math/bits.overflowError"], apart := false, narrowed := true }
def FpSquaresUptoSaid : Prop := fpSquaresUptoRow.holds Try.pinned (OpenSpec.upto fpSquaresSpec)

/-- 'chirographlaw04.FpBack', WHERE WHAT IT READS IS OF BULK AT MOST 1048576: true; the input reads as it did. -/
def fpBackUptoRow : OpenClaim := { program := "ythmdfjlmmfphiaa", sum := "fed9428fd16bd77e212e1ad67884dbd86e06e4d7eade201dcdb0daabd6bb51df", func := "chirograph/chirographlaw04.FpBack", spec := "fpBack", inPlace := ["math/bits.Sub64", "math/bits.Add64"], apart := false, narrowed := true }
def FpBackUptoSaid : Prop := fpBackUptoRow.holds Try.pinned (OpenSpec.upto fpBackSpec)

end Rows
end Go.Proofs.Ythmdfjlmmfphiaa
