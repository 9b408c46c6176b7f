/-
  No cell of these rows narrows 'for every input' (looked for: loops, veiled, ifaces, maps, wideKeys, modest, calm, conditions, laid).
  DERIVED. THE GIVEN ROWS OF THIS SEAT. 9 by the template 'for every input the law returns true; each argument reads behind the call as it read before'; 0 by the template 'total and deterministic' (their statements: YtgkdkahgiihlfaaTotals.lean).
  GIVEN WITH THE SEED: the statements are not yours to turn. If you find one false, say at which input.
  Laid BY PROGRAM, IN A SANDBOX (cutbox-rows.mjs): the forced cells as the released guide's own fill.sh prints them over the translation 750038bd8b6727e8… (all of the seat's roots in one cut). By AI agents, Wed Nov 11 2026. No macro, syntax, notation, axiom, sorry.
-/
import Derived.Test.YtgkdkahgiihlfaaChecked
import GoSem.Claim
import GoSem.ClaimJoined
import GoSem.ClaimMapViews
import Derived.JoinedTies
import Derived.KernelRfl
namespace Go.Proofs.Ytgkdkahgiihlfaa
/- THE CELL 'sum', in the pinned program and in every row, IS THE sha256 OF THE DUMP (.gsa) THAT YtgkdkahgiihlfaaProg.lean LOADS. Nothing in Lean hashes anything: it is a label: what it is worth is what the hold of that sum in a sandbox is worth. -/
noncomputable def Try.pinned : Pinned := { name := "ytgkdkahgiihlfaa", sum := "750038bd8b6727e8e929ce61862a5b38958269aebc94a203cdd1b403a1398022", checked := Try.checked }
namespace Rows
def none {H : Type} : Left H := { results := [], args := [] }

/-- 'chirographlaw04.FpRoots': WHATEVER THE INPUT: true; the input reads as it did. -/
def fpRootsSpec : ChangeSpec := { name := "fpRoots", fn := fun _ => fun
  | [d] => { results := [.lit (.bool true)], args := [d] }
  | _ => none }
def fpRootsRow : OpenClaim := { program := "ytgkdkahgiihlfaa", sum := "750038bd8b6727e8e929ce61862a5b38958269aebc94a203cdd1b403a1398022", func := "chirograph/chirographlaw04.FpRoots", spec := "fpRoots", inPlace := ["math/bits.Sub64", "math/bits.Add64"], unfollowed := true, recurses := true, named := ["math/bits.divideError", "math/bits.overflowError"], apart := false }
def FpRootsSaid : Prop := fpRootsRow.holds Try.pinned (OpenSpec.ofChange fpRootsSpec)

/-- ITS FALSE NEIGHBOUR: 'it returns false'. Refute it at one input. -/
def fpRootsWrong : ChangeSpec := { name := "fpRoots", fn := fun _ => fun
  | [d] => { results := [.lit (.bool false)], args := [d] }
  | _ => none }
def FpRootsWrongFalsely : Prop := fpRootsRow.holds Try.pinned (OpenSpec.ofChange fpRootsWrong)

/-- 'chirographlaw04.FpField': WHATEVER THE INPUT: true; the input reads as it did. -/
def fpFieldSpec : ChangeSpec := { name := "fpField", fn := fun _ => fun
  | [d1, d2, d3] => { results := [.lit (.bool true)], args := [d1, d2, d3] }
  | _ => none }
def fpFieldRow : OpenClaim := { program := "ytgkdkahgiihlfaa", sum := "750038bd8b6727e8e929ce61862a5b38958269aebc94a203cdd1b403a1398022", func := "chirograph/chirographlaw04.FpField", spec := "fpField", inPlace := ["math/bits.Sub64", "math/bits.Add64"], unfollowed := true, recurses := true, named := ["math/bits.divideError", "math/bits.overflowError"], apart := false }
def FpFieldSaid : Prop := fpFieldRow.holds Try.pinned (OpenSpec.ofChange fpFieldSpec)

/-- ITS FALSE NEIGHBOUR: 'it returns false'. Refute it at one input. -/
def fpFieldWrong : ChangeSpec := { name := "fpField", fn := fun _ => fun
  | [d1, d2, d3] => { results := [.lit (.bool false)], args := [d1, d2, d3] }
  | _ => none }
def FpFieldWrongFalsely : Prop := fpFieldRow.holds Try.pinned (OpenSpec.ofChange fpFieldWrong)

/-- 'chirographlaw04.FpSquares': WHATEVER THE INPUT: true; the input reads as it did. -/
def fpSquaresSpec : ChangeSpec := { name := "fpSquares", fn := fun _ => fun
  | [d1, d2] => { results := [.lit (.bool true)], args := [d1, d2] }
  | _ => none }
def fpSquaresRow : OpenClaim := { program := "ytgkdkahgiihlfaa", sum := "750038bd8b6727e8e929ce61862a5b38958269aebc94a203cdd1b403a1398022", func := "chirograph/chirographlaw04.FpSquares", spec := "fpSquares", inPlace := ["math/bits.Sub64", "math/bits.Add64"], unfollowed := true, recurses := true, named := ["math/bits.divideError", "math/bits.overflowError"], apart := false }
def FpSquaresSaid : Prop := fpSquaresRow.holds Try.pinned (OpenSpec.ofChange fpSquaresSpec)

/-- ITS FALSE NEIGHBOUR: 'it returns false'. Refute it at one input. -/
def fpSquaresWrong : ChangeSpec := { name := "fpSquares", fn := fun _ => fun
  | [d1, d2] => { results := [.lit (.bool false)], args := [d1, d2] }
  | _ => none }
def FpSquaresWrongFalsely : Prop := fpSquaresRow.holds Try.pinned (OpenSpec.ofChange fpSquaresWrong)

/-- 'chirographlaw05.DuoAdds': WHATEVER THE INPUT: true; the input reads as it did. -/
def duoAddsSpec : ChangeSpec := { name := "duoAdds", fn := fun _ => fun
  | [d1, d2] => { results := [.lit (.bool true)], args := [d1, d2] }
  | _ => none }
def duoAddsRow : OpenClaim := { program := "ytgkdkahgiihlfaa", sum := "750038bd8b6727e8e929ce61862a5b38958269aebc94a203cdd1b403a1398022", func := "chirograph/chirographlaw05.DuoAdds", spec := "duoAdds", inPlace := ["math/bits.Sub64", "math/bits.Add64"], unfollowed := true, recurses := true, apart := false }
def DuoAddsSaid : Prop := duoAddsRow.holds Try.pinned (OpenSpec.ofChange duoAddsSpec)

/-- ITS FALSE NEIGHBOUR: 'it returns false'. Refute it at one input. -/
def duoAddsWrong : ChangeSpec := { name := "duoAdds", fn := fun _ => fun
  | [d1, d2] => { results := [.lit (.bool false)], args := [d1, d2] }
  | _ => none }
def DuoAddsWrongFalsely : Prop := duoAddsRow.holds Try.pinned (OpenSpec.ofChange duoAddsWrong)

/-- 'chirographlaw05.DuoMuls': WHATEVER THE INPUT: true; the input reads as it did. -/
def duoMulsSpec : ChangeSpec := { name := "duoMuls", fn := fun _ => fun
  | [d1, d2] => { results := [.lit (.bool true)], args := [d1, d2] }
  | _ => none }
def duoMulsRow : OpenClaim := { program := "ytgkdkahgiihlfaa", sum := "750038bd8b6727e8e929ce61862a5b38958269aebc94a203cdd1b403a1398022", func := "chirograph/chirographlaw05.DuoMuls", spec := "duoMuls", inPlace := ["math/bits.Sub64", "math/bits.Add64"], unfollowed := true, recurses := true, named := ["math/bits.divideError", "math/bits.overflowError"], apart := false }
def DuoMulsSaid : Prop := duoMulsRow.holds Try.pinned (OpenSpec.ofChange duoMulsSpec)

/-- ITS FALSE NEIGHBOUR: 'it returns false'. Refute it at one input. -/
def duoMulsWrong : ChangeSpec := { name := "duoMuls", fn := fun _ => fun
  | [d1, d2] => { results := [.lit (.bool false)], args := [d1, d2] }
  | _ => none }
def DuoMulsWrongFalsely : Prop := duoMulsRow.holds Try.pinned (OpenSpec.ofChange duoMulsWrong)

/-- 'chirographlaw05.DuoRoots': WHATEVER THE INPUT: true; the input reads as it did. -/
def duoRootsSpec : ChangeSpec := { name := "duoRoots", fn := fun _ => fun
  | [d] => { results := [.lit (.bool true)], args := [d] }
  | _ => none }
def duoRootsRow : OpenClaim := { program := "ytgkdkahgiihlfaa", sum := "750038bd8b6727e8e929ce61862a5b38958269aebc94a203cdd1b403a1398022", func := "chirograph/chirographlaw05.DuoRoots", spec := "duoRoots", inPlace := ["math/bits.Sub64", "math/bits.Add64"], unfollowed := true, recurses := true, named := ["math/bits.divideError", "math/bits.overflowError"], apart := false }
def DuoRootsSaid : Prop := duoRootsRow.holds Try.pinned (OpenSpec.ofChange duoRootsSpec)

/-- ITS FALSE NEIGHBOUR: 'it returns false'. Refute it at one input. -/
def duoRootsWrong : ChangeSpec := { name := "duoRoots", fn := fun _ => fun
  | [d] => { results := [.lit (.bool false)], args := [d] }
  | _ => none }
def DuoRootsWrongFalsely : Prop := duoRootsRow.holds Try.pinned (OpenSpec.ofChange duoRootsWrong)

/-- 'chirographlaw05.DuoField': WHATEVER THE INPUT: true; the input reads as it did. -/
def duoFieldSpec : ChangeSpec := { name := "duoField", fn := fun _ => fun
  | [d1, d2, d3] => { results := [.lit (.bool true)], args := [d1, d2, d3] }
  | _ => none }
def duoFieldRow : OpenClaim := { program := "ytgkdkahgiihlfaa", sum := "750038bd8b6727e8e929ce61862a5b38958269aebc94a203cdd1b403a1398022", func := "chirograph/chirographlaw05.DuoField", spec := "duoField", inPlace := ["math/bits.Sub64", "math/bits.Add64"], unfollowed := true, recurses := true, named := ["math/bits.divideError", "math/bits.overflowError"], apart := false }
def DuoFieldSaid : Prop := duoFieldRow.holds Try.pinned (OpenSpec.ofChange duoFieldSpec)

/-- ITS FALSE NEIGHBOUR: 'it returns false'. Refute it at one input. -/
def duoFieldWrong : ChangeSpec := { name := "duoField", fn := fun _ => fun
  | [d1, d2, d3] => { results := [.lit (.bool false)], args := [d1, d2, d3] }
  | _ => none }
def DuoFieldWrongFalsely : Prop := duoFieldRow.holds Try.pinned (OpenSpec.ofChange duoFieldWrong)

/-- 'chirographlaw05.DuoTurns': WHATEVER THE INPUT: true; the input reads as it did. -/
def duoTurnsSpec : ChangeSpec := { name := "duoTurns", fn := fun _ => fun
  | [d1, d2] => { results := [.lit (.bool true)], args := [d1, d2] }
  | _ => none }
def duoTurnsRow : OpenClaim := { program := "ytgkdkahgiihlfaa", sum := "750038bd8b6727e8e929ce61862a5b38958269aebc94a203cdd1b403a1398022", func := "chirograph/chirographlaw05.DuoTurns", spec := "duoTurns", inPlace := ["math/bits.Sub64", "math/bits.Add64"], unfollowed := true, recurses := true, apart := false }
def DuoTurnsSaid : Prop := duoTurnsRow.holds Try.pinned (OpenSpec.ofChange duoTurnsSpec)

/-- ITS FALSE NEIGHBOUR: 'it returns false'. Refute it at one input. -/
def duoTurnsWrong : ChangeSpec := { name := "duoTurns", fn := fun _ => fun
  | [d1, d2] => { results := [.lit (.bool false)], args := [d1, d2] }
  | _ => none }
def DuoTurnsWrongFalsely : Prop := duoTurnsRow.holds Try.pinned (OpenSpec.ofChange duoTurnsWrong)

/-- 'chirographlaw05.DuoSquares': WHATEVER THE INPUT: true; the input reads as it did. -/
def duoSquaresSpec : ChangeSpec := { name := "duoSquares", fn := fun _ => fun
  | [d] => { results := [.lit (.bool true)], args := [d] }
  | _ => none }
def duoSquaresRow : OpenClaim := { program := "ytgkdkahgiihlfaa", sum := "750038bd8b6727e8e929ce61862a5b38958269aebc94a203cdd1b403a1398022", func := "chirograph/chirographlaw05.DuoSquares", spec := "duoSquares", inPlace := ["math/bits.Sub64", "math/bits.Add64"], unfollowed := true, recurses := true, named := ["math/bits.divideError", "math/bits.overflowError"], apart := false }
def DuoSquaresSaid : Prop := duoSquaresRow.holds Try.pinned (OpenSpec.ofChange duoSquaresSpec)

/-- ITS FALSE NEIGHBOUR: 'it returns false'. Refute it at one input. -/
def duoSquaresWrong : ChangeSpec := { name := "duoSquares", fn := fun _ => fun
  | [d] => { results := [.lit (.bool false)], args := [d] }
  | _ => none }
def DuoSquaresWrongFalsely : Prop := duoSquaresRow.holds Try.pinned (OpenSpec.ofChange duoSquaresWrong)

/- THE SECOND FORM. 'bulk': how many values and letters a reading holds, each counted each time it is reached (what is shared counts as often as it is met; a slice's spare places count too). A statement '..UptoSaid' is the law's where the arguments, and the package variables that the reading takes, are together of bulk at most 1048576: NARROWER than '..Said'. Prove '..Said' where nothing that the law and all that it calls make is longer than what came in: it says more and counts as full. Else prove '..UptoSaid'. A law counts once. -/
mutual
def uptoBulk {H : Type} : DataW H → Nat
  | .lit (.string bytes) => bytes.length + 1
  | .lit _ => 1
  | .nil => 1
  | .ptr d => uptoBulk d + 1
  | .slice elems spare => uptoBulkAll elems + uptoBulkAll spare + 1
  | .agg parts => uptoBulkAll parts + 1
  | .iface _ d => uptoBulk d + 1
  | .map entries => uptoBulkEntries entries + 1
  | .held _ => 1
def uptoBulkAll {H : Type} : List (DataW H) → Nat
  | [] => 0
  | d :: r => uptoBulk d + uptoBulkAll r
def uptoBulkEntries {H : Type} : List (Lit × DataW H) → Nat
  | [] => 0
  | x :: r => uptoBulkEntry x + uptoBulkEntries r
def uptoBulkEntry {H : Type} : Lit × DataW H → Nat
  | (.string bytes, d) => bytes.length + uptoBulk d + 1
  | (_, d) => uptoBulk d + 1
 end
def uptoSmall : (H : Type) → List (DataW H) → Bool := fun _ ds => decide (uptoBulkAll ds ≤ 1048576)
def OpenSpec.upto (s : _root_.Go.ChangeSpec) : _root_.Go.OpenSpec := { _root_.Go.OpenSpec.ofChange s with cond := some uptoSmall }

/-- 'chirographlaw04.FpRoots', WHERE WHAT IT READS IS OF BULK AT MOST 1048576: true; the input reads as it did. -/
def fpRootsUptoRow : OpenClaim := { program := "ytgkdkahgiihlfaa", sum := "750038bd8b6727e8e929ce61862a5b38958269aebc94a203cdd1b403a1398022", func := "chirograph/chirographlaw04.FpRoots", spec := "fpRoots", inPlace := ["math/bits.Sub64", "math/bits.Add64"], unfollowed := true, recurses := true, named := ["math/bits.divideError", "math/bits.overflowError"], apart := false, narrowed := true }
def FpRootsUptoSaid : Prop := fpRootsUptoRow.holds Try.pinned (OpenSpec.upto fpRootsSpec)

/-- 'chirographlaw04.FpField', WHERE WHAT IT READS IS OF BULK AT MOST 1048576: true; the input reads as it did. -/
def fpFieldUptoRow : OpenClaim := { program := "ytgkdkahgiihlfaa", sum := "750038bd8b6727e8e929ce61862a5b38958269aebc94a203cdd1b403a1398022", func := "chirograph/chirographlaw04.FpField", spec := "fpField", inPlace := ["math/bits.Sub64", "math/bits.Add64"], unfollowed := true, recurses := true, named := ["math/bits.divideError", "math/bits.overflowError"], apart := false, narrowed := true }
def FpFieldUptoSaid : Prop := fpFieldUptoRow.holds Try.pinned (OpenSpec.upto fpFieldSpec)

/-- 'chirographlaw04.FpSquares', WHERE WHAT IT READS IS OF BULK AT MOST 1048576: true; the input reads as it did. -/
def fpSquaresUptoRow : OpenClaim := { program := "ytgkdkahgiihlfaa", sum := "750038bd8b6727e8e929ce61862a5b38958269aebc94a203cdd1b403a1398022", func := "chirograph/chirographlaw04.FpSquares", spec := "fpSquares", inPlace := ["math/bits.Sub64", "math/bits.Add64"], unfollowed := true, recurses := true, named := ["math/bits.divideError", "math/bits.overflowError"], apart := false, narrowed := true }
def FpSquaresUptoSaid : Prop := fpSquaresUptoRow.holds Try.pinned (OpenSpec.upto fpSquaresSpec)

/-- 'chirographlaw05.DuoAdds', WHERE WHAT IT READS IS OF BULK AT MOST 1048576: true; the input reads as it did. -/
def duoAddsUptoRow : OpenClaim := { program := "ytgkdkahgiihlfaa", sum := "750038bd8b6727e8e929ce61862a5b38958269aebc94a203cdd1b403a1398022", func := "chirograph/chirographlaw05.DuoAdds", spec := "duoAdds", inPlace := ["math/bits.Sub64", "math/bits.Add64"], unfollowed := true, recurses := true, apart := false, narrowed := true }
def DuoAddsUptoSaid : Prop := duoAddsUptoRow.holds Try.pinned (OpenSpec.upto duoAddsSpec)

/-- 'chirographlaw05.DuoMuls', WHERE WHAT IT READS IS OF BULK AT MOST 1048576: true; the input reads as it did. -/
def duoMulsUptoRow : OpenClaim := { program := "ytgkdkahgiihlfaa", sum := "750038bd8b6727e8e929ce61862a5b38958269aebc94a203cdd1b403a1398022", func := "chirograph/chirographlaw05.DuoMuls", spec := "duoMuls", inPlace := ["math/bits.Sub64", "math/bits.Add64"], unfollowed := true, recurses := true, named := ["math/bits.divideError", "math/bits.overflowError"], apart := false, narrowed := true }
def DuoMulsUptoSaid : Prop := duoMulsUptoRow.holds Try.pinned (OpenSpec.upto duoMulsSpec)

/-- 'chirographlaw05.DuoRoots', WHERE WHAT IT READS IS OF BULK AT MOST 1048576: true; the input reads as it did. -/
def duoRootsUptoRow : OpenClaim := { program := "ytgkdkahgiihlfaa", sum := "750038bd8b6727e8e929ce61862a5b38958269aebc94a203cdd1b403a1398022", func := "chirograph/chirographlaw05.DuoRoots", spec := "duoRoots", inPlace := ["math/bits.Sub64", "math/bits.Add64"], unfollowed := true, recurses := true, named := ["math/bits.divideError", "math/bits.overflowError"], apart := false, narrowed := true }
def DuoRootsUptoSaid : Prop := duoRootsUptoRow.holds Try.pinned (OpenSpec.upto duoRootsSpec)

/-- 'chirographlaw05.DuoField', WHERE WHAT IT READS IS OF BULK AT MOST 1048576: true; the input reads as it did. -/
def duoFieldUptoRow : OpenClaim := { program := "ytgkdkahgiihlfaa", sum := "750038bd8b6727e8e929ce61862a5b38958269aebc94a203cdd1b403a1398022", func := "chirograph/chirographlaw05.DuoField", spec := "duoField", inPlace := ["math/bits.Sub64", "math/bits.Add64"], unfollowed := true, recurses := true, named := ["math/bits.divideError", "math/bits.overflowError"], apart := false, narrowed := true }
def DuoFieldUptoSaid : Prop := duoFieldUptoRow.holds Try.pinned (OpenSpec.upto duoFieldSpec)

/-- 'chirographlaw05.DuoTurns', WHERE WHAT IT READS IS OF BULK AT MOST 1048576: true; the input reads as it did. -/
def duoTurnsUptoRow : OpenClaim := { program := "ytgkdkahgiihlfaa", sum := "750038bd8b6727e8e929ce61862a5b38958269aebc94a203cdd1b403a1398022", func := "chirograph/chirographlaw05.DuoTurns", spec := "duoTurns", inPlace := ["math/bits.Sub64", "math/bits.Add64"], unfollowed := true, recurses := true, apart := false, narrowed := true }
def DuoTurnsUptoSaid : Prop := duoTurnsUptoRow.holds Try.pinned (OpenSpec.upto duoTurnsSpec)

/-- 'chirographlaw05.DuoSquares', WHERE WHAT IT READS IS OF BULK AT MOST 1048576: true; the input reads as it did. -/
def duoSquaresUptoRow : OpenClaim := { program := "ytgkdkahgiihlfaa", sum := "750038bd8b6727e8e929ce61862a5b38958269aebc94a203cdd1b403a1398022", func := "chirograph/chirographlaw05.DuoSquares", spec := "duoSquares", inPlace := ["math/bits.Sub64", "math/bits.Add64"], unfollowed := true, recurses := true, named := ["math/bits.divideError", "math/bits.overflowError"], apart := false, narrowed := true }
def DuoSquaresUptoSaid : Prop := duoSquaresUptoRow.holds Try.pinned (OpenSpec.upto duoSquaresSpec)

end Rows
end Go.Proofs.Ytgkdkahgiihlfaa
