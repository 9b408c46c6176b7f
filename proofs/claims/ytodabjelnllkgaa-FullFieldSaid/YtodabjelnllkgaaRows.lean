/-
  No cell of these rows narrows 'for every input' (looked for: loops, veiled, ifaces, maps, wideKeys, modest, calm, conditions, laid).
  DERIVED. THE GIVEN ROWS OF THIS SEAT. 5 by the template 'for every input the law returns true; each argument reads behind the call as it read before'; 0 by the template 'total and deterministic' (their statements: YtodabjelnllkgaaTotals.lean).
  GIVEN WITH THE SEED: the statements are not yours to turn. If you find one false, say at which input.
  Laid BY PROGRAM, IN A SANDBOX (cutbox-rows.mjs): the forced cells as the released guide's own fill.sh prints them over the translation 5dc4b4ff269995f9… (all of the seat's roots in one cut). By AI agents, Wed Nov 11 2026. No macro, syntax, notation, axiom, sorry.
-/
import Derived.Test.YtodabjelnllkgaaChecked
import GoSem.Claim
import GoSem.ClaimJoined
import GoSem.ClaimMapViews
import Derived.JoinedTies
import Derived.KernelRfl
namespace Go.Proofs.Ytodabjelnllkgaa
/- THE CELL 'sum', in the pinned program and in every row, IS THE sha256 OF THE DUMP (.gsa) THAT YtodabjelnllkgaaProg.lean LOADS. Nothing in Lean hashes anything: it is a label: what it is worth is what the hold of that sum in a sandbox is worth. -/
noncomputable def Try.pinned : Pinned := { name := "ytodabjelnllkgaa", sum := "5dc4b4ff269995f937539b3188a5e4cf903a68aaab7559ffac4643e2cac3aec9", checked := Try.checked }
namespace Rows
def none {H : Type} : Left H := { results := [], args := [] }

/-- 'chirographlaw07.FullAdds': WHATEVER THE INPUT: true; the input reads as it did. -/
def fullAddsSpec : ChangeSpec := { name := "fullAdds", fn := fun _ => fun
  | [d1, d2] => { results := [.lit (.bool true)], args := [d1, d2] }
  | _ => none }
def fullAddsRow : OpenClaim := { program := "ytodabjelnllkgaa", sum := "5dc4b4ff269995f937539b3188a5e4cf903a68aaab7559ffac4643e2cac3aec9", func := "chirograph/chirographlaw07.FullAdds", spec := "fullAdds", inPlace := ["math/bits.Sub64", "math/bits.Add64"], unfollowed := true, recurses := true, apart := false }
def FullAddsSaid : Prop := fullAddsRow.holds Try.pinned (OpenSpec.ofChange fullAddsSpec)

/-- ITS FALSE NEIGHBOUR: 'it returns false'. Refute it at one input. -/
def fullAddsWrong : ChangeSpec := { name := "fullAdds", fn := fun _ => fun
  | [d1, d2] => { results := [.lit (.bool false)], args := [d1, d2] }
  | _ => none }
def FullAddsWrongFalsely : Prop := fullAddsRow.holds Try.pinned (OpenSpec.ofChange fullAddsWrong)

/-- 'chirographlaw07.FullField': WHATEVER THE INPUT: true; the input reads as it did. -/
def fullFieldSpec : ChangeSpec := { name := "fullField", fn := fun _ => fun
  | [d1, d2, d3] => { results := [.lit (.bool true)], args := [d1, d2, d3] }
  | _ => none }
def fullFieldRow : OpenClaim := { program := "ytodabjelnllkgaa", sum := "5dc4b4ff269995f937539b3188a5e4cf903a68aaab7559ffac4643e2cac3aec9", func := "chirograph/chirographlaw07.FullField", spec := "fullField", inPlace := ["math/bits.Sub64", "math/bits.Add64"], unfollowed := true, recurses := true, named := ["math/bits.divideError", "math/bits.overflowError"], apart := false }
def FullFieldSaid : Prop := fullFieldRow.holds Try.pinned (OpenSpec.ofChange fullFieldSpec)

/-- ITS FALSE NEIGHBOUR: 'it returns false'. Refute it at one input. -/
def fullFieldWrong : ChangeSpec := { name := "fullField", fn := fun _ => fun
  | [d1, d2, d3] => { results := [.lit (.bool false)], args := [d1, d2, d3] }
  | _ => none }
def FullFieldWrongFalsely : Prop := fullFieldRow.holds Try.pinned (OpenSpec.ofChange fullFieldWrong)

/-- 'chirographlaw07.FullPows': WHATEVER THE INPUT: true; the input reads as it did. -/
def fullPowsSpec : ChangeSpec := { name := "fullPows", fn := fun _ => fun
  | [d1, d2, d3, d4, d5] => { results := [.lit (.bool true)], args := [d1, d2, d3, d4, d5] }
  | _ => none }
def fullPowsRow : OpenClaim := { program := "ytodabjelnllkgaa", sum := "5dc4b4ff269995f937539b3188a5e4cf903a68aaab7559ffac4643e2cac3aec9", func := "chirograph/chirographlaw07.FullPows", spec := "fullPows", inPlace := ["math/bits.Sub64", "math/bits.Add64"], unfollowed := true, recurses := true, apart := false }
def FullPowsSaid : Prop := fullPowsRow.holds Try.pinned (OpenSpec.ofChange fullPowsSpec)

/-- ITS FALSE NEIGHBOUR: 'it returns false'. Refute it at one input. -/
def fullPowsWrong : ChangeSpec := { name := "fullPows", fn := fun _ => fun
  | [d1, d2, d3, d4, d5] => { results := [.lit (.bool false)], args := [d1, d2, d3, d4, d5] }
  | _ => none }
def FullPowsWrongFalsely : Prop := fullPowsRow.holds Try.pinned (OpenSpec.ofChange fullPowsWrong)

/-- 'chirographlaw07.FullFrobs': WHATEVER THE INPUT: true; the input reads as it did. -/
def fullFrobsSpec : ChangeSpec := { name := "fullFrobs", fn := fun _ => fun
  | [d1, d2] => { results := [.lit (.bool true)], args := [d1, d2] }
  | _ => none }
def fullFrobsRow : OpenClaim := { program := "ytodabjelnllkgaa", sum := "5dc4b4ff269995f937539b3188a5e4cf903a68aaab7559ffac4643e2cac3aec9", func := "chirograph/chirographlaw07.FullFrobs", spec := "fullFrobs", inPlace := ["math/bits.Sub64", "math/bits.Add64"], unfollowed := true, recurses := true, apart := false }
def FullFrobsSaid : Prop := fullFrobsRow.holds Try.pinned (OpenSpec.ofChange fullFrobsSpec)

/-- ITS FALSE NEIGHBOUR: 'it returns false'. Refute it at one input. -/
def fullFrobsWrong : ChangeSpec := { name := "fullFrobs", fn := fun _ => fun
  | [d1, d2] => { results := [.lit (.bool false)], args := [d1, d2] }
  | _ => none }
def FullFrobsWrongFalsely : Prop := fullFrobsRow.holds Try.pinned (OpenSpec.ofChange fullFrobsWrong)

/-- 'chirographlaw07.FullTurns': WHATEVER THE INPUT: true; the input reads as it did. -/
def fullTurnsSpec : ChangeSpec := { name := "fullTurns", fn := fun _ => fun
  | [d1, d2] => { results := [.lit (.bool true)], args := [d1, d2] }
  | _ => none }
def fullTurnsRow : OpenClaim := { program := "ytodabjelnllkgaa", sum := "5dc4b4ff269995f937539b3188a5e4cf903a68aaab7559ffac4643e2cac3aec9", func := "chirograph/chirographlaw07.FullTurns", spec := "fullTurns", inPlace := ["math/bits.Sub64", "math/bits.Add64"], unfollowed := true, recurses := true, apart := false }
def FullTurnsSaid : Prop := fullTurnsRow.holds Try.pinned (OpenSpec.ofChange fullTurnsSpec)

/-- ITS FALSE NEIGHBOUR: 'it returns false'. Refute it at one input. -/
def fullTurnsWrong : ChangeSpec := { name := "fullTurns", fn := fun _ => fun
  | [d1, d2] => { results := [.lit (.bool false)], args := [d1, d2] }
  | _ => none }
def FullTurnsWrongFalsely : Prop := fullTurnsRow.holds Try.pinned (OpenSpec.ofChange fullTurnsWrong)

/- THE SECOND FORM. 'bulk': how many values and letters a reading holds, each counted each time it is reached (what is shared counts as often as it is met; a slice's spare places count too). A statement '..UptoSaid' is the law's where the arguments, and the package variables that the reading takes, are together of bulk at most 1048576: NARROWER than '..Said'. Prove '..Said' where nothing that the law and all that it calls make is longer than what came in: it says more and counts as full. Else prove '..UptoSaid'. A law counts once. -/
mutual
def uptoBulk {H : Type} : DataW H → Nat
  | .lit (.string bytes) => bytes.length + 1
  | .lit _ => 1
  | .nil => 1
  | .ptr d => uptoBulk d + 1
  | .slice elems spare => uptoBulkAll elems + uptoBulkAll spare + 1
  | .agg parts => uptoBulkAll parts + 1
  | .iface _ d => uptoBulk d + 1
  | .map entries => uptoBulkEntries entries + 1
  | .held _ => 1
def uptoBulkAll {H : Type} : List (DataW H) → Nat
  | [] => 0
  | d :: r => uptoBulk d + uptoBulkAll r
def uptoBulkEntries {H : Type} : List (Lit × DataW H) → Nat
  | [] => 0
  | x :: r => uptoBulkEntry x + uptoBulkEntries r
def uptoBulkEntry {H : Type} : Lit × DataW H → Nat
  | (.string bytes, d) => bytes.length + uptoBulk d + 1
  | (_, d) => uptoBulk d + 1
 end
def uptoSmall : (H : Type) → List (DataW H) → Bool := fun _ ds => decide (uptoBulkAll ds ≤ 1048576)
def OpenSpec.upto (s : _root_.Go.ChangeSpec) : _root_.Go.OpenSpec := { _root_.Go.OpenSpec.ofChange s with cond := some uptoSmall }

/-- 'chirographlaw07.FullAdds', WHERE WHAT IT READS IS OF BULK AT MOST 1048576: true; the input reads as it did. -/
def fullAddsUptoRow : OpenClaim := { program := "ytodabjelnllkgaa", sum := "5dc4b4ff269995f937539b3188a5e4cf903a68aaab7559ffac4643e2cac3aec9", func := "chirograph/chirographlaw07.FullAdds", spec := "fullAdds", inPlace := ["math/bits.Sub64", "math/bits.Add64"], unfollowed := true, recurses := true, apart := false, narrowed := true }
def FullAddsUptoSaid : Prop := fullAddsUptoRow.holds Try.pinned (OpenSpec.upto fullAddsSpec)

/-- 'chirographlaw07.FullField', WHERE WHAT IT READS IS OF BULK AT MOST 1048576: true; the input reads as it did. -/
def fullFieldUptoRow : OpenClaim := { program := "ytodabjelnllkgaa", sum := "5dc4b4ff269995f937539b3188a5e4cf903a68aaab7559ffac4643e2cac3aec9", func := "chirograph/chirographlaw07.FullField", spec := "fullField", inPlace := ["math/bits.Sub64", "math/bits.Add64"], unfollowed := true, recurses := true, named := ["math/bits.divideError", "math/bits.overflowError"], apart := false, narrowed := true }
def FullFieldUptoSaid : Prop := fullFieldUptoRow.holds Try.pinned (OpenSpec.upto fullFieldSpec)

/-- 'chirographlaw07.FullPows', WHERE WHAT IT READS IS OF BULK AT MOST 1048576: true; the input reads as it did. -/
def fullPowsUptoRow : OpenClaim := { program := "ytodabjelnllkgaa", sum := "5dc4b4ff269995f937539b3188a5e4cf903a68aaab7559ffac4643e2cac3aec9", func := "chirograph/chirographlaw07.FullPows", spec := "fullPows", inPlace := ["math/bits.Sub64", "math/bits.Add64"], unfollowed := true, recurses := true, apart := false, narrowed := true }
def FullPowsUptoSaid : Prop := fullPowsUptoRow.holds Try.pinned (OpenSpec.upto fullPowsSpec)

/-- 'chirographlaw07.FullFrobs', WHERE WHAT IT READS IS OF BULK AT MOST 1048576: true; the input reads as it did. -/
def fullFrobsUptoRow : OpenClaim := { program := "ytodabjelnllkgaa", sum := "5dc4b4ff269995f937539b3188a5e4cf903a68aaab7559ffac4643e2cac3aec9", func := "chirograph/chirographlaw07.FullFrobs", spec := "fullFrobs", inPlace := ["math/bits.Sub64", "math/bits.Add64"], unfollowed := true, recurses := true, apart := false, narrowed := true }
def FullFrobsUptoSaid : Prop := fullFrobsUptoRow.holds Try.pinned (OpenSpec.upto fullFrobsSpec)

/-- 'chirographlaw07.FullTurns', WHERE WHAT IT READS IS OF BULK AT MOST 1048576: true; the input reads as it did. -/
def fullTurnsUptoRow : OpenClaim := { program := "ytodabjelnllkgaa", sum := "5dc4b4ff269995f937539b3188a5e4cf903a68aaab7559ffac4643e2cac3aec9", func := "chirograph/chirographlaw07.FullTurns", spec := "fullTurns", inPlace := ["math/bits.Sub64", "math/bits.Add64"], unfollowed := true, recurses := true, apart := false, narrowed := true }
def FullTurnsUptoSaid : Prop := fullTurnsUptoRow.holds Try.pinned (OpenSpec.upto fullTurnsSpec)

end Rows
end Go.Proofs.Ytodabjelnllkgaa
