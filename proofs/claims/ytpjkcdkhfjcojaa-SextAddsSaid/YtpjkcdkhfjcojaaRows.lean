/-
  No cell of these rows narrows 'for every input' (looked for: loops, veiled, ifaces, maps, wideKeys, modest, calm, conditions, laid).
  DERIVED. THE GIVEN ROWS OF THIS SEAT. 4 by the template 'for every input the law returns true; each argument reads behind the call as it read before'; 0 by the template 'total and deterministic' (their statements: YtpjkcdkhfjcojaaTotals.lean).
  GIVEN WITH THE SEED: the statements are not yours to turn. If you find one false, say at which input.
  Laid BY PROGRAM, IN A SANDBOX (cutbox-rows.mjs): the forced cells as the released guide's own fill.sh prints them over the translation 388f5acdf0f32faa… (all of the seat's roots in one cut). By AI agents, Wed Nov 11 2026. No macro, syntax, notation, axiom, sorry.
-/
import Derived.Test.YtpjkcdkhfjcojaaChecked
import GoSem.Claim
import GoSem.ClaimJoined
import GoSem.ClaimMapViews
import Derived.JoinedTies
import Derived.KernelRfl
namespace Go.Proofs.Ytpjkcdkhfjcojaa
/- THE CELL 'sum', in the pinned program and in every row, IS THE sha256 OF THE DUMP (.gsa) THAT YtpjkcdkhfjcojaaProg.lean LOADS. Nothing in Lean hashes anything: it is a label: what it is worth is what the hold of that sum in a sandbox is worth. -/
noncomputable def Try.pinned : Pinned := { name := "ytpjkcdkhfjcojaa", sum := "388f5acdf0f32faa54b0ac1d3ce26c0980f203b5a9299f41ec1d162357121e62", checked := Try.checked }
namespace Rows
def none {H : Type} : Left H := { results := [], args := [] }

/-- 'chirographlaw06.SextAdds': WHATEVER THE INPUT: true; the input reads as it did. -/
def sextAddsSpec : ChangeSpec := { name := "sextAdds", fn := fun _ => fun
  | [d1, d2] => { results := [.lit (.bool true)], args := [d1, d2] }
  | _ => none }
def sextAddsRow : OpenClaim := { program := "ytpjkcdkhfjcojaa", sum := "388f5acdf0f32faa54b0ac1d3ce26c0980f203b5a9299f41ec1d162357121e62", func := "chirograph/chirographlaw06.SextAdds", spec := "sextAdds", inPlace := ["math/bits.Sub64", "math/bits.Add64"], unfollowed := true, recurses := true, apart := false }
def SextAddsSaid : Prop := sextAddsRow.holds Try.pinned (OpenSpec.ofChange sextAddsSpec)

/-- ITS FALSE NEIGHBOUR: 'it returns false'. Refute it at one input. -/
def sextAddsWrong : ChangeSpec := { name := "sextAdds", fn := fun _ => fun
  | [d1, d2] => { results := [.lit (.bool false)], args := [d1, d2] }
  | _ => none }
def SextAddsWrongFalsely : Prop := sextAddsRow.holds Try.pinned (OpenSpec.ofChange sextAddsWrong)

/-- 'chirographlaw06.SextMuls': WHATEVER THE INPUT: true; the input reads as it did. -/
def sextMulsSpec : ChangeSpec := { name := "sextMuls", fn := fun _ => fun
  | [d1, d2] => { results := [.lit (.bool true)], args := [d1, d2] }
  | _ => none }
def sextMulsRow : OpenClaim := { program := "ytpjkcdkhfjcojaa", sum := "388f5acdf0f32faa54b0ac1d3ce26c0980f203b5a9299f41ec1d162357121e62", func := "chirograph/chirographlaw06.SextMuls", spec := "sextMuls", inPlace := ["math/bits.Sub64", "math/bits.Add64"], unfollowed := true, recurses := true, named := ["math/bits.divideError", "math/bits.overflowError"], apart := false }
def SextMulsSaid : Prop := sextMulsRow.holds Try.pinned (OpenSpec.ofChange sextMulsSpec)

/-- ITS FALSE NEIGHBOUR: 'it returns false'. Refute it at one input. -/
def sextMulsWrong : ChangeSpec := { name := "sextMuls", fn := fun _ => fun
  | [d1, d2] => { results := [.lit (.bool false)], args := [d1, d2] }
  | _ => none }
def SextMulsWrongFalsely : Prop := sextMulsRow.holds Try.pinned (OpenSpec.ofChange sextMulsWrong)

/-- 'chirographlaw06.SextField': WHATEVER THE INPUT: true; the input reads as it did. -/
def sextFieldSpec : ChangeSpec := { name := "sextField", fn := fun _ => fun
  | [d1, d2, d3] => { results := [.lit (.bool true)], args := [d1, d2, d3] }
  | _ => none }
def sextFieldRow : OpenClaim := { program := "ytpjkcdkhfjcojaa", sum := "388f5acdf0f32faa54b0ac1d3ce26c0980f203b5a9299f41ec1d162357121e62", func := "chirograph/chirographlaw06.SextField", spec := "sextField", inPlace := ["math/bits.Sub64", "math/bits.Add64"], unfollowed := true, recurses := true, named := ["math/bits.divideError", "math/bits.overflowError"], apart := false }
def SextFieldSaid : Prop := sextFieldRow.holds Try.pinned (OpenSpec.ofChange sextFieldSpec)

/-- ITS FALSE NEIGHBOUR: 'it returns false'. Refute it at one input. -/
def sextFieldWrong : ChangeSpec := { name := "sextField", fn := fun _ => fun
  | [d1, d2, d3] => { results := [.lit (.bool false)], args := [d1, d2, d3] }
  | _ => none }
def SextFieldWrongFalsely : Prop := sextFieldRow.holds Try.pinned (OpenSpec.ofChange sextFieldWrong)

/-- 'chirographlaw06.SextShifts': WHATEVER THE INPUT: true; the input reads as it did. -/
def sextShiftsSpec : ChangeSpec := { name := "sextShifts", fn := fun _ => fun
  | [d1, d2] => { results := [.lit (.bool true)], args := [d1, d2] }
  | _ => none }
def sextShiftsRow : OpenClaim := { program := "ytpjkcdkhfjcojaa", sum := "388f5acdf0f32faa54b0ac1d3ce26c0980f203b5a9299f41ec1d162357121e62", func := "chirograph/chirographlaw06.SextShifts", spec := "sextShifts", inPlace := ["math/bits.Sub64", "math/bits.Add64"], unfollowed := true, recurses := true, apart := false }
def SextShiftsSaid : Prop := sextShiftsRow.holds Try.pinned (OpenSpec.ofChange sextShiftsSpec)

/-- ITS FALSE NEIGHBOUR: 'it returns false'. Refute it at one input. -/
def sextShiftsWrong : ChangeSpec := { name := "sextShifts", fn := fun _ => fun
  | [d1, d2] => { results := [.lit (.bool false)], args := [d1, d2] }
  | _ => none }
def SextShiftsWrongFalsely : Prop := sextShiftsRow.holds Try.pinned (OpenSpec.ofChange sextShiftsWrong)

/- THE SECOND FORM. 'bulk': how many values and letters a reading holds, each counted each time it is reached (what is shared counts as often as it is met; a slice's spare places count too). A statement '..UptoSaid' is the law's where the arguments, and the package variables that the reading takes, are together of bulk at most 1048576: NARROWER than '..Said'. Prove '..Said' where nothing that the law and all that it calls make is longer than what came in: it says more and counts as full. Else prove '..UptoSaid'. A law counts once. -/
mutual
def uptoBulk {H : Type} : DataW H → Nat
  | .lit (.string bytes) => bytes.length + 1
  | .lit _ => 1
  | .nil => 1
  | .ptr d => uptoBulk d + 1
  | .slice elems spare => uptoBulkAll elems + uptoBulkAll spare + 1
  | .agg parts => uptoBulkAll parts + 1
  | .iface _ d => uptoBulk d + 1
  | .map entries => uptoBulkEntries entries + 1
  | .held _ => 1
def uptoBulkAll {H : Type} : List (DataW H) → Nat
  | [] => 0
  | d :: r => uptoBulk d + uptoBulkAll r
def uptoBulkEntries {H : Type} : List (Lit × DataW H) → Nat
  | [] => 0
  | x :: r => uptoBulkEntry x + uptoBulkEntries r
def uptoBulkEntry {H : Type} : Lit × DataW H → Nat
  | (.string bytes, d) => bytes.length + uptoBulk d + 1
  | (_, d) => uptoBulk d + 1
 end
def uptoSmall : (H : Type) → List (DataW H) → Bool := fun _ ds => decide (uptoBulkAll ds ≤ 1048576)
def OpenSpec.upto (s : _root_.Go.ChangeSpec) : _root_.Go.OpenSpec := { _root_.Go.OpenSpec.ofChange s with cond := some uptoSmall }

/-- 'chirographlaw06.SextAdds', WHERE WHAT IT READS IS OF BULK AT MOST 1048576: true; the input reads as it did. -/
def sextAddsUptoRow : OpenClaim := { program := "ytpjkcdkhfjcojaa", sum := "388f5acdf0f32faa54b0ac1d3ce26c0980f203b5a9299f41ec1d162357121e62", func := "chirograph/chirographlaw06.SextAdds", spec := "sextAdds", inPlace := ["math/bits.Sub64", "math/bits.Add64"], unfollowed := true, recurses := true, apart := false, narrowed := true }
def SextAddsUptoSaid : Prop := sextAddsUptoRow.holds Try.pinned (OpenSpec.upto sextAddsSpec)

/-- 'chirographlaw06.SextMuls', WHERE WHAT IT READS IS OF BULK AT MOST 1048576: true; the input reads as it did. -/
def sextMulsUptoRow : OpenClaim := { program := "ytpjkcdkhfjcojaa", sum := "388f5acdf0f32faa54b0ac1d3ce26c0980f203b5a9299f41ec1d162357121e62", func := "chirograph/chirographlaw06.SextMuls", spec := "sextMuls", inPlace := ["math/bits.Sub64", "math/bits.Add64"], unfollowed := true, recurses := true, named := ["math/bits.divideError", "math/bits.overflowError"], apart := false, narrowed := true }
def SextMulsUptoSaid : Prop := sextMulsUptoRow.holds Try.pinned (OpenSpec.upto sextMulsSpec)

/-- 'chirographlaw06.SextField', WHERE WHAT IT READS IS OF BULK AT MOST 1048576: true; the input reads as it did. -/
def sextFieldUptoRow : OpenClaim := { program := "ytpjkcdkhfjcojaa", sum := "388f5acdf0f32faa54b0ac1d3ce26c0980f203b5a9299f41ec1d162357121e62", func := "chirograph/chirographlaw06.SextField", spec := "sextField", inPlace := ["math/bits.Sub64", "math/bits.Add64"], unfollowed := true, recurses := true, named := ["math/bits.divideError", "math/bits.overflowError"], apart := false, narrowed := true }
def SextFieldUptoSaid : Prop := sextFieldUptoRow.holds Try.pinned (OpenSpec.upto sextFieldSpec)

/-- 'chirographlaw06.SextShifts', WHERE WHAT IT READS IS OF BULK AT MOST 1048576: true; the input reads as it did. -/
def sextShiftsUptoRow : OpenClaim := { program := "ytpjkcdkhfjcojaa", sum := "388f5acdf0f32faa54b0ac1d3ce26c0980f203b5a9299f41ec1d162357121e62", func := "chirograph/chirographlaw06.SextShifts", spec := "sextShifts", inPlace := ["math/bits.Sub64", "math/bits.Add64"], unfollowed := true, recurses := true, apart := false, narrowed := true }
def SextShiftsUptoSaid : Prop := sextShiftsUptoRow.holds Try.pinned (OpenSpec.upto sextShiftsSpec)

end Rows
end Go.Proofs.Ytpjkcdkhfjcojaa
