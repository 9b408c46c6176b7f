/-
  No cell of these rows narrows 'for every input' (looked for: loops, veiled, ifaces, maps, wideKeys, modest, calm, conditions, laid).
  DERIVED. THE GIVEN ROWS OF THIS SEAT. 4 by the template 'for every input the law returns true; each argument reads behind the call as it read before'; 0 by the template 'total and deterministic' (their statements: YtigjplhicmdgiaaTotals.lean).
  GIVEN WITH THE SEED: the statements are not yours to turn. If you find one false, say at which input.
  Laid BY PROGRAM, IN A SANDBOX (cutbox-rows.mjs): the forced cells as the released guide's own fill.sh prints them over the translation 96a94bde754baaf6… (all of the seat's roots in one cut). By AI agents, Wed Nov 11 2026. No macro, syntax, notation, axiom, sorry.
-/
import Derived.Test.YtigjplhicmdgiaaChecked
import GoSem.Claim
import GoSem.ClaimJoined
import GoSem.ClaimMapViews
import Derived.JoinedTies
import Derived.KernelRfl
namespace Go.Proofs.Ytigjplhicmdgiaa
/- THE CELL 'sum', in the pinned program and in every row, IS THE sha256 OF THE DUMP (.gsa) THAT YtigjplhicmdgiaaProg.lean LOADS. Nothing in Lean hashes anything: it is a label: what it is worth is what the hold of that sum in a sandbox is worth. -/
noncomputable def Try.pinned : Pinned := { name := "ytigjplhicmdgiaa", sum := "96a94bde754baaf635b0faac3a328dd295bebbbb2fdaf41ac719cc6d64a15307", checked := Try.checked }
namespace Rows
def none {H : Type} : Left H := { results := [], args := [] }

/-- 'chirographlaw03.FrBytes': WHATEVER THE INPUT: true; the input reads as it did. -/
def frBytesSpec : ChangeSpec := { name := "frBytes", fn := fun _ => fun
  | [d1, d2] => { results := [.lit (.bool true)], args := [d1, d2] }
  | _ => none }
def frBytesRow : OpenClaim := { program := "ytigjplhicmdgiaa", sum := "96a94bde754baaf635b0faac3a328dd295bebbbb2fdaf41ac719cc6d64a15307", func := "chirograph/chirographlaw03.FrBytes", spec := "frBytes", inPlace := ["math/bits.Sub64", "math/bits.Add64", "internal/abi.NoEscape", "internal/bytealg.MakeNoZero"], named := ["math/bits.divideError", "math/bits.overflowError"], apart := false }
def FrBytesSaid : Prop := frBytesRow.holds Try.pinned (OpenSpec.ofChange frBytesSpec)

/-- ITS FALSE NEIGHBOUR: 'it returns false'. Refute it at one input. -/
def frBytesWrong : ChangeSpec := { name := "frBytes", fn := fun _ => fun
  | [d1, d2] => { results := [.lit (.bool false)], args := [d1, d2] }
  | _ => none }
def FrBytesWrongFalsely : Prop := frBytesRow.holds Try.pinned (OpenSpec.ofChange frBytesWrong)

/-- 'chirographlaw03.FrField': WHATEVER THE INPUT: true; the input reads as it did. -/
def frFieldSpec : ChangeSpec := { name := "frField", fn := fun _ => fun
  | [d1, d2, d3] => { results := [.lit (.bool true)], args := [d1, d2, d3] }
  | _ => none }
def frFieldRow : OpenClaim := { program := "ytigjplhicmdgiaa", sum := "96a94bde754baaf635b0faac3a328dd295bebbbb2fdaf41ac719cc6d64a15307", func := "chirograph/chirographlaw03.FrField", spec := "frField", inPlace := ["math/bits.Sub64", "math/bits.Add64"], unfollowed := true, recurses := true, named := ["math/bits.divideError", "math/bits.overflowError"], apart := false }
def FrFieldSaid : Prop := frFieldRow.holds Try.pinned (OpenSpec.ofChange frFieldSpec)

/-- ITS FALSE NEIGHBOUR: 'it returns false'. Refute it at one input. -/
def frFieldWrong : ChangeSpec := { name := "frField", fn := fun _ => fun
  | [d1, d2, d3] => { results := [.lit (.bool false)], args := [d1, d2, d3] }
  | _ => none }
def FrFieldWrongFalsely : Prop := frFieldRow.holds Try.pinned (OpenSpec.ofChange frFieldWrong)

/-- 'chirographlaw03.FrBatch': WHATEVER THE INPUT: true; the input reads as it did. -/
def frBatchSpec : ChangeSpec := { name := "frBatch", fn := fun _ => fun
  | [d] => { results := [.lit (.bool true)], args := [d] }
  | _ => none }
def frBatchRow : OpenClaim := { program := "ytigjplhicmdgiaa", sum := "96a94bde754baaf635b0faac3a328dd295bebbbb2fdaf41ac719cc6d64a15307", func := "chirograph/chirographlaw03.FrBatch", spec := "frBatch", inPlace := ["math/bits.Sub64", "math/bits.Add64"], unfollowed := true, recurses := true, named := ["math/bits.divideError", "math/bits.overflowError"], apart := false }
def FrBatchSaid : Prop := frBatchRow.holds Try.pinned (OpenSpec.ofChange frBatchSpec)

/-- ITS FALSE NEIGHBOUR: 'it returns false'. Refute it at one input. -/
def frBatchWrong : ChangeSpec := { name := "frBatch", fn := fun _ => fun
  | [d] => { results := [.lit (.bool false)], args := [d] }
  | _ => none }
def FrBatchWrongFalsely : Prop := frBatchRow.holds Try.pinned (OpenSpec.ofChange frBatchWrong)

/-- 'chirographlaw03.FrBack': WHATEVER THE INPUT: true; the input reads as it did. -/
def frBackSpec : ChangeSpec := { name := "frBack", fn := fun _ => fun
  | [d1, d2] => { results := [.lit (.bool true)], args := [d1, d2] }
  | _ => none }
def frBackRow : OpenClaim := { program := "ytigjplhicmdgiaa", sum := "96a94bde754baaf635b0faac3a328dd295bebbbb2fdaf41ac719cc6d64a15307", func := "chirograph/chirographlaw03.FrBack", spec := "frBack", inPlace := ["math/bits.Sub64", "internal/abi.NoEscape", "internal/bytealg.MakeNoZero", "math/bits.Add64"], named := ["math/bits.divideError", "math/bits.overflowError"], apart := false }
def FrBackSaid : Prop := frBackRow.holds Try.pinned (OpenSpec.ofChange frBackSpec)

/-- ITS FALSE NEIGHBOUR: 'it returns false'. Refute it at one input. -/
def frBackWrong : ChangeSpec := { name := "frBack", fn := fun _ => fun
  | [d1, d2] => { results := [.lit (.bool false)], args := [d1, d2] }
  | _ => none }
def FrBackWrongFalsely : Prop := frBackRow.holds Try.pinned (OpenSpec.ofChange frBackWrong)

/- THE SECOND FORM. 'bulk': how many values and letters a reading holds, each counted each time it is reached (what is shared counts as often as it is met; a slice's spare places count too). A statement '..UptoSaid' is the law's where the arguments, and the package variables that the reading takes, are together of bulk at most 1048576: NARROWER than '..Said'. Prove '..Said' where nothing that the law and all that it calls make is longer than what came in: it says more and counts as full. Else prove '..UptoSaid'. A law counts once. -/
mutual
def uptoBulk {H : Type} : DataW H → Nat
  | .lit (.string bytes) => bytes.length + 1
  | .lit _ => 1
  | .nil => 1
  | .ptr d => uptoBulk d + 1
  | .slice elems spare => uptoBulkAll elems + uptoBulkAll spare + 1
  | .agg parts => uptoBulkAll parts + 1
  | .iface _ d => uptoBulk d + 1
  | .map entries => uptoBulkEntries entries + 1
  | .held _ => 1
def uptoBulkAll {H : Type} : List (DataW H) → Nat
  | [] => 0
  | d :: r => uptoBulk d + uptoBulkAll r
def uptoBulkEntries {H : Type} : List (Lit × DataW H) → Nat
  | [] => 0
  | x :: r => uptoBulkEntry x + uptoBulkEntries r
def uptoBulkEntry {H : Type} : Lit × DataW H → Nat
  | (.string bytes, d) => bytes.length + uptoBulk d + 1
  | (_, d) => uptoBulk d + 1
 end
def uptoSmall : (H : Type) → List (DataW H) → Bool := fun _ ds => decide (uptoBulkAll ds ≤ 1048576)
def OpenSpec.upto (s : _root_.Go.ChangeSpec) : _root_.Go.OpenSpec := { _root_.Go.OpenSpec.ofChange s with cond := some uptoSmall }

/-- 'chirographlaw03.FrBytes', WHERE WHAT IT READS IS OF BULK AT MOST 1048576: true; the input reads as it did. -/
def frBytesUptoRow : OpenClaim := { program := "ytigjplhicmdgiaa", sum := "96a94bde754baaf635b0faac3a328dd295bebbbb2fdaf41ac719cc6d64a15307", func := "chirograph/chirographlaw03.FrBytes", spec := "frBytes", inPlace := ["math/bits.Sub64", "math/bits.Add64", "internal/abi.NoEscape", "internal/bytealg.MakeNoZero"], named := ["math/bits.divideError", "math/bits.overflowError"], apart := false, narrowed := true }
def FrBytesUptoSaid : Prop := frBytesUptoRow.holds Try.pinned (OpenSpec.upto frBytesSpec)

/-- 'chirographlaw03.FrField', WHERE WHAT IT READS IS OF BULK AT MOST 1048576: true; the input reads as it did. -/
def frFieldUptoRow : OpenClaim := { program := "ytigjplhicmdgiaa", sum := "96a94bde754baaf635b0faac3a328dd295bebbbb2fdaf41ac719cc6d64a15307", func := "chirograph/chirographlaw03.FrField", spec := "frField", inPlace := ["math/bits.Sub64", "math/bits.Add64"], unfollowed := true, recurses := true, named := ["math/bits.divideError", "math/bits.overflowError"], apart := false, narrowed := true }
def FrFieldUptoSaid : Prop := frFieldUptoRow.holds Try.pinned (OpenSpec.upto frFieldSpec)

/-- 'chirographlaw03.FrBatch', WHERE WHAT IT READS IS OF BULK AT MOST 1048576: true; the input reads as it did. -/
def frBatchUptoRow : OpenClaim := { program := "ytigjplhicmdgiaa", sum := "96a94bde754baaf635b0faac3a328dd295bebbbb2fdaf41ac719cc6d64a15307", func := "chirograph/chirographlaw03.FrBatch", spec := "frBatch", inPlace := ["math/bits.Sub64", "math/bits.Add64"], unfollowed := true, recurses := true, named := ["math/bits.divideError", "math/bits.overflowError"], apart := false, narrowed := true }
def FrBatchUptoSaid : Prop := frBatchUptoRow.holds Try.pinned (OpenSpec.upto frBatchSpec)

/-- 'chirographlaw03.FrBack', WHERE WHAT IT READS IS OF BULK AT MOST 1048576: true; the input reads as it did. -/
def frBackUptoRow : OpenClaim := { program := "ytigjplhicmdgiaa", sum := "96a94bde754baaf635b0faac3a328dd295bebbbb2fdaf41ac719cc6d64a15307", func := "chirograph/chirographlaw03.FrBack", spec := "frBack", inPlace := ["math/bits.Sub64", "internal/abi.NoEscape", "internal/bytealg.MakeNoZero", "math/bits.Add64"], named := ["math/bits.divideError", "math/bits.overflowError"], apart := false, narrowed := true }
def FrBackUptoSaid : Prop := frBackUptoRow.holds Try.pinned (OpenSpec.upto frBackSpec)

end Rows
end Go.Proofs.Ytigjplhicmdgiaa
