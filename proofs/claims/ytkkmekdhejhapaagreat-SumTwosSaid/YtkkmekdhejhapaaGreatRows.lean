/-
  No cell of these rows narrows 'for every input' (looked for: loops, veiled, ifaces, maps, wideKeys, modest, calm, conditions, laid).
  DERIVED. THE GIVEN ROWS OF THIS SEAT. 3 by the template 'for every input the law returns true; each argument reads behind the call as it read before'; 0 by the template 'total and deterministic' (their statements: YtkkmekdhejhapaaGreatTotals.lean).
  GIVEN WITH THE SEED: the statements are not yours to turn. If you find one false, say at which input.
  Laid BY PROGRAM, IN A SANDBOX (cutbox-rows.mjs): the forced cells as the released guide's own fill.sh prints them over the translation ad5664cd54dcbc98… (all of the seat's roots in one cut). By AI agents, Wed Nov 11 2026. No macro, syntax, notation, axiom, sorry.
-/
import Derived.Test.YtkkmekdhejhapaaGreatChecked
import GoSem.Claim
import GoSem.ClaimJoined
import GoSem.ClaimMapViews
import Derived.JoinedTies
import Derived.KernelRfl
namespace Go.Proofs.YtkkmekdhejhapaaGreat
/- THE CELL 'sum', in the pinned program and in every row, IS THE sha256 OF THE DUMP (.gsa) THAT YtkkmekdhejhapaaGreatProg.lean LOADS. Nothing in Lean hashes anything: it is a label: what it is worth is what the hold of that sum in a sandbox is worth. -/
noncomputable def Tryz.pinned : Pinned := { name := "ytkkmekdhejhapaagreat", sum := "ad5664cd54dcbc983220f1237119a2287b95947a07b4e156bc286a78c38f1c2b", checked := Tryz.checked }
namespace Rows
def none {H : Type} : Left H := { results := [], args := [] }

/-- 'chirographlaw10.PointWrites': WHATEVER THE INPUT: true; the input reads as it did. -/
def pointWritesSpec : ChangeSpec := { name := "pointWrites", fn := fun _ => fun
  | [d1, d2] => { results := [.lit (.bool true)], args := [d1, d2] }
  | _ => none }
def pointWritesRow : OpenClaim := { program := "ytkkmekdhejhapaagreat", sum := "ad5664cd54dcbc983220f1237119a2287b95947a07b4e156bc286a78c38f1c2b", func := "chirograph/chirographlaw10.PointWrites", spec := "pointWrites", inPlace := ["math/bits.Sub64", "math/bits.Add64"], unfollowed := true, recurses := true, named := ["math/bits.divideError", "math/bits.overflowError"], apart := false }
def PointWritesSaid : Prop := pointWritesRow.holds Tryz.pinned (OpenSpec.ofChange pointWritesSpec)

/-- ITS FALSE NEIGHBOUR: 'it returns false'. Refute it at one input. -/
def pointWritesWrong : ChangeSpec := { name := "pointWrites", fn := fun _ => fun
  | [d1, d2] => { results := [.lit (.bool false)], args := [d1, d2] }
  | _ => none }
def PointWritesWrongFalsely : Prop := pointWritesRow.holds Tryz.pinned (OpenSpec.ofChange pointWritesWrong)

/-- 'chirographlaw11.SumTwos': WHATEVER THE INPUT: true; the input reads as it did. -/
def sumTwosSpec : ChangeSpec := { name := "sumTwos", fn := fun _ => fun
  | [d1, d2] => { results := [.lit (.bool true)], args := [d1, d2] }
  | _ => none }
def sumTwosRow : OpenClaim := { program := "ytkkmekdhejhapaagreat", sum := "ad5664cd54dcbc983220f1237119a2287b95947a07b4e156bc286a78c38f1c2b", func := "chirograph/chirographlaw11.SumTwos", spec := "sumTwos", inPlace := ["math/bits.Sub64", "math/bits.Add64"], unfollowed := true, recurses := true, apart := false }
def SumTwosSaid : Prop := sumTwosRow.holds Tryz.pinned (OpenSpec.ofChange sumTwosSpec)

/-- ITS FALSE NEIGHBOUR: 'it returns false'. Refute it at one input. -/
def sumTwosWrong : ChangeSpec := { name := "sumTwos", fn := fun _ => fun
  | [d1, d2] => { results := [.lit (.bool false)], args := [d1, d2] }
  | _ => none }
def SumTwosWrongFalsely : Prop := sumTwosRow.holds Tryz.pinned (OpenSpec.ofChange sumTwosWrong)

/-- 'chirographlaw11.SumPowers': WHATEVER THE INPUT: true; the input reads as it did. -/
def sumPowersSpec : ChangeSpec := { name := "sumPowers", fn := fun _ => fun
  | [d1, d2, d3] => { results := [.lit (.bool true)], args := [d1, d2, d3] }
  | _ => none }
def sumPowersRow : OpenClaim := { program := "ytkkmekdhejhapaagreat", sum := "ad5664cd54dcbc983220f1237119a2287b95947a07b4e156bc286a78c38f1c2b", func := "chirograph/chirographlaw11.SumPowers", spec := "sumPowers", inPlace := ["math/bits.Sub64", "math/bits.Add64"], unfollowed := true, recurses := true, named := ["math/bits.divideError", "math/bits.overflowError"], apart := false }
def SumPowersSaid : Prop := sumPowersRow.holds Tryz.pinned (OpenSpec.ofChange sumPowersSpec)

/-- ITS FALSE NEIGHBOUR: 'it returns false'. Refute it at one input. -/
def sumPowersWrong : ChangeSpec := { name := "sumPowers", fn := fun _ => fun
  | [d1, d2, d3] => { results := [.lit (.bool false)], args := [d1, d2, d3] }
  | _ => none }
def SumPowersWrongFalsely : Prop := sumPowersRow.holds Tryz.pinned (OpenSpec.ofChange sumPowersWrong)

/- THE SECOND FORM. 'bulk': how many values and letters a reading holds, each counted each time it is reached (what is shared counts as often as it is met; a slice's spare places count too). A statement '..UptoSaid' is the law's where the arguments, and the package variables that the reading takes, are together of bulk at most 1048576: NARROWER than '..Said'. Prove '..Said' where nothing that the law and all that it calls make is longer than what came in: it says more and counts as full. Else prove '..UptoSaid'. A law counts once. -/
mutual
def uptoBulk {H : Type} : DataW H → Nat
  | .lit (.string bytes) => bytes.length + 1
  | .lit _ => 1
  | .nil => 1
  | .ptr d => uptoBulk d + 1
  | .slice elems spare => uptoBulkAll elems + uptoBulkAll spare + 1
  | .agg parts => uptoBulkAll parts + 1
  | .iface _ d => uptoBulk d + 1
  | .map entries => uptoBulkEntries entries + 1
  | .held _ => 1
def uptoBulkAll {H : Type} : List (DataW H) → Nat
  | [] => 0
  | d :: r => uptoBulk d + uptoBulkAll r
def uptoBulkEntries {H : Type} : List (Lit × DataW H) → Nat
  | [] => 0
  | x :: r => uptoBulkEntry x + uptoBulkEntries r
def uptoBulkEntry {H : Type} : Lit × DataW H → Nat
  | (.string bytes, d) => bytes.length + uptoBulk d + 1
  | (_, d) => uptoBulk d + 1
 end
def uptoSmall : (H : Type) → List (DataW H) → Bool := fun _ ds => decide (uptoBulkAll ds ≤ 1048576)
def OpenSpec.upto (s : _root_.Go.ChangeSpec) : _root_.Go.OpenSpec := { _root_.Go.OpenSpec.ofChange s with cond := some uptoSmall }

/-- 'chirographlaw10.PointWrites', WHERE WHAT IT READS IS OF BULK AT MOST 1048576: true; the input reads as it did. -/
def pointWritesUptoRow : OpenClaim := { program := "ytkkmekdhejhapaagreat", sum := "ad5664cd54dcbc983220f1237119a2287b95947a07b4e156bc286a78c38f1c2b", func := "chirograph/chirographlaw10.PointWrites", spec := "pointWrites", inPlace := ["math/bits.Sub64", "math/bits.Add64"], unfollowed := true, recurses := true, named := ["math/bits.divideError", "math/bits.overflowError"], apart := false, narrowed := true }
def PointWritesUptoSaid : Prop := pointWritesUptoRow.holds Tryz.pinned (OpenSpec.upto pointWritesSpec)

/-- 'chirographlaw11.SumTwos', WHERE WHAT IT READS IS OF BULK AT MOST 1048576: true; the input reads as it did. -/
def sumTwosUptoRow : OpenClaim := { program := "ytkkmekdhejhapaagreat", sum := "ad5664cd54dcbc983220f1237119a2287b95947a07b4e156bc286a78c38f1c2b", func := "chirograph/chirographlaw11.SumTwos", spec := "sumTwos", inPlace := ["math/bits.Sub64", "math/bits.Add64"], unfollowed := true, recurses := true, apart := false, narrowed := true }
def SumTwosUptoSaid : Prop := sumTwosUptoRow.holds Tryz.pinned (OpenSpec.upto sumTwosSpec)

/-- 'chirographlaw11.SumPowers', WHERE WHAT IT READS IS OF BULK AT MOST 1048576: true; the input reads as it did. -/
def sumPowersUptoRow : OpenClaim := { program := "ytkkmekdhejhapaagreat", sum := "ad5664cd54dcbc983220f1237119a2287b95947a07b4e156bc286a78c38f1c2b", func := "chirograph/chirographlaw11.SumPowers", spec := "sumPowers", inPlace := ["math/bits.Sub64", "math/bits.Add64"], unfollowed := true, recurses := true, named := ["math/bits.divideError", "math/bits.overflowError"], apart := false, narrowed := true }
def SumPowersUptoSaid : Prop := sumPowersUptoRow.holds Tryz.pinned (OpenSpec.upto sumPowersSpec)

end Rows
end Go.Proofs.YtkkmekdhejhapaaGreat
