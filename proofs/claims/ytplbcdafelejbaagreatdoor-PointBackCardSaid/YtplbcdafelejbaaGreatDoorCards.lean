/-
  DERIVED. GIVEN WITH THE SEED: THE CARDS: each row of YtplbcdafelejbaaGreatDoorRows.lean that lists a variable, with what it lists TIED to the program's text (the seventh form; the later family's looks); each row that meets fmt, with fmt's text TOLD by the authors' own Lean function (tested against real Go, not proved from fmt's source: count such statements apart). THE CARD IS WHAT COUNTS. Prove the row's statement (the work); the ties are given (YtplbcdafelejbaaGreatDoorTie.lean); close each card by the builder's one call (the guide's Derived/Test/ToyasCard.lean, 'card_holds'). Laid BY PROGRAM, IN A SANDBOX (cutbox-door.mjs). By AI agents, Wed Nov 11 2026. No macro, syntax, notation, axiom, sorry.
-/
import Derived.Test.YtplbcdafelejbaaGreatDoorRows
import GoSem.ClaimSeven
namespace Go.Proofs.YtplbcdafelejbaaGreatDoor
namespace Rows

/-- THE TIED CARD OF 'chirographlaw10.PointReads'. -/
def pointReadsCard : Claim7 := { stood := { row := pointReadsRow, standIns := [], harness := (true, "ba66f48e3cf24e735611f37d38539754660bfb14b9172914f871961441ce6d85"), looks := false }, kinds := [], alts := [], laidByText := true, laidKinds := [.data, .pinned], laidTests := true, laidLooks := .later }
def PointReadsCardSaid : Prop := Claim7.holds Tryz.pinned (.plain (OpenSpec.ofChange pointReadsSpec)) pointReadsCard

/-- THE TIED CARD OF 'chirographlaw10.PointReadsTwo'. -/
def pointReadsTwoCard : Claim7 := { stood := { row := pointReadsTwoRow, standIns := [], harness := (true, "ba66f48e3cf24e735611f37d38539754660bfb14b9172914f871961441ce6d85"), looks := false }, kinds := [], alts := [], laidByText := true, laidKinds := [.data, .pinned], laidTests := true, laidLooks := .later }
def PointReadsTwoCardSaid : Prop := Claim7.holds Tryz.pinned (.plain (OpenSpec.ofChange pointReadsTwoSpec)) pointReadsTwoCard

/-- THE TIED CARD OF 'chirographlaw10.PointBack'. -/
def pointBackCard : Claim7 := { stood := { row := pointBackRow, standIns := [], harness := (true, "ba66f48e3cf24e735611f37d38539754660bfb14b9172914f871961441ce6d85"), looks := false }, kinds := [], alts := [], laidByText := true, laidKinds := [.data, .pinned], laidTests := true, laidLooks := .later }
def PointBackCardSaid : Prop := Claim7.holds Tryz.pinned (.plain (OpenSpec.ofChange pointBackSpec)) pointBackCard

/-- THE TIED CARD OF 'chirographlaw10.PointOnce'. -/
def pointOnceCard : Claim7 := { stood := { row := pointOnceRow, standIns := [], harness := (true, "ba66f48e3cf24e735611f37d38539754660bfb14b9172914f871961441ce6d85"), looks := false }, kinds := [], alts := [], laidByText := true, laidKinds := [.data, .pinned], laidTests := true, laidLooks := .later }
def PointOnceCardSaid : Prop := Claim7.holds Tryz.pinned (.plain (OpenSpec.ofChange pointOnceSpec)) pointOnceCard

/-- THE SECOND FORM's CARD OF 'chirographlaw10.PointReads'. -/
def pointReadsUptoCard : Claim7 := { stood := { row := pointReadsUptoRow, standIns := [], harness := (true, "ba66f48e3cf24e735611f37d38539754660bfb14b9172914f871961441ce6d85"), looks := false }, kinds := [], alts := [], laidByText := true, laidKinds := [.data, .pinned], laidTests := true, laidLooks := .later }
def PointReadsUptoCardSaid : Prop := Claim7.holds Tryz.pinned (.plain (OpenSpec.upto pointReadsSpec)) pointReadsUptoCard

/-- THE SECOND FORM's CARD OF 'chirographlaw10.PointReadsTwo'. -/
def pointReadsTwoUptoCard : Claim7 := { stood := { row := pointReadsTwoUptoRow, standIns := [], harness := (true, "ba66f48e3cf24e735611f37d38539754660bfb14b9172914f871961441ce6d85"), looks := false }, kinds := [], alts := [], laidByText := true, laidKinds := [.data, .pinned], laidTests := true, laidLooks := .later }
def PointReadsTwoUptoCardSaid : Prop := Claim7.holds Tryz.pinned (.plain (OpenSpec.upto pointReadsTwoSpec)) pointReadsTwoUptoCard

/-- THE SECOND FORM's CARD OF 'chirographlaw10.PointBack'. -/
def pointBackUptoCard : Claim7 := { stood := { row := pointBackUptoRow, standIns := [], harness := (true, "ba66f48e3cf24e735611f37d38539754660bfb14b9172914f871961441ce6d85"), looks := false }, kinds := [], alts := [], laidByText := true, laidKinds := [.data, .pinned], laidTests := true, laidLooks := .later }
def PointBackUptoCardSaid : Prop := Claim7.holds Tryz.pinned (.plain (OpenSpec.upto pointBackSpec)) pointBackUptoCard

/-- THE SECOND FORM's CARD OF 'chirographlaw10.PointOnce'. -/
def pointOnceUptoCard : Claim7 := { stood := { row := pointOnceUptoRow, standIns := [], harness := (true, "ba66f48e3cf24e735611f37d38539754660bfb14b9172914f871961441ce6d85"), looks := false }, kinds := [], alts := [], laidByText := true, laidKinds := [.data, .pinned], laidTests := true, laidLooks := .later }
def PointOnceUptoCardSaid : Prop := Claim7.holds Tryz.pinned (.plain (OpenSpec.upto pointOnceSpec)) pointOnceUptoCard
end Rows
end Go.Proofs.YtplbcdafelejbaaGreatDoor
