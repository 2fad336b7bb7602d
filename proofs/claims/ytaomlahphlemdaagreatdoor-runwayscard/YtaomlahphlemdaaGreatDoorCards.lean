/-
  DERIVED. GIVEN WITH THE SEED: THE CARDS: each row of YtaomlahphlemdaaGreatDoorRows.lean that lists a variable, with what it lists TIED to the program's text (the seventh form; the later family's looks); each row that meets fmt, with fmt's text TOLD by the authors' own Lean function (tested against real Go, not proved from fmt's source: count such statements apart). THE CARD IS WHAT COUNTS. Prove the row's statement (the work); the ties are given (YtaomlahphlemdaaGreatDoorTie.lean); close each card by the builder's one call (the guide's Derived/Test/ToyasCard.lean, 'card_holds'). Laid BY PROGRAM, IN A SANDBOX (cutbox-door.mjs). By AI agents, Wed Nov 11 2026. No macro, syntax, notation, axiom, sorry.
-/
import Derived.Test.YtaomlahphlemdaaGreatDoorRows
import GoSem.ClaimSeven
namespace Go.Proofs.YtaomlahphlemdaaGreatDoor
namespace Rows

/-- THE TIED CARD OF 'palingslaw06.RunFuel'. -/
def runFuelCard : Claim7 := { stood := { row := runFuelRow, standIns := [], harness := (true, "b2989083e3619d10a50a9e1faf33f468e3624b14dff5cf190bf77fb1708ee1c2"), looks := false }, kinds := [], alts := [], laidByText := true, laidKinds := [.data], laidTests := true, laidLooks := .later }
def RunFuelCardSaid : Prop := Claim7.holds Tryz.pinned (.plain (OpenSpec.ofChange runFuelSpec)) runFuelCard

/-- THE TIED CARD OF 'palingslaw06.RunOps'. -/
def runOpsCard : Claim7 := { stood := { row := runOpsRow, standIns := [], harness := (true, "b2989083e3619d10a50a9e1faf33f468e3624b14dff5cf190bf77fb1708ee1c2"), looks := false }, kinds := [], alts := [], laidByText := true, laidKinds := [.data], laidTests := true, laidLooks := .later }
def RunOpsCardSaid : Prop := Claim7.holds Tryz.pinned (.plain (OpenSpec.ofChange runOpsSpec)) runOpsCard

/-- THE TIED CARD OF 'palingslaw06.RunArrays'. -/
def runArraysCard : Claim7 := { stood := { row := runArraysRow, standIns := [], harness := (true, "b2989083e3619d10a50a9e1faf33f468e3624b14dff5cf190bf77fb1708ee1c2"), looks := false }, kinds := [], alts := [], laidByText := true, laidKinds := [.data], laidTests := true, laidLooks := .later }
def RunArraysCardSaid : Prop := Claim7.holds Tryz.pinned (.plain (OpenSpec.ofChange runArraysSpec)) runArraysCard

/-- THE TIED CARD OF 'palingslaw06.RunWays'. -/
def runWaysCard : Claim7 := { stood := { row := runWaysRow, standIns := [], harness := (true, "b2989083e3619d10a50a9e1faf33f468e3624b14dff5cf190bf77fb1708ee1c2"), looks := false }, kinds := [], alts := [], laidByText := true, laidKinds := [.data], laidTests := true, laidLooks := .later }
def RunWaysCardSaid : Prop := Claim7.holds Tryz.pinned (.plain (OpenSpec.ofChange runWaysSpec)) runWaysCard

/-- THE TIED CARD OF 'palingslaw06.RunDeep'. -/
def runDeepCard : Claim7 := { stood := { row := runDeepRow, standIns := [], harness := (true, "b2989083e3619d10a50a9e1faf33f468e3624b14dff5cf190bf77fb1708ee1c2"), looks := false }, kinds := [], alts := [], laidByText := true, laidKinds := [.data], laidTests := true, laidLooks := .later }
def RunDeepCardSaid : Prop := Claim7.holds Tryz.pinned (.plain (OpenSpec.ofChange runDeepSpec)) runDeepCard

/-- THE TIED CARD OF 'palingslaw06.RunHides'. -/
def runHidesCard : Claim7 := { stood := { row := runHidesRow, standIns := [], harness := (true, "b2989083e3619d10a50a9e1faf33f468e3624b14dff5cf190bf77fb1708ee1c2"), looks := false }, kinds := [], alts := [], laidByText := true, laidKinds := [.data], laidTests := true, laidLooks := .later }
def RunHidesCardSaid : Prop := Claim7.holds Tryz.pinned (.plain (OpenSpec.ofChange runHidesSpec)) runHidesCard

/-- THE TIED CARD OF 'palingslaw06.RunSame'. -/
def runSameCard : Claim7 := { stood := { row := runSameRow, standIns := [], harness := (true, "b2989083e3619d10a50a9e1faf33f468e3624b14dff5cf190bf77fb1708ee1c2"), looks := false }, kinds := [], alts := [], laidByText := true, laidKinds := [.data], laidTests := true, laidLooks := .later }
def RunSameCardSaid : Prop := Claim7.holds Tryz.pinned (.plain (OpenSpec.ofChange runSameSpec)) runSameCard

/-- THE SECOND FORM's CARD OF 'palingslaw06.RunFuel'. -/
def runFuelUptoCard : Claim7 := { stood := { row := runFuelUptoRow, standIns := [], harness := (true, "b2989083e3619d10a50a9e1faf33f468e3624b14dff5cf190bf77fb1708ee1c2"), looks := false }, kinds := [], alts := [], laidByText := true, laidKinds := [.data], laidTests := true, laidLooks := .later }
def RunFuelUptoCardSaid : Prop := Claim7.holds Tryz.pinned (.plain (OpenSpec.upto runFuelSpec)) runFuelUptoCard

/-- THE SECOND FORM's CARD OF 'palingslaw06.RunOps'. -/
def runOpsUptoCard : Claim7 := { stood := { row := runOpsUptoRow, standIns := [], harness := (true, "b2989083e3619d10a50a9e1faf33f468e3624b14dff5cf190bf77fb1708ee1c2"), looks := false }, kinds := [], alts := [], laidByText := true, laidKinds := [.data], laidTests := true, laidLooks := .later }
def RunOpsUptoCardSaid : Prop := Claim7.holds Tryz.pinned (.plain (OpenSpec.upto runOpsSpec)) runOpsUptoCard

/-- THE SECOND FORM's CARD OF 'palingslaw06.RunArrays'. -/
def runArraysUptoCard : Claim7 := { stood := { row := runArraysUptoRow, standIns := [], harness := (true, "b2989083e3619d10a50a9e1faf33f468e3624b14dff5cf190bf77fb1708ee1c2"), looks := false }, kinds := [], alts := [], laidByText := true, laidKinds := [.data], laidTests := true, laidLooks := .later }
def RunArraysUptoCardSaid : Prop := Claim7.holds Tryz.pinned (.plain (OpenSpec.upto runArraysSpec)) runArraysUptoCard

/-- THE SECOND FORM's CARD OF 'palingslaw06.RunWays'. -/
def runWaysUptoCard : Claim7 := { stood := { row := runWaysUptoRow, standIns := [], harness := (true, "b2989083e3619d10a50a9e1faf33f468e3624b14dff5cf190bf77fb1708ee1c2"), looks := false }, kinds := [], alts := [], laidByText := true, laidKinds := [.data], laidTests := true, laidLooks := .later }
def RunWaysUptoCardSaid : Prop := Claim7.holds Tryz.pinned (.plain (OpenSpec.upto runWaysSpec)) runWaysUptoCard

/-- THE SECOND FORM's CARD OF 'palingslaw06.RunDeep'. -/
def runDeepUptoCard : Claim7 := { stood := { row := runDeepUptoRow, standIns := [], harness := (true, "b2989083e3619d10a50a9e1faf33f468e3624b14dff5cf190bf77fb1708ee1c2"), looks := false }, kinds := [], alts := [], laidByText := true, laidKinds := [.data], laidTests := true, laidLooks := .later }
def RunDeepUptoCardSaid : Prop := Claim7.holds Tryz.pinned (.plain (OpenSpec.upto runDeepSpec)) runDeepUptoCard

/-- THE SECOND FORM's CARD OF 'palingslaw06.RunHides'. -/
def runHidesUptoCard : Claim7 := { stood := { row := runHidesUptoRow, standIns := [], harness := (true, "b2989083e3619d10a50a9e1faf33f468e3624b14dff5cf190bf77fb1708ee1c2"), looks := false }, kinds := [], alts := [], laidByText := true, laidKinds := [.data], laidTests := true, laidLooks := .later }
def RunHidesUptoCardSaid : Prop := Claim7.holds Tryz.pinned (.plain (OpenSpec.upto runHidesSpec)) runHidesUptoCard

/-- THE SECOND FORM's CARD OF 'palingslaw06.RunSame'. -/
def runSameUptoCard : Claim7 := { stood := { row := runSameUptoRow, standIns := [], harness := (true, "b2989083e3619d10a50a9e1faf33f468e3624b14dff5cf190bf77fb1708ee1c2"), looks := false }, kinds := [], alts := [], laidByText := true, laidKinds := [.data], laidTests := true, laidLooks := .later }
def RunSameUptoCardSaid : Prop := Claim7.holds Tryz.pinned (.plain (OpenSpec.upto runSameSpec)) runSameUptoCard
end Rows
end Go.Proofs.YtaomlahphlemdaaGreatDoor
