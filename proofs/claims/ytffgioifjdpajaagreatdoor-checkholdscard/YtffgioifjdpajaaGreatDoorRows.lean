/-
  NARROWER THAN 'FOR EVERY INPUT', by the rows' own cells (each row's printed sentence says how): CheckAny: loops, laid · CheckTypes: laid · CheckScopes: laid · CheckTexts: laid · CheckCounts: laid · CheckHolds: laid · CheckFirst: laid.
  DERIVED. THE GIVEN ROWS OF THIS SEAT. 7 by the template 'for every input the law returns true; each argument reads behind the call as it read before'; 0 by the template 'total and deterministic' (their statements: YtffgioifjdpajaaGreatDoorTotals.lean).
  GIVEN WITH THE SEED: the statements are not yours to turn. If you find one false, say at which input.
  Laid BY PROGRAM, IN A SANDBOX (cutbox-rows.mjs): the forced cells as the released guide's own fill.sh prints them over the translation 45062602587e0aea… (all of the seat's roots in one cut). By AI agents, Wed Nov 11 2026. No macro, syntax, notation, axiom, sorry.
-/
import Derived.Test.YtffgioifjdpajaaGreatDoorChecked
import GoSem.Claim
import GoSem.ClaimJoined
import GoSem.ClaimMapViews
import Derived.JoinedTies
import Derived.KernelRfl
namespace Go.Proofs.YtffgioifjdpajaaGreatDoor
/- THE CELL 'sum', in the pinned program and in every row, IS THE sha256 OF THE DUMP (.gsa) THAT YtffgioifjdpajaaGreatDoorProg.lean LOADS. Nothing in Lean hashes anything: it is a label: what it is worth is what the hold of that sum in a sandbox is worth. -/
noncomputable def Tryz.pinned : Pinned := { name := "ytffgioifjdpajaagreatdoor", sum := "45062602587e0aeab00850f674598539811c2fdc240ec814be248060f4a434aa", checked := Tryz.checked }
namespace Rows
def none {H : Type} : Left H := { results := [], args := [] }

/- WHAT THE LISTED PACKAGE-LEVEL VARIABLES READ AS WHEN THE CALL BEGINS. Each datum BY PROGRAM (the guide's laid-datum.mjs) off the statement by which the dump's own 'gosem.cut.vars' lays the variable. In a bare row this is a premise. The card (YtffgioifjdpajaaGreatDoorCards.lean) ties it to the program's text. -/
def laid_palings_ast_signs {H : Type} : DataW H := .agg [.lit (.string [43]), .lit (.string [45]), .lit (.string [42]), .lit (.string [47]), .lit (.string [37]), .lit (.string [38]), .lit (.string [124]), .lit (.string [94]), .lit (.string [60, 60]), .lit (.string [62, 62]), .lit (.string [61, 61]), .lit (.string [33, 61]), .lit (.string [60]), .lit (.string [60, 61])]

/-- 'palingslaw05.CheckAny': WHATEVER THE INPUT: true; the input reads as it did. -/
def checkAnySpec : ChangeSpec := { name := "checkAny", fn := fun _ => fun
  | [d] => { results := [.lit (.bool true)], args := [d] }
  | _ => none }
def checkAnyRow : OpenClaim := { program := "ytffgioifjdpajaagreatdoor", sum := "45062602587e0aeab00850f674598539811c2fdc240ec814be248060f4a434aa", func := "palings/palingslaw05.CheckAny", spec := "checkAny", inPlace := ["internal/bytealg.IndexByteString"], unfollowed := true, recurses := true, named := ["palings/ast.signs"], loops := true, apart := false, laid := [("palings/ast.signs", laid_palings_ast_signs)] }
def CheckAnySaid : Prop := checkAnyRow.holds Tryz.pinned (OpenSpec.ofChange checkAnySpec)

/-- ITS FALSE NEIGHBOUR: 'it returns false'. Refute it at one input. -/
def checkAnyWrong : ChangeSpec := { name := "checkAny", fn := fun _ => fun
  | [d] => { results := [.lit (.bool false)], args := [d] }
  | _ => none }
def CheckAnyWrongFalsely : Prop := checkAnyRow.holds Tryz.pinned (OpenSpec.ofChange checkAnyWrong)

/-- 'palingslaw05.CheckTypes': WHATEVER THE INPUT: true; the input reads as it did. -/
def checkTypesSpec : ChangeSpec := { name := "checkTypes", fn := fun _ => fun
  | [d1, d2, d3] => { results := [.lit (.bool true)], args := [d1, d2, d3] }
  | _ => none }
def checkTypesRow : OpenClaim := { program := "ytffgioifjdpajaagreatdoor", sum := "45062602587e0aeab00850f674598539811c2fdc240ec814be248060f4a434aa", func := "palings/palingslaw05.CheckTypes", spec := "checkTypes", inPlace := ["internal/bytealg.IndexByteString"], unfollowed := true, recurses := true, named := ["palings/ast.signs"], apart := false, laid := [("palings/ast.signs", laid_palings_ast_signs)] }
def CheckTypesSaid : Prop := checkTypesRow.holds Tryz.pinned (OpenSpec.ofChange checkTypesSpec)

/-- ITS FALSE NEIGHBOUR: 'it returns false'. Refute it at one input. -/
def checkTypesWrong : ChangeSpec := { name := "checkTypes", fn := fun _ => fun
  | [d1, d2, d3] => { results := [.lit (.bool false)], args := [d1, d2, d3] }
  | _ => none }
def CheckTypesWrongFalsely : Prop := checkTypesRow.holds Tryz.pinned (OpenSpec.ofChange checkTypesWrong)

/-- 'palingslaw05.CheckScopes': WHATEVER THE INPUT: true; the input reads as it did. -/
def checkScopesSpec : ChangeSpec := { name := "checkScopes", fn := fun _ => fun
  | [d1, d2] => { results := [.lit (.bool true)], args := [d1, d2] }
  | _ => none }
def checkScopesRow : OpenClaim := { program := "ytffgioifjdpajaagreatdoor", sum := "45062602587e0aeab00850f674598539811c2fdc240ec814be248060f4a434aa", func := "palings/palingslaw05.CheckScopes", spec := "checkScopes", inPlace := ["internal/bytealg.IndexByteString"], unfollowed := true, recurses := true, named := ["palings/ast.signs"], apart := false, laid := [("palings/ast.signs", laid_palings_ast_signs)] }
def CheckScopesSaid : Prop := checkScopesRow.holds Tryz.pinned (OpenSpec.ofChange checkScopesSpec)

/-- ITS FALSE NEIGHBOUR: 'it returns false'. Refute it at one input. -/
def checkScopesWrong : ChangeSpec := { name := "checkScopes", fn := fun _ => fun
  | [d1, d2] => { results := [.lit (.bool false)], args := [d1, d2] }
  | _ => none }
def CheckScopesWrongFalsely : Prop := checkScopesRow.holds Tryz.pinned (OpenSpec.ofChange checkScopesWrong)

/-- 'palingslaw05.CheckTexts': WHATEVER THE INPUT: true; the input reads as it did. -/
def checkTextsSpec : ChangeSpec := { name := "checkTexts", fn := fun _ => fun
  | [d] => { results := [.lit (.bool true)], args := [d] }
  | _ => none }
def checkTextsRow : OpenClaim := { program := "ytffgioifjdpajaagreatdoor", sum := "45062602587e0aeab00850f674598539811c2fdc240ec814be248060f4a434aa", func := "palings/palingslaw05.CheckTexts", spec := "checkTexts", inPlace := ["internal/bytealg.IndexByteString"], unfollowed := true, recurses := true, named := ["palings/ast.signs"], apart := false, laid := [("palings/ast.signs", laid_palings_ast_signs)] }
def CheckTextsSaid : Prop := checkTextsRow.holds Tryz.pinned (OpenSpec.ofChange checkTextsSpec)

/-- ITS FALSE NEIGHBOUR: 'it returns false'. Refute it at one input. -/
def checkTextsWrong : ChangeSpec := { name := "checkTexts", fn := fun _ => fun
  | [d] => { results := [.lit (.bool false)], args := [d] }
  | _ => none }
def CheckTextsWrongFalsely : Prop := checkTextsRow.holds Tryz.pinned (OpenSpec.ofChange checkTextsWrong)

/-- 'palingslaw05.CheckCounts': WHATEVER THE INPUT: true; the input reads as it did. -/
def checkCountsSpec : ChangeSpec := { name := "checkCounts", fn := fun _ => fun
  | [d1, d2] => { results := [.lit (.bool true)], args := [d1, d2] }
  | _ => none }
def checkCountsRow : OpenClaim := { program := "ytffgioifjdpajaagreatdoor", sum := "45062602587e0aeab00850f674598539811c2fdc240ec814be248060f4a434aa", func := "palings/palingslaw05.CheckCounts", spec := "checkCounts", inPlace := ["internal/bytealg.IndexByteString"], unfollowed := true, recurses := true, named := ["palings/ast.signs"], apart := false, laid := [("palings/ast.signs", laid_palings_ast_signs)] }
def CheckCountsSaid : Prop := checkCountsRow.holds Tryz.pinned (OpenSpec.ofChange checkCountsSpec)

/-- ITS FALSE NEIGHBOUR: 'it returns false'. Refute it at one input. -/
def checkCountsWrong : ChangeSpec := { name := "checkCounts", fn := fun _ => fun
  | [d1, d2] => { results := [.lit (.bool false)], args := [d1, d2] }
  | _ => none }
def CheckCountsWrongFalsely : Prop := checkCountsRow.holds Tryz.pinned (OpenSpec.ofChange checkCountsWrong)

/-- 'palingslaw05.CheckHolds': WHATEVER THE INPUT: true; the input reads as it did. -/
def checkHoldsSpec : ChangeSpec := { name := "checkHolds", fn := fun _ => fun
  | [d1, d2] => { results := [.lit (.bool true)], args := [d1, d2] }
  | _ => none }
def checkHoldsRow : OpenClaim := { program := "ytffgioifjdpajaagreatdoor", sum := "45062602587e0aeab00850f674598539811c2fdc240ec814be248060f4a434aa", func := "palings/palingslaw05.CheckHolds", spec := "checkHolds", inPlace := ["internal/bytealg.IndexByteString"], unfollowed := true, recurses := true, named := ["palings/ast.signs"], apart := false, laid := [("palings/ast.signs", laid_palings_ast_signs)] }
def CheckHoldsSaid : Prop := checkHoldsRow.holds Tryz.pinned (OpenSpec.ofChange checkHoldsSpec)

/-- ITS FALSE NEIGHBOUR: 'it returns false'. Refute it at one input. -/
def checkHoldsWrong : ChangeSpec := { name := "checkHolds", fn := fun _ => fun
  | [d1, d2] => { results := [.lit (.bool false)], args := [d1, d2] }
  | _ => none }
def CheckHoldsWrongFalsely : Prop := checkHoldsRow.holds Tryz.pinned (OpenSpec.ofChange checkHoldsWrong)

/-- 'palingslaw05.CheckFirst': WHATEVER THE INPUT: true; the input reads as it did. -/
def checkFirstSpec : ChangeSpec := { name := "checkFirst", fn := fun _ => fun
  | [d1, d2, d3] => { results := [.lit (.bool true)], args := [d1, d2, d3] }
  | _ => none }
def checkFirstRow : OpenClaim := { program := "ytffgioifjdpajaagreatdoor", sum := "45062602587e0aeab00850f674598539811c2fdc240ec814be248060f4a434aa", func := "palings/palingslaw05.CheckFirst", spec := "checkFirst", inPlace := ["internal/bytealg.IndexByteString"], unfollowed := true, recurses := true, named := ["palings/ast.signs"], apart := false, laid := [("palings/ast.signs", laid_palings_ast_signs)] }
def CheckFirstSaid : Prop := checkFirstRow.holds Tryz.pinned (OpenSpec.ofChange checkFirstSpec)

/-- ITS FALSE NEIGHBOUR: 'it returns false'. Refute it at one input. -/
def checkFirstWrong : ChangeSpec := { name := "checkFirst", fn := fun _ => fun
  | [d1, d2, d3] => { results := [.lit (.bool false)], args := [d1, d2, d3] }
  | _ => none }
def CheckFirstWrongFalsely : Prop := checkFirstRow.holds Tryz.pinned (OpenSpec.ofChange checkFirstWrong)

/- THE SECOND FORM. 'bulk': how many values and letters a reading holds, each counted each time it is reached (what is shared counts as often as it is met; a slice's spare places count too). A statement '..UptoSaid' is the law's where the arguments, and the package variables that the reading takes, are together of bulk at most 1048576: NARROWER than '..Said'. Prove '..Said' where nothing that the law and all that it calls make is longer than what came in: it says more and counts as full. Else prove '..UptoSaid'. A law counts once. -/
mutual
def uptoBulk {H : Type} : DataW H → Nat
  | .lit (.string bytes) => bytes.length + 1
  | .lit _ => 1
  | .nil => 1
  | .ptr d => uptoBulk d + 1
  | .slice elems spare => uptoBulkAll elems + uptoBulkAll spare + 1
  | .agg parts => uptoBulkAll parts + 1
  | .iface _ d => uptoBulk d + 1
  | .map entries => uptoBulkEntries entries + 1
  | .held _ => 1
def uptoBulkAll {H : Type} : List (DataW H) → Nat
  | [] => 0
  | d :: r => uptoBulk d + uptoBulkAll r
def uptoBulkEntries {H : Type} : List (Lit × DataW H) → Nat
  | [] => 0
  | x :: r => uptoBulkEntry x + uptoBulkEntries r
def uptoBulkEntry {H : Type} : Lit × DataW H → Nat
  | (.string bytes, d) => bytes.length + uptoBulk d + 1
  | (_, d) => uptoBulk d + 1
 end
def uptoSmall : (H : Type) → List (DataW H) → Bool := fun _ ds => decide (uptoBulkAll ds ≤ 1048576)
def OpenSpec.upto (s : _root_.Go.ChangeSpec) : _root_.Go.OpenSpec := { _root_.Go.OpenSpec.ofChange s with cond := some uptoSmall }

/-- 'palingslaw05.CheckAny', WHERE WHAT IT READS IS OF BULK AT MOST 1048576: true; the input reads as it did. -/
def checkAnyUptoRow : OpenClaim := { program := "ytffgioifjdpajaagreatdoor", sum := "45062602587e0aeab00850f674598539811c2fdc240ec814be248060f4a434aa", func := "palings/palingslaw05.CheckAny", spec := "checkAny", inPlace := ["internal/bytealg.IndexByteString"], unfollowed := true, recurses := true, named := ["palings/ast.signs"], loops := true, apart := false, laid := [("palings/ast.signs", laid_palings_ast_signs)], narrowed := true }
def CheckAnyUptoSaid : Prop := checkAnyUptoRow.holds Tryz.pinned (OpenSpec.upto checkAnySpec)

/-- 'palingslaw05.CheckTypes', WHERE WHAT IT READS IS OF BULK AT MOST 1048576: true; the input reads as it did. -/
def checkTypesUptoRow : OpenClaim := { program := "ytffgioifjdpajaagreatdoor", sum := "45062602587e0aeab00850f674598539811c2fdc240ec814be248060f4a434aa", func := "palings/palingslaw05.CheckTypes", spec := "checkTypes", inPlace := ["internal/bytealg.IndexByteString"], unfollowed := true, recurses := true, named := ["palings/ast.signs"], apart := false, laid := [("palings/ast.signs", laid_palings_ast_signs)], narrowed := true }
def CheckTypesUptoSaid : Prop := checkTypesUptoRow.holds Tryz.pinned (OpenSpec.upto checkTypesSpec)

/-- 'palingslaw05.CheckScopes', WHERE WHAT IT READS IS OF BULK AT MOST 1048576: true; the input reads as it did. -/
def checkScopesUptoRow : OpenClaim := { program := "ytffgioifjdpajaagreatdoor", sum := "45062602587e0aeab00850f674598539811c2fdc240ec814be248060f4a434aa", func := "palings/palingslaw05.CheckScopes", spec := "checkScopes", inPlace := ["internal/bytealg.IndexByteString"], unfollowed := true, recurses := true, named := ["palings/ast.signs"], apart := false, laid := [("palings/ast.signs", laid_palings_ast_signs)], narrowed := true }
def CheckScopesUptoSaid : Prop := checkScopesUptoRow.holds Tryz.pinned (OpenSpec.upto checkScopesSpec)

/-- 'palingslaw05.CheckTexts', WHERE WHAT IT READS IS OF BULK AT MOST 1048576: true; the input reads as it did. -/
def checkTextsUptoRow : OpenClaim := { program := "ytffgioifjdpajaagreatdoor", sum := "45062602587e0aeab00850f674598539811c2fdc240ec814be248060f4a434aa", func := "palings/palingslaw05.CheckTexts", spec := "checkTexts", inPlace := ["internal/bytealg.IndexByteString"], unfollowed := true, recurses := true, named := ["palings/ast.signs"], apart := false, laid := [("palings/ast.signs", laid_palings_ast_signs)], narrowed := true }
def CheckTextsUptoSaid : Prop := checkTextsUptoRow.holds Tryz.pinned (OpenSpec.upto checkTextsSpec)

/-- 'palingslaw05.CheckCounts', WHERE WHAT IT READS IS OF BULK AT MOST 1048576: true; the input reads as it did. -/
def checkCountsUptoRow : OpenClaim := { program := "ytffgioifjdpajaagreatdoor", sum := "45062602587e0aeab00850f674598539811c2fdc240ec814be248060f4a434aa", func := "palings/palingslaw05.CheckCounts", spec := "checkCounts", inPlace := ["internal/bytealg.IndexByteString"], unfollowed := true, recurses := true, named := ["palings/ast.signs"], apart := false, laid := [("palings/ast.signs", laid_palings_ast_signs)], narrowed := true }
def CheckCountsUptoSaid : Prop := checkCountsUptoRow.holds Tryz.pinned (OpenSpec.upto checkCountsSpec)

/-- 'palingslaw05.CheckHolds', WHERE WHAT IT READS IS OF BULK AT MOST 1048576: true; the input reads as it did. -/
def checkHoldsUptoRow : OpenClaim := { program := "ytffgioifjdpajaagreatdoor", sum := "45062602587e0aeab00850f674598539811c2fdc240ec814be248060f4a434aa", func := "palings/palingslaw05.CheckHolds", spec := "checkHolds", inPlace := ["internal/bytealg.IndexByteString"], unfollowed := true, recurses := true, named := ["palings/ast.signs"], apart := false, laid := [("palings/ast.signs", laid_palings_ast_signs)], narrowed := true }
def CheckHoldsUptoSaid : Prop := checkHoldsUptoRow.holds Tryz.pinned (OpenSpec.upto checkHoldsSpec)

/-- 'palingslaw05.CheckFirst', WHERE WHAT IT READS IS OF BULK AT MOST 1048576: true; the input reads as it did. -/
def checkFirstUptoRow : OpenClaim := { program := "ytffgioifjdpajaagreatdoor", sum := "45062602587e0aeab00850f674598539811c2fdc240ec814be248060f4a434aa", func := "palings/palingslaw05.CheckFirst", spec := "checkFirst", inPlace := ["internal/bytealg.IndexByteString"], unfollowed := true, recurses := true, named := ["palings/ast.signs"], apart := false, laid := [("palings/ast.signs", laid_palings_ast_signs)], narrowed := true }
def CheckFirstUptoSaid : Prop := checkFirstUptoRow.holds Tryz.pinned (OpenSpec.upto checkFirstSpec)

end Rows
end Go.Proofs.YtffgioifjdpajaaGreatDoor
