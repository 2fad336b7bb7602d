/-
  NARROWER THAN 'FOR EVERY INPUT', by the rows' own cells (each row's printed sentence says how): RunFuel: loops, laid · RunOps: laid · RunArrays: laid · RunWays: laid · RunDeep: laid · RunHides: loops, laid · RunSame: loops, laid.
  DERIVED. THE GIVEN ROWS OF THIS SEAT. 7 by the template 'for every input the law returns true; each argument reads behind the call as it read before'; 0 by the template 'total and deterministic' (their statements: YtaomlahphlemdaaGreatDoorTotals.lean).
  GIVEN WITH THE SEED: the statements are not yours to turn. If you find one false, say at which input.
  Laid BY PROGRAM, IN A SANDBOX (cutbox-rows.mjs): the forced cells as the released guide's own fill.sh prints them over the translation 10790d8ea054f390… (all of the seat's roots in one cut). By AI agents, Wed Nov 11 2026. No macro, syntax, notation, axiom, sorry.
-/
import Derived.Test.YtaomlahphlemdaaGreatDoorChecked
import GoSem.Claim
import GoSem.ClaimJoined
import GoSem.ClaimMapViews
import Derived.JoinedTies
import Derived.KernelRfl
namespace Go.Proofs.YtaomlahphlemdaaGreatDoor
/- THE CELL 'sum', in the pinned program and in every row, IS THE sha256 OF THE DUMP (.gsa) THAT YtaomlahphlemdaaGreatDoorProg.lean LOADS. Nothing in Lean hashes anything: it is a label: what it is worth is what the hold of that sum in a sandbox is worth. -/
noncomputable def Tryz.pinned : Pinned := { name := "ytaomlahphlemdaagreatdoor", sum := "10790d8ea054f390515e59825890b3ffc2273ce9fcbea3c7f33b8fb8387b701b", checked := Tryz.checked }
namespace Rows
def none {H : Type} : Left H := { results := [], args := [] }

/- WHAT THE LISTED PACKAGE-LEVEL VARIABLES READ AS WHEN THE CALL BEGINS. Each datum BY PROGRAM (the guide's laid-datum.mjs) off the statement by which the dump's own 'gosem.cut.vars' lays the variable. In a bare row this is a premise. The card (YtaomlahphlemdaaGreatDoorCards.lean) ties it to the program's text. -/
def laid_palings_ast_signs {H : Type} : DataW H := .agg [.lit (.string [43]), .lit (.string [45]), .lit (.string [42]), .lit (.string [47]), .lit (.string [37]), .lit (.string [38]), .lit (.string [124]), .lit (.string [94]), .lit (.string [60, 60]), .lit (.string [62, 62]), .lit (.string [61, 61]), .lit (.string [33, 61]), .lit (.string [60]), .lit (.string [60, 61])]

/-- 'palingslaw06.RunFuel': WHATEVER THE INPUT: true; the input reads as it did. -/
def runFuelSpec : ChangeSpec := { name := "runFuel", fn := fun _ => fun
  | [d1, d2, d3, d4] => { results := [.lit (.bool true)], args := [d1, d2, d3, d4] }
  | _ => none }
def runFuelRow : OpenClaim := { program := "ytaomlahphlemdaagreatdoor", sum := "10790d8ea054f390515e59825890b3ffc2273ce9fcbea3c7f33b8fb8387b701b", func := "palings/palingslaw06.RunFuel", spec := "runFuel", inPlace := ["internal/bytealg.IndexByteString"], unfollowed := true, recurses := true, named := ["palings/ast.signs"], loops := true, apart := false, laid := [("palings/ast.signs", laid_palings_ast_signs)] }
def RunFuelSaid : Prop := runFuelRow.holds Tryz.pinned (OpenSpec.ofChange runFuelSpec)

/-- ITS FALSE NEIGHBOUR: 'it returns false'. Refute it at one input. -/
def runFuelWrong : ChangeSpec := { name := "runFuel", fn := fun _ => fun
  | [d1, d2, d3, d4] => { results := [.lit (.bool false)], args := [d1, d2, d3, d4] }
  | _ => none }
def RunFuelWrongFalsely : Prop := runFuelRow.holds Tryz.pinned (OpenSpec.ofChange runFuelWrong)

/-- 'palingslaw06.RunOps': WHATEVER THE INPUT: true; the input reads as it did. -/
def runOpsSpec : ChangeSpec := { name := "runOps", fn := fun _ => fun
  | [d1, d2, d3] => { results := [.lit (.bool true)], args := [d1, d2, d3] }
  | _ => none }
def runOpsRow : OpenClaim := { program := "ytaomlahphlemdaagreatdoor", sum := "10790d8ea054f390515e59825890b3ffc2273ce9fcbea3c7f33b8fb8387b701b", func := "palings/palingslaw06.RunOps", spec := "runOps", inPlace := ["internal/bytealg.IndexByteString"], unfollowed := true, recurses := true, named := ["palings/ast.signs"], apart := false, laid := [("palings/ast.signs", laid_palings_ast_signs)] }
def RunOpsSaid : Prop := runOpsRow.holds Tryz.pinned (OpenSpec.ofChange runOpsSpec)

/-- ITS FALSE NEIGHBOUR: 'it returns false'. Refute it at one input. -/
def runOpsWrong : ChangeSpec := { name := "runOps", fn := fun _ => fun
  | [d1, d2, d3] => { results := [.lit (.bool false)], args := [d1, d2, d3] }
  | _ => none }
def RunOpsWrongFalsely : Prop := runOpsRow.holds Tryz.pinned (OpenSpec.ofChange runOpsWrong)

/-- 'palingslaw06.RunArrays': WHATEVER THE INPUT: true; the input reads as it did. -/
def runArraysSpec : ChangeSpec := { name := "runArrays", fn := fun _ => fun
  | [d1, d2, d3] => { results := [.lit (.bool true)], args := [d1, d2, d3] }
  | _ => none }
def runArraysRow : OpenClaim := { program := "ytaomlahphlemdaagreatdoor", sum := "10790d8ea054f390515e59825890b3ffc2273ce9fcbea3c7f33b8fb8387b701b", func := "palings/palingslaw06.RunArrays", spec := "runArrays", inPlace := ["internal/bytealg.IndexByteString"], unfollowed := true, recurses := true, named := ["palings/ast.signs"], apart := false, laid := [("palings/ast.signs", laid_palings_ast_signs)] }
def RunArraysSaid : Prop := runArraysRow.holds Tryz.pinned (OpenSpec.ofChange runArraysSpec)

/-- ITS FALSE NEIGHBOUR: 'it returns false'. Refute it at one input. -/
def runArraysWrong : ChangeSpec := { name := "runArrays", fn := fun _ => fun
  | [d1, d2, d3] => { results := [.lit (.bool false)], args := [d1, d2, d3] }
  | _ => none }
def RunArraysWrongFalsely : Prop := runArraysRow.holds Tryz.pinned (OpenSpec.ofChange runArraysWrong)

/-- 'palingslaw06.RunWays': WHATEVER THE INPUT: true; the input reads as it did. -/
def runWaysSpec : ChangeSpec := { name := "runWays", fn := fun _ => fun
  | [d1, d2, d3] => { results := [.lit (.bool true)], args := [d1, d2, d3] }
  | _ => none }
def runWaysRow : OpenClaim := { program := "ytaomlahphlemdaagreatdoor", sum := "10790d8ea054f390515e59825890b3ffc2273ce9fcbea3c7f33b8fb8387b701b", func := "palings/palingslaw06.RunWays", spec := "runWays", inPlace := ["internal/bytealg.IndexByteString"], unfollowed := true, recurses := true, named := ["palings/ast.signs"], apart := false, laid := [("palings/ast.signs", laid_palings_ast_signs)] }
def RunWaysSaid : Prop := runWaysRow.holds Tryz.pinned (OpenSpec.ofChange runWaysSpec)

/-- ITS FALSE NEIGHBOUR: 'it returns false'. Refute it at one input. -/
def runWaysWrong : ChangeSpec := { name := "runWays", fn := fun _ => fun
  | [d1, d2, d3] => { results := [.lit (.bool false)], args := [d1, d2, d3] }
  | _ => none }
def RunWaysWrongFalsely : Prop := runWaysRow.holds Tryz.pinned (OpenSpec.ofChange runWaysWrong)

/-- 'palingslaw06.RunDeep': WHATEVER THE INPUT: true; the input reads as it did. -/
def runDeepSpec : ChangeSpec := { name := "runDeep", fn := fun _ => fun
  | [d] => { results := [.lit (.bool true)], args := [d] }
  | _ => none }
def runDeepRow : OpenClaim := { program := "ytaomlahphlemdaagreatdoor", sum := "10790d8ea054f390515e59825890b3ffc2273ce9fcbea3c7f33b8fb8387b701b", func := "palings/palingslaw06.RunDeep", spec := "runDeep", inPlace := ["internal/bytealg.IndexByteString"], unfollowed := true, recurses := true, named := ["palings/ast.signs"], apart := false, laid := [("palings/ast.signs", laid_palings_ast_signs)] }
def RunDeepSaid : Prop := runDeepRow.holds Tryz.pinned (OpenSpec.ofChange runDeepSpec)

/-- ITS FALSE NEIGHBOUR: 'it returns false'. Refute it at one input. -/
def runDeepWrong : ChangeSpec := { name := "runDeep", fn := fun _ => fun
  | [d] => { results := [.lit (.bool false)], args := [d] }
  | _ => none }
def RunDeepWrongFalsely : Prop := runDeepRow.holds Tryz.pinned (OpenSpec.ofChange runDeepWrong)

/-- 'palingslaw06.RunHides': WHATEVER THE INPUT: true; the input reads as it did. -/
def runHidesSpec : ChangeSpec := { name := "runHides", fn := fun _ => fun
  | [d1, d2, d3] => { results := [.lit (.bool true)], args := [d1, d2, d3] }
  | _ => none }
def runHidesRow : OpenClaim := { program := "ytaomlahphlemdaagreatdoor", sum := "10790d8ea054f390515e59825890b3ffc2273ce9fcbea3c7f33b8fb8387b701b", func := "palings/palingslaw06.RunHides", spec := "runHides", inPlace := ["internal/bytealg.IndexByteString"], unfollowed := true, recurses := true, named := ["palings/ast.signs"], loops := true, apart := false, laid := [("palings/ast.signs", laid_palings_ast_signs)] }
def RunHidesSaid : Prop := runHidesRow.holds Tryz.pinned (OpenSpec.ofChange runHidesSpec)

/-- ITS FALSE NEIGHBOUR: 'it returns false'. Refute it at one input. -/
def runHidesWrong : ChangeSpec := { name := "runHides", fn := fun _ => fun
  | [d1, d2, d3] => { results := [.lit (.bool false)], args := [d1, d2, d3] }
  | _ => none }
def RunHidesWrongFalsely : Prop := runHidesRow.holds Tryz.pinned (OpenSpec.ofChange runHidesWrong)

/-- 'palingslaw06.RunSame': WHATEVER THE INPUT: true; the input reads as it did. -/
def runSameSpec : ChangeSpec := { name := "runSame", fn := fun _ => fun
  | [d1, d2, d3] => { results := [.lit (.bool true)], args := [d1, d2, d3] }
  | _ => none }
def runSameRow : OpenClaim := { program := "ytaomlahphlemdaagreatdoor", sum := "10790d8ea054f390515e59825890b3ffc2273ce9fcbea3c7f33b8fb8387b701b", func := "palings/palingslaw06.RunSame", spec := "runSame", inPlace := ["internal/bytealg.IndexByteString"], unfollowed := true, recurses := true, named := ["palings/ast.signs"], loops := true, apart := false, laid := [("palings/ast.signs", laid_palings_ast_signs)] }
def RunSameSaid : Prop := runSameRow.holds Tryz.pinned (OpenSpec.ofChange runSameSpec)

/-- ITS FALSE NEIGHBOUR: 'it returns false'. Refute it at one input. -/
def runSameWrong : ChangeSpec := { name := "runSame", fn := fun _ => fun
  | [d1, d2, d3] => { results := [.lit (.bool false)], args := [d1, d2, d3] }
  | _ => none }
def RunSameWrongFalsely : Prop := runSameRow.holds Tryz.pinned (OpenSpec.ofChange runSameWrong)

/- THE SECOND FORM. 'bulk': how many values and letters a reading holds, each counted each time it is reached (what is shared counts as often as it is met; a slice's spare places count too). A statement '..UptoSaid' is the law's where the arguments, and the package variables that the reading takes, are together of bulk at most 1048576: NARROWER than '..Said'. Prove '..Said' where nothing that the law and all that it calls make is longer than what came in: it says more and counts as full. Else prove '..UptoSaid'. A law counts once. -/
mutual
def uptoBulk {H : Type} : DataW H → Nat
  | .lit (.string bytes) => bytes.length + 1
  | .lit _ => 1
  | .nil => 1
  | .ptr d => uptoBulk d + 1
  | .slice elems spare => uptoBulkAll elems + uptoBulkAll spare + 1
  | .agg parts => uptoBulkAll parts + 1
  | .iface _ d => uptoBulk d + 1
  | .map entries => uptoBulkEntries entries + 1
  | .held _ => 1
def uptoBulkAll {H : Type} : List (DataW H) → Nat
  | [] => 0
  | d :: r => uptoBulk d + uptoBulkAll r
def uptoBulkEntries {H : Type} : List (Lit × DataW H) → Nat
  | [] => 0
  | x :: r => uptoBulkEntry x + uptoBulkEntries r
def uptoBulkEntry {H : Type} : Lit × DataW H → Nat
  | (.string bytes, d) => bytes.length + uptoBulk d + 1
  | (_, d) => uptoBulk d + 1
 end
def uptoSmall : (H : Type) → List (DataW H) → Bool := fun _ ds => decide (uptoBulkAll ds ≤ 1048576)
def OpenSpec.upto (s : _root_.Go.ChangeSpec) : _root_.Go.OpenSpec := { _root_.Go.OpenSpec.ofChange s with cond := some uptoSmall }

/-- 'palingslaw06.RunFuel', WHERE WHAT IT READS IS OF BULK AT MOST 1048576: true; the input reads as it did. -/
def runFuelUptoRow : OpenClaim := { program := "ytaomlahphlemdaagreatdoor", sum := "10790d8ea054f390515e59825890b3ffc2273ce9fcbea3c7f33b8fb8387b701b", func := "palings/palingslaw06.RunFuel", spec := "runFuel", inPlace := ["internal/bytealg.IndexByteString"], unfollowed := true, recurses := true, named := ["palings/ast.signs"], loops := true, apart := false, laid := [("palings/ast.signs", laid_palings_ast_signs)], narrowed := true }
def RunFuelUptoSaid : Prop := runFuelUptoRow.holds Tryz.pinned (OpenSpec.upto runFuelSpec)

/-- 'palingslaw06.RunOps', WHERE WHAT IT READS IS OF BULK AT MOST 1048576: true; the input reads as it did. -/
def runOpsUptoRow : OpenClaim := { program := "ytaomlahphlemdaagreatdoor", sum := "10790d8ea054f390515e59825890b3ffc2273ce9fcbea3c7f33b8fb8387b701b", func := "palings/palingslaw06.RunOps", spec := "runOps", inPlace := ["internal/bytealg.IndexByteString"], unfollowed := true, recurses := true, named := ["palings/ast.signs"], apart := false, laid := [("palings/ast.signs", laid_palings_ast_signs)], narrowed := true }
def RunOpsUptoSaid : Prop := runOpsUptoRow.holds Tryz.pinned (OpenSpec.upto runOpsSpec)

/-- 'palingslaw06.RunArrays', WHERE WHAT IT READS IS OF BULK AT MOST 1048576: true; the input reads as it did. -/
def runArraysUptoRow : OpenClaim := { program := "ytaomlahphlemdaagreatdoor", sum := "10790d8ea054f390515e59825890b3ffc2273ce9fcbea3c7f33b8fb8387b701b", func := "palings/palingslaw06.RunArrays", spec := "runArrays", inPlace := ["internal/bytealg.IndexByteString"], unfollowed := true, recurses := true, named := ["palings/ast.signs"], apart := false, laid := [("palings/ast.signs", laid_palings_ast_signs)], narrowed := true }
def RunArraysUptoSaid : Prop := runArraysUptoRow.holds Tryz.pinned (OpenSpec.upto runArraysSpec)

/-- 'palingslaw06.RunWays', WHERE WHAT IT READS IS OF BULK AT MOST 1048576: true; the input reads as it did. -/
def runWaysUptoRow : OpenClaim := { program := "ytaomlahphlemdaagreatdoor", sum := "10790d8ea054f390515e59825890b3ffc2273ce9fcbea3c7f33b8fb8387b701b", func := "palings/palingslaw06.RunWays", spec := "runWays", inPlace := ["internal/bytealg.IndexByteString"], unfollowed := true, recurses := true, named := ["palings/ast.signs"], apart := false, laid := [("palings/ast.signs", laid_palings_ast_signs)], narrowed := true }
def RunWaysUptoSaid : Prop := runWaysUptoRow.holds Tryz.pinned (OpenSpec.upto runWaysSpec)

/-- 'palingslaw06.RunDeep', WHERE WHAT IT READS IS OF BULK AT MOST 1048576: true; the input reads as it did. -/
def runDeepUptoRow : OpenClaim := { program := "ytaomlahphlemdaagreatdoor", sum := "10790d8ea054f390515e59825890b3ffc2273ce9fcbea3c7f33b8fb8387b701b", func := "palings/palingslaw06.RunDeep", spec := "runDeep", inPlace := ["internal/bytealg.IndexByteString"], unfollowed := true, recurses := true, named := ["palings/ast.signs"], apart := false, laid := [("palings/ast.signs", laid_palings_ast_signs)], narrowed := true }
def RunDeepUptoSaid : Prop := runDeepUptoRow.holds Tryz.pinned (OpenSpec.upto runDeepSpec)

/-- 'palingslaw06.RunHides', WHERE WHAT IT READS IS OF BULK AT MOST 1048576: true; the input reads as it did. -/
def runHidesUptoRow : OpenClaim := { program := "ytaomlahphlemdaagreatdoor", sum := "10790d8ea054f390515e59825890b3ffc2273ce9fcbea3c7f33b8fb8387b701b", func := "palings/palingslaw06.RunHides", spec := "runHides", inPlace := ["internal/bytealg.IndexByteString"], unfollowed := true, recurses := true, named := ["palings/ast.signs"], loops := true, apart := false, laid := [("palings/ast.signs", laid_palings_ast_signs)], narrowed := true }
def RunHidesUptoSaid : Prop := runHidesUptoRow.holds Tryz.pinned (OpenSpec.upto runHidesSpec)

/-- 'palingslaw06.RunSame', WHERE WHAT IT READS IS OF BULK AT MOST 1048576: true; the input reads as it did. -/
def runSameUptoRow : OpenClaim := { program := "ytaomlahphlemdaagreatdoor", sum := "10790d8ea054f390515e59825890b3ffc2273ce9fcbea3c7f33b8fb8387b701b", func := "palings/palingslaw06.RunSame", spec := "runSame", inPlace := ["internal/bytealg.IndexByteString"], unfollowed := true, recurses := true, named := ["palings/ast.signs"], loops := true, apart := false, laid := [("palings/ast.signs", laid_palings_ast_signs)], narrowed := true }
def RunSameUptoSaid : Prop := runSameUptoRow.holds Tryz.pinned (OpenSpec.upto runSameSpec)

end Rows
end Go.Proofs.YtaomlahphlemdaaGreatDoor
