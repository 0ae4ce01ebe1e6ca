/-
  NARROWER THAN 'FOR EVERY INPUT', by the rows' own cells (each row's printed sentence says how): VetOperands: laid · VetLabels: laid · VetRows: laid · VetNests: laid · VetDead: loops, laid · VetTurns: loops, laid.
  DERIVED. THE GIVEN ROWS OF THIS SEAT. 6 by the template 'for every input the law returns true; each argument reads behind the call as it read before'; 0 by the template 'total and deterministic' (their statements: YtpdepmkojbpklaaDoorTotals.lean).
  GIVEN WITH THE SEED: the statements are not yours to turn. If you find one false, say at which input.
  Laid BY PROGRAM, IN A SANDBOX (cutbox-rows.mjs): the forced cells as the released guide's own fill.sh prints them over the translation 7930a5e9ed278bff… (all of the seat's roots in one cut). By AI agents, Wed Nov 11 2026. No macro, syntax, notation, axiom, sorry.
-/
import Derived.Test.YtpdepmkojbpklaaDoorChecked
import GoSem.Claim
import GoSem.ClaimJoined
import GoSem.ClaimMapViews
import Derived.JoinedTies
import Derived.KernelRfl
namespace Go.Proofs.YtpdepmkojbpklaaDoor
/- THE CELL 'sum', in the pinned program and in every row, IS THE sha256 OF THE DUMP (.gsa) THAT YtpdepmkojbpklaaDoorProg.lean LOADS. Nothing in Lean hashes anything: it is a label: what it is worth is what the hold of that sum in a sandbox is worth. -/
noncomputable def Tryd.pinned : Pinned := { name := "ytpdepmkojbpklaadoor", sum := "7930a5e9ed278bffd43def8d7cf5d686210d6de2727ecea17b5a3e7217263981", checked := Tryd.checked }
namespace Rows
def none {H : Type} : Left H := { results := [], args := [] }

/- WHAT THE LISTED PACKAGE-LEVEL VARIABLES READ AS WHEN THE CALL BEGINS. Each datum BY PROGRAM (the guide's laid-datum.mjs) off the statement by which the dump's own 'gosem.cut.vars' lays the variable. In a bare row this is a premise. The card (YtpdepmkojbpklaaDoorCards.lean) ties it to the program's text. -/
def laid_errors_errorType {H : Type} : DataW H := .iface "internal/reflectlite.rtype" (.agg [.ptr (.lit (.string [101, 114, 114, 111, 114]))])
def laid_troupe_bif_functions {H : Type} : DataW H := .agg [.agg [.lit (.string [97, 100, 100]), .lit (.int .i64 0), .lit (.string [110, 110])], .agg [.lit (.string [115, 117, 98]), .lit (.int .i64 0), .lit (.string [110, 110])], .agg [.lit (.string [109, 117, 108]), .lit (.int .i64 0), .lit (.string [110, 110])], .agg [.lit (.string [100, 105, 118]), .lit (.int .i64 0), .lit (.string [110, 110])], .agg [.lit (.string [114, 101, 109]), .lit (.int .i64 0), .lit (.string [110, 110])], .agg [.lit (.string [110, 101, 103]), .lit (.int .i64 0), .lit (.string [110])], .agg [.lit (.string [98, 97, 110, 100]), .lit (.int .i64 0), .lit (.string [110, 110])], .agg [.lit (.string [98, 111, 114]), .lit (.int .i64 0), .lit (.string [110, 110])], .agg [.lit (.string [98, 120, 111, 114]), .lit (.int .i64 0), .lit (.string [110, 110])], .agg [.lit (.string [98, 115, 108]), .lit (.int .i64 0), .lit (.string [110, 110])], .agg [.lit (.string [98, 115, 114]), .lit (.int .i64 0), .lit (.string [110, 110])], .agg [.lit (.string [101, 113]), .lit (.int .i64 3), .lit (.string [120, 120])], .agg [.lit (.string [108, 116]), .lit (.int .i64 3), .lit (.string [120, 120])], .agg [.lit (.string [99, 111, 109, 112, 97, 114, 101]), .lit (.int .i64 3), .lit (.string [120, 120])], .agg [.lit (.string [115, 105, 122, 101]), .lit (.int .i64 4), .lit (.string [119])], .agg [.lit (.string [101, 108, 101, 109, 101, 110, 116]), .lit (.int .i64 4), .lit (.string [110, 116])], .agg [.lit (.string [115, 101, 116, 101, 108, 101, 109, 101, 110, 116]), .lit (.int .i64 4), .lit (.string [110, 116, 120])], .agg [.lit (.string [108, 105, 115, 116, 95, 116, 111, 95, 116, 117, 112, 108, 101]), .lit (.int .i64 2), .lit (.string [108])], .agg [.lit (.string [116, 117, 112, 108, 101, 95, 116, 111, 95, 108, 105, 115, 116]), .lit (.int .i64 4), .lit (.string [116])], .agg [.lit (.string [97, 112, 112, 101, 110, 100]), .lit (.int .i64 2), .lit (.string [108, 120])], .agg [.lit (.string [114, 101, 118, 101, 114, 115, 101]), .lit (.int .i64 2), .lit (.string [108])], .agg [.lit (.string [108, 101, 110, 103, 116, 104]), .lit (.int .i64 2), .lit (.string [108])], .agg [.lit (.string [109, 101, 109, 98, 101, 114]), .lit (.int .i64 2), .lit (.string [120, 108])], .agg [.lit (.string [110, 116, 104]), .lit (.int .i64 2), .lit (.string [110, 108])], .agg [.lit (.string [105, 115, 95, 105, 110, 116]), .lit (.int .i64 3), .lit (.string [120])], .agg [.lit (.string [105, 115, 95, 97, 116, 111, 109]), .lit (.int .i64 3), .lit (.string [120])], .agg [.lit (.string [105, 115, 95, 112, 105, 100]), .lit (.int .i64 3), .lit (.string [120])], .agg [.lit (.string [105, 115, 95, 114, 101, 102]), .lit (.int .i64 3), .lit (.string [120])], .agg [.lit (.string [105, 115, 95, 116, 117, 112, 108, 101]), .lit (.int .i64 3), .lit (.string [120])], .agg [.lit (.string [105, 115, 95, 108, 105, 115, 116]), .lit (.int .i64 3), .lit (.string [120])], .agg [.lit (.string [105, 115, 95, 98, 105, 110]), .lit (.int .i64 3), .lit (.string [120])], .agg [.lit (.string [108, 105, 115, 116, 95, 116, 111, 95, 98, 105, 110]), .lit (.int .i64 2), .lit (.string [109])], .agg [.lit (.string [98, 105, 110, 95, 116, 111, 95, 108, 105, 115, 116]), .lit (.int .i64 4), .lit (.string [98])], .agg [.lit (.string [98, 105, 110, 95, 97, 116]), .lit (.int .i64 4), .lit (.string [98, 110])], .agg [.lit (.string [98, 105, 110, 95, 112, 97, 114, 116]), .lit (.int .i64 4), .lit (.string [98, 110, 110])], .agg [.lit (.string [98, 105, 110, 95, 106, 111, 105, 110]), .lit (.int .i64 4), .lit (.string [98, 98])], .agg [.lit (.string [115, 117, 109]), .lit (.int .i64 1), .lit (.string [109])], .agg [.lit (.string [115, 101, 113]), .lit (.int .i64 2), .lit (.string [110, 110])], .agg [.lit (.string [97, 116, 111, 109, 95, 116, 111, 95, 108, 105, 115, 116]), .lit (.int .i64 4), .lit (.string [97])], .agg [.lit (.string [104, 97, 115, 104]), .lit (.int .i64 3), .lit (.string [120])]]

/-- 'troupelaw10.VetOperands': WHATEVER THE INPUT: true; the input reads as it did. -/
def vetOperandsSpec : ChangeSpec := { name := "vetOperands", fn := fun _ => fun
  | [d1, d2, d3, d4] => { results := [.lit (.bool true)], args := [d1, d2, d3, d4] }
  | _ => none }
def vetOperandsRow : OpenClaim := { program := "ytpdepmkojbpklaadoor", sum := "7930a5e9ed278bffd43def8d7cf5d686210d6de2727ecea17b5a3e7217263981", func := "troupe/troupelaw10.VetOperands", spec := "vetOperands", inPlace := ["internal/reflectlite.ValueOf", "(internal/reflectlite.Value).Type", "(internal/reflectlite.Value).IsNil", "internal/reflectlite.TypeOf", "(internal/reflectlite.Value).Elem", "(internal/reflectlite.Value).Set"], unfollowed := true, recurses := true, named := ["troupe/bif.functions", "errors.errorType"], apart := false, laid := [("errors.errorType", laid_errors_errorType), ("troupe/bif.functions", laid_troupe_bif_functions)] }
def VetOperandsSaid : Prop := vetOperandsRow.holds Tryd.pinned (OpenSpec.ofChange vetOperandsSpec)

/-- ITS FALSE NEIGHBOUR: 'it returns false'. Refute it at one input. -/
def vetOperandsWrong : ChangeSpec := { name := "vetOperands", fn := fun _ => fun
  | [d1, d2, d3, d4] => { results := [.lit (.bool false)], args := [d1, d2, d3, d4] }
  | _ => none }
def VetOperandsWrongFalsely : Prop := vetOperandsRow.holds Tryd.pinned (OpenSpec.ofChange vetOperandsWrong)

/-- 'troupelaw10.VetLabels': WHATEVER THE INPUT: true; the input reads as it did. -/
def vetLabelsSpec : ChangeSpec := { name := "vetLabels", fn := fun _ => fun
  | [d1, d2, d3] => { results := [.lit (.bool true)], args := [d1, d2, d3] }
  | _ => none }
def vetLabelsRow : OpenClaim := { program := "ytpdepmkojbpklaadoor", sum := "7930a5e9ed278bffd43def8d7cf5d686210d6de2727ecea17b5a3e7217263981", func := "troupe/troupelaw10.VetLabels", spec := "vetLabels", inPlace := ["internal/reflectlite.ValueOf", "(internal/reflectlite.Value).Type", "(internal/reflectlite.Value).IsNil", "internal/reflectlite.TypeOf", "(internal/reflectlite.Value).Elem", "(internal/reflectlite.Value).Set"], unfollowed := true, recurses := true, named := ["troupe/bif.functions", "errors.errorType"], apart := false, laid := [("errors.errorType", laid_errors_errorType), ("troupe/bif.functions", laid_troupe_bif_functions)] }
def VetLabelsSaid : Prop := vetLabelsRow.holds Tryd.pinned (OpenSpec.ofChange vetLabelsSpec)

/-- ITS FALSE NEIGHBOUR: 'it returns false'. Refute it at one input. -/
def vetLabelsWrong : ChangeSpec := { name := "vetLabels", fn := fun _ => fun
  | [d1, d2, d3] => { results := [.lit (.bool false)], args := [d1, d2, d3] }
  | _ => none }
def VetLabelsWrongFalsely : Prop := vetLabelsRow.holds Tryd.pinned (OpenSpec.ofChange vetLabelsWrong)

/-- 'troupelaw10.VetRows': WHATEVER THE INPUT: true; the input reads as it did. -/
def vetRowsSpec : ChangeSpec := { name := "vetRows", fn := fun _ => fun
  | [d1, d2, d3] => { results := [.lit (.bool true)], args := [d1, d2, d3] }
  | _ => none }
def vetRowsRow : OpenClaim := { program := "ytpdepmkojbpklaadoor", sum := "7930a5e9ed278bffd43def8d7cf5d686210d6de2727ecea17b5a3e7217263981", func := "troupe/troupelaw10.VetRows", spec := "vetRows", inPlace := ["internal/reflectlite.ValueOf", "(internal/reflectlite.Value).Type", "(internal/reflectlite.Value).IsNil", "internal/reflectlite.TypeOf", "(internal/reflectlite.Value).Elem", "(internal/reflectlite.Value).Set"], unfollowed := true, recurses := true, named := ["troupe/bif.functions", "errors.errorType"], apart := false, laid := [("errors.errorType", laid_errors_errorType), ("troupe/bif.functions", laid_troupe_bif_functions)] }
def VetRowsSaid : Prop := vetRowsRow.holds Tryd.pinned (OpenSpec.ofChange vetRowsSpec)

/-- ITS FALSE NEIGHBOUR: 'it returns false'. Refute it at one input. -/
def vetRowsWrong : ChangeSpec := { name := "vetRows", fn := fun _ => fun
  | [d1, d2, d3] => { results := [.lit (.bool false)], args := [d1, d2, d3] }
  | _ => none }
def VetRowsWrongFalsely : Prop := vetRowsRow.holds Tryd.pinned (OpenSpec.ofChange vetRowsWrong)

/-- 'troupelaw10.VetNests': WHATEVER THE INPUT: true; the input reads as it did. -/
def vetNestsSpec : ChangeSpec := { name := "vetNests", fn := fun _ => fun
  | [d1, d2] => { results := [.lit (.bool true)], args := [d1, d2] }
  | _ => none }
def vetNestsRow : OpenClaim := { program := "ytpdepmkojbpklaadoor", sum := "7930a5e9ed278bffd43def8d7cf5d686210d6de2727ecea17b5a3e7217263981", func := "troupe/troupelaw10.VetNests", spec := "vetNests", inPlace := ["internal/reflectlite.ValueOf", "(internal/reflectlite.Value).Type", "(internal/reflectlite.Value).IsNil", "internal/reflectlite.TypeOf", "(internal/reflectlite.Value).Elem", "(internal/reflectlite.Value).Set"], unfollowed := true, recurses := true, named := ["troupe/bif.functions", "errors.errorType"], apart := false, laid := [("errors.errorType", laid_errors_errorType), ("troupe/bif.functions", laid_troupe_bif_functions)] }
def VetNestsSaid : Prop := vetNestsRow.holds Tryd.pinned (OpenSpec.ofChange vetNestsSpec)

/-- ITS FALSE NEIGHBOUR: 'it returns false'. Refute it at one input. -/
def vetNestsWrong : ChangeSpec := { name := "vetNests", fn := fun _ => fun
  | [d1, d2] => { results := [.lit (.bool false)], args := [d1, d2] }
  | _ => none }
def VetNestsWrongFalsely : Prop := vetNestsRow.holds Tryd.pinned (OpenSpec.ofChange vetNestsWrong)

/-- 'troupelaw10.VetDead': WHATEVER THE INPUT: true; the input reads as it did. -/
def vetDeadSpec : ChangeSpec := { name := "vetDead", fn := fun _ => fun
  | [d1, d2, d3] => { results := [.lit (.bool true)], args := [d1, d2, d3] }
  | _ => none }
def vetDeadRow : OpenClaim := { program := "ytpdepmkojbpklaadoor", sum := "7930a5e9ed278bffd43def8d7cf5d686210d6de2727ecea17b5a3e7217263981", func := "troupe/troupelaw10.VetDead", spec := "vetDead", inPlace := ["internal/reflectlite.ValueOf", "(internal/reflectlite.Value).Type", "(internal/reflectlite.Value).IsNil", "internal/reflectlite.TypeOf", "(internal/reflectlite.Value).Elem", "(internal/reflectlite.Value).Set"], unfollowed := true, recurses := true, named := ["troupe/bif.functions", "errors.errorType"], loops := true, apart := false, laid := [("errors.errorType", laid_errors_errorType), ("troupe/bif.functions", laid_troupe_bif_functions)] }
def VetDeadSaid : Prop := vetDeadRow.holds Tryd.pinned (OpenSpec.ofChange vetDeadSpec)

/-- ITS FALSE NEIGHBOUR: 'it returns false'. Refute it at one input. -/
def vetDeadWrong : ChangeSpec := { name := "vetDead", fn := fun _ => fun
  | [d1, d2, d3] => { results := [.lit (.bool false)], args := [d1, d2, d3] }
  | _ => none }
def VetDeadWrongFalsely : Prop := vetDeadRow.holds Tryd.pinned (OpenSpec.ofChange vetDeadWrong)

/-- 'troupelaw10.VetTurns': WHATEVER THE INPUT: true; the input reads as it did. -/
def vetTurnsSpec : ChangeSpec := { name := "vetTurns", fn := fun _ => fun
  | [d1, d2, d3, d4] => { results := [.lit (.bool true)], args := [d1, d2, d3, d4] }
  | _ => none }
def vetTurnsRow : OpenClaim := { program := "ytpdepmkojbpklaadoor", sum := "7930a5e9ed278bffd43def8d7cf5d686210d6de2727ecea17b5a3e7217263981", func := "troupe/troupelaw10.VetTurns", spec := "vetTurns", inPlace := ["internal/reflectlite.ValueOf", "(internal/reflectlite.Value).Type", "(internal/reflectlite.Value).IsNil", "internal/reflectlite.TypeOf", "(internal/reflectlite.Value).Elem", "(internal/reflectlite.Value).Set"], unfollowed := true, recurses := true, named := ["troupe/bif.functions", "errors.errorType"], loops := true, apart := false, laid := [("errors.errorType", laid_errors_errorType), ("troupe/bif.functions", laid_troupe_bif_functions)] }
def VetTurnsSaid : Prop := vetTurnsRow.holds Tryd.pinned (OpenSpec.ofChange vetTurnsSpec)

/-- ITS FALSE NEIGHBOUR: 'it returns false'. Refute it at one input. -/
def vetTurnsWrong : ChangeSpec := { name := "vetTurns", fn := fun _ => fun
  | [d1, d2, d3, d4] => { results := [.lit (.bool false)], args := [d1, d2, d3, d4] }
  | _ => none }
def VetTurnsWrongFalsely : Prop := vetTurnsRow.holds Tryd.pinned (OpenSpec.ofChange vetTurnsWrong)

/- THE SECOND FORM. 'bulk': how many values and letters a reading holds, each counted each time it is reached (what is shared counts as often as it is met; a slice's spare places count too). A statement '..UptoSaid' is the law's where the arguments, and the package variables that the reading takes, are together of bulk at most 1048576: NARROWER than '..Said'. Prove '..Said' where nothing that the law and all that it calls make is longer than what came in: it says more and counts as full. Else prove '..UptoSaid'. A law counts once. -/
mutual
def uptoBulk {H : Type} : DataW H → Nat
  | .lit (.string bytes) => bytes.length + 1
  | .lit _ => 1
  | .nil => 1
  | .ptr d => uptoBulk d + 1
  | .slice elems spare => uptoBulkAll elems + uptoBulkAll spare + 1
  | .agg parts => uptoBulkAll parts + 1
  | .iface _ d => uptoBulk d + 1
  | .map entries => uptoBulkEntries entries + 1
  | .held _ => 1
def uptoBulkAll {H : Type} : List (DataW H) → Nat
  | [] => 0
  | d :: r => uptoBulk d + uptoBulkAll r
def uptoBulkEntries {H : Type} : List (Lit × DataW H) → Nat
  | [] => 0
  | x :: r => uptoBulkEntry x + uptoBulkEntries r
def uptoBulkEntry {H : Type} : Lit × DataW H → Nat
  | (.string bytes, d) => bytes.length + uptoBulk d + 1
  | (_, d) => uptoBulk d + 1
 end
def uptoSmall : (H : Type) → List (DataW H) → Bool := fun _ ds => decide (uptoBulkAll ds ≤ 1048576)
def OpenSpec.upto (s : _root_.Go.ChangeSpec) : _root_.Go.OpenSpec := { _root_.Go.OpenSpec.ofChange s with cond := some uptoSmall }

/-- 'troupelaw10.VetOperands', WHERE WHAT IT READS IS OF BULK AT MOST 1048576: true; the input reads as it did. -/
def vetOperandsUptoRow : OpenClaim := { program := "ytpdepmkojbpklaadoor", sum := "7930a5e9ed278bffd43def8d7cf5d686210d6de2727ecea17b5a3e7217263981", func := "troupe/troupelaw10.VetOperands", spec := "vetOperands", inPlace := ["internal/reflectlite.ValueOf", "(internal/reflectlite.Value).Type", "(internal/reflectlite.Value).IsNil", "internal/reflectlite.TypeOf", "(internal/reflectlite.Value).Elem", "(internal/reflectlite.Value).Set"], unfollowed := true, recurses := true, named := ["troupe/bif.functions", "errors.errorType"], apart := false, laid := [("errors.errorType", laid_errors_errorType), ("troupe/bif.functions", laid_troupe_bif_functions)], narrowed := true }
def VetOperandsUptoSaid : Prop := vetOperandsUptoRow.holds Tryd.pinned (OpenSpec.upto vetOperandsSpec)

/-- 'troupelaw10.VetLabels', WHERE WHAT IT READS IS OF BULK AT MOST 1048576: true; the input reads as it did. -/
def vetLabelsUptoRow : OpenClaim := { program := "ytpdepmkojbpklaadoor", sum := "7930a5e9ed278bffd43def8d7cf5d686210d6de2727ecea17b5a3e7217263981", func := "troupe/troupelaw10.VetLabels", spec := "vetLabels", inPlace := ["internal/reflectlite.ValueOf", "(internal/reflectlite.Value).Type", "(internal/reflectlite.Value).IsNil", "internal/reflectlite.TypeOf", "(internal/reflectlite.Value).Elem", "(internal/reflectlite.Value).Set"], unfollowed := true, recurses := true, named := ["troupe/bif.functions", "errors.errorType"], apart := false, laid := [("errors.errorType", laid_errors_errorType), ("troupe/bif.functions", laid_troupe_bif_functions)], narrowed := true }
def VetLabelsUptoSaid : Prop := vetLabelsUptoRow.holds Tryd.pinned (OpenSpec.upto vetLabelsSpec)

/-- 'troupelaw10.VetRows', WHERE WHAT IT READS IS OF BULK AT MOST 1048576: true; the input reads as it did. -/
def vetRowsUptoRow : OpenClaim := { program := "ytpdepmkojbpklaadoor", sum := "7930a5e9ed278bffd43def8d7cf5d686210d6de2727ecea17b5a3e7217263981", func := "troupe/troupelaw10.VetRows", spec := "vetRows", inPlace := ["internal/reflectlite.ValueOf", "(internal/reflectlite.Value).Type", "(internal/reflectlite.Value).IsNil", "internal/reflectlite.TypeOf", "(internal/reflectlite.Value).Elem", "(internal/reflectlite.Value).Set"], unfollowed := true, recurses := true, named := ["troupe/bif.functions", "errors.errorType"], apart := false, laid := [("errors.errorType", laid_errors_errorType), ("troupe/bif.functions", laid_troupe_bif_functions)], narrowed := true }
def VetRowsUptoSaid : Prop := vetRowsUptoRow.holds Tryd.pinned (OpenSpec.upto vetRowsSpec)

/-- 'troupelaw10.VetNests', WHERE WHAT IT READS IS OF BULK AT MOST 1048576: true; the input reads as it did. -/
def vetNestsUptoRow : OpenClaim := { program := "ytpdepmkojbpklaadoor", sum := "7930a5e9ed278bffd43def8d7cf5d686210d6de2727ecea17b5a3e7217263981", func := "troupe/troupelaw10.VetNests", spec := "vetNests", inPlace := ["internal/reflectlite.ValueOf", "(internal/reflectlite.Value).Type", "(internal/reflectlite.Value).IsNil", "internal/reflectlite.TypeOf", "(internal/reflectlite.Value).Elem", "(internal/reflectlite.Value).Set"], unfollowed := true, recurses := true, named := ["troupe/bif.functions", "errors.errorType"], apart := false, laid := [("errors.errorType", laid_errors_errorType), ("troupe/bif.functions", laid_troupe_bif_functions)], narrowed := true }
def VetNestsUptoSaid : Prop := vetNestsUptoRow.holds Tryd.pinned (OpenSpec.upto vetNestsSpec)

/-- 'troupelaw10.VetDead', WHERE WHAT IT READS IS OF BULK AT MOST 1048576: true; the input reads as it did. -/
def vetDeadUptoRow : OpenClaim := { program := "ytpdepmkojbpklaadoor", sum := "7930a5e9ed278bffd43def8d7cf5d686210d6de2727ecea17b5a3e7217263981", func := "troupe/troupelaw10.VetDead", spec := "vetDead", inPlace := ["internal/reflectlite.ValueOf", "(internal/reflectlite.Value).Type", "(internal/reflectlite.Value).IsNil", "internal/reflectlite.TypeOf", "(internal/reflectlite.Value).Elem", "(internal/reflectlite.Value).Set"], unfollowed := true, recurses := true, named := ["troupe/bif.functions", "errors.errorType"], loops := true, apart := false, laid := [("errors.errorType", laid_errors_errorType), ("troupe/bif.functions", laid_troupe_bif_functions)], narrowed := true }
def VetDeadUptoSaid : Prop := vetDeadUptoRow.holds Tryd.pinned (OpenSpec.upto vetDeadSpec)

/-- 'troupelaw10.VetTurns', WHERE WHAT IT READS IS OF BULK AT MOST 1048576: true; the input reads as it did. -/
def vetTurnsUptoRow : OpenClaim := { program := "ytpdepmkojbpklaadoor", sum := "7930a5e9ed278bffd43def8d7cf5d686210d6de2727ecea17b5a3e7217263981", func := "troupe/troupelaw10.VetTurns", spec := "vetTurns", inPlace := ["internal/reflectlite.ValueOf", "(internal/reflectlite.Value).Type", "(internal/reflectlite.Value).IsNil", "internal/reflectlite.TypeOf", "(internal/reflectlite.Value).Elem", "(internal/reflectlite.Value).Set"], unfollowed := true, recurses := true, named := ["troupe/bif.functions", "errors.errorType"], loops := true, apart := false, laid := [("errors.errorType", laid_errors_errorType), ("troupe/bif.functions", laid_troupe_bif_functions)], narrowed := true }
def VetTurnsUptoSaid : Prop := vetTurnsUptoRow.holds Tryd.pinned (OpenSpec.upto vetTurnsSpec)

end Rows
end Go.Proofs.YtpdepmkojbpklaaDoor
