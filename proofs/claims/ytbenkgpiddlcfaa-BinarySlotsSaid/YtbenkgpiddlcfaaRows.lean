/-
  No cell of these rows narrows 'for every input' (looked for: loops, veiled, ifaces, maps, wideKeys, modest, calm, conditions, laid).
  DERIVED. THE GIVEN ROWS OF THIS SEAT. 7 by the template 'for every input the law returns true; each argument reads behind the call as it read before'; 0 by the template 'total and deterministic' (their statements: YtbenkgpiddlcfaaTotals.lean).
  GIVEN WITH THE SEED: the statements are not yours to turn. If you find one false, say at which input.
  Laid BY PROGRAM, IN A SANDBOX (cutbox-rows.mjs): the forced cells as the released guide's own fill.sh prints them over the translation 34278bbd810bc0ab… (all of the seat's roots in one cut). By AI agents, Wed Nov 11 2026. No macro, syntax, notation, axiom, sorry.
-/
import Derived.Test.YtbenkgpiddlcfaaChecked
import GoSem.Claim
import GoSem.ClaimJoined
import GoSem.ClaimMapViews
import Derived.JoinedTies
import Derived.KernelRfl
namespace Go.Proofs.Ytbenkgpiddlcfaa
/- THE CELL 'sum', in the pinned program and in every row, IS THE sha256 OF THE DUMP (.gsa) THAT YtbenkgpiddlcfaaProg.lean LOADS. Nothing in Lean hashes anything: it is a label: what it is worth is what the hold of that sum in a sandbox is worth. -/
noncomputable def Try.pinned : Pinned := { name := "ytbenkgpiddlcfaa", sum := "34278bbd810bc0abfb5ce5cad851d9df84c4c3dd358dbec2d3b8892f49a539b3", checked := Try.checked }
namespace Rows
def none {H : Type} : Left H := { results := [], args := [] }

/-- 'troupelaw05.BinaryPlays': WHATEVER THE INPUT: true; the input reads as it did. -/
def binaryPlaysSpec : ChangeSpec := { name := "binaryPlays", fn := fun _ => fun
  | [d1, d2, d3] => { results := [.lit (.bool true)], args := [d1, d2, d3] }
  | _ => none }
def binaryPlaysRow : OpenClaim := { program := "ytbenkgpiddlcfaa", sum := "34278bbd810bc0abfb5ce5cad851d9df84c4c3dd358dbec2d3b8892f49a539b3", func := "troupe/troupelaw05.BinaryPlays", spec := "binaryPlays", inPlace := ["internal/reflectlite.TypeOf"], unfollowed := true, recurses := true, apart := false }
def BinaryPlaysSaid : Prop := binaryPlaysRow.holds Try.pinned (OpenSpec.ofChange binaryPlaysSpec)

/-- ITS FALSE NEIGHBOUR: 'it returns false'. Refute it at one input. -/
def binaryPlaysWrong : ChangeSpec := { name := "binaryPlays", fn := fun _ => fun
  | [d1, d2, d3] => { results := [.lit (.bool false)], args := [d1, d2, d3] }
  | _ => none }
def BinaryPlaysWrongFalsely : Prop := binaryPlaysRow.holds Try.pinned (OpenSpec.ofChange binaryPlaysWrong)

/-- 'troupelaw05.BinaryCounts': WHATEVER THE INPUT: true; the input reads as it did. -/
def binaryCountsSpec : ChangeSpec := { name := "binaryCounts", fn := fun _ => fun
  | [d1, d2, d3] => { results := [.lit (.bool true)], args := [d1, d2, d3] }
  | _ => none }
def binaryCountsRow : OpenClaim := { program := "ytbenkgpiddlcfaa", sum := "34278bbd810bc0abfb5ce5cad851d9df84c4c3dd358dbec2d3b8892f49a539b3", func := "troupe/troupelaw05.BinaryCounts", spec := "binaryCounts", inPlace := ["internal/reflectlite.TypeOf"], unfollowed := true, recurses := true, apart := false }
def BinaryCountsSaid : Prop := binaryCountsRow.holds Try.pinned (OpenSpec.ofChange binaryCountsSpec)

/-- ITS FALSE NEIGHBOUR: 'it returns false'. Refute it at one input. -/
def binaryCountsWrong : ChangeSpec := { name := "binaryCounts", fn := fun _ => fun
  | [d1, d2, d3] => { results := [.lit (.bool false)], args := [d1, d2, d3] }
  | _ => none }
def BinaryCountsWrongFalsely : Prop := binaryCountsRow.holds Try.pinned (OpenSpec.ofChange binaryCountsWrong)

/-- 'troupelaw05.BinaryOwn': WHATEVER THE INPUT: true; the input reads as it did. -/
def binaryOwnSpec : ChangeSpec := { name := "binaryOwn", fn := fun _ => fun
  | [d1, d2, d3] => { results := [.lit (.bool true)], args := [d1, d2, d3] }
  | _ => none }
def binaryOwnRow : OpenClaim := { program := "ytbenkgpiddlcfaa", sum := "34278bbd810bc0abfb5ce5cad851d9df84c4c3dd358dbec2d3b8892f49a539b3", func := "troupe/troupelaw05.BinaryOwn", spec := "binaryOwn", apart := false }
def BinaryOwnSaid : Prop := binaryOwnRow.holds Try.pinned (OpenSpec.ofChange binaryOwnSpec)

/-- ITS FALSE NEIGHBOUR: 'it returns false'. Refute it at one input. -/
def binaryOwnWrong : ChangeSpec := { name := "binaryOwn", fn := fun _ => fun
  | [d1, d2, d3] => { results := [.lit (.bool false)], args := [d1, d2, d3] }
  | _ => none }
def BinaryOwnWrongFalsely : Prop := binaryOwnRow.holds Try.pinned (OpenSpec.ofChange binaryOwnWrong)

/-- 'troupelaw05.BinarySlots': WHATEVER THE INPUT: true; the input reads as it did. -/
def binarySlotsSpec : ChangeSpec := { name := "binarySlots", fn := fun _ => fun
  | [d1, d2, d3] => { results := [.lit (.bool true)], args := [d1, d2, d3] }
  | _ => none }
def binarySlotsRow : OpenClaim := { program := "ytbenkgpiddlcfaa", sum := "34278bbd810bc0abfb5ce5cad851d9df84c4c3dd358dbec2d3b8892f49a539b3", func := "troupe/troupelaw05.BinarySlots", spec := "binarySlots", inPlace := ["internal/reflectlite.TypeOf"], unfollowed := true, recurses := true, apart := false }
def BinarySlotsSaid : Prop := binarySlotsRow.holds Try.pinned (OpenSpec.ofChange binarySlotsSpec)

/-- ITS FALSE NEIGHBOUR: 'it returns false'. Refute it at one input. -/
def binarySlotsWrong : ChangeSpec := { name := "binarySlots", fn := fun _ => fun
  | [d1, d2, d3] => { results := [.lit (.bool false)], args := [d1, d2, d3] }
  | _ => none }
def BinarySlotsWrongFalsely : Prop := binarySlotsRow.holds Try.pinned (OpenSpec.ofChange binarySlotsWrong)

/-- 'troupelaw05.BinaryGens': WHATEVER THE INPUT: true; the input reads as it did. -/
def binaryGensSpec : ChangeSpec := { name := "binaryGens", fn := fun _ => fun
  | [d] => { results := [.lit (.bool true)], args := [d] }
  | _ => none }
def binaryGensRow : OpenClaim := { program := "ytbenkgpiddlcfaa", sum := "34278bbd810bc0abfb5ce5cad851d9df84c4c3dd358dbec2d3b8892f49a539b3", func := "troupe/troupelaw05.BinaryGens", spec := "binaryGens", apart := false }
def BinaryGensSaid : Prop := binaryGensRow.holds Try.pinned (OpenSpec.ofChange binaryGensSpec)

/-- ITS FALSE NEIGHBOUR: 'it returns false'. Refute it at one input. -/
def binaryGensWrong : ChangeSpec := { name := "binaryGens", fn := fun _ => fun
  | [d] => { results := [.lit (.bool false)], args := [d] }
  | _ => none }
def BinaryGensWrongFalsely : Prop := binaryGensRow.holds Try.pinned (OpenSpec.ofChange binaryGensWrong)

/-- 'troupelaw05.BinaryRests': WHATEVER THE INPUT: true; the input reads as it did. -/
def binaryRestsSpec : ChangeSpec := { name := "binaryRests", fn := fun _ => fun
  | [d1, d2, d3] => { results := [.lit (.bool true)], args := [d1, d2, d3] }
  | _ => none }
def binaryRestsRow : OpenClaim := { program := "ytbenkgpiddlcfaa", sum := "34278bbd810bc0abfb5ce5cad851d9df84c4c3dd358dbec2d3b8892f49a539b3", func := "troupe/troupelaw05.BinaryRests", spec := "binaryRests", apart := false }
def BinaryRestsSaid : Prop := binaryRestsRow.holds Try.pinned (OpenSpec.ofChange binaryRestsSpec)

/-- ITS FALSE NEIGHBOUR: 'it returns false'. Refute it at one input. -/
def binaryRestsWrong : ChangeSpec := { name := "binaryRests", fn := fun _ => fun
  | [d1, d2, d3] => { results := [.lit (.bool false)], args := [d1, d2, d3] }
  | _ => none }
def BinaryRestsWrongFalsely : Prop := binaryRestsRow.holds Try.pinned (OpenSpec.ofChange binaryRestsWrong)

/-- 'troupelaw05.BinaryApart': WHATEVER THE INPUT: true; the input reads as it did. -/
def binaryApartSpec : ChangeSpec := { name := "binaryApart", fn := fun _ => fun
  | [d1, d2, d3] => { results := [.lit (.bool true)], args := [d1, d2, d3] }
  | _ => none }
def binaryApartRow : OpenClaim := { program := "ytbenkgpiddlcfaa", sum := "34278bbd810bc0abfb5ce5cad851d9df84c4c3dd358dbec2d3b8892f49a539b3", func := "troupe/troupelaw05.BinaryApart", spec := "binaryApart", apart := false }
def BinaryApartSaid : Prop := binaryApartRow.holds Try.pinned (OpenSpec.ofChange binaryApartSpec)

/-- ITS FALSE NEIGHBOUR: 'it returns false'. Refute it at one input. -/
def binaryApartWrong : ChangeSpec := { name := "binaryApart", fn := fun _ => fun
  | [d1, d2, d3] => { results := [.lit (.bool false)], args := [d1, d2, d3] }
  | _ => none }
def BinaryApartWrongFalsely : Prop := binaryApartRow.holds Try.pinned (OpenSpec.ofChange binaryApartWrong)

/- THE SECOND FORM. 'bulk': how many values and letters a reading holds, each counted each time it is reached (what is shared counts as often as it is met; a slice's spare places count too). A statement '..UptoSaid' is the law's where the arguments, and the package variables that the reading takes, are together of bulk at most 1048576: NARROWER than '..Said'. Prove '..Said' where nothing that the law and all that it calls make is longer than what came in: it says more and counts as full. Else prove '..UptoSaid'. A law counts once. -/
mutual
def uptoBulk {H : Type} : DataW H → Nat
  | .lit (.string bytes) => bytes.length + 1
  | .lit _ => 1
  | .nil => 1
  | .ptr d => uptoBulk d + 1
  | .slice elems spare => uptoBulkAll elems + uptoBulkAll spare + 1
  | .agg parts => uptoBulkAll parts + 1
  | .iface _ d => uptoBulk d + 1
  | .map entries => uptoBulkEntries entries + 1
  | .held _ => 1
def uptoBulkAll {H : Type} : List (DataW H) → Nat
  | [] => 0
  | d :: r => uptoBulk d + uptoBulkAll r
def uptoBulkEntries {H : Type} : List (Lit × DataW H) → Nat
  | [] => 0
  | x :: r => uptoBulkEntry x + uptoBulkEntries r
def uptoBulkEntry {H : Type} : Lit × DataW H → Nat
  | (.string bytes, d) => bytes.length + uptoBulk d + 1
  | (_, d) => uptoBulk d + 1
 end
def uptoSmall : (H : Type) → List (DataW H) → Bool := fun _ ds => decide (uptoBulkAll ds ≤ 1048576)
def OpenSpec.upto (s : _root_.Go.ChangeSpec) : _root_.Go.OpenSpec := { _root_.Go.OpenSpec.ofChange s with cond := some uptoSmall }

/-- 'troupelaw05.BinaryPlays', WHERE WHAT IT READS IS OF BULK AT MOST 1048576: true; the input reads as it did. -/
def binaryPlaysUptoRow : OpenClaim := { program := "ytbenkgpiddlcfaa", sum := "34278bbd810bc0abfb5ce5cad851d9df84c4c3dd358dbec2d3b8892f49a539b3", func := "troupe/troupelaw05.BinaryPlays", spec := "binaryPlays", inPlace := ["internal/reflectlite.TypeOf"], unfollowed := true, recurses := true, apart := false, narrowed := true }
def BinaryPlaysUptoSaid : Prop := binaryPlaysUptoRow.holds Try.pinned (OpenSpec.upto binaryPlaysSpec)

/-- 'troupelaw05.BinaryCounts', WHERE WHAT IT READS IS OF BULK AT MOST 1048576: true; the input reads as it did. -/
def binaryCountsUptoRow : OpenClaim := { program := "ytbenkgpiddlcfaa", sum := "34278bbd810bc0abfb5ce5cad851d9df84c4c3dd358dbec2d3b8892f49a539b3", func := "troupe/troupelaw05.BinaryCounts", spec := "binaryCounts", inPlace := ["internal/reflectlite.TypeOf"], unfollowed := true, recurses := true, apart := false, narrowed := true }
def BinaryCountsUptoSaid : Prop := binaryCountsUptoRow.holds Try.pinned (OpenSpec.upto binaryCountsSpec)

/-- 'troupelaw05.BinaryOwn', WHERE WHAT IT READS IS OF BULK AT MOST 1048576: true; the input reads as it did. -/
def binaryOwnUptoRow : OpenClaim := { program := "ytbenkgpiddlcfaa", sum := "34278bbd810bc0abfb5ce5cad851d9df84c4c3dd358dbec2d3b8892f49a539b3", func := "troupe/troupelaw05.BinaryOwn", spec := "binaryOwn", apart := false, narrowed := true }
def BinaryOwnUptoSaid : Prop := binaryOwnUptoRow.holds Try.pinned (OpenSpec.upto binaryOwnSpec)

/-- 'troupelaw05.BinarySlots', WHERE WHAT IT READS IS OF BULK AT MOST 1048576: true; the input reads as it did. -/
def binarySlotsUptoRow : OpenClaim := { program := "ytbenkgpiddlcfaa", sum := "34278bbd810bc0abfb5ce5cad851d9df84c4c3dd358dbec2d3b8892f49a539b3", func := "troupe/troupelaw05.BinarySlots", spec := "binarySlots", inPlace := ["internal/reflectlite.TypeOf"], unfollowed := true, recurses := true, apart := false, narrowed := true }
def BinarySlotsUptoSaid : Prop := binarySlotsUptoRow.holds Try.pinned (OpenSpec.upto binarySlotsSpec)

/-- 'troupelaw05.BinaryGens', WHERE WHAT IT READS IS OF BULK AT MOST 1048576: true; the input reads as it did. -/
def binaryGensUptoRow : OpenClaim := { program := "ytbenkgpiddlcfaa", sum := "34278bbd810bc0abfb5ce5cad851d9df84c4c3dd358dbec2d3b8892f49a539b3", func := "troupe/troupelaw05.BinaryGens", spec := "binaryGens", apart := false, narrowed := true }
def BinaryGensUptoSaid : Prop := binaryGensUptoRow.holds Try.pinned (OpenSpec.upto binaryGensSpec)

/-- 'troupelaw05.BinaryRests', WHERE WHAT IT READS IS OF BULK AT MOST 1048576: true; the input reads as it did. -/
def binaryRestsUptoRow : OpenClaim := { program := "ytbenkgpiddlcfaa", sum := "34278bbd810bc0abfb5ce5cad851d9df84c4c3dd358dbec2d3b8892f49a539b3", func := "troupe/troupelaw05.BinaryRests", spec := "binaryRests", apart := false, narrowed := true }
def BinaryRestsUptoSaid : Prop := binaryRestsUptoRow.holds Try.pinned (OpenSpec.upto binaryRestsSpec)

/-- 'troupelaw05.BinaryApart', WHERE WHAT IT READS IS OF BULK AT MOST 1048576: true; the input reads as it did. -/
def binaryApartUptoRow : OpenClaim := { program := "ytbenkgpiddlcfaa", sum := "34278bbd810bc0abfb5ce5cad851d9df84c4c3dd358dbec2d3b8892f49a539b3", func := "troupe/troupelaw05.BinaryApart", spec := "binaryApart", apart := false, narrowed := true }
def BinaryApartUptoSaid : Prop := binaryApartUptoRow.holds Try.pinned (OpenSpec.upto binaryApartSpec)

end Rows
end Go.Proofs.Ytbenkgpiddlcfaa
