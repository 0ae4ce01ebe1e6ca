/-
  No cell of these rows narrows 'for every input' (looked for: loops, veiled, ifaces, maps, wideKeys, modest, calm, conditions, laid).
  DERIVED. THE GIVEN ROWS OF THIS SEAT. 4 by the template 'for every input the law returns true; each argument reads behind the call as it read before'; 0 by the template 'total and deterministic' (their statements: YtmfhmnlgffgcgaaTotals.lean).
  GIVEN WITH THE SEED: the statements are not yours to turn. If you find one false, say at which input.
  Laid BY PROGRAM, IN A SANDBOX (cutbox-rows.mjs): the forced cells as the released guide's own fill.sh prints them over the translation 2ce6167c63d18535… (all of the seat's roots in one cut). By AI agents, Wed Nov 11 2026. No macro, syntax, notation, axiom, sorry.
-/
import Derived.Test.YtmfhmnlgffgcgaaChecked
import GoSem.Claim
import GoSem.ClaimJoined
import GoSem.ClaimMapViews
import Derived.JoinedTies
import Derived.KernelRfl
namespace Go.Proofs.Ytmfhmnlgffgcgaa
/- THE CELL 'sum', in the pinned program and in every row, IS THE sha256 OF THE DUMP (.gsa) THAT YtmfhmnlgffgcgaaProg.lean LOADS. Nothing in Lean hashes anything: it is a label: what it is worth is what the hold of that sum in a sandbox is worth. -/
noncomputable def Try.pinned : Pinned := { name := "ytmfhmnlgffgcgaa", sum := "2ce6167c63d1853528e86768b4f858d31020efa007f5b18d7d1eb307ac4ee4fc", checked := Try.checked }
namespace Rows
def none {H : Type} : Left H := { results := [], args := [] }

/-- 'troupelaw15.LinksRefs': WHATEVER THE INPUT: true; the input reads as it did. -/
def linksRefsSpec : ChangeSpec := { name := "linksRefs", fn := fun _ => fun
  | [d1, d2] => { results := [.lit (.bool true)], args := [d1, d2] }
  | _ => none }
def linksRefsRow : OpenClaim := { program := "ytmfhmnlgffgcgaa", sum := "2ce6167c63d1853528e86768b4f858d31020efa007f5b18d7d1eb307ac4ee4fc", func := "troupe/troupelaw15.LinksRefs", spec := "linksRefs", recurses := true, plainKeys := false, apart := false }
def LinksRefsSaid : Prop := linksRefsRow.holds Try.pinned (OpenSpec.ofChange linksRefsSpec)

/-- ITS FALSE NEIGHBOUR: 'it returns false'. Refute it at one input. -/
def linksRefsWrong : ChangeSpec := { name := "linksRefs", fn := fun _ => fun
  | [d1, d2] => { results := [.lit (.bool false)], args := [d1, d2] }
  | _ => none }
def LinksRefsWrongFalsely : Prop := linksRefsRow.holds Try.pinned (OpenSpec.ofChange linksRefsWrong)

/-- 'troupelaw15.LinksStars': WHATEVER THE INPUT: true; the input reads as it did. -/
def linksStarsSpec : ChangeSpec := { name := "linksStars", fn := fun _ => fun
  | [d1, d2] => { results := [.lit (.bool true)], args := [d1, d2] }
  | _ => none }
def linksStarsRow : OpenClaim := { program := "ytmfhmnlgffgcgaa", sum := "2ce6167c63d1853528e86768b4f858d31020efa007f5b18d7d1eb307ac4ee4fc", func := "troupe/troupelaw15.LinksStars", spec := "linksStars", recurses := true, plainKeys := false, apart := false }
def LinksStarsSaid : Prop := linksStarsRow.holds Try.pinned (OpenSpec.ofChange linksStarsSpec)

/-- ITS FALSE NEIGHBOUR: 'it returns false'. Refute it at one input. -/
def linksStarsWrong : ChangeSpec := { name := "linksStars", fn := fun _ => fun
  | [d1, d2] => { results := [.lit (.bool false)], args := [d1, d2] }
  | _ => none }
def LinksStarsWrongFalsely : Prop := linksStarsRow.holds Try.pinned (OpenSpec.ofChange linksStarsWrong)

/-- 'troupelaw15.LinksSides': WHATEVER THE INPUT: true; the input reads as it did. -/
def linksSidesSpec : ChangeSpec := { name := "linksSides", fn := fun _ => fun
  | [d1, d2, d3] => { results := [.lit (.bool true)], args := [d1, d2, d3] }
  | _ => none }
def linksSidesRow : OpenClaim := { program := "ytmfhmnlgffgcgaa", sum := "2ce6167c63d1853528e86768b4f858d31020efa007f5b18d7d1eb307ac4ee4fc", func := "troupe/troupelaw15.LinksSides", spec := "linksSides", recurses := true, plainKeys := false, apart := false }
def LinksSidesSaid : Prop := linksSidesRow.holds Try.pinned (OpenSpec.ofChange linksSidesSpec)

/-- ITS FALSE NEIGHBOUR: 'it returns false'. Refute it at one input. -/
def linksSidesWrong : ChangeSpec := { name := "linksSides", fn := fun _ => fun
  | [d1, d2, d3] => { results := [.lit (.bool false)], args := [d1, d2, d3] }
  | _ => none }
def LinksSidesWrongFalsely : Prop := linksSidesRow.holds Try.pinned (OpenSpec.ofChange linksSidesWrong)

/-- 'troupelaw15.LinksPlay': WHATEVER THE INPUT: true; the input reads as it did. -/
def linksPlaySpec : ChangeSpec := { name := "linksPlay", fn := fun _ => fun
  | [d] => { results := [.lit (.bool true)], args := [d] }
  | _ => none }
def linksPlayRow : OpenClaim := { program := "ytmfhmnlgffgcgaa", sum := "2ce6167c63d1853528e86768b4f858d31020efa007f5b18d7d1eb307ac4ee4fc", func := "troupe/troupelaw15.LinksPlay", spec := "linksPlay", recurses := true, plainKeys := false, apart := false }
def LinksPlaySaid : Prop := linksPlayRow.holds Try.pinned (OpenSpec.ofChange linksPlaySpec)

/-- ITS FALSE NEIGHBOUR: 'it returns false'. Refute it at one input. -/
def linksPlayWrong : ChangeSpec := { name := "linksPlay", fn := fun _ => fun
  | [d] => { results := [.lit (.bool false)], args := [d] }
  | _ => none }
def LinksPlayWrongFalsely : Prop := linksPlayRow.holds Try.pinned (OpenSpec.ofChange linksPlayWrong)

/- THE SECOND FORM. 'bulk': how many values and letters a reading holds, each counted each time it is reached (what is shared counts as often as it is met; a slice's spare places count too). A statement '..UptoSaid' is the law's where the arguments, and the package variables that the reading takes, are together of bulk at most 1048576: NARROWER than '..Said'. Prove '..Said' where nothing that the law and all that it calls make is longer than what came in: it says more and counts as full. Else prove '..UptoSaid'. A law counts once. -/
mutual
def uptoBulk {H : Type} : DataW H → Nat
  | .lit (.string bytes) => bytes.length + 1
  | .lit _ => 1
  | .nil => 1
  | .ptr d => uptoBulk d + 1
  | .slice elems spare => uptoBulkAll elems + uptoBulkAll spare + 1
  | .agg parts => uptoBulkAll parts + 1
  | .iface _ d => uptoBulk d + 1
  | .map entries => uptoBulkEntries entries + 1
  | .held _ => 1
def uptoBulkAll {H : Type} : List (DataW H) → Nat
  | [] => 0
  | d :: r => uptoBulk d + uptoBulkAll r
def uptoBulkEntries {H : Type} : List (Lit × DataW H) → Nat
  | [] => 0
  | x :: r => uptoBulkEntry x + uptoBulkEntries r
def uptoBulkEntry {H : Type} : Lit × DataW H → Nat
  | (.string bytes, d) => bytes.length + uptoBulk d + 1
  | (_, d) => uptoBulk d + 1
 end
def uptoSmall : (H : Type) → List (DataW H) → Bool := fun _ ds => decide (uptoBulkAll ds ≤ 1048576)
def OpenSpec.upto (s : _root_.Go.ChangeSpec) : _root_.Go.OpenSpec := { _root_.Go.OpenSpec.ofChange s with cond := some uptoSmall }

/-- 'troupelaw15.LinksRefs', WHERE WHAT IT READS IS OF BULK AT MOST 1048576: true; the input reads as it did. -/
def linksRefsUptoRow : OpenClaim := { program := "ytmfhmnlgffgcgaa", sum := "2ce6167c63d1853528e86768b4f858d31020efa007f5b18d7d1eb307ac4ee4fc", func := "troupe/troupelaw15.LinksRefs", spec := "linksRefs", recurses := true, plainKeys := false, apart := false, narrowed := true }
def LinksRefsUptoSaid : Prop := linksRefsUptoRow.holds Try.pinned (OpenSpec.upto linksRefsSpec)

/-- 'troupelaw15.LinksStars', WHERE WHAT IT READS IS OF BULK AT MOST 1048576: true; the input reads as it did. -/
def linksStarsUptoRow : OpenClaim := { program := "ytmfhmnlgffgcgaa", sum := "2ce6167c63d1853528e86768b4f858d31020efa007f5b18d7d1eb307ac4ee4fc", func := "troupe/troupelaw15.LinksStars", spec := "linksStars", recurses := true, plainKeys := false, apart := false, narrowed := true }
def LinksStarsUptoSaid : Prop := linksStarsUptoRow.holds Try.pinned (OpenSpec.upto linksStarsSpec)

/-- 'troupelaw15.LinksSides', WHERE WHAT IT READS IS OF BULK AT MOST 1048576: true; the input reads as it did. -/
def linksSidesUptoRow : OpenClaim := { program := "ytmfhmnlgffgcgaa", sum := "2ce6167c63d1853528e86768b4f858d31020efa007f5b18d7d1eb307ac4ee4fc", func := "troupe/troupelaw15.LinksSides", spec := "linksSides", recurses := true, plainKeys := false, apart := false, narrowed := true }
def LinksSidesUptoSaid : Prop := linksSidesUptoRow.holds Try.pinned (OpenSpec.upto linksSidesSpec)

/-- 'troupelaw15.LinksPlay', WHERE WHAT IT READS IS OF BULK AT MOST 1048576: true; the input reads as it did. -/
def linksPlayUptoRow : OpenClaim := { program := "ytmfhmnlgffgcgaa", sum := "2ce6167c63d1853528e86768b4f858d31020efa007f5b18d7d1eb307ac4ee4fc", func := "troupe/troupelaw15.LinksPlay", spec := "linksPlay", recurses := true, plainKeys := false, apart := false, narrowed := true }
def LinksPlayUptoSaid : Prop := linksPlayUptoRow.holds Try.pinned (OpenSpec.upto linksPlaySpec)

end Rows
end Go.Proofs.Ytmfhmnlgffgcgaa
