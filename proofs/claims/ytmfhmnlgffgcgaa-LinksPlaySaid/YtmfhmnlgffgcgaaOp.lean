/- fault.At; tree.Right of a small number; a new table of atoms. -/
import Derived.Test.YtmfhmnlgffgcgaaXs
import Derived.Test.YtmfhmnlgffgcgaaEBad
import Derived.Test.YtmfhmnlgffgcgaaBits
import Derived.LoopN
import Derived.RegionTactic
import Derived.RegionCalls
import Derived.BigQuiet
import Derived.Deep.QuietTactic
namespace Go.Proofs.Ytmfhmnlgffgcgaa
open Go.RowKit

/-- a term of a number -/
def intT (n : Int) : Value := .agg #[.int .i64 1, .int .i64 n, .string ByteArray.empty, .slice none 0 0, .slice none 0 0, .slice none 0 0]

theorem heap_set_same {w : World} {b i : Nat} {cs : Array Value} {T : TypeId} {fr : Nat × Nat} (hb : w.heap[b]? = some (.cells cs T fr)) (v : Value) :
    (w.setCell ⟨b, i, none⟩ v).heap[b]? = some (.cells (cs.setIfInBounds i v) T fr) := by
  simp [World.setCell, Array.getElem?_modify, hb]

end Go.Proofs.Ytmfhmnlgffgcgaa
