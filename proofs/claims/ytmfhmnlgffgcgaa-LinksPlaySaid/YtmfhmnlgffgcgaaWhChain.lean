/- A wheel's slots in memory: chains of timers. -/
import Derived.Test.YtmfhmnlgffgcgaaWhPure
import Derived.Test.YtmfhmnlgffgcgaaFrame
import Derived.Test.YtmfhmnlgffgcgaaWide
import Derived.Test.YtmfhmnlgffgcgaaProg
import Derived.WalkKit
import Derived.Lib.Hide
import Derived.RegionTactic
import Derived.Deep.LoopGhost
import Derived.BigQuiet
import Derived.Deep.QuietTactic
import Derived.StillTailTactics
namespace Go.Proofs.Ytmfhmnlgffgcgaa
open Go.RowKit

/-- a timer, and the block in which it lies -/
structure Tm where
  id : Nat
  wht : Int
  due : Nat
  blk : Nat
def tptr (p : Option Nat) : Value := .pointer (p.map fun g => ⟨g, 0, none⟩)
def tcells (t : Tm) (p q : Option Nat) : Array Value := #[.int .i64 (t.id : Nat), .int .i64 t.wht, .int .i64 (t.due : Nat), tptr p, tptr q]
def hdOr (l : List Tm) (q : Option Nat) : Option Nat := match l with | [] => q | t :: _ => some t.blk
def lsOr (p : Option Nat) (l : List Tm) : Option Nat := match l with | [] => p | t :: l => lsOr (some t.blk) l
section
variable {w w' : World} {p q : Option Nat} {l l1 l2 : List Tm} {t : Tm}
theorem hdOr_append (l1 l2 : List Tm) (q : Option Nat) : hdOr (l1 ++ l2) q = hdOr l1 (hdOr l2 q) := by cases l1 <;> rfl
theorem lsOr_snoc (p : Option Nat) (l : List Tm) (t : Tm) : lsOr p (l ++ [t]) = some t.blk := by
  induction l generalizing p with
  | nil => rfl
  | cons a l ih => exact ih _
theorem wh_heap_set {w : World} {g i : Nat} {cur : Array Value} {t : TypeId} {f : Nat × Nat} (h0 : w.heap[g]? = some (.cells cur t f)) (x : Value) : (w.setCell ⟨g, i, none⟩ x).heap[g]? = some (.cells (cur.setIfInBounds i x) t f) := by
  rw [setCell_eq_setRow w g i cur t f x h0, setRow_heap w g cur _ t f h0]
theorem heap_other {w : World} {g k i : Nat} {v : Value} (h : k ≠ g) : (w.setCell ⟨g, i, none⟩ v).heap[k]? = w.heap[k]? := Below.heap_setCell _ _ _ _ h
end

section
variable {F G : Nat → Prop} {w w' : World} {b : Nat} {hv : List Value} {ch : Nat → List Tm}
theorem kp_drewN {F : Nat → Prop} {w w' : World} (h : Kp F w w') (k : Nat) : Kp F w (w'.drewN k) := ⟨h.os, h.tape, h.output, h.size, h.block⟩
end
end Go.Proofs.Ytmfhmnlgffgcgaa
