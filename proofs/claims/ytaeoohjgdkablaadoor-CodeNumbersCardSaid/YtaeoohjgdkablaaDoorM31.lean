/- The type that errors.As asks for is laid. The one variable that is laid: the handle of the type error; a world that has it. -/
import Derived.Test.YtaeoohjgdkablaaDoorProg
import Derived.Test.YtaeoohjgdkablaaDoorRows
import Derived.Test.YtaeoohjgdkablaaDoorM01
import Derived.ChangeSame
import Derived.ChangeVars
import Derived.JoinedOf
import Derived.RowKit
import Derived.RowKitTokens
import Derived.LaidLaws
import Derived.LaidHandle
import Derived.Handed
import Derived.Stop.Joined
/- The type that errors.As asks for is laid. -/
namespace Go.Proofs.YtaeoohjgdkablaaDoor
open Go.RowKit

/-- the type that errors.As asks for is laid -/
def Laid0 (w : World) : Prop := w.cell? ⟨0, 0, none⟩ = some (.iface 115 (.agg #[.pointer (some ⟨1, 35, none⟩)]))
end Go.Proofs.YtaeoohjgdkablaaDoor

/- The one variable that is laid: the handle of the type error; a world that has it. -/
namespace Go.Proofs.YtaeoohjgdkablaaDoor
open Go.ChangeShapes Go.WideShapes Go.RowKit

def laidList : List (String × DataW Unit) := [("errors.errorType", Rows.laid_errors_errorType)]
theorem Tryd.et : Tryd.prog.globalNamed "errors.errorType" = some 0 := by kernel_rfl
theorem Tryd.rt : (Tryd.prog.cutTypes.find? (·.1 == "internal/reflectlite.rtype")).map (·.2) = some 115 := by kernel_rfl
theorem Tryd.oneRow : ((List.range Tryd.prog.types.size).filter fun t => Tryd.prog.rowNamed t [101, 114, 114, 111, 114]) = [35] := by kernel_rfl

/-- what the condition gives a walk: the variable's one cell -/
theorem laid0_of {W : World} (h : laidMetH Tryd.prog laidList W) : Laid0 W := by
  have h' : laidMet Tryd.prog [] W ∧ handlesMet Tryd.prog laidList W := h
  obtain ⟨name, u, ty, e1, e2, e3, e4, e5⟩ := h'.2 _ (List.mem_singleton.2 rfl)
  have en : name = [101, 114, 114, 111, 114] := (Option.some.inj e1).symm
  subst en
  obtain rfl := Option.some.inj (Tryd.rt.symm.trans e2)
  have hm : ty ∈ (List.range Tryd.prog.types.size).filter fun t => Tryd.prog.rowNamed t [101, 114, 114, 111, 114] := List.mem_filter.2 ⟨List.mem_range.2 e3, e4⟩
  rw [Tryd.oneRow] at hm
  obtain rfl := List.mem_singleton.1 hm
  have hh : typeHandle Tryd.prog 35 = .pointer (some ⟨1, 35, none⟩) := by kernel_rfl
  rw [hh] at e5
  unfold Laid0
  simpa using World.var?_cell Tryd.et e5 0

/-- a variable's one cell is laid -/
def layCell (v : Value) : Obj → Obj
  | .cells _ t frozen => .cells #[v] t frozen
  | o => o
/-- a world that meets the condition: the variable's cell is laid -/
theorem laidWorld_met (os : Os) (args : Array Value) : laidMetH Tryd.prog laidList (({ World.holding Tryd.prog os ⟨#[], #[], []⟩ with heap := (World.holding Tryd.prog os ⟨#[], #[], []⟩).heap.modify 0 (layCell (.iface 115 (.agg #[.pointer (some ⟨1, 35, none⟩)]))) } : World).forCall (fun _ _ => 0) ⟨#[], args, []⟩).memory :=
  laidMetH_of_parts (laidMet_nil _ _) (by kernel_rfl)
end Go.Proofs.YtaeoohjgdkablaaDoor
