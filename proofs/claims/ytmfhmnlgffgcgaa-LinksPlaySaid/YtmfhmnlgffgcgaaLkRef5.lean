/- The document's own net: Linked, Watchers, Watches. -/
import Derived.Test.YtmfhmnlgffgcgaaLkRef2
import Derived.Test.YtmfhmnlgffgcgaaLkMon
import Derived.Deep.QuietTactic
namespace Go.Proofs.Ytmfhmnlgffgcgaa
open Go.RowKit
set_option linter.unusedVariables false

section
variable {F : Nat → Prop} {w w' : World} {b next : Nat} {v vl vm : Value} {ls : List (Int × Int)} {ms : List Mo} {a x r : Int}
/-- what one has, in the document's own order -/
def nbsD (ls : List (Int × Int)) (a : Int) : List Int := ls.flatMap fun p => (if p.1 = a then [p.2] else []) ++ (if p.2 = a then [p.1] else [])
theorem nbsD_perm (ls : List (Int × Int)) (a : Int) : nbsD ls a = colOf (both ls) a := by
  unfold nbsD colOf both
  induction ls with
  | nil => rfl
  | cons p ls ih =>
    rw [List.flatMap_cons, ih, List.flatMap_cons, List.filter_append, List.map_append]
    congr 1
    by_cases h1 : p.1 = a <;> by_cases h2 : p.2 = a <;> simp [h1, h2]
theorem nbsD_more {i : Nat} {p : Int × Int} (hi : ls[i]? = some p) : nbsD (ls.take (i + 1)) a = nbsD (ls.take i) a ++ ((if p.1 = a then [p.2] else []) ++ (if p.2 = a then [p.1] else [])) := by
  obtain ⟨hj, hjx⟩ := List.getElem?_eq_some_iff.1 hi
  rw [List.take_succ_eq_append_getElem hj, hjx]
  unfold nbsD
  rw [List.flatMap_append, List.flatMap_singleton]
theorem nbsD_len (ls : List (Int × Int)) (a : Int) : (nbsD ls a).length ≤ 2 * ls.length := by
  rw [nbsD_perm, ← both_len]
  unfold colOf
  rw [List.length_map]
  exact List.length_filter_le _ _
/-- a row that is being laid, new since w -/
def NewRow (w : World) (l : List Int) (v : Value) (w' : World) : Prop := Lw w' v l ∧ (∀ g, v.ownBlock = some g → w.heap.size ≤ g) ∧ Kp (fun _ => False) w w'
theorem NewRow.push {l : List Int} (h : NewRow w l v w') (hl : l.length + 1 ≤ 17592186044416) (y : Int) : ∃ g cap w2, (Builtin.append_ #[32, 32] 32 #[v, .slice (some ⟨w'.heap.size, 0, none⟩) 1 1]).run Try.prog (w'.alloc (.cells #[.int .i64 y] 2)) = .ok (.slice (some ⟨g, 0, none⟩) (l.length + 1) cap) w2 ∧ NewRow w (l ++ [y]) (.slice (some ⟨g, 0, none⟩) (l.length + 1) cap) w2 := by
  obtain ⟨g, cap, w2, h1, h2, h3, h4, h5⟩ := longs_push h.1 hl y
  have hz := h.2.2.size
  refine ⟨g, cap, w2, h1, h2, fun q hq => ?_, h.2.2.trans (h3.mono fun q hq e => .inr ⟨h.2.1 q e, hq⟩)⟩
  have : g = q := by injection hq
  subst this
  exact h4.elim (h.2.1 g) (fun e => by omega)
end
end Go.Proofs.Ytmfhmnlgffgcgaa
