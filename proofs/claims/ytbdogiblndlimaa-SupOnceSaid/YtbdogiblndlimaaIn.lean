/- Slices of integers and of strings that came in, read element by element. -/
import Derived.Test.YtbdogiblndlimaaFrame
import Derived.OpenShut
namespace Go.Proofs.Ytbdogiblndlimaa
open Go.RowKit

/-- a slice of integers that came in: what its elements read as -/
def InRow (w : World) (a : Option Addr) (len : Nat) (f : Nat → Int) : Prop :=
  len ≤ 9223372036854775807 ∧ ∀ k, k < len → ∃ b off, a = some ⟨b, off, none⟩ ∧ b < w.heap.size ∧ w.cell? ⟨b, off + k, none⟩ = some (.int .i64 (f k)) ∧ -9223372036854775808 ≤ f k ∧ f k ≤ 9223372036854775807

theorem inRow_of {w : World} {a : Option Addr} {len cap : Nat} {zs : List Int}
    (h : (a = none ∧ len = 0 ∧ cap = 0 ∧ zs = []) ∨ ∃ x, a = some x ∧ len ≤ cap ∧ cap ≤ maxLen ∧ zs.length = cap ∧ (∀ i, i < zs.length → w.cell? (x.add i) = some (.int .i64 (zs.getD i 0))) ∧ ∀ n ∈ zs, (Lit.int .i64 n).wf = true) :
    InRow w a len (fun k => zs.getD k 0) := by
  rcases h with ⟨_, h, _⟩ | ⟨x, rfl, h1, h2, h3, h4, h5⟩
  · exact ⟨by omega, fun k hk => by omega⟩
  · refine ⟨by unfold maxLen at h2; omega, fun k hk => ?_⟩
    obtain ⟨b, off, rfl, hc⟩ := ints_at h4 (by omega)
    have hk' := hc k (by omega)
    refine ⟨b, off, rfl, World.block_lt_of_cell? _ _ hk', hk', ?_⟩
    have hm : zs.getD k 0 ∈ zs := by
      have : k < zs.length := by omega
      rw [List.getD_eq_getElem?_getD, List.getElem?_eq_getElem this]
      exact List.getElem_mem this
    exact bounds_i64 (h5 _ hm)

/-- the element is still there, behind whatever made new memory alone -/
theorem InRow.at' {w wr : World} {a : Option Addr} {len : Nat} {f : Nat → Int} (h : InRow w a len f) (hk : Kp (fun _ => False) w wr) (k : Nat) (hlt : k < len) :
    ∃ b off, a = some ⟨b, off, none⟩ ∧ wr.cell? ⟨b, off + k, none⟩ = some (.int .i64 (f k)) ∧ -9223372036854775808 ≤ f k ∧ f k ≤ 9223372036854775807 := by
  obtain ⟨b, off, h1, h2, h3, h4⟩ := h.2 k hlt
  exact ⟨b, off, h1, (hk.cell (p := ⟨b, off + k, none⟩) h2 (fun e => e)).trans h3, h4⟩

/-- a slice of strings that came in -/
def StrIn (w : World) (a : Option Addr) (len : Nat) (f : Nat → ByteArray) : Prop :=
  len ≤ 9223372036854775807 ∧ ∀ k, k < len → ∃ b off, a = some ⟨b, off, none⟩ ∧ b < w.heap.size ∧ w.cell? ⟨b, off + k, none⟩ = some (.string (f k)) ∧ (f k).size ≤ maxLen

theorem strIn_of {w : World} {x : Addr} {len : Nat} {f : Nat → ByteArray} (hm : len ≤ maxLen) (h : ∀ k, k < len → w.cell? (x.add k) = some (.string (f k)) ∧ (f k).size ≤ maxLen) : StrIn w (some x) len f := by
  refine ⟨by unfold maxLen at hm; omega, fun k hk => ?_⟩
  obtain ⟨b, off, spot⟩ := x
  have hspot : spot = none := by simpa [Addr.add] using World.cell?_spot (h 0 (by omega)).1
  subst hspot
  have hc : w.cell? ⟨b, off + k, none⟩ = some (.string (f k)) := by rw [← Go.WideShapes.add_plain]; exact (h k hk).1
  exact ⟨b, off, rfl, World.block_lt_of_cell? _ _ hc, hc, (h k hk).2⟩

theorem StrIn.at' {w wr : World} {a : Option Addr} {len : Nat} {f : Nat → ByteArray} (h : StrIn w a len f) (hk : Kp (fun _ => False) w wr) (k : Nat) (hlt : k < len) :
    ∃ b off, a = some ⟨b, off, none⟩ ∧ wr.cell? ⟨b, off + k, none⟩ = some (.string (f k)) ∧ (f k).size ≤ maxLen := by
  obtain ⟨b, off, h1, h2, h3, h4⟩ := h.2 k hlt
  exact ⟨b, off, h1, (hk.cell (p := ⟨b, off + k, none⟩) h2 (fun e => e)).trans h3, h4⟩
end Go.Proofs.Ytbdogiblndlimaa
