/- A script of calls of a net, that came in. -/
import Derived.Test.YtmfhmnlgffgcgaaFrame
import Derived.OpenShut
import Derived.Deep.Slices
import Derived.Deep.Fields
import Derived.ChangeSame
import Derived.SizedLaws
namespace Go.Proofs.Ytmfhmnlgffgcgaa
open Go.ChangeShapes Go.WideShapes Go.Deep Go.RowKit

/-- one call of a script: its four cells from (b, off) on -/
def NopW (w : World) (b off : Nat) : Prop :=
  ∃ k n id x : Int, (Lit.int .i64 k).wf = true ∧ (Lit.int .i64 n).wf = true ∧ (Lit.int .i64 id).wf = true ∧ (Lit.int .i64 x).wf = true ∧
    w.cell? ⟨b, off, none⟩ = some (.int .i64 k) ∧ w.cell? ⟨b, off + 1, none⟩ = some (.int .i64 n) ∧ w.cell? ⟨b, off + 2, none⟩ = some (.int .i64 id) ∧ w.cell? ⟨b, off + 3, none⟩ = some (.int .i64 x)
/-- a slice of calls -/
def NopsIn (w : World) (a : Option Addr) (len cap : Nat) : Prop :=
  len ≤ cap ∧ cap ≤ maxLen ∧ len ≤ 4398046511104 ∧ ∀ i, i < len → ∃ b off, a = some ⟨b, off, none⟩ ∧ b < w.heap.size ∧ NopW w b (off + i * 4)

section
variable {H : Type} {enc : TypeId × Value → H} {P : Program} {w : World} {base : Nat} {spare : Nat → Bool} {held : Bool}
theorem opened_nops {t e : TypeId} {f0 f1 f2 f3 : Field} {fuel : Nat} {cs : List Value} {x : DataW H × List MemPlace} (ht : P.underlying t = some (.slice e)) (he : P.underlying e = some (.struct #[f0, f1, f2, f3]))
    (hone : oneCellFields P #[f0, f1, f2, f3] = true) (hC : P.cellsOf e = 4)
    (u0 : P.underlying f0.type = some (.int .i64)) (u1 : P.underlying f1.type = some (.int .i64)) (u2 : P.underlying f2.type = some (.int .i64)) (u3 : P.underlying f3.type = some (.int .i64))
    (hbe : P.bytesOf e = 32) (hs : ∀ n ∈ x.1.weights P t, n ≤ reachBytes)
    (h : DataW.trod enc P w base spare held fuel t cs = some x) : ∃ po len cap, cs = [.slice po len cap] ∧ NopsIn w po len cap := by
  rcases open_slice ht h with ⟨h0, _⟩ | ⟨a, len, cap, m, n, D, Pl, hcs, hb, hl, hm, hmm, hx, hi⟩
  · exact ⟨none, 0, 0, h0, Nat.le_refl _, Nat.zero_le _, by omega, fun i hi => by omega⟩
  · subst hx
    have hn0 := hs ((((List.range len).map D).length + ((List.range (m - len)).map fun j => D (len + j)).length) * P.bytesOf e) (by simp [DataW.weights, ht])
    rw [hbe] at hn0
    simp only [List.length_map, List.length_range] at hn0
    unfold reachBytes at hn0
    refine ⟨some a, len, cap, hcs, hl, hm, by omega, fun i hil => ?_⟩
    have hlm : len ≤ m := by rw [hmm]; split <;> omega
    obtain ⟨b, off, spot⟩ := a
    have hspot : spot = none := by
      obtain ⟨cs', hc, ht'⟩ := hi 0 (by omega)
      rw [hC] at hc
      obtain ⟨_, hcl, hat⟩ := World.cells?_some hc
      have h0 := hat 0 (by omega)
      rw [List.getElem?_eq_getElem (show 0 < cs'.length by omega)] at h0
      simpa [Addr.add] using World.cell?_spot h0
    subst hspot
    obtain ⟨cs', hc, ht'⟩ := hi i (by omega)
    rw [hC] at hc
    obtain ⟨ys, n', _, hagg, _, hyl, hf⟩ := DataW.trod_struct he ht'
    have hyl' : ys.length = 4 := hyl
    obtain ⟨_, hcl, hat⟩ := World.cells?_some hc
    have hat' : ∀ j, j < 4 → w.cell? ⟨b, off + i * 4 + j, none⟩ = cs'[j]? := fun j hj => by
      rw [← hat j hj, add_plain, add_plain]
    have r0 := hf 0 f0 rfl
    have r1 := hf 1 f1 rfl
    have r2 := hf 2 f2 rfl
    have r3 := hf 3 f3 rfl
    rw [(hone_of hone 0 f0 rfl).1, (hone_of hone 0 f0 rfl).2, List.getElem?_eq_getElem (by omega)] at r0
    rw [(hone_of hone 1 f1 rfl).1, (hone_of hone 1 f1 rfl).2, List.getElem?_eq_getElem (by omega)] at r1
    rw [(hone_of hone 2 f2 rfl).1, (hone_of hone 2 f2 rfl).2, List.getElem?_eq_getElem (by omega)] at r2
    rw [(hone_of hone 3 f3 rfl).1, (hone_of hone 3 f3 rfl).2, List.getElem?_eq_getElem (by omega)] at r3
    match cs', hcl with
    | [c0, c1, c2, c3], _ =>
      obtain ⟨k, e0, _, w0⟩ := DataW.trod_int u0 r0
      obtain ⟨nn, e1, _, w1⟩ := DataW.trod_int u1 r1
      obtain ⟨id, e2, _, w2⟩ := DataW.trod_int u2 r2
      obtain ⟨xx, e3, _, w3⟩ := DataW.trod_int u3 r3
      have e0' : c0 = .int .i64 k := by injection e0
      have e1' : c1 = .int .i64 nn := by injection e1
      have e2' : c2 = .int .i64 id := by injection e2
      have e3' : c3 = .int .i64 xx := by injection e3
      subst e0' e1' e2' e3'
      have hc0 : w.cell? ⟨b, off + i * 4, none⟩ = some (.int .i64 k) := hat' 0 (by omega)
      exact ⟨b, off, rfl, World.block_lt_of_cell? _ _ hc0, k, nn, id, xx, w0, w1, w2, w3, hc0, hat' 1 (by omega), hat' 2 (by omega), hat' 3 (by omega)⟩
end
end Go.Proofs.Ytmfhmnlgffgcgaa
