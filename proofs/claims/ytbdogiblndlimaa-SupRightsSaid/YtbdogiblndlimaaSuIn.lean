/- A spec, by value, that came in. -/
import Derived.Test.YtbdogiblndlimaaSuNew
import Derived.Test.YtbdogiblndlimaaFrame
import Derived.OpenShut
import Derived.Deep.Slices
import Derived.Deep.Fields
import Derived.ChangeSame
import Derived.SizedLaws
namespace Go.Proofs.Ytbdogiblndlimaa
open Go.ChangeShapes Go.WideShapes Go.Deep Go.RowKit
set_option linter.unusedVariables false

theorem choose_ch {n : Nat} {p : Nat → Ch → Prop} (h : ∀ i, i < n → ∃ t, p i t) : ∃ l : List Ch, l.length = n ∧ ∀ (i : Nat) (t : Ch), l[i]? = some t → p i t := by
  refine ⟨(List.range n).map fun i => if h' : i < n then Classical.choose (h i h') else (ByteArray.empty, 0, 0), by simp, fun i t hi => ?_⟩
  rw [List.getElem?_map] at hi
  obtain ⟨j, hj, e⟩ := Option.map_eq_some_iff.1 hi
  obtain ⟨hlt, rfl⟩ := List.getElem?_eq_some_iff.1 hj
  simp at hlt e
  rw [dif_pos hlt] at e
  subst e
  exact Classical.choose_spec (h i hlt)
/-- a spec that came in: its numbers, and its children as they can be read -/
structure SpIn (w : World) (s : Sp) (v : Value) (cs : List Ch) : Prop where
  sg : I64i s.sg
  m : I64i s.m
  t : I64i s.t
  row : ChR w v cs
  len : cs.length ≤ 4398046511104
section
variable {H : Type} {enc : TypeId × Value → H} {P : Program} {w : World} {base : Nat} {spare : Nat → Bool} {held : Bool}
theorem opened_children {t e : TypeId} {f0 f1 f2 : Field} {fuel : Nat} {cs : List Value} {x : DataW H × List MemPlace} (ht : P.underlying t = some (.slice e)) (he : P.underlying e = some (.struct #[f0, f1, f2]))
    (hone : oneCellFields P #[f0, f1, f2] = true) (hC : P.cellsOf e = 3)
    (u0 : P.underlying f0.type = some .string) (u1 : P.underlying f1.type = some (.int .i64)) (u2 : P.underlying f2.type = some (.int .i64)) (hbe : P.bytesOf e = 32) (hs : ∀ n ∈ x.1.weights P t, n ≤ reachBytes)
    (h : DataW.trod enc P w base spare held fuel t cs = some x) : ∃ v l, cs = [v] ∧ ChR w v l ∧ l.length ≤ 4398046511104 := by
  rcases open_slice ht h with ⟨h0, _⟩ | ⟨a, len, cap, m, n, D, Pl, hcs, hb, hl, hm, hmm, hx, hi⟩
  · exact ⟨_, [], h0, ⟨none, 0, rfl, Nat.le_refl _, by omega, fun i c hc => by simp at hc⟩, by simp⟩
  · subst hx
    have hn0 := hs ((((List.range len).map D).length + ((List.range (m - len)).map fun j => D (len + j)).length) * P.bytesOf e) (by simp [DataW.weights, ht])
    rw [hbe] at hn0
    simp only [List.length_map, List.length_range] at hn0
    unfold reachBytes at hn0
    have hlm : len ≤ m := by rw [hmm]; split <;> omega
    have hel : ∀ i, i < len → ∃ c : Ch, ∃ b off, a = ⟨b, off, none⟩ ∧ w.cell? ⟨b, off + i * 3, none⟩ = some (.string c.1) ∧ w.cell? ⟨b, off + i * 3 + 1, none⟩ = some (.int .i64 c.2.1) ∧ w.cell? ⟨b, off + i * 3 + 2, none⟩ = some (.int .i64 c.2.2) ∧ c.1.size ≤ maxLen ∧
        (-9223372036854775808 ≤ c.2.1 ∧ c.2.1 ≤ 9223372036854775807) ∧ (-9223372036854775808 ≤ c.2.2 ∧ c.2.2 ≤ 9223372036854775807) := by
      intro i hil
      obtain ⟨b, off, spot⟩ := a
      have hspot : spot = none := by
        obtain ⟨cs', hc, ht'⟩ := hi 0 (by omega)
        rw [hC] at hc
        obtain ⟨_, hcl, hat⟩ := World.cells?_some hc
        have h0 := hat 0 (by omega)
        rw [List.getElem?_eq_getElem (show 0 < cs'.length by omega)] at h0
        simpa [Addr.add] using World.cell?_spot h0
      subst hspot
      obtain ⟨cs', hc, ht'⟩ := hi i (by omega)
      rw [hC] at hc
      obtain ⟨ys, n', _, hagg, _, hyl, hf⟩ := DataW.trod_struct he ht'
      have hyl' : ys.length = 3 := hyl
      obtain ⟨_, hcl, hat⟩ := World.cells?_some hc
      have hat' : ∀ j, j < 3 → w.cell? ⟨b, off + i * 3 + j, none⟩ = cs'[j]? := fun j hj => by
        rw [← hat j hj, add_plain, add_plain]
      have r0 := hf 0 f0 rfl
      have r1 := hf 1 f1 rfl
      have r2 := hf 2 f2 rfl
      rw [(hone_of hone 0 f0 rfl).1, (hone_of hone 0 f0 rfl).2, List.getElem?_eq_getElem (by omega)] at r0
      rw [(hone_of hone 1 f1 rfl).1, (hone_of hone 1 f1 rfl).2, List.getElem?_eq_getElem (by omega)] at r1
      rw [(hone_of hone 2 f2 rfl).1, (hone_of hone 2 f2 rfl).2, List.getElem?_eq_getElem (by omega)] at r2
      match cs', hcl with
      | [c0, c1, c2], _ =>
        obtain ⟨s, e0, _, w0⟩ := DataW.trod_string u0 r0
        obtain ⟨k, e1, _, w1⟩ := DataW.trod_int u1 r1
        obtain ⟨kk, e2, _, w2⟩ := DataW.trod_int u2 r2
        have e0' : c0 = .string s := by injection e0
        have e1' : c1 = .int .i64 k := by injection e1
        have e2' : c2 = .int .i64 kk := by injection e2
        subst e0' e1' e2'
        exact ⟨(s, k, kk), b, off, rfl, hat' 0 (by omega), hat' 1 (by omega), hat' 2 (by omega), w0, bounds_i64 w1, bounds_i64 w2⟩
    obtain ⟨l, hll, hlt⟩ := choose_ch hel
    refine ⟨_, l, hcs, ⟨some a, cap, by rw [hll], by omega, ?_, fun i c hic => ?_⟩, by omega⟩
    · unfold maxLen at hm; omega
    · obtain ⟨b, off, rfl, h1, h2, h3, h4⟩ := hlt i c hic
      exact ⟨b, off, rfl, h1, h2, h3, h4⟩
theorem opened_spec {tS e : TypeId} {g0 g1 g2 g3 f0 f1 f2 : Field} {fuel : Nat} {cs : List Value} {x : DataW H × List MemPlace} (hS : P.underlying tS = some (.struct #[g0, g1, g2, g3])) (honeS : oneCellFields P #[g0, g1, g2, g3] = true) (hCS : P.cellsOf tS = 4)
    (v0 : P.underlying g0.type = some (.int .i64)) (v1 : P.underlying g1.type = some (.int .i64)) (v2 : P.underlying g2.type = some (.int .i64)) (ht : P.underlying g3.type = some (.slice e)) (he : P.underlying e = some (.struct #[f0, f1, f2]))
    (hone : oneCellFields P #[f0, f1, f2] = true) (hC : P.cellsOf e = 3)
    (u0 : P.underlying f0.type = some .string) (u1 : P.underlying f1.type = some (.int .i64)) (u2 : P.underlying f2.type = some (.int .i64)) (hbe : P.bytesOf e = 32) (hs : ∀ n ∈ x.1.weights P tS, n ≤ reachBytes)
    (h : DataW.trod enc P w base spare held fuel tS cs = some x) : ∃ (s : Sp) (v : Value) (l : List Ch), cs = [.int .i64 s.sg, .int .i64 s.m, .int .i64 s.t, v] ∧ SpIn w s v l := by
  obtain ⟨ys, n, _, rfl, hcl, hyl, hf⟩ := DataW.trod_struct hS h
  rw [hCS] at hcl
  have hyl' : ys.length = 4 := hyl
  have r0 := hf 0 g0 rfl
  have r1 := hf 1 g1 rfl
  have r2 := hf 2 g2 rfl
  have r3 := hf 3 g3 rfl
  rw [(hone_of honeS 0 g0 rfl).1, (hone_of honeS 0 g0 rfl).2] at r0
  rw [(hone_of honeS 1 g1 rfl).1, (hone_of honeS 1 g1 rfl).2] at r1
  rw [(hone_of honeS 2 g2 rfl).1, (hone_of honeS 2 g2 rfl).2] at r2
  rw [(hone_of honeS 3 g3 rfl).1, (hone_of honeS 3 g3 rfl).2] at r3
  match cs, hcl, ys, hyl' with
  | [c0, c1, c2, c3], _, [y0, y1, y2, y3], _ =>
    obtain ⟨k0, e0, _, w0⟩ := DataW.trod_int v0 r0
    obtain ⟨k1, e1, _, w1⟩ := DataW.trod_int v1 r1
    obtain ⟨k2, e2, _, w2⟩ := DataW.trod_int v2 r2
    obtain ⟨v, l, e3, hr, hl⟩ := opened_children ht he hone hC u0 u1 u2 hbe (fun n hn => by
      refine hs n ?_
      simp only [DataW.weights, hS]
      exact DataW.weights_mem_each (j := 3) (t := g3.type) rfl rfl n hn) r3
    have e0' : c0 = .int .i64 k0 := by injection e0
    have e1' : c1 = .int .i64 k1 := by injection e1
    have e2' : c2 = .int .i64 k2 := by injection e2
    have e3' : c3 = v := by injection e3
    subst e0' e1' e2' e3'
    exact ⟨⟨k0, k1, k2⟩, c3, l, rfl, ⟨bounds_i64 w0, bounds_i64 w1, bounds_i64 w2, hr, hl⟩⟩
end
/-- an argument that is read as four cells is an aggregate of them -/
theorem agg4_of {v : Value} {c0 c1 c2 c3 : Value} (h : v.cells.toList = [c0, c1, c2, c3]) : v = .agg #[c0, c1, c2, c3] := by
  cases v with
  | agg cs =>
    have : cs.toList = [c0, c1, c2, c3] := h
    obtain rfl : cs = #[c0, c1, c2, c3] := by cases cs; simp_all
    rfl
  | _ => simp [Value.cells] at h
end Go.Proofs.Ytbdogiblndlimaa
