/- Words, and a script of calls, that came in. -/
import Derived.Test.YtgdmcinfgfejcaaBxUps
import Derived.OpenShut
import Derived.Deep.Slices
import Derived.Deep.Fields
import Derived.ChangeSame
import Derived.SizedLaws
namespace Go.Proofs.Ytgdmcinfgfejcaa
open Go.ChangeShapes Go.WideShapes Go.Deep Go.RowKit

/-- words that came in -/
def WIn (w : World) (v : Value) (l : List Int) : Prop := Rd w v l ∧ l.length * 8 ≤ 140737488351232 ∧ ∀ x ∈ l, 0 ≤ x ∧ x ≤ 18446744073709551615
theorem WIn.same {w w' : World} {v : Value} {l : List Int} (h : WIn w v l) (hk : Kp (fun _ => False) w w') : WIn w' v l := ⟨h.1.same hk, h.2⟩

section
variable {H : Type} {enc : TypeId × Value → H} {P : Program} {w : World} {base : Nat} {spare : Nat → Bool} {held : Bool}
theorem all_memW {e : TypeId} : ∀ {l : List (DataW H)} {d : DataW H}, d ∈ l → ∀ n ∈ d.weights P e, n ∈ DataW.weightsAll P e l
  | c :: l, d, hd, n, hn => by
    rw [DataW.weightsAll, List.mem_append]
    rcases List.mem_cons.1 hd with rfl | hd
    · exact .inl hn
    · exact .inr (all_memW hd n hn)

theorem opened_words {t e : TypeId} {fuel : Nat} {v : Value} {y : DataW H × List MemPlace} (ht : P.underlying t = some (.slice e)) (he : P.underlying e = some (.int .u64)) (hc : P.cellsOf e = 1) (hb : P.bytesOf e = 8)
    (hs : ∀ n ∈ y.1.weights P t, n ≤ reachBytes)
    (h : DataW.trod enc P w base spare held fuel t [v] = some y) : ∃ po len cap l, v = .slice po len cap ∧ l.length = len ∧ WIn w (.slice po len cap) l := by
  rcases open_ints ht he hc h with ⟨h1, _⟩ | ⟨a, len, cap, zs, h1, _, h3, h4, h5, hy, h6, h7⟩
  · injection h1 with h1
    exact ⟨none, 0, 0, [], h1, rfl, ⟨none, 0, rfl, by simp, by simp, fun i x hi => by simp at hi⟩, by simp, fun x hx => by cases hx⟩
  · injection h1 with h1
    have hle : len ≤ zs.length := by rw [h5]; split <;> omega
    have hl : (zs.take len).length = len := by simp; omega
    refine ⟨some a, len, cap, zs.take len, h1, hl, ⟨some a, cap, by rw [hl], by omega, h4, fun i x hi => ?_⟩, ?_, fun x hx => ?_⟩
    · have hil := (List.getElem?_eq_some_iff.1 hi).1
      obtain ⟨b, off, rfl, hcell⟩ := ints_at h6 (by omega)
      refine ⟨b, off, rfl, ?_⟩
      rw [hcell i (by omega)]
      rw [List.getElem?_take, if_pos (by omega)] at hi
      rw [List.getD_eq_getElem?_getD, hi]; rfl
    · subst hy
      have := hs (((lits (H := H) .u64 (zs.take len)).length + (lits (H := H) .u64 (zs.drop len)).length) * P.bytesOf e) (by simp [DataW.weights, ht])
      rw [hb] at this
      have e1 : (lits (H := H) .u64 (zs.take len)).length = len := by simp [lits]; omega
      unfold reachBytes at this
      omega
    · have hw := h7 x (List.mem_of_mem_take hx)
      exact bounds_u64 hw

/-- one call of a script: its five cells from (b, off) on -/
def OpW (w : World) (b off : Nat) : Prop :=
  ∃ (k x d : Int) (u : Value) (l : List Int) (own : Bool), (Lit.int .i64 k).wf = true ∧ (0 ≤ x ∧ x ≤ 18446744073709551615) ∧ (0 ≤ d ∧ d ≤ 18446744073709551615) ∧
    w.cell? ⟨b, off, none⟩ = some (.int .i64 k) ∧ w.cell? ⟨b, off + 1, none⟩ = some (.int .u64 x) ∧ w.cell? ⟨b, off + 2, none⟩ = some (.int .u64 d) ∧ w.cell? ⟨b, off + 3, none⟩ = some u ∧ w.cell? ⟨b, off + 4, none⟩ = some (.bool own) ∧
    WIn w u l
/-- a slice of calls -/
def OpsW (w : World) (a : Option Addr) (len cap : Nat) : Prop :=
  len ≤ cap ∧ cap ≤ maxLen ∧ len * 56 ≤ 140737488351232 ∧ ∀ i, i < len → ∃ b off, a = some ⟨b, off, none⟩ ∧ b < w.heap.size ∧ OpW w b (off + i * 5)

theorem opened_wops {t e eu : TypeId} {f0 f1 f2 f3 f4 : Field} {fuel : Nat} {cs : List Value} {x : DataW H × List MemPlace} (ht : P.underlying t = some (.slice e)) (he : P.underlying e = some (.struct #[f0, f1, f2, f3, f4]))
    (hone : oneCellFields P #[f0, f1, f2, f3, f4] = true) (hC : P.cellsOf e = 5)
    (u0 : P.underlying f0.type = some (.int .i64)) (u1 : P.underlying f1.type = some (.int .u64)) (u2 : P.underlying f2.type = some (.int .u64)) (u3 : P.underlying f3.type = some (.slice eu))
    (u4 : P.underlying f4.type = some .bool) (hu : P.underlying eu = some (.int .u64)) (huc : P.cellsOf eu = 1) (hbe : P.bytesOf e = 56) (hbu : P.bytesOf eu = 8) (hs : ∀ n ∈ x.1.weights P t, n ≤ reachBytes)
    (h : DataW.trod enc P w base spare held fuel t cs = some x) : ∃ po len cap, cs = [.slice po len cap] ∧ OpsW w po len cap := by
  rcases open_slice ht h with ⟨h0, _⟩ | ⟨a, len, cap, m, n, D, Pl, hcs, hb, hl, hm, hmm, hx, hi⟩
  · exact ⟨none, 0, 0, h0, Nat.le_refl _, Nat.zero_le _, by omega, fun i hi => by omega⟩
  · subst hx
    have hn0 := hs ((((List.range len).map D).length + ((List.range (m - len)).map fun j => D (len + j)).length) * P.bytesOf e) (by simp [DataW.weights, ht])
    rw [hbe] at hn0
    simp only [List.length_map, List.length_range] at hn0
    unfold reachBytes at hn0
    have hsD : ∀ i, i < len → ∀ n ∈ (D i).weights P e, n ≤ reachBytes := fun i hi n hn => by
      refine hs n ?_
      simp only [DataW.weights, ht]
      exact List.mem_cons_of_mem _ (List.mem_append_left _ (all_memW (List.mem_map.2 ⟨i, List.mem_range.2 hi, rfl⟩) n hn))
    refine ⟨some a, len, cap, hcs, hl, hm, by omega, fun i hil => ?_⟩
    have hlm : len ≤ m := by rw [hmm]; split <;> omega
    obtain ⟨b, off, spot⟩ := a
    have hspot : spot = none := by
      obtain ⟨cs', hc, ht'⟩ := hi 0 (by omega)
      rw [hC] at hc
      obtain ⟨_, hcl, hat⟩ := World.cells?_some hc
      have h0 := hat 0 (by omega)
      rw [List.getElem?_eq_getElem (show 0 < cs'.length by omega)] at h0
      simpa [Addr.add] using World.cell?_spot h0
    subst hspot
    obtain ⟨cs', hc, ht'⟩ := hi i (by omega)
    rw [hC] at hc
    obtain ⟨ys, n', _, hagg, _, hyl, hf⟩ := DataW.trod_struct he ht'
    have hDi : D i = .agg (ys.map (·.1)) := congrArg Prod.fst hagg
    have hyl' : ys.length = 5 := hyl
    obtain ⟨_, hcl, hat⟩ := World.cells?_some hc
    have hat' : ∀ j, j < 5 → w.cell? ⟨b, off + i * 5 + j, none⟩ = cs'[j]? := fun j hj => by
      rw [← hat j hj, add_plain, add_plain]
    have r0 := hf 0 f0 rfl
    have r1 := hf 1 f1 rfl
    have r2 := hf 2 f2 rfl
    have r3 := hf 3 f3 rfl
    have r4 := hf 4 f4 rfl
    rw [(hone_of hone 0 f0 rfl).1, (hone_of hone 0 f0 rfl).2, List.getElem?_eq_getElem (by omega)] at r0
    rw [(hone_of hone 1 f1 rfl).1, (hone_of hone 1 f1 rfl).2, List.getElem?_eq_getElem (by omega)] at r1
    rw [(hone_of hone 2 f2 rfl).1, (hone_of hone 2 f2 rfl).2, List.getElem?_eq_getElem (by omega)] at r2
    rw [(hone_of hone 3 f3 rfl).1, (hone_of hone 3 f3 rfl).2, List.getElem?_eq_getElem (by omega)] at r3
    rw [(hone_of hone 4 f4 rfl).1, (hone_of hone 4 f4 rfl).2, List.getElem?_eq_getElem (by omega)] at r4
    match cs', hcl with
    | [c0, c1, c2, c3, c4], _ =>
      obtain ⟨k, e0, _, w0⟩ := DataW.trod_int u0 r0
      obtain ⟨xx, e1, _, w1⟩ := DataW.trod_int u1 r1
      obtain ⟨dd, e2, _, w2⟩ := DataW.trod_int u2 r2
      obtain ⟨po, len', cap', l, e3, hll, hin⟩ := opened_words (v := c3) u3 hu huc hbu (fun n hn => by
        refine hsD i hil n ?_
        rw [hDi]
        simp only [DataW.weights, he]
        exact DataW.weights_mem_each (j := 3) (t := f3.type) rfl (by rw [List.getElem?_map, List.getElem?_eq_getElem (by omega)]; rfl) n hn) r3
      obtain ⟨raw, e4, _⟩ := DataW.trod_bool u4 r4
      have e0' : c0 = .int .i64 k := by injection e0
      have e1' : c1 = .int .u64 xx := by injection e1
      have e2' : c2 = .int .u64 dd := by injection e2
      have e4' : c4 = .bool raw := by injection e4
      subst e0' e1' e2' e3 e4'
      have hc0 : w.cell? ⟨b, off + i * 5, none⟩ = some (.int .i64 k) := hat' 0 (by omega)
      refine ⟨b, off, rfl, World.block_lt_of_cell? _ _ hc0, k, xx, dd, _, l, raw, w0, bounds_u64 w1, bounds_u64 w2, hc0, hat' 1 (by omega), hat' 2 (by omega), hat' 3 (by omega), hat' 4 (by omega), hin⟩
end
end Go.Proofs.Ytgdmcinfgfejcaa
