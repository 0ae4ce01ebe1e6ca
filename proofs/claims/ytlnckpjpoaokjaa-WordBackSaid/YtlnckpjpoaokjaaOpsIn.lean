/- A script of steps that came in: a slice of structs of six cells, each of which is one field (four numbers, a bool, bytes). -/
import Derived.Test.YtlnckpjpoaokjaaBytesIn
import Derived.Deep.Slices
import Derived.Deep.Fields
import Derived.ChangeSame
import Derived.SizedLaws
namespace Go.Proofs.Ytlnckpjpoaokjaa
open Go.ChangeShapes Go.WideShapes Go.Deep Go.RowKit

/-- one step: its six cells from (b, off) on -/
def OpAt (w : World) (b off : Nat) : Prop :=
  ∃ (k h x y : Int) (raw : Bool) (po : Option Addr) (len cap : Nat) (f : Nat → UInt8),
    ((Lit.int .i64 k).wf = true ∧ (Lit.int .i64 h).wf = true ∧ (Lit.int .i64 x).wf = true ∧ (Lit.int .i64 y).wf = true) ∧
    w.cell? ⟨b, off, none⟩ = some (.int .i64 k) ∧ w.cell? ⟨b, off + 1, none⟩ = some (.int .i64 h) ∧
    w.cell? ⟨b, off + 2, none⟩ = some (.int .i64 x) ∧ w.cell? ⟨b, off + 3, none⟩ = some (.int .i64 y) ∧
    w.cell? ⟨b, off + 4, none⟩ = some (.bool raw) ∧ w.cell? ⟨b, off + 5, none⟩ = some (.slice po len cap) ∧ BIn w po len cap f ∧ len ≤ 140737488351232

/-- a slice of steps -/
def OpsIn (w : World) (a : Option Addr) (len cap : Nat) : Prop :=
  len ≤ cap ∧ cap ≤ maxLen ∧ len * 64 ≤ 140737488351232 ∧ ∀ i, i < len → ∃ b off, a = some ⟨b, off, none⟩ ∧ b < w.heap.size ∧ OpAt w b (off + i * 6)

section
variable {H : Type} {enc : TypeId × Value → H} {P : Program} {w : World} {base : Nat} {spare : Nat → Bool} {held : Bool}
theorem all_mem {e : TypeId} : ∀ {l : List (DataW H)} {d : DataW H}, d ∈ l → ∀ n ∈ d.weights P e, n ∈ DataW.weightsAll P e l
  | c :: l, d, hd, n, hn => by
    rw [DataW.weightsAll, List.mem_append]
    rcases List.mem_cons.1 hd with rfl | hd
    · exact .inl hn
    · exact .inr (all_mem hd n hn)

theorem opened_bytes {t e : TypeId} {fuel : Nat} {v : Value} {y : DataW H × List MemPlace} (ht : P.underlying t = some (.slice e)) (he : P.underlying e = some (.int .u8)) (hc : P.cellsOf e = 1) (hb : P.bytesOf e = 1)
    (hs : ∀ n ∈ y.1.weights P t, n ≤ reachBytes)
    (h : DataW.trod enc P w base spare held fuel t [v] = some y) : ∃ po len cap f, v = .slice po len cap ∧ BIn w po len cap f ∧ len ≤ 140737488351232 := by
  rcases open_ints ht he hc h with ⟨h1, _⟩ | ⟨a, len, cap, zs, h1, _, h3, h4, h5, hy, h6, h7⟩
  · injection h1 with h1
    exact ⟨none, 0, 0, fun _ => 0, h1, bIn_nil w _, by omega⟩
  · injection h1 with h1
    have hle : len ≤ zs.length := by rw [h5]; split <;> omega
    refine ⟨some a, len, cap, _, h1, bIn_of h3 h4 hle h6 h7, ?_⟩
    subst hy
    have := hs (((lits (H := H) .u8 (zs.take len)).length + (lits (H := H) .u8 (zs.drop len)).length) * P.bytesOf e) (by simp [DataW.weights, ht])
    rw [hb] at this
    have e1 : (lits (H := H) .u8 (zs.take len)).length = len := by simp [lits]; omega
    unfold reachBytes at this
    omega

theorem opened_ops {t e eu : TypeId} {f0 f1 f2 f3 f4 f5 : Field} {fuel : Nat} {cs : List Value} {x : DataW H × List MemPlace} (ht : P.underlying t = some (.slice e)) (he : P.underlying e = some (.struct #[f0, f1, f2, f3, f4, f5]))
    (hone : oneCellFields P #[f0, f1, f2, f3, f4, f5] = true) (hC : P.cellsOf e = 6)
    (u0 : P.underlying f0.type = some (.int .i64)) (u1 : P.underlying f1.type = some (.int .i64)) (u2 : P.underlying f2.type = some (.int .i64)) (u3 : P.underlying f3.type = some (.int .i64))
    (u4 : P.underlying f4.type = some .bool) (u5 : P.underlying f5.type = some (.slice eu)) (hu : P.underlying eu = some (.int .u8)) (huc : P.cellsOf eu = 1) (hbe : P.bytesOf e = 64) (hbu : P.bytesOf eu = 1) (hs : ∀ n ∈ x.1.weights P t, n ≤ reachBytes)
    (h : DataW.trod enc P w base spare held fuel t cs = some x) : ∃ po len cap, cs = [.slice po len cap] ∧ OpsIn w po len cap := by
  rcases open_slice ht h with ⟨h0, _⟩ | ⟨a, len, cap, m, n, D, Pl, hcs, hb, hl, hm, hmm, hx, hi⟩
  · exact ⟨none, 0, 0, h0, Nat.le_refl _, Nat.zero_le _, by omega, fun i hi => by omega⟩
  · subst hx
    have hn0 := hs ((((List.range len).map D).length + ((List.range (m - len)).map fun j => D (len + j)).length) * P.bytesOf e) (by simp [DataW.weights, ht])
    rw [hbe] at hn0
    simp only [List.length_map, List.length_range] at hn0
    unfold reachBytes at hn0
    have hsD : ∀ i, i < len → ∀ n ∈ (D i).weights P e, n ≤ reachBytes := fun i hi n hn => by
      refine hs n ?_
      simp only [DataW.weights, ht]
      exact List.mem_cons_of_mem _ (List.mem_append_left _ (all_mem (List.mem_map.2 ⟨i, List.mem_range.2 hi, rfl⟩) n hn))
    refine ⟨some a, len, cap, hcs, hl, hm, by omega, fun i hil => ?_⟩
    have hlm : len ≤ m := by rw [hmm]; split <;> omega
    obtain ⟨b, off, spot⟩ := a
    have hspot : spot = none := by
      obtain ⟨cs', hc, ht'⟩ := hi 0 (by omega)
      rw [hC] at hc
      obtain ⟨_, hcl, hat⟩ := World.cells?_some hc
      have h0 := hat 0 (by omega)
      rw [List.getElem?_eq_getElem (show 0 < cs'.length by omega)] at h0
      simpa [Addr.add] using World.cell?_spot h0
    subst hspot
    obtain ⟨cs', hc, ht'⟩ := hi i (by omega)
    rw [hC] at hc
    obtain ⟨ys, n', _, hagg, _, hyl, hf⟩ := DataW.trod_struct he ht'
    have hDi : D i = .agg (ys.map (·.1)) := congrArg Prod.fst hagg
    have hyl' : ys.length = 6 := hyl
    obtain ⟨_, hcl, hat⟩ := World.cells?_some hc
    have hat' : ∀ j, j < 6 → w.cell? ⟨b, off + i * 6 + j, none⟩ = cs'[j]? := fun j hj => by
      rw [← hat j hj, add_plain, add_plain]
    have r0 := hf 0 f0 rfl
    have r1 := hf 1 f1 rfl
    have r2 := hf 2 f2 rfl
    have r3 := hf 3 f3 rfl
    have r4 := hf 4 f4 rfl
    have r5 := hf 5 f5 rfl
    rw [(hone_of hone 0 f0 rfl).1, (hone_of hone 0 f0 rfl).2, List.getElem?_eq_getElem (by omega)] at r0
    rw [(hone_of hone 1 f1 rfl).1, (hone_of hone 1 f1 rfl).2, List.getElem?_eq_getElem (by omega)] at r1
    rw [(hone_of hone 2 f2 rfl).1, (hone_of hone 2 f2 rfl).2, List.getElem?_eq_getElem (by omega)] at r2
    rw [(hone_of hone 3 f3 rfl).1, (hone_of hone 3 f3 rfl).2, List.getElem?_eq_getElem (by omega)] at r3
    rw [(hone_of hone 4 f4 rfl).1, (hone_of hone 4 f4 rfl).2, List.getElem?_eq_getElem (by omega)] at r4
    rw [(hone_of hone 5 f5 rfl).1, (hone_of hone 5 f5 rfl).2, List.getElem?_eq_getElem (by omega)] at r5
    match cs', hcl with
    | [c0, c1, c2, c3, c4, c5], _ =>
      obtain ⟨k, e0, _, w0⟩ := DataW.trod_int u0 r0
      obtain ⟨hh, e1, _, w1⟩ := DataW.trod_int u1 r1
      obtain ⟨xx, e2, _, w2⟩ := DataW.trod_int u2 r2
      obtain ⟨yy, e3, _, w3⟩ := DataW.trod_int u3 r3
      obtain ⟨raw, e4, _⟩ := DataW.trod_bool u4 r4
      obtain ⟨po, len', cap', f, e5, hbin, hlen'⟩ := opened_bytes (v := c5) u5 hu huc hbu (fun n hn => by
        refine hsD i hil n ?_
        rw [hDi]
        simp only [DataW.weights, he]
        exact DataW.weights_mem_each (j := 5) (t := f5.type) rfl (by rw [List.getElem?_map, List.getElem?_eq_getElem (by omega)]; rfl) n hn) r5
      have e0' : c0 = .int .i64 k := by injection e0
      have e1' : c1 = .int .i64 hh := by injection e1
      have e2' : c2 = .int .i64 xx := by injection e2
      have e3' : c3 = .int .i64 yy := by injection e3
      have e4' : c4 = .bool raw := by injection e4
      subst e0' e1' e2' e3' e4' e5
      have hc0 : w.cell? ⟨b, off + i * 6, none⟩ = some (.int .i64 k) := hat' 0 (by omega)
      exact ⟨b, off, rfl, World.block_lt_of_cell? _ _ hc0, k, hh, xx, yy, raw, po, len', cap', f, ⟨w0, w1, w2, w3⟩, hc0, hat' 1 (by omega), hat' 2 (by omega), hat' 3 (by omega), hat' 4 (by omega), hat' 5 (by omega), hbin, hlen'⟩
end
end Go.Proofs.Ytlnckpjpoaokjaa
