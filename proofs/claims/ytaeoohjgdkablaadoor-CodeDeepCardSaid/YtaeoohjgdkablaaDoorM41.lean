/- A module that came in: its reading opened. A module that came in: its reading opened. Terms in one another, deeper than a term may be: what tree's Right tells. -/
import Derived.Test.YtaeoohjgdkablaaDoorM26
import Derived.Test.YtaeoohjgdkablaaDoorM38
import Derived.Test.YtaeoohjgdkablaaDoorM39
/- A module that came in: its reading opened. -/
namespace Go.Proofs.YtaeoohjgdkablaaDoor
open Go.ChangeShapes Go.WideShapes Go.Deep Go.RowKit
section
variable {H : Type} {enc : TypeId × Value → H} {P : Program} {w : World} {base : Nat} {spare : Nat → Bool} {held : Bool}

theorem bulk_pos (d : DataW H) : 1 ≤ Rows.uptoBulk d := by
  cases d with
  | lit l => cases l <;> simp [Rows.uptoBulk]
  | _ => simp [Rows.uptoBulk]
theorem bulk_len (l : List (DataW H)) : l.length ≤ Rows.uptoBulkAll l := by
  induction l with
  | nil => simp [Rows.uptoBulkAll]
  | cons x r ih => have := bulk_pos x; simp only [Rows.uptoBulkAll, List.length_cons]; omega

theorem opened_bytesB {t e : TypeId} {fuel : Nat} {v : Value} {y : DataW H × List MemPlace} (ht : P.underlying t = some (.slice e)) (he : P.underlying e = some (.int .u8)) (hc : P.cellsOf e = 1) (hb : P.bytesOf e = 1)
    (hs : ∀ n ∈ y.1.weights P t, n ≤ reachBytes)
    (h : DataW.trod enc P w base spare held fuel t [v] = some y) : ∃ po len cap f, v = .slice po len cap ∧ BIn w po len cap f ∧ len ≤ 140737488351232 ∧ len + 1 ≤ Rows.uptoBulk y.1 := by
  rcases open_ints ht he hc h with ⟨h1, h2⟩ | ⟨a, len, cap, zs, h1, _, h3, h4, h5, hy, h6, h7⟩
  · injection h1 with h1
    exact ⟨none, 0, 0, fun _ => 0, h1, bIn_nil w _, by omega, by rw [h2]; simp [Rows.uptoBulk]⟩
  · injection h1 with h1
    have hle : len ≤ zs.length := by rw [h5]; split <;> omega
    subst hy
    have := hs (((lits (H := H) .u8 (zs.take len)).length + (lits (H := H) .u8 (zs.drop len)).length) * P.bytesOf e) (by simp [DataW.weights, ht])
    rw [hb] at this
    have e1 : (lits (H := H) .u8 (zs.take len)).length = len := by simp [lits]; omega
    have h9 := bulk_len (lits (H := H) .u8 (zs.take len))
    unfold reachBytes at this
    refine ⟨some a, len, cap, _, h1, bIn_of h3 h4 hle h6 h7, by omega, ?_⟩
    simp only [Rows.uptoBulk]
    omega

/-- four cells, each of which is one field -/
theorem four_fields {tT : TypeId} {f0 f1 f2 f3 : Field} (he : P.underlying tT = some (.struct #[f0, f1, f2, f3])) (hone : oneCellFields P #[f0, f1, f2, f3] = true) (hC : P.cellsOf tT = 4)
    {fuel : Nat} {cs : List Value} {x : DataW H × List MemPlace} (h : DataW.trod enc P w base spare held fuel tT cs = some x) :
    ∃ c0 c1 c2 c3 y0 y1 y2 y3 n, cs = [c0, c1, c2, c3] ∧ x.1 = .agg [y0.1, y1.1, y2.1, y3.1] ∧
      DataW.trod enc P w base spare held n f0.type [c0] = some y0 ∧ DataW.trod enc P w base spare held n f1.type [c1] = some y1 ∧ DataW.trod enc P w base spare held n f2.type [c2] = some y2 ∧ DataW.trod enc P w base spare held n f3.type [c3] = some y3 := by
  obtain ⟨ys, n, _, rfl, hcl, hyl, hf⟩ := DataW.trod_struct he h
  rw [hC] at hcl
  have hyl' : ys.length = 4 := hyl
  have r0 := hf 0 f0 rfl
  have r1 := hf 1 f1 rfl
  have r2 := hf 2 f2 rfl
  have r3 := hf 3 f3 rfl
  rw [(hone_of hone 0 f0 rfl).1, (hone_of hone 0 f0 rfl).2] at r0
  rw [(hone_of hone 1 f1 rfl).1, (hone_of hone 1 f1 rfl).2] at r1
  rw [(hone_of hone 2 f2 rfl).1, (hone_of hone 2 f2 rfl).2] at r2
  rw [(hone_of hone 3 f3 rfl).1, (hone_of hone 3 f3 rfl).2] at r3
  match cs, hcl, ys, hyl' with
  | [c0, c1, c2, c3], _, [y0, y1, y2, y3], _ => exact ⟨c0, c1, c2, c3, y0, y1, y2, y3, n, rfl, rfl, r0, r1, r2, r3⟩
theorem three_fields {tT : TypeId} {f0 f1 f2 : Field} (he : P.underlying tT = some (.struct #[f0, f1, f2])) (hone : oneCellFields P #[f0, f1, f2] = true) (hC : P.cellsOf tT = 3)
    {fuel : Nat} {cs : List Value} {x : DataW H × List MemPlace} (h : DataW.trod enc P w base spare held fuel tT cs = some x) :
    ∃ c0 c1 c2 y0 y1 y2 n, cs = [c0, c1, c2] ∧ x.1 = .agg [y0.1, y1.1, y2.1] ∧
      DataW.trod enc P w base spare held n f0.type [c0] = some y0 ∧ DataW.trod enc P w base spare held n f1.type [c1] = some y1 ∧ DataW.trod enc P w base spare held n f2.type [c2] = some y2 := by
  obtain ⟨ys, n, _, rfl, hcl, hyl, hf⟩ := DataW.trod_struct he h
  rw [hC] at hcl
  have hyl' : ys.length = 3 := hyl
  have r0 := hf 0 f0 rfl
  have r1 := hf 1 f1 rfl
  have r2 := hf 2 f2 rfl
  rw [(hone_of hone 0 f0 rfl).1, (hone_of hone 0 f0 rfl).2] at r0
  rw [(hone_of hone 1 f1 rfl).1, (hone_of hone 1 f1 rfl).2] at r1
  rw [(hone_of hone 2 f2 rfl).1, (hone_of hone 2 f2 rfl).2] at r2
  match cs, hcl, ys, hyl' with
  | [c0, c1, c2], _, [y0, y1, y2], _ => exact ⟨c0, c1, c2, y0, y1, y2, n, rfl, rfl, r0, r1, r2⟩
/-- what the parts of a struct weigh -/
theorem parts_weigh {tT : TypeId} {fs : Array Field} (he : P.underlying tT = some (.struct fs)) {x : DataW H} {ds : List (DataW H)} (hx : x = .agg ds) (hs : ∀ n ∈ x.weights P tT, n ≤ reachBytes) (j : Nat) (f : Field) (d : DataW H) (hf : fs.toList[j]? = some f) (hd : ds[j]? = some d) :
    ∀ n ∈ d.weights P f.type, n ≤ reachBytes := by
  intro k hk
  refine hs k ?_
  rw [hx]
  simp only [DataW.weights, he]
  refine DataW.weights_mem_each (j := j) (t := f.type) ?_ hd k hk
  simp [hf]

variable {tT eu : TypeId} {f0 f1 f2 f3 f4 f5 : Field}
theorem opened_termB (he : P.underlying tT = some (.struct #[f0, f1, f2, f3, f4, f5])) (hone : oneCellFields P #[f0, f1, f2, f3, f4, f5] = true) (hC : P.cellsOf tT = 6)
    (u0 : P.underlying f0.type = some (.int .i64)) (u1 : P.underlying f1.type = some (.int .i64)) (u2 : P.underlying f2.type = some .string) (u3 : P.underlying f3.type = some (.slice tT)) (u4 : P.underlying f4.type = some (.slice tT))
    (u5 : P.underlying f5.type = some (.slice eu)) (hu : P.underlying eu = some (.int .u8)) (huc : P.cellsOf eu = 1) (hbe : P.bytesOf tT = 104) (hbu : P.bytesOf eu = 1) :
    ∀ (m fuel : Nat) (cs : List Value) (x : DataW H × List MemPlace), SizeOf.sizeOf x.1 ≤ m → (∀ n ∈ x.1.weights P tT, n ≤ reachBytes) → DataW.trod enc P w base spare held fuel tT cs = some x →
      ∃ T, TermAt (fun q => q < w.heap.size) w m T cs ∧ tb T ≤ Rows.uptoBulk x.1
  | 0, fuel, cs, x, hm, hs, h => by
    obtain ⟨c0, c1, c2, c3, c4, c5, y0, y1, y2, y3, y4, y5, n, rfl, hx, _⟩ := six_fields he hone hC h
    rw [hx] at hm
    simp at hm
  | m + 1, fuel, cs, x, hm, hs, h => by
    obtain ⟨c0, c1, c2, c3, c4, c5, y0, y1, y2, y3, y4, y5, n, rfl, hx, r0, r1, r2, r3, r4, r5⟩ := six_fields he hone hC h
    have ih := opened_termB he hone hC u0 u1 u2 u3 u4 u5 hu huc hbe hbu m
    have hs' := parts_weigh he hx hs
    have hz3 : SizeOf.sizeOf y3.1 ≤ m := by rw [hx] at hm; simp at hm; omega
    have hz4 : SizeOf.sizeOf y4.1 ≤ m := by rw [hx] at hm; simp at hm; omega
    have hlist : ∀ (f : Field) (c : Value) (y : DataW H × List MemPlace), P.underlying f.type = some (.slice tT) → SizeOf.sizeOf y.1 ≤ m → (∀ n ∈ y.1.weights P f.type, n ≤ reachBytes) → DataW.trod enc P w base spare held n f.type [c] = some y →
        ∃ l, ListAt (fun q => q < w.heap.size) w (TermAt (fun q => q < w.heap.size) w m) l c ∧ tbs l + 1 ≤ Rows.uptoBulk y.1 := by
      intro f c y uf hz hw hr
      obtain ⟨l, po, cap, rfl, h1, h2, h3, h4⟩ := opened_row (μ := tb) (p := fun cs' t => TermAt (fun q => q < w.heap.size) w m t cs') uf hC (by omega) hw hr (fun n' cs' y' hz' hw' hr' => ih n' cs' y' (by omega) hw' hr')
      rw [hbe] at h2
      refine ⟨l, ⟨po, cap, rfl, h1, h2, fun i t hit => ?_⟩, by rw [tbs_sum]; exact h3⟩
      obtain ⟨b, off, cs', rfl, hb, hcl, hp, hat⟩ := h4 i t hit
      match cs', hcl with
      | [d0, d1, d2, d3, d4, d5], _ => exact ⟨b, off, d0, d1, d2, d3, d4, d5, rfl, hb, hat 0 (by omega), hat 1 (by omega), hat 2 (by omega), hat 3 (by omega), hat 4 (by omega), hat 5 (by omega), hp⟩
    obtain ⟨k, e0, _, w0⟩ := DataW.trod_int u0 r0
    obtain ⟨nn, e1, _, w1⟩ := DataW.trod_int u1 r1
    obtain ⟨s, e2, x2, w2⟩ := DataW.trod_string u2 r2
    obtain ⟨li, hli, b3⟩ := hlist f3 c3 y3 u3 hz3 (hs' 3 f3 y3.1 rfl rfl) r3
    obtain ⟨lr, hlr, b4⟩ := hlist f4 c4 y4 u4 hz4 (hs' 4 f4 y4.1 rfl rfl) r4
    obtain ⟨po, len', cap', f, e5, hbin, hlen', b5⟩ := opened_bytesB (v := c5) u5 hu huc hbu (hs' 5 f5 y5.1 rfl rfl) r5
    have e0' : c0 = .int .i64 k := by injection e0
    have e1' : c1 = .int .i64 nn := by injection e1
    have e2' : c2 = .string s := by injection e2
    subst e0' e1' e2' e5
    obtain ⟨q1, q2⟩ := bounds_i64 w0
    obtain ⟨q3, q4⟩ := bounds_i64 w1
    refine ⟨.mk k nn s li lr (bl f len'), ⟨_, _, _, rfl, ⟨q1, q2, q3, q4, w2⟩, hli, hlr, ?_⟩, ?_⟩
    · have := bytes_of_in hbin hlen'
      rw [show (Value.slice po len' cap') = .slice po (bl f len').length cap' by rw [bl_len]] at this
      simpa [bl_len] using this
    · have hss : s.data.toList.length = s.size := Array.length_toList
      rw [hx, tb, bl_len]
      simp only [Rows.uptoBulk, Rows.uptoBulkAll, x2]
      omega
end
end Go.Proofs.YtaeoohjgdkablaaDoor

/- A module that came in: its reading opened. -/
namespace Go.Proofs.YtaeoohjgdkablaaDoor
open Go.ChangeShapes Go.WideShapes Go.Deep Go.RowKit
section
variable {H : Type} {enc : TypeId × Value → H} {P : Program} {w : World} {base : Nat} {spare : Nat → Bool} {held : Bool}

theorem sum_ones {α : Type} : ∀ l : List α, (l.map fun _ => 1).sum = l.length
  | [] => rfl
  | _ :: l => by simp [sum_ones l]; omega
def insIs (cs : List Value) (x : In4) : Prop := cs = [.int .i64 x.op, .int .i64 x.a, .int .i64 x.b, .int .i64 x.c] ∧ x.wf
theorem opened_ins {iT : TypeId} {g0 g1 g2 g3 : Field} (he : P.underlying iT = some (.struct #[g0, g1, g2, g3])) (hone : oneCellFields P #[g0, g1, g2, g3] = true) (hC : P.cellsOf iT = 4)
    (u0 : P.underlying g0.type = some (.int .i64)) (u1 : P.underlying g1.type = some (.int .i64)) (u2 : P.underlying g2.type = some (.int .i64)) (u3 : P.underlying g3.type = some (.int .i64))
    (fuel : Nat) (cs : List Value) (x : DataW H × List MemPlace) (h : DataW.trod enc P w base spare held fuel iT cs = some x) : ∃ z, insIs cs z := by
  obtain ⟨c0, c1, c2, c3, y0, y1, y2, y3, n, rfl, hx, r0, r1, r2, r3⟩ := four_fields he hone hC h
  obtain ⟨k0, e0, _, w0⟩ := DataW.trod_int u0 r0
  obtain ⟨k1, e1, _, w1⟩ := DataW.trod_int u1 r1
  obtain ⟨k2, e2, _, w2⟩ := DataW.trod_int u2 r2
  obtain ⟨k3, e3, _, w3⟩ := DataW.trod_int u3 r3
  have e0' : c0 = .int .i64 k0 := by injection e0
  have e1' : c1 = .int .i64 k1 := by injection e1
  have e2' : c2 = .int .i64 k2 := by injection e2
  have e3' : c3 = .int .i64 k3 := by injection e3
  subst e0' e1' e2' e3'
  exact ⟨⟨k0, k1, k2, k3⟩, rfl, bounds_i64 w0, bounds_i64 w1, bounds_i64 w2, bounds_i64 w3⟩
theorem opened_fn {iT fT : TypeId} {g0 g1 g2 g3 f0 f1 f2 f3 : Field} (hi : P.underlying iT = some (.struct #[g0, g1, g2, g3])) (hio : oneCellFields P #[g0, g1, g2, g3] = true) (hiC : P.cellsOf iT = 4)
    (v0 : P.underlying g0.type = some (.int .i64)) (v1 : P.underlying g1.type = some (.int .i64)) (v2 : P.underlying g2.type = some (.int .i64)) (v3 : P.underlying g3.type = some (.int .i64)) (hib : P.bytesOf iT = 32)
    (he : P.underlying fT = some (.struct #[f0, f1, f2, f3])) (hone : oneCellFields P #[f0, f1, f2, f3] = true) (hC : P.cellsOf fT = 4)
    (u0 : P.underlying f0.type = some .string) (u1 : P.underlying f1.type = some (.int .i64)) (u2 : P.underlying f2.type = some (.int .i64)) (u3 : P.underlying f3.type = some (.slice iT))
    (fuel : Nat) (cs : List Value) (x : DataW H × List MemPlace) (hs : ∀ n ∈ x.1.weights P fT, n ≤ reachBytes) (h : DataW.trod enc P w base spare held fuel fT cs = some x) :
    ∃ z, FnAt (fun q => q < w.heap.size) w z cs ∧ fb z ≤ Rows.uptoBulk x.1 := by
  obtain ⟨c0, c1, c2, c3, y0, y1, y2, y3, n, rfl, hx, r0, r1, r2, r3⟩ := four_fields he hone hC h
  have hs' := parts_weigh he hx hs
  obtain ⟨k0, e0, x0, w0⟩ := DataW.trod_string u0 r0
  obtain ⟨k1, e1, _, w1⟩ := DataW.trod_int u1 r1
  obtain ⟨k2, e2, _, w2⟩ := DataW.trod_int u2 r2
  obtain ⟨l, po, cap, e3, h1, h2, h3, h4⟩ := opened_row (μ := fun _ => 1) (p := insIs) u3 hiC (by omega) (hs' 3 f3 y3.1 rfl rfl) r3 (fun n' cs' y' _ _ hr' => by
    obtain ⟨z, hz⟩ := opened_ins hi hio hiC v0 v1 v2 v3 n' cs' y' hr'
    exact ⟨z, hz, bulk_pos _⟩)
  rw [hib] at h2
  rw [sum_ones] at h3
  have e0' : c0 = .string k0 := by injection e0
  have e1' : c1 = .int .i64 k1 := by injection e1
  have e2' : c2 = .int .i64 k2 := by injection e2
  subst e0' e1' e2' e3
  refine ⟨⟨k0, k1, k2, l⟩, ⟨_, rfl, bounds_i64 w1, bounds_i64 w2, w0, po, cap, rfl, h1, h2, fun i z hz => ?_⟩, ?_⟩
  · obtain ⟨b, off, cs', rfl, hb, hcl, ⟨rfl, hw⟩, hat⟩ := h4 i z hz
    exact ⟨b, off, rfl, hb, hat 0 (by omega), hat 1 (by omega), hat 2 (by omega), hat 3 (by omega), hw⟩
  · have hss : k0.data.toList.length = k0.size := Array.length_toList
    rw [hx, fb]
    simp only [Rows.uptoBulk, Rows.uptoBulkAll, x0]
    omega
theorem opened_md {iT fT tT eu mT : TypeId} {g0 g1 g2 g3 f0 f1 f2 f3 t0 t1 t2 t3 t4 t5 m0 m1 m2 : Field}
    (hi : P.underlying iT = some (.struct #[g0, g1, g2, g3])) (hio : oneCellFields P #[g0, g1, g2, g3] = true) (hiC : P.cellsOf iT = 4)
    (v0 : P.underlying g0.type = some (.int .i64)) (v1 : P.underlying g1.type = some (.int .i64)) (v2 : P.underlying g2.type = some (.int .i64)) (v3 : P.underlying g3.type = some (.int .i64)) (hib : P.bytesOf iT = 32)
    (he : P.underlying fT = some (.struct #[f0, f1, f2, f3])) (hone : oneCellFields P #[f0, f1, f2, f3] = true) (hC : P.cellsOf fT = 4)
    (u0 : P.underlying f0.type = some .string) (u1 : P.underlying f1.type = some (.int .i64)) (u2 : P.underlying f2.type = some (.int .i64)) (u3 : P.underlying f3.type = some (.slice iT)) (hfb : P.bytesOf fT = 56)
    (te : P.underlying tT = some (.struct #[t0, t1, t2, t3, t4, t5])) (tone : oneCellFields P #[t0, t1, t2, t3, t4, t5] = true) (tC : P.cellsOf tT = 6)
    (z0 : P.underlying t0.type = some (.int .i64)) (z1 : P.underlying t1.type = some (.int .i64)) (z2 : P.underlying t2.type = some .string) (z3 : P.underlying t3.type = some (.slice tT)) (z4 : P.underlying t4.type = some (.slice tT))
    (z5 : P.underlying t5.type = some (.slice eu)) (hu : P.underlying eu = some (.int .u8)) (huc : P.cellsOf eu = 1) (hbe : P.bytesOf tT = 104) (hbu : P.bytesOf eu = 1)
    (me : P.underlying mT = some (.struct #[m0, m1, m2])) (mone : oneCellFields P #[m0, m1, m2] = true) (mC : P.cellsOf mT = 3)
    (y0 : P.underlying m0.type = some .string) (y1 : P.underlying m1.type = some (.slice tT)) (y2 : P.underlying m2.type = some (.slice fT))
    (fuel : Nat) (cs : List Value) (x : DataW H × List MemPlace) (hs : ∀ n ∈ x.1.weights P mT, n ≤ reachBytes) (h : DataW.trod enc P w base spare held fuel mT cs = some x) :
    ∃ (m : Md) (k : Nat) (po : Option Addr) (n c : Nat) (po2 : Option Addr) (n2 c2 : Nat), cs = [.string m.name, .slice po n c, .slice po2 n2 c2] ∧ MdAt (fun q => q < w.heap.size) w k m cs ∧ mb m ≤ Rows.uptoBulk x.1 := by
  obtain ⟨c0, c1, c2, d0, d1, d2, n, rfl, hx, r0, r1, r2⟩ := three_fields me mone mC h
  have hs' := parts_weigh me hx hs
  obtain ⟨k0, e0, x0, w0⟩ := DataW.trod_string y0 r0
  obtain ⟨l, po, cap, e1, h1, h2, h3, h4⟩ := opened_row (μ := tb) (p := fun cs' t => TermAt (fun q => q < w.heap.size) w (SizeOf.sizeOf d1.1) t cs') y1 tC (by omega) (hs' 1 m1 d1.1 rfl rfl) r1
    (fun n' cs' y' hz' hw' hr' => opened_termB te tone tC z0 z1 z2 z3 z4 z5 hu huc hbe hbu _ n' cs' y' (by omega) hw' hr')
  obtain ⟨lf, pf, cf, e2, k1, k2, k3, k4⟩ := opened_row (μ := fb) (p := fun cs' z => FnAt (fun q => q < w.heap.size) w z cs') y2 hC (by omega) (hs' 2 m2 d2.1 rfl rfl) r2
    (fun n' cs' y' _ hw' hr' => opened_fn hi hio hiC v0 v1 v2 v3 hib he hone hC u0 u1 u2 u3 n' cs' y' hw' hr')
  rw [hbe] at h2
  rw [hfb] at k2
  have e0' : c0 = .string k0 := by injection e0
  subst e0' e1 e2
  refine ⟨⟨k0, l, lf⟩, SizeOf.sizeOf d1.1, _, _, _, _, _, _, rfl, ⟨_, _, rfl, w0, ⟨po, cap, rfl, h1, h2, fun i t hit => ?_⟩, ⟨pf, cf, rfl, k1, k2, fun i z hz => ?_⟩⟩, ?_⟩
  · obtain ⟨b, off, cs', rfl, hb, hcl, hp, hat⟩ := h4 i t hit
    match cs', hcl with
    | [d0, d1, d2, d3, d4, d5], _ => exact ⟨b, off, d0, d1, d2, d3, d4, d5, rfl, hb, hat 0 (by omega), hat 1 (by omega), hat 2 (by omega), hat 3 (by omega), hat 4 (by omega), hat 5 (by omega), hp⟩
  · obtain ⟨b, off, cs', rfl, hb, hcl, hp, hat⟩ := k4 i z hz
    match cs', hcl with
    | [d0, d1, d2, d3], _ => exact ⟨b, off, d0, d1, d2, d3, rfl, hb, hat 0 (by omega), hat 1 (by omega), hat 2 (by omega), hat 3 (by omega), hp⟩
  · have hss : k0.data.toList.length = k0.size := Array.length_toList
    rw [hx, mb, tbs_sum]
    simp only [Rows.uptoBulk, Rows.uptoBulkAll, x0]
    omega
theorem agg3_of {v : Value} {c0 c1 c2 : Value} (h : v.cells.toList = [c0, c1, c2]) : v = .agg #[c0, c1, c2] := by
  cases v with
  | agg cs =>
    have : cs.toList = [c0, c1, c2] := h
    obtain rfl : cs = #[c0, c1, c2] := by cases cs; simp_all
    rfl
  | _ => simp [Value.cells] at h
end
end Go.Proofs.YtaeoohjgdkablaaDoor

/- Terms in one another, deeper than a term may be: what tree's Right tells. -/
namespace Go.Proofs.YtaeoohjgdkablaaDoor
open Go.RowKit

/-- tuples in one another, and Nil in the innermost -/
def dT : Nat → Tm
  | 0 => .mk 6 0 ByteArray.empty [] [] []
  | j + 1 => .mk 5 0 ByteArray.empty [dT j] [] []
theorem dT_fits (j : Nat) : fitsB (dT j) = true := by
  cases j with
  | zero => rw [dT, fitsB]; simp [fitsK]
  | succ j => rw [dT, fitsB]; simp [fitsK]
theorem dT_bys (j : Nat) : ∃ k it re, dT j = .mk k 0 ByteArray.empty it re [] := by
  cases j with
  | zero => exact ⟨_, _, _, rfl⟩
  | succ j => exact ⟨_, _, _, rfl⟩
def RightD (h : Nat) : Prop := ∀ (F : Nat → Prop) (j : Nat) (w : World) (cs : List Value) (b : Nat) (d : Int), TermAt F w h (dT j) cs → w.heap[b]? = some (gCells (d - 1) (d - 1)) →
  1 ≤ d → d ≤ 201 → 201 ≤ d + j → (∀ q, F q → q ≠ b) →
  Calls Tryd.prog 31 #[.pointer (some ⟨b, 0, none⟩), .agg cs.toArray, .int .i64 d] w fun e w' => ∃ v, e = .returned v ∧ ChainB w.heap.size w' v [Lk.fault termS 200, Lk.kind 2] ∧ Kp (fun q => q = b) w w'

set_option maxRecDepth 100000 in
set_option maxHeartbeats 2000000 in
theorem rightd_succ {h : Nat} (ih : RightD h) : RightD (h + 1) := by
  intro F j w cs b d hT hg hd1 hd2 hdj hFb
  have hT' := hT
  obtain ⟨k, it, re, hdT⟩ := dT_bys j
  rw [hdT] at hT hT'
  obtain ⟨vi, vr, vb, rfl, hbd, h1, h2, h3⟩ := hT
  obtain ⟨p1, c1, rfl, hcap1, hl1, hel1⟩ := h1
  obtain ⟨p2, c2, rfl, hcap2, hl2, hel2⟩ := h2
  obtain ⟨p3, c3, rfl, hcap3, hl3, hel3⟩ := h3
  have hbl := (Array.getElem?_eq_some_iff.1 hg).1
  obtain ⟨w1, hw1⟩ : ∃ w1, w.alloc (.cells #[.int .i64 k, .int .i64 0, .string ByteArray.empty, .slice p1 it.length c1, .slice p2 re.length c2, .slice p3 0 c3] 25) = w1 := ⟨_, rfl⟩
  have hk1 : Kp (fun _ => False) w w1 := by rw [← hw1]; exact (Kp.refl _ w).alloc _
  have hr0 : w1.heap[w.heap.size]? = some (.cells #[.int .i64 k, .int .i64 0, .string ByteArray.empty, .slice p1 it.length c1, .slice p2 re.length c2, .slice p3 0 c3] 25 (0, 0)) := by rw [← hw1]; exact heap_alloc_new w _
  have hg1 : w1.heap[b]? = some (gCells (d - 1) (d - 1)) := (hk1.block b hbl (fun e => e)).trans hg
  have g0 : w1.cell? ⟨b, 0, none⟩ = some (.int .i64 (d - 1)) := by rw [cell_of_row w1 b 0 _ _ _ hg1]; rfl
  have l5 : w1.cell? ⟨w.heap.size, 5, none⟩ = some (.slice p3 0 c3) := by rw [cell_of_row w1 _ 5 _ _ _ hr0]; rfl
  have H1 := Lib.hid (And.intro hk1 (And.intro hr0 (And.intro hg1 (And.intro hT' (And.intro ih (And.intro hel1 hFb))))))
  have Hd := Lib.hid hdT
  clear hk1 hr0 hg1 hT' ih hel1 hel2 hel3 hg hbd hFb hdT
  have hne : w.heap.size ≠ b := by omega
  have hw1' : (w.alloc (.cells #[.int .i64 k, .int .i64 0, .string ByteArray.empty, .slice p1 it.length c1, .slice p2 re.length c2, .slice p3 ([] : List UInt8).length c3] 25)) = w1 := hw1
  show Calls Tryd.prog 31 #[.pointer (some ⟨b, 0, none⟩), .agg #[.int .i64 k, .int .i64 0, .string ByteArray.empty, .slice p1 it.length c1, .slice p2 re.length c2, .slice p3 0 c3], .int .i64 d] w _
  clear hw1'
  go_enter Tryd.func31, Tryd.ntmps31
  go_wp2_with fail
  clear hw1
  obtain ⟨hk1, hr0, hg1, hT', _⟩ := H1.out
  by_cases hbad : 200 < d
  · obtain rfl : d = 201 := by omega
    refine (meet_bad b 200 200 201 0 w1 hg1 (by omega) (by omega) (by omega) (by omega) (by omega) (by omega) (by omega) (.inr (by omega))).mono ?_
    rintro e w2 ⟨⟨v, rfl, hch⟩, hk2⟩
    obtain ⟨gv, rfl⟩ := hch.out.form
    have Hf := Lib.hid (And.intro (hch.le hk1.size) ((hk1.mono fun _ _ e => e.elim).trans' hk2))
    clear hch hk2 hk1 hr0 hg1 hT' g0 l5
    go_wp2_with fail
    go_ret
    exact ⟨_, rfl, Hf.out.1, Hf.out.2⟩
  · refine (meet_ok b (d - 1) (d - 1) d 0 w1 hg1 (by omega) (by omega) (by omega) (by omega) (by omega) (by omega)).mono ?_
    rintro e w2 ⟨rfl, hg2, hk2⟩
    obtain ⟨j', rfl⟩ : ∃ j', j = j' + 1 := ⟨j - 1, by omega⟩
    obtain ⟨rfl, rfl, rfl⟩ : k = 5 ∧ it = [dT j'] ∧ re = [] := by
      have := Hd.out
      rw [dT] at this
      injection this with e1 e2 e3 e4 e5 e6
      exact ⟨e1.symm, e4.symm, e5.symm⟩
    have hz1 := (Array.getElem?_eq_some_iff.1 hr0).1
    have hr2 := (hk2.block _ hz1 hne).trans hr0
    have hT2 : TermAt F w2 (h + 1) (.mk 5 0 ByteArray.empty [dT j'] [] []) _ := (hT'.kp hk1 (fun _ _ e => e)).kp hk2 H1.out.2.2.2.2.2.2
    have d0 : w2.cell? ⟨w.heap.size, 0, none⟩ = some (.int .i64 5) := by rw [cell_of_row w2 _ 0 _ _ _ hr2]; rfl
    have d1 : w2.cell? ⟨w.heap.size, 1, none⟩ = some (.int .i64 0) := by rw [cell_of_row w2 _ 1 _ _ _ hr2]; rfl
    have d2 : w2.cell? ⟨w.heap.size, 2, none⟩ = some (.string ByteArray.empty) := by rw [cell_of_row w2 _ 2 _ _ _ hr2]; rfl
    have d3 : w2.cell? ⟨w.heap.size, 3, none⟩ = some (.slice p1 1 c1) := by rw [cell_of_row w2 _ 3 _ _ _ hr2]; rfl
    have d4 : w2.cell? ⟨w.heap.size, 4, none⟩ = some (.slice p2 0 c2) := by rw [cell_of_row w2 _ 4 _ _ _ hr2]; rfl
    have d5 : w2.cell? ⟨w.heap.size, 5, none⟩ = some (.slice p3 0 c3) := by rw [cell_of_row w2 _ 5 _ _ _ hr2]; rfl
    have hg2' : w2.heap[b]? = some (gCells d d) := by
      have e1 : d - 1 + 1 = d := by omega
      have e2 : d - 1 + (1 + (0 : Int)) = d := by omega
      first
        | (rw [e1, e2] at hg2; exact hg2)
        | (simpa [e1] using hg2)
    have H2 := Lib.hid (And.intro hT2 (And.intro hr2 (And.intro hg2' ((hk1.mono fun _ _ e => e.elim).trans' hk2))))
    clear hT2 hr2 hg2 hg2' hk2 hk1 hr0 hg1 hT' g0 l5 hz1
    go_wp2_with fail
    refine (fits_any H2.out.1).mono ?_
    rintro e w3 ⟨rfl, hk3⟩
    have hff : fitsB (.mk 5 0 ByteArray.empty [dT j'] [] []) = true := dT_fits (j' + 1)
    rw [hff]
    have e3 : w3.cell? ⟨w.heap.size, 3, none⟩ = some (.slice p1 1 c1) := (hk3.cell (World.block_lt_of_cell? _ _ d3) (fun e => e)).trans d3
    have e4 : w3.cell? ⟨w.heap.size, 4, none⟩ = some (.slice p2 0 c2) := (hk3.cell (World.block_lt_of_cell? _ _ d4) (fun e => e)).trans d4
    obtain ⟨hT2, hr2, hg2, hk02⟩ := H2.out
    have hg3 : w3.heap[b]? = some (gCells d d) := (hk3.block b (Array.getElem?_eq_some_iff.1 hg2).1 (fun e => e)).trans hg2
    have H3 := Lib.hid (And.intro hg3 (hk02.trans' (hk3.mono fun _ _ e => e.elim)))
    have hdw : IntKind.i64.wrap (d + 1) = d + 1 := by rw [IntKind.wrap_i64]; omega
    have hd3 : d ≤ 200 := by omega
    have i0 := two0
    have i1 := two1
    clear hT2 hr2 hg2 hk02 hk3 hg3 d0 d1 d2 d3 d4 d5 hbad hff
    go_wp2_with fail
    refine wp_loop_rounds 3 ?_
    rw [rounds_succ]
    go_wp2_with fail
    go_loopg [43] 1 (fun gk ii wr => ii = Value.int .i64 0 ∧ wr.heap[b]? = some (gCells d d) ∧ Kp (fun q => q = b) w wr)
    case atStart => exact ⟨rfl, H3.out.1, H3.out.2⟩
    case round =>
      obtain ⟨rfl, hgr, hkr⟩ := hrel
      obtain ⟨hk1, hr0, hg1, hT', ih, hel1, hFb⟩ := H1.out
      obtain ⟨bx, off, q0, q1, q2, q3, q4, q5, rfl, hbF, a0, a1, a2, a3, a4, a5, htT⟩ := hel1 0 (dT j') rfl
      obtain ⟨jk, jn, js, ja, jl, jc, ja2, jl2, jd, ja3, jl3, je, hq⟩ := htT.form
      simp only [List.cons.injEq, and_true] at hq
      obtain ⟨rfl, rfl, rfl, rfl, rfl, rfl⟩ := hq
      have kc : ∀ i u, w.cell? ⟨bx, i, none⟩ = some u → wr.cell? ⟨bx, i, none⟩ = some u := fun i u e => cells_kp hkr (F := F) hFb bx i u hbF e
      rw [Nat.zero_mul, Nat.add_zero] at a0 a1 a2 a3 a4 a5
      have x0 := kc _ _ a0
      have x1 := kc _ _ a1
      have x2 := kc _ _ a2
      have x3 := kc _ _ a3
      have x4 := kc _ _ a4
      have x5 := kc _ _ a5
      have htr := htT.kp hkr hFb
      have Hr := Lib.hid (And.intro hgr (And.intro htr (And.intro hkr (And.intro ih hFb))))
      clear kc a0 a1 a2 a3 a4 a5 htT htr hgr hkr hk1 hr0 hg1 hT' ih hel1 hFb
      obtain ⟨wq, hwq⟩ : ∃ wq, wr.alloc (.cells #[.int .i64 jk, .int .i64 jn, .string js, .slice ja jl jc, .slice ja2 jl2 jd, .slice ja3 jl3 je] 25) = wq := ⟨_, rfl⟩
      have hkq : Kp (fun _ => False) wr wq := by rw [← hwq]; exact (Kp.refl _ wr).alloc _
      have Hq := Lib.hid (And.intro hkq hwq)
      clear hkq hwq
      go_wp2_with fail
      rw [Hq.out.2]
      refine (Hr.out.2.2.2.1 F j' wq _ b (d + 1) (Hr.out.2.1.kp Hq.out.1 (fun _ _ e => e)) (by rw [show d + 1 - 1 = d by omega]; exact (Hq.out.1.block b (Array.getElem?_eq_some_iff.1 Hr.out.1).1 (fun e => e)).trans Hr.out.1) (by omega) (by omega) (by omega) Hr.out.2.2.2.2).mono ?_
      have hkw : Kp (fun q => q = b) w wq := Hr.out.2.2.1.trans' (Hq.out.1.mono fun _ _ e => e.elim)
      rintro e w5 ⟨v, rfl, hch5, hk5⟩
      obtain ⟨gv, rfl⟩ := hch5.out.form
      have H5 := Lib.hid (And.intro (hch5.le hkw.size) (hkw.trans' hk5))
      clear hch5 hk5 hkw
      go_wp2_with fail
      go_ret
      exact ⟨_, rfl, H5.out.1, H5.out.2⟩
theorem rightd_all : ∀ h, RightD h
  | 0 => fun _ _ _ _ _ _ ht => ht.elim
  | h + 1 => rightd_succ (rightd_all h)

set_option maxHeartbeats 400000 in
/-- Right of tuples in one another, more than there may be: the part that is one too deep -/
theorem tright_d {F : Nat → Prop} {w : World} {h j : Nat} {cs : List Value} (hT : TermAt F w h (dT j) cs) (hj : 200 ≤ j) :
    Calls Tryd.prog 18 #[.agg cs.toArray] w fun e w' => (∃ v, e = .returned v ∧ ChainB w.heap.size w' v [Lk.fault termS 200, Lk.kind 2]) ∧ Kp (fun _ => False) w w' := by
  obtain ⟨k, n, s, a, l, c, a2, l2, d, a3, l3, e, rfl⟩ := hT.form
  obtain ⟨w2, hw2⟩ : ∃ w2, (w.alloc (.cells #[.int .i64 k, .int .i64 n, .string s, .slice a l c, .slice a2 l2 d, .slice a3 l3 e] 25)).alloc (.cells #[.int .i64 0, .int .i64 0] 76) = w2 := ⟨_, rfl⟩
  have hk : Kp (fun _ => False) w w2 := by rw [← hw2]; exact ((Kp.refl _ w).alloc _).alloc _
  have hg : w2.heap[w.heap.size + 1]? = some (gCells 0 0) := by
    rw [← hw2]
    have := heap_alloc_new (w.alloc (.cells #[.int .i64 k, .int .i64 n, .string s, .slice a l c, .slice a2 l2 d, .slice a3 l3 e] 25)) (.cells #[.int .i64 0, .int .i64 0] 76)
    have hz : (w.alloc (.cells #[.int .i64 k, .int .i64 n, .string s, .slice a l c, .slice a2 l2 d, .slice a3 l3 e] 25)).heap.size = w.heap.size + 1 := by simp
    rw [hz] at this
    exact this
  have hc := rightd_all h (fun q => F q ∧ q < w.heap.size) j w2 _ (w.heap.size + 1) 1 (TermAt.kp (F := fun q => F q ∧ q < w.heap.size) hT.low hk (fun _ _ e => e)) hg (by omega) (by omega) (by omega) (fun q e => by have := e.2; omega)
  have Hw := Lib.hid (And.intro hw2 (And.intro hc (And.intro hk hg)))
  clear hw2 hc hk hg
  go_enter Tryd.func18, Tryd.ntmps18
  go_wp2_with fail
  rw [Hw.out.1]
  refine Hw.out.2.1.mono ?_
  have hk := Hw.out.2.2.1
  have hup : ∀ w3, Kp (fun q => q = w.heap.size + 1) w2 w3 → Kp (fun _ => False) w w3 := fun w3 h3 => hk.trans (h3.mono fun q _ e => .inr ⟨by omega, by have := (Array.getElem?_eq_some_iff.1 Hw.out.2.2.2).1; omega⟩)
  rintro e w3 ⟨v, rfl, hch, hk3⟩
  obtain ⟨gv, rfl⟩ := hch.out.form
  have H3 := Lib.hid (And.intro (hch.le hk.size) (hup w3 hk3))
  clear hch hk3 hup hk
  go_wp2_with fail
  go_ret
  exact ⟨⟨_, rfl, H3.out.1⟩, H3.out.2⟩
end Go.Proofs.YtaeoohjgdkablaaDoor
