/- A module that came in: its reading opened. -/
import Derived.Test.YtpdepmkojbpklaaDoorM49
/- A module that came in: its reading opened. -/
namespace Go.Proofs.YtpdepmkojbpklaaDoor
open Go.ChangeShapes Go.WideShapes Go.Deep Go.RowKit
section
variable {H : Type} {enc : TypeId × Value → H} {P : Program} {w : World} {base : Nat} {spare : Nat → Bool} {held : Bool}

theorem sum_ones {α : Type} : ∀ l : List α, (l.map fun _ => 1).sum = l.length
  | [] => rfl
  | _ :: l => by simp [sum_ones l]; omega
def insIs (cs : List Value) (x : In4) : Prop := cs = [.int .i64 x.op, .int .i64 x.a, .int .i64 x.b, .int .i64 x.c] ∧ x.wf
theorem opened_ins {iT : TypeId} {g0 g1 g2 g3 : Field} (he : P.underlying iT = some (.struct #[g0, g1, g2, g3])) (hone : oneCellFields P #[g0, g1, g2, g3] = true) (hC : P.cellsOf iT = 4)
    (u0 : P.underlying g0.type = some (.int .i64)) (u1 : P.underlying g1.type = some (.int .i64)) (u2 : P.underlying g2.type = some (.int .i64)) (u3 : P.underlying g3.type = some (.int .i64))
    (fuel : Nat) (cs : List Value) (x : DataW H × List MemPlace) (h : DataW.trod enc P w base spare held fuel iT cs = some x) : ∃ z, insIs cs z := by
  obtain ⟨c0, c1, c2, c3, y0, y1, y2, y3, n, rfl, hx, r0, r1, r2, r3⟩ := four_fields he hone hC h
  obtain ⟨k0, e0, _, w0⟩ := DataW.trod_int u0 r0
  obtain ⟨k1, e1, _, w1⟩ := DataW.trod_int u1 r1
  obtain ⟨k2, e2, _, w2⟩ := DataW.trod_int u2 r2
  obtain ⟨k3, e3, _, w3⟩ := DataW.trod_int u3 r3
  have e0' : c0 = .int .i64 k0 := by injection e0
  have e1' : c1 = .int .i64 k1 := by injection e1
  have e2' : c2 = .int .i64 k2 := by injection e2
  have e3' : c3 = .int .i64 k3 := by injection e3
  subst e0' e1' e2' e3'
  exact ⟨⟨k0, k1, k2, k3⟩, rfl, bounds_i64 w0, bounds_i64 w1, bounds_i64 w2, bounds_i64 w3⟩
theorem opened_fn {iT fT : TypeId} {g0 g1 g2 g3 f0 f1 f2 f3 : Field} (hi : P.underlying iT = some (.struct #[g0, g1, g2, g3])) (hio : oneCellFields P #[g0, g1, g2, g3] = true) (hiC : P.cellsOf iT = 4)
    (v0 : P.underlying g0.type = some (.int .i64)) (v1 : P.underlying g1.type = some (.int .i64)) (v2 : P.underlying g2.type = some (.int .i64)) (v3 : P.underlying g3.type = some (.int .i64)) (hib : P.bytesOf iT = 32)
    (he : P.underlying fT = some (.struct #[f0, f1, f2, f3])) (hone : oneCellFields P #[f0, f1, f2, f3] = true) (hC : P.cellsOf fT = 4)
    (u0 : P.underlying f0.type = some .string) (u1 : P.underlying f1.type = some (.int .i64)) (u2 : P.underlying f2.type = some (.int .i64)) (u3 : P.underlying f3.type = some (.slice iT))
    (fuel : Nat) (cs : List Value) (x : DataW H × List MemPlace) (hs : ∀ n ∈ x.1.weights P fT, n ≤ reachBytes) (h : DataW.trod enc P w base spare held fuel fT cs = some x) :
    ∃ z, FnAt (fun q => q < w.heap.size) w z cs ∧ fb z ≤ Rows.uptoBulk x.1 := by
  obtain ⟨c0, c1, c2, c3, y0, y1, y2, y3, n, rfl, hx, r0, r1, r2, r3⟩ := four_fields he hone hC h
  have hs' := parts_weigh he hx hs
  obtain ⟨k0, e0, x0, w0⟩ := DataW.trod_string u0 r0
  obtain ⟨k1, e1, _, w1⟩ := DataW.trod_int u1 r1
  obtain ⟨k2, e2, _, w2⟩ := DataW.trod_int u2 r2
  obtain ⟨l, po, cap, e3, h1, h2, h3, h4⟩ := opened_row (μ := fun _ => 1) (p := insIs) u3 hiC (by omega) (hs' 3 f3 y3.1 rfl rfl) r3 (fun n' cs' y' _ _ hr' => by
    obtain ⟨z, hz⟩ := opened_ins hi hio hiC v0 v1 v2 v3 n' cs' y' hr'
    exact ⟨z, hz, bulk_pos _⟩)
  rw [hib] at h2
  rw [sum_ones] at h3
  have e0' : c0 = .string k0 := by injection e0
  have e1' : c1 = .int .i64 k1 := by injection e1
  have e2' : c2 = .int .i64 k2 := by injection e2
  subst e0' e1' e2' e3
  refine ⟨⟨k0, k1, k2, l⟩, ⟨_, rfl, bounds_i64 w1, bounds_i64 w2, w0, po, cap, rfl, h1, h2, fun i z hz => ?_⟩, ?_⟩
  · obtain ⟨b, off, cs', rfl, hb, hcl, ⟨rfl, hw⟩, hat⟩ := h4 i z hz
    exact ⟨b, off, rfl, hb, hat 0 (by omega), hat 1 (by omega), hat 2 (by omega), hat 3 (by omega), hw⟩
  · have hss : k0.data.toList.length = k0.size := Array.length_toList
    rw [hx, fb]
    simp only [Rows.uptoBulk, Rows.uptoBulkAll, x0]
    omega
theorem opened_md {iT fT tT eu mT : TypeId} {g0 g1 g2 g3 f0 f1 f2 f3 t0 t1 t2 t3 t4 t5 m0 m1 m2 : Field}
    (hi : P.underlying iT = some (.struct #[g0, g1, g2, g3])) (hio : oneCellFields P #[g0, g1, g2, g3] = true) (hiC : P.cellsOf iT = 4)
    (v0 : P.underlying g0.type = some (.int .i64)) (v1 : P.underlying g1.type = some (.int .i64)) (v2 : P.underlying g2.type = some (.int .i64)) (v3 : P.underlying g3.type = some (.int .i64)) (hib : P.bytesOf iT = 32)
    (he : P.underlying fT = some (.struct #[f0, f1, f2, f3])) (hone : oneCellFields P #[f0, f1, f2, f3] = true) (hC : P.cellsOf fT = 4)
    (u0 : P.underlying f0.type = some .string) (u1 : P.underlying f1.type = some (.int .i64)) (u2 : P.underlying f2.type = some (.int .i64)) (u3 : P.underlying f3.type = some (.slice iT)) (hfb : P.bytesOf fT = 56)
    (te : P.underlying tT = some (.struct #[t0, t1, t2, t3, t4, t5])) (tone : oneCellFields P #[t0, t1, t2, t3, t4, t5] = true) (tC : P.cellsOf tT = 6)
    (z0 : P.underlying t0.type = some (.int .i64)) (z1 : P.underlying t1.type = some (.int .i64)) (z2 : P.underlying t2.type = some .string) (z3 : P.underlying t3.type = some (.slice tT)) (z4 : P.underlying t4.type = some (.slice tT))
    (z5 : P.underlying t5.type = some (.slice eu)) (hu : P.underlying eu = some (.int .u8)) (huc : P.cellsOf eu = 1) (hbe : P.bytesOf tT = 104) (hbu : P.bytesOf eu = 1)
    (me : P.underlying mT = some (.struct #[m0, m1, m2])) (mone : oneCellFields P #[m0, m1, m2] = true) (mC : P.cellsOf mT = 3)
    (y0 : P.underlying m0.type = some .string) (y1 : P.underlying m1.type = some (.slice tT)) (y2 : P.underlying m2.type = some (.slice fT))
    (fuel : Nat) (cs : List Value) (x : DataW H × List MemPlace) (hs : ∀ n ∈ x.1.weights P mT, n ≤ reachBytes) (h : DataW.trod enc P w base spare held fuel mT cs = some x) :
    ∃ (m : Md) (k : Nat) (po : Option Addr) (n c : Nat) (po2 : Option Addr) (n2 c2 : Nat), cs = [.string m.name, .slice po n c, .slice po2 n2 c2] ∧ MdAt (fun q => q < w.heap.size) w k m cs ∧ mb m ≤ Rows.uptoBulk x.1 := by
  obtain ⟨c0, c1, c2, d0, d1, d2, n, rfl, hx, r0, r1, r2⟩ := three_fields me mone mC h
  have hs' := parts_weigh me hx hs
  obtain ⟨k0, e0, x0, w0⟩ := DataW.trod_string y0 r0
  obtain ⟨l, po, cap, e1, h1, h2, h3, h4⟩ := opened_row (μ := tb) (p := fun cs' t => TermAt (fun q => q < w.heap.size) w (SizeOf.sizeOf d1.1) t cs') y1 tC (by omega) (hs' 1 m1 d1.1 rfl rfl) r1
    (fun n' cs' y' hz' hw' hr' => opened_termB te tone tC z0 z1 z2 z3 z4 z5 hu huc hbe hbu _ n' cs' y' (by omega) hw' hr')
  obtain ⟨lf, pf, cf, e2, k1, k2, k3, k4⟩ := opened_row (μ := fb) (p := fun cs' z => FnAt (fun q => q < w.heap.size) w z cs') y2 hC (by omega) (hs' 2 m2 d2.1 rfl rfl) r2
    (fun n' cs' y' _ hw' hr' => opened_fn hi hio hiC v0 v1 v2 v3 hib he hone hC u0 u1 u2 u3 n' cs' y' hw' hr')
  rw [hbe] at h2
  rw [hfb] at k2
  have e0' : c0 = .string k0 := by injection e0
  subst e0' e1 e2
  refine ⟨⟨k0, l, lf⟩, SizeOf.sizeOf d1.1, _, _, _, _, _, _, rfl, ⟨_, _, rfl, w0, ⟨po, cap, rfl, h1, h2, fun i t hit => ?_⟩, ⟨pf, cf, rfl, k1, k2, fun i z hz => ?_⟩⟩, ?_⟩
  · obtain ⟨b, off, cs', rfl, hb, hcl, hp, hat⟩ := h4 i t hit
    match cs', hcl with
    | [d0, d1, d2, d3, d4, d5], _ => exact ⟨b, off, d0, d1, d2, d3, d4, d5, rfl, hb, hat 0 (by omega), hat 1 (by omega), hat 2 (by omega), hat 3 (by omega), hat 4 (by omega), hat 5 (by omega), hp⟩
  · obtain ⟨b, off, cs', rfl, hb, hcl, hp, hat⟩ := k4 i z hz
    match cs', hcl with
    | [d0, d1, d2, d3], _ => exact ⟨b, off, d0, d1, d2, d3, rfl, hb, hat 0 (by omega), hat 1 (by omega), hat 2 (by omega), hat 3 (by omega), hp⟩
  · have hss : k0.data.toList.length = k0.size := Array.length_toList
    rw [hx, mb, tbs_sum]
    simp only [Rows.uptoBulk, Rows.uptoBulkAll, x0]
    omega
theorem agg3_of {v : Value} {c0 c1 c2 : Value} (h : v.cells.toList = [c0, c1, c2]) : v = .agg #[c0, c1, c2] := by
  cases v with
  | agg cs =>
    have : cs.toList = [c0, c1, c2] := h
    obtain rfl : cs = #[c0, c1, c2] := by cases cs; simp_all
    rfl
  | _ => simp [Value.cells] at h
end
end Go.Proofs.YtpdepmkojbpklaaDoor
