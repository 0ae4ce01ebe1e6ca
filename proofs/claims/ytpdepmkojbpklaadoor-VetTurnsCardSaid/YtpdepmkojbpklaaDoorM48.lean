/- trouperef02.Right of any term. A slice of bytes that came in. A script of steps that came in: a slice of structs of six cells, each of which is one field (four numbers, a bool, bytes). A term that came in: its reading opened, of whatever depth. -/
import Derived.Test.YtpdepmkojbpklaaDoorM02
import Derived.Test.YtpdepmkojbpklaaDoorM47
import Derived.OpenShut
import Derived.Deep.Slices
import Derived.Deep.Fields
import Derived.ChangeSame
import Derived.SizedLaws
/- trouperef02.Right of any term. -/
namespace Go.Proofs.YtpdepmkojbpklaaDoor
open Go.RowKit

theorem look_all : ∀ h, LookIs h
  | 0 => fun _ _ _ _ _ _ _ _ ht => ht.elim
  | h + 1 => look_succ (look_all h)

set_option maxHeartbeats 1000000 in
set_option maxRecDepth 100000 in
/-- Right of any term -/
theorem rright_any {F : Nat → Prop} {w : World} {h : Nat} {T : Tm} {cs : List Value} (hT : TermAt F w h T cs) :
    Calls Tryd.prog 29 #[.agg cs.toArray] w fun e w' => ((e = .returned (.pointer none) ∧ tok 200 T ∧ tsz h T ≤ 65536) ∨ ((∃ p, e = .returned (.pointer (some p))) ∧ ¬ (tok 200 T ∧ tsz h T ≤ 65536))) ∧ Kp (fun _ => False) w w' := by
  obtain ⟨k, n, s, a, l, c, a2, l2, d, a3, l3, e, rfl⟩ := hT.form
  obtain ⟨w1, hw1⟩ : ∃ w1, w.alloc (.cells #[.int .i64 k, .int .i64 n, .string s, .slice a l c, .slice a2 l2 d, .slice a3 l3 e] 35) = w1 := ⟨_, rfl⟩
  obtain ⟨w2, hw2⟩ : ∃ w2, w1.alloc (lCells 65536 0 (.pointer none)) = w2 := ⟨_, rfl⟩
  have hk1 : Kp (fun _ => False) w w1 := by rw [← hw1]; exact (Kp.refl _ w).alloc _
  have hk12 : Kp (fun _ => False) w1 w2 := by rw [← hw2]; exact (Kp.refl _ w1).alloc _
  have hk := hk1.trans' hk12
  have hz1 : w1.heap.size = w.heap.size + 1 := by rw [← hw1]; simp
  have hb1 : w1.heap[w.heap.size]? = some (.cells #[.int .i64 k, .int .i64 n, .string s, .slice a l c, .slice a2 l2 d, .slice a3 l3 e] 35 (0, 0)) := by rw [← hw1]; exact heap_alloc_new w _
  have hb2 := (hk12.block _ (Array.getElem?_eq_some_iff.1 hb1).1 (fun e => e)).trans hb1
  have hg : w2.heap[w1.heap.size]? = some (lCells 65536 0 (.pointer none)) := by rw [← hw2]; exact heap_alloc_new w1 _
  have y0 : w2.cell? ⟨w.heap.size, 0, none⟩ = some (.int .i64 k) := by rw [cell_of_row w2 _ 0 _ _ _ hb2]; rfl
  have y1 : w2.cell? ⟨w.heap.size, 1, none⟩ = some (.int .i64 n) := by rw [cell_of_row w2 _ 1 _ _ _ hb2]; rfl
  have y2 : w2.cell? ⟨w.heap.size, 2, none⟩ = some (.string s) := by rw [cell_of_row w2 _ 2 _ _ _ hb2]; rfl
  have y3 : w2.cell? ⟨w.heap.size, 3, none⟩ = some (.slice a l c) := by rw [cell_of_row w2 _ 3 _ _ _ hb2]; rfl
  have y4 : w2.cell? ⟨w.heap.size, 4, none⟩ = some (.slice a2 l2 d) := by rw [cell_of_row w2 _ 4 _ _ _ hb2]; rfl
  have y5 : w2.cell? ⟨w.heap.size, 5, none⟩ = some (.slice a3 l3 e) := by rw [cell_of_row w2 _ 5 _ _ _ hb2]; rfl
  have hc := look_all h (fun q => F q ∧ q < w.heap.size) T w2 _ w1.heap.size 65536 0 1 (TermAt.kp (F := fun q => F q ∧ q < w.heap.size) hT.low hk (fun _ _ e => e)) hg (by omega) (by omega) (by omega) (by omega) (by omega) (fun q e => by have := e.2; omega)
  have Hw := Lib.hid (And.intro hc (And.intro hk (And.intro hz1 hb2)))
  unfold lCells at hw2
  clear hc hk hk1 hk12 hz1 hb1 hb2 hg
  go_enter Tryd.func29, Tryd.ntmps29
  go_wp2_with fail
  refine Hw.out.1.mono ?_
  have hz1 := Hw.out.2.2.1
  have hup : ∀ w3, Kp (fun q => q = w1.heap.size) w2 w3 → Kp (fun _ => False) w w3 := fun w3 h3 => Hw.out.2.1.trans (h3.mono fun q _ e => .inr ⟨by omega, by omega⟩)
  rintro e w3 ⟨rfl, hk3, (⟨ht, hs, n', hh, -, -⟩ | ⟨hno, l', n', p, hh⟩)⟩
  · have c2 : w3.cell? ⟨w1.heap.size, 2, none⟩ = some (.pointer none) := by unfold lCells at hh; rw [cell_of_row w3 _ 2 _ _ _ hh]; rfl
    have H3 := Lib.hid (And.intro (And.intro ht hs) (hup w3 hk3))
    clear hup hk3 hh ht hs hz1
    go_wp2_with fail
    go_ret
    exact ⟨.inl ⟨rfl, (show tok 200 T from H3.out.1.1), by have := H3.out.1.2; omega⟩, H3.out.2⟩
  · have c2 : w3.cell? ⟨w1.heap.size, 2, none⟩ = some (.pointer (some p)) := by unfold lCells at hh; rw [cell_of_row w3 _ 2 _ _ _ hh]; rfl
    have H3 := Lib.hid (And.intro hno (hup w3 hk3))
    clear hup hk3 hh hno hz1
    go_wp2_with fail
    go_ret
    exact ⟨.inr ⟨⟨_, rfl⟩, fun hx => H3.out.1 ⟨(show tok (201 - 1 : Int).toNat T from hx.1), by have := hx.2; omega⟩⟩, H3.out.2⟩
end Go.Proofs.YtpdepmkojbpklaaDoor

/- A slice of bytes that came in. -/
namespace Go.Proofs.YtpdepmkojbpklaaDoor
open Go.RowKit

def BIn (w : World) (a : Option Addr) (len cap : Nat) (f : Nat → UInt8) : Prop :=
  len ≤ cap ∧ cap ≤ 9223372036854775807 ∧ ∀ k, k < len → ∃ b off, a = some ⟨b, off, none⟩ ∧ b < w.heap.size ∧ w.cell? ⟨b, off + k, none⟩ = some (.int .u8 (f k).toNat)

/-- the first m of them -/
def bl (f : Nat → UInt8) (m : Nat) : List UInt8 := (List.range m).map f
theorem bl_len (f : Nat → UInt8) (m : Nat) : (bl f m).length = m := by simp [bl]
theorem bl_get {f : Nat → UInt8} {m i : Nat} {c : UInt8} (h : (bl f m)[i]? = some c) : i < m ∧ c = f i := by
  have hl := (List.getElem?_eq_some_iff.1 h).1
  rw [bl_len] at hl
  refine ⟨hl, ?_⟩
  simp [bl, hl] at h
  exact h.symm

theorem bIn_of {w : World} {x : Addr} {len cap : Nat} {zs : List Int} (h1 : len ≤ cap) (h2 : cap ≤ maxLen) (h3 : len ≤ zs.length) (h4 : ∀ i, i < zs.length → w.cell? (x.add i) = some (.int .u8 (zs.getD i 0))) (h5 : ∀ n ∈ zs, (Lit.int .u8 n).wf = true) :
    BIn w (some x) len cap (fun k => UInt8.ofNat (zs.getD k 0).toNat) := by
  refine ⟨h1, by unfold maxLen at h2; omega, fun k hk => ?_⟩
  obtain ⟨b, off, rfl, hc⟩ := ints_at h4 (by omega)
  have hk' := hc k (by omega)
  refine ⟨b, off, rfl, World.block_lt_of_cell? _ _ hk', ?_⟩
  have hm : zs.getD k 0 ∈ zs := by
    have : k < zs.length := by omega
    rw [List.getD_eq_getElem?_getD, List.getElem?_eq_getElem this]
    exact List.getElem_mem this
  have hw := h5 _ hm
  obtain ⟨z, hz⟩ : ∃ z, zs.getD k 0 = z := ⟨_, rfl⟩
  show _ = some (Value.int .u8 (UInt8.ofNat (zs.getD k 0).toNat).toNat)
  rw [hz] at hk' hw ⊢
  have hb := bounds_u8 hw
  rw [hk']
  congr 2
  rw [UInt8.toNat_ofNat']
  omega

theorem BIn.at' {w : World} {a : Option Addr} {len cap : Nat} {f : Nat → UInt8} (h : BIn w a len cap f) {m c : Nat} (hm : m ≤ len) (hM : m ≤ 140737488351232) (hc : m ≤ c) : BytesAt (fun q => q < w.heap.size) w (bl f m) (.slice a m c) := by
  refine ⟨a, c, by rw [bl_len], by rw [bl_len]; exact hc, by rw [bl_len]; exact hM, fun i x hi => ?_⟩
  obtain ⟨him, rfl⟩ := bl_get hi
  obtain ⟨b, off, h1, h2, h3⟩ := h.2.2 i (by omega)
  exact ⟨b, off, h1, h2, h3⟩
theorem bIn_nil (w : World) (f : Nat → UInt8) : BIn w none 0 0 f := ⟨by omega, by omega, fun k hk => by omega⟩
end Go.Proofs.YtpdepmkojbpklaaDoor

/- A script of steps that came in: a slice of structs of six cells, each of which is one field (four numbers, a bool, bytes). -/
namespace Go.Proofs.YtpdepmkojbpklaaDoor
open Go.ChangeShapes Go.WideShapes Go.Deep Go.RowKit

/-- one step: its six cells from (b, off) on -/
def OpAt (w : World) (b off : Nat) : Prop :=
  ∃ (k h x y : Int) (raw : Bool) (po : Option Addr) (len cap : Nat) (f : Nat → UInt8),
    ((Lit.int .i64 k).wf = true ∧ (Lit.int .i64 h).wf = true ∧ (Lit.int .i64 x).wf = true ∧ (Lit.int .i64 y).wf = true) ∧
    w.cell? ⟨b, off, none⟩ = some (.int .i64 k) ∧ w.cell? ⟨b, off + 1, none⟩ = some (.int .i64 h) ∧
    w.cell? ⟨b, off + 2, none⟩ = some (.int .i64 x) ∧ w.cell? ⟨b, off + 3, none⟩ = some (.int .i64 y) ∧
    w.cell? ⟨b, off + 4, none⟩ = some (.bool raw) ∧ w.cell? ⟨b, off + 5, none⟩ = some (.slice po len cap) ∧ BIn w po len cap f ∧ len ≤ 140737488351232

/-- a slice of steps -/
def OpsIn (w : World) (a : Option Addr) (len cap : Nat) : Prop :=
  len ≤ cap ∧ cap ≤ maxLen ∧ len * 64 ≤ 140737488351232 ∧ ∀ i, i < len → ∃ b off, a = some ⟨b, off, none⟩ ∧ b < w.heap.size ∧ OpAt w b (off + i * 6)

section
variable {H : Type} {enc : TypeId × Value → H} {P : Program} {w : World} {base : Nat} {spare : Nat → Bool} {held : Bool}
theorem all_mem {e : TypeId} : ∀ {l : List (DataW H)} {d : DataW H}, d ∈ l → ∀ n ∈ d.weights P e, n ∈ DataW.weightsAll P e l
  | c :: l, d, hd, n, hn => by
    rw [DataW.weightsAll, List.mem_append]
    rcases List.mem_cons.1 hd with rfl | hd
    · exact .inl hn
    · exact .inr (all_mem hd n hn)

theorem opened_bytes {t e : TypeId} {fuel : Nat} {v : Value} {y : DataW H × List MemPlace} (ht : P.underlying t = some (.slice e)) (he : P.underlying e = some (.int .u8)) (hc : P.cellsOf e = 1) (hb : P.bytesOf e = 1)
    (hs : ∀ n ∈ y.1.weights P t, n ≤ reachBytes)
    (h : DataW.trod enc P w base spare held fuel t [v] = some y) : ∃ po len cap f, v = .slice po len cap ∧ BIn w po len cap f ∧ len ≤ 140737488351232 := by
  rcases open_ints ht he hc h with ⟨h1, _⟩ | ⟨a, len, cap, zs, h1, _, h3, h4, h5, hy, h6, h7⟩
  · injection h1 with h1
    exact ⟨none, 0, 0, fun _ => 0, h1, bIn_nil w _, by omega⟩
  · injection h1 with h1
    have hle : len ≤ zs.length := by rw [h5]; split <;> omega
    refine ⟨some a, len, cap, _, h1, bIn_of h3 h4 hle h6 h7, ?_⟩
    subst hy
    have := hs (((lits (H := H) .u8 (zs.take len)).length + (lits (H := H) .u8 (zs.drop len)).length) * P.bytesOf e) (by simp [DataW.weights, ht])
    rw [hb] at this
    have e1 : (lits (H := H) .u8 (zs.take len)).length = len := by simp [lits]; omega
    unfold reachBytes at this
    omega

theorem opened_ops {t e eu : TypeId} {f0 f1 f2 f3 f4 f5 : Field} {fuel : Nat} {cs : List Value} {x : DataW H × List MemPlace} (ht : P.underlying t = some (.slice e)) (he : P.underlying e = some (.struct #[f0, f1, f2, f3, f4, f5]))
    (hone : oneCellFields P #[f0, f1, f2, f3, f4, f5] = true) (hC : P.cellsOf e = 6)
    (u0 : P.underlying f0.type = some (.int .i64)) (u1 : P.underlying f1.type = some (.int .i64)) (u2 : P.underlying f2.type = some (.int .i64)) (u3 : P.underlying f3.type = some (.int .i64))
    (u4 : P.underlying f4.type = some .bool) (u5 : P.underlying f5.type = some (.slice eu)) (hu : P.underlying eu = some (.int .u8)) (huc : P.cellsOf eu = 1) (hbe : P.bytesOf e = 64) (hbu : P.bytesOf eu = 1) (hs : ∀ n ∈ x.1.weights P t, n ≤ reachBytes)
    (h : DataW.trod enc P w base spare held fuel t cs = some x) : ∃ po len cap, cs = [.slice po len cap] ∧ OpsIn w po len cap := by
  rcases open_slice ht h with ⟨h0, _⟩ | ⟨a, len, cap, m, n, D, Pl, hcs, hb, hl, hm, hmm, hx, hi⟩
  · exact ⟨none, 0, 0, h0, Nat.le_refl _, Nat.zero_le _, by omega, fun i hi => by omega⟩
  · subst hx
    have hn0 := hs ((((List.range len).map D).length + ((List.range (m - len)).map fun j => D (len + j)).length) * P.bytesOf e) (by simp [DataW.weights, ht])
    rw [hbe] at hn0
    simp only [List.length_map, List.length_range] at hn0
    unfold reachBytes at hn0
    have hsD : ∀ i, i < len → ∀ n ∈ (D i).weights P e, n ≤ reachBytes := fun i hi n hn => by
      refine hs n ?_
      simp only [DataW.weights, ht]
      exact List.mem_cons_of_mem _ (List.mem_append_left _ (all_mem (List.mem_map.2 ⟨i, List.mem_range.2 hi, rfl⟩) n hn))
    refine ⟨some a, len, cap, hcs, hl, hm, by omega, fun i hil => ?_⟩
    have hlm : len ≤ m := by rw [hmm]; split <;> omega
    obtain ⟨b, off, spot⟩ := a
    have hspot : spot = none := by
      obtain ⟨cs', hc, ht'⟩ := hi 0 (by omega)
      rw [hC] at hc
      obtain ⟨_, hcl, hat⟩ := World.cells?_some hc
      have h0 := hat 0 (by omega)
      rw [List.getElem?_eq_getElem (show 0 < cs'.length by omega)] at h0
      simpa [Addr.add] using World.cell?_spot h0
    subst hspot
    obtain ⟨cs', hc, ht'⟩ := hi i (by omega)
    rw [hC] at hc
    obtain ⟨ys, n', _, hagg, _, hyl, hf⟩ := DataW.trod_struct he ht'
    have hDi : D i = .agg (ys.map (·.1)) := congrArg Prod.fst hagg
    have hyl' : ys.length = 6 := hyl
    obtain ⟨_, hcl, hat⟩ := World.cells?_some hc
    have hat' : ∀ j, j < 6 → w.cell? ⟨b, off + i * 6 + j, none⟩ = cs'[j]? := fun j hj => by
      rw [← hat j hj, add_plain, add_plain]
    have r0 := hf 0 f0 rfl
    have r1 := hf 1 f1 rfl
    have r2 := hf 2 f2 rfl
    have r3 := hf 3 f3 rfl
    have r4 := hf 4 f4 rfl
    have r5 := hf 5 f5 rfl
    rw [(hone_of hone 0 f0 rfl).1, (hone_of hone 0 f0 rfl).2, List.getElem?_eq_getElem (by omega)] at r0
    rw [(hone_of hone 1 f1 rfl).1, (hone_of hone 1 f1 rfl).2, List.getElem?_eq_getElem (by omega)] at r1
    rw [(hone_of hone 2 f2 rfl).1, (hone_of hone 2 f2 rfl).2, List.getElem?_eq_getElem (by omega)] at r2
    rw [(hone_of hone 3 f3 rfl).1, (hone_of hone 3 f3 rfl).2, List.getElem?_eq_getElem (by omega)] at r3
    rw [(hone_of hone 4 f4 rfl).1, (hone_of hone 4 f4 rfl).2, List.getElem?_eq_getElem (by omega)] at r4
    rw [(hone_of hone 5 f5 rfl).1, (hone_of hone 5 f5 rfl).2, List.getElem?_eq_getElem (by omega)] at r5
    match cs', hcl with
    | [c0, c1, c2, c3, c4, c5], _ =>
      obtain ⟨k, e0, _, w0⟩ := DataW.trod_int u0 r0
      obtain ⟨hh, e1, _, w1⟩ := DataW.trod_int u1 r1
      obtain ⟨xx, e2, _, w2⟩ := DataW.trod_int u2 r2
      obtain ⟨yy, e3, _, w3⟩ := DataW.trod_int u3 r3
      obtain ⟨raw, e4, _⟩ := DataW.trod_bool u4 r4
      obtain ⟨po, len', cap', f, e5, hbin, hlen'⟩ := opened_bytes (v := c5) u5 hu huc hbu (fun n hn => by
        refine hsD i hil n ?_
        rw [hDi]
        simp only [DataW.weights, he]
        exact DataW.weights_mem_each (j := 5) (t := f5.type) rfl (by rw [List.getElem?_map, List.getElem?_eq_getElem (by omega)]; rfl) n hn) r5
      have e0' : c0 = .int .i64 k := by injection e0
      have e1' : c1 = .int .i64 hh := by injection e1
      have e2' : c2 = .int .i64 xx := by injection e2
      have e3' : c3 = .int .i64 yy := by injection e3
      have e4' : c4 = .bool raw := by injection e4
      subst e0' e1' e2' e3' e4' e5
      have hc0 : w.cell? ⟨b, off + i * 6, none⟩ = some (.int .i64 k) := hat' 0 (by omega)
      exact ⟨b, off, rfl, World.block_lt_of_cell? _ _ hc0, k, hh, xx, yy, raw, po, len', cap', f, ⟨w0, w1, w2, w3⟩, hc0, hat' 1 (by omega), hat' 2 (by omega), hat' 3 (by omega), hat' 4 (by omega), hat' 5 (by omega), hbin, hlen'⟩
end
end Go.Proofs.YtpdepmkojbpklaaDoor

/- A term that came in: its reading opened, of whatever depth. -/
namespace Go.Proofs.YtpdepmkojbpklaaDoor
open Go.ChangeShapes Go.WideShapes Go.Deep Go.RowKit
section
variable {H : Type} {enc : TypeId × Value → H} {P : Program} {w : World} {base : Nat} {spare : Nat → Bool} {held : Bool}

theorem choose_tm {n : Nat} {p : Nat → Tm → Prop} (h : ∀ i, i < n → ∃ t, p i t) : ∃ l : List Tm, l.length = n ∧ ∀ (i : Nat) (t : Tm), l[i]? = some t → p i t := by
  refine ⟨(List.range n).map fun i => if h' : i < n then Classical.choose (h i h') else .mk 0 0 ByteArray.empty [] [] [], by simp, fun i t hi => ?_⟩
  rw [List.getElem?_map] at hi
  obtain ⟨j, hj, e⟩ := Option.map_eq_some_iff.1 hi
  obtain ⟨hlt, rfl⟩ := List.getElem?_eq_some_iff.1 hj
  simp at hlt e
  rw [dif_pos hlt] at e
  subst e
  exact Classical.choose_spec (h i hlt)

theorem bytes_of_in {a : Option Addr} {len cap : Nat} {f : Nat → UInt8} (h : BIn w a len cap f) (hl : len ≤ 140737488351232) : BytesAt (fun q => q < w.heap.size) w (bl f len) (.slice a len cap) :=
  h.at' (Nat.le_refl _) hl h.1

/-- six cells, each of which is one field -/
theorem six_fields {tT : TypeId} {f0 f1 f2 f3 f4 f5 : Field} (he : P.underlying tT = some (.struct #[f0, f1, f2, f3, f4, f5])) (hone : oneCellFields P #[f0, f1, f2, f3, f4, f5] = true) (hC : P.cellsOf tT = 6)
    {fuel : Nat} {cs : List Value} {x : DataW H × List MemPlace} (h : DataW.trod enc P w base spare held fuel tT cs = some x) :
    ∃ c0 c1 c2 c3 c4 c5 y0 y1 y2 y3 y4 y5 n, cs = [c0, c1, c2, c3, c4, c5] ∧ x.1 = .agg [y0.1, y1.1, y2.1, y3.1, y4.1, y5.1] ∧
      DataW.trod enc P w base spare held n f0.type [c0] = some y0 ∧ DataW.trod enc P w base spare held n f1.type [c1] = some y1 ∧ DataW.trod enc P w base spare held n f2.type [c2] = some y2 ∧
      DataW.trod enc P w base spare held n f3.type [c3] = some y3 ∧ DataW.trod enc P w base spare held n f4.type [c4] = some y4 ∧ DataW.trod enc P w base spare held n f5.type [c5] = some y5 := by
  obtain ⟨ys, n, _, rfl, hcl, hyl, hf⟩ := DataW.trod_struct he h
  rw [hC] at hcl
  have hyl' : ys.length = 6 := hyl
  have r0 := hf 0 f0 rfl
  have r1 := hf 1 f1 rfl
  have r2 := hf 2 f2 rfl
  have r3 := hf 3 f3 rfl
  have r4 := hf 4 f4 rfl
  have r5 := hf 5 f5 rfl
  rw [(hone_of hone 0 f0 rfl).1, (hone_of hone 0 f0 rfl).2] at r0
  rw [(hone_of hone 1 f1 rfl).1, (hone_of hone 1 f1 rfl).2] at r1
  rw [(hone_of hone 2 f2 rfl).1, (hone_of hone 2 f2 rfl).2] at r2
  rw [(hone_of hone 3 f3 rfl).1, (hone_of hone 3 f3 rfl).2] at r3
  rw [(hone_of hone 4 f4 rfl).1, (hone_of hone 4 f4 rfl).2] at r4
  rw [(hone_of hone 5 f5 rfl).1, (hone_of hone 5 f5 rfl).2] at r5
  match cs, hcl, ys, hyl' with
  | [c0, c1, c2, c3, c4, c5], _, [y0, y1, y2, y3, y4, y5], _ => exact ⟨c0, c1, c2, c3, c4, c5, y0, y1, y2, y3, y4, y5, n, rfl, rfl, r0, r1, r2, r3, r4, r5⟩

variable {tT eu : TypeId} {f0 f1 f2 f3 f4 f5 : Field}
theorem opened_terms (he : P.underlying tT = some (.struct #[f0, f1, f2, f3, f4, f5])) (hone : oneCellFields P #[f0, f1, f2, f3, f4, f5] = true) (hC : P.cellsOf tT = 6)
    (u0 : P.underlying f0.type = some (.int .i64)) (u1 : P.underlying f1.type = some (.int .i64)) (u2 : P.underlying f2.type = some .string) (u3 : P.underlying f3.type = some (.slice tT)) (u4 : P.underlying f4.type = some (.slice tT))
    (u5 : P.underlying f5.type = some (.slice eu)) (hu : P.underlying eu = some (.int .u8)) (huc : P.cellsOf eu = 1) (hbe : P.bytesOf tT = 104) (hbu : P.bytesOf eu = 1) :
    ∀ (m fuel : Nat) (cs : List Value) (x : DataW H × List MemPlace), SizeOf.sizeOf x.1 ≤ m → (∀ n ∈ x.1.weights P tT, n ≤ reachBytes) → DataW.trod enc P w base spare held fuel tT cs = some x →
      ∃ T, TermAt (fun q => q < w.heap.size) w m T cs
  | 0, fuel, cs, x, hm, hs, h => by
    obtain ⟨c0, c1, c2, c3, c4, c5, y0, y1, y2, y3, y4, y5, n, rfl, hx, _⟩ := six_fields he hone hC h
    rw [hx] at hm
    simp at hm
  | m + 1, fuel, cs, x, hm, hs, h => by
    obtain ⟨c0, c1, c2, c3, c4, c5, y0, y1, y2, y3, y4, y5, n, rfl, hx, r0, r1, r2, r3, r4, r5⟩ := six_fields he hone hC h
    have ih := opened_terms he hone hC u0 u1 u2 u3 u4 u5 hu huc hbe hbu m
    have hs' : ∀ (j : Nat) (f : Field) (d : DataW H), [f0, f1, f2, f3, f4, f5][j]? = some f → [y0.1, y1.1, y2.1, y3.1, y4.1, y5.1][j]? = some d → ∀ n ∈ d.weights P f.type, n ≤ reachBytes := by
      intro j f d hf hd k hk
      refine hs k ?_
      rw [hx]
      simp only [DataW.weights, he]
      exact DataW.weights_mem_each (j := j) (t := f.type) (by rw [List.getElem?_map]; exact congrArg (Option.map fun x => x.type) hf) hd k hk
    have hz3 : SizeOf.sizeOf y3.1 ≤ m := by rw [hx] at hm; simp at hm; omega
    have hz4 : SizeOf.sizeOf y4.1 ≤ m := by rw [hx] at hm; simp at hm; omega
    have hlist : ∀ (f : Field) (c : Value) (y : DataW H × List MemPlace), P.underlying f.type = some (.slice tT) → SizeOf.sizeOf y.1 ≤ m → (∀ n ∈ y.1.weights P f.type, n ≤ reachBytes) → DataW.trod enc P w base spare held n f.type [c] = some y →
        ∃ l, ListAt (fun q => q < w.heap.size) w (TermAt (fun q => q < w.heap.size) w m) l c := by
      intro f c y uf hz hw hr
      rcases open_slice uf hr with ⟨h0, _⟩ | ⟨a, len, cap, mm, n', D, Pl, hcs, hb, hl, hmx, hmm, hy, hi⟩
      · injection h0 with h0
        exact ⟨[], none, 0, h0, by simp, by simp, fun i t hi => by simp at hi⟩
      · injection hcs with hcs
        subst hy
        have hn0 := hw ((((List.range len).map D).length + ((List.range (mm - len)).map fun j => D (len + j)).length) * P.bytesOf tT) (by simp [DataW.weights, uf])
        rw [hbe] at hn0
        simp only [List.length_map, List.length_range] at hn0
        unfold reachBytes at hn0
        have hlm : len ≤ mm := by rw [hmm]; split <;> omega
        have hel : ∀ i, i < len → ∃ T, ∃ cs', w.cells? base (a.add (i * 6)) 6 = some cs' ∧ TermAt (fun q => q < w.heap.size) w m T cs' := by
          intro i hil
          obtain ⟨cs', hc, ht'⟩ := hi i (by omega)
          rw [hC] at hc
          obtain ⟨T, hT⟩ := ih n' cs' (D i, Pl i) (by
            have hmem : D i ∈ (List.range len).map D := List.mem_map.2 ⟨i, List.mem_range.2 hil, rfl⟩
            have := List.sizeOf_lt_of_mem hmem
            simp only [DataW.slice.sizeOf_spec] at hz
            show SizeOf.sizeOf (D i) ≤ m
            omega) (fun k hk => hw k (by
              simp only [DataW.weights, uf]
              exact List.mem_cons_of_mem _ (List.mem_append_left _ (all_mem (List.mem_map.2 ⟨i, List.mem_range.2 hil, rfl⟩) k hk)))) ht'
          exact ⟨T, cs', hc, hT⟩
        obtain ⟨l, hll, hlt⟩ := choose_tm hel
        refine ⟨l, some a, cap, by rw [hll]; exact hcs, by omega, by omega, fun i t hit => ?_⟩
        have hil := (List.getElem?_eq_some_iff.1 hit).1
        obtain ⟨cs', hc, hT⟩ := hlt i t hit
        obtain ⟨_, hcl, hat⟩ := World.cells?_some hc
        obtain ⟨b, off, spot⟩ := a
        have hspot : spot = none := by
          obtain ⟨cs0, hc0, _⟩ := hi 0 (by omega)
          rw [hC] at hc0
          obtain ⟨_, hcl0, hat0⟩ := World.cells?_some hc0
          have h0 := hat0 0 (by omega)
          rw [List.getElem?_eq_getElem (show 0 < cs0.length by omega)] at h0
          simpa [Addr.add] using World.cell?_spot h0
        subst hspot
        have hat' : ∀ j, j < 6 → w.cell? ⟨b, off + i * 6 + j, none⟩ = cs'[j]? := fun j hj => by rw [← hat j hj, add_plain, add_plain]
        match cs', hcl with
        | [d0, d1, d2, d3, d4, d5], _ =>
          have hc0 : w.cell? ⟨b, off + i * 6, none⟩ = some d0 := hat' 0 (by omega)
          exact ⟨b, off, d0, d1, d2, d3, d4, d5, rfl, World.block_lt_of_cell? _ _ hc0, hc0, hat' 1 (by omega), hat' 2 (by omega), hat' 3 (by omega), hat' 4 (by omega), hat' 5 (by omega), hT⟩
    obtain ⟨k, e0, _, w0⟩ := DataW.trod_int u0 r0
    obtain ⟨nn, e1, _, w1⟩ := DataW.trod_int u1 r1
    obtain ⟨s, e2, _, w2⟩ := DataW.trod_string u2 r2
    obtain ⟨li, hli⟩ := hlist f3 c3 y3 u3 hz3 (hs' 3 f3 y3.1 rfl rfl) r3
    obtain ⟨lr, hlr⟩ := hlist f4 c4 y4 u4 hz4 (hs' 4 f4 y4.1 rfl rfl) r4
    obtain ⟨po, len', cap', f, e5, hbin, hlen'⟩ := opened_bytes (v := c5) u5 hu huc hbu (hs' 5 f5 y5.1 rfl rfl) r5
    have e0' : c0 = .int .i64 k := by injection e0
    have e1' : c1 = .int .i64 nn := by injection e1
    have e2' : c2 = .string s := by injection e2
    subst e0' e1' e2' e5
    obtain ⟨b1, b2⟩ := bounds_i64 w0
    obtain ⟨b3, b4⟩ := bounds_i64 w1
    exact ⟨.mk k nn s li lr (bl f len'), _, _, _, rfl, ⟨b1, b2, b3, b4, w2⟩, hli, hlr, by
      have := bytes_of_in hbin hlen'
      rw [show (Value.slice po len' cap') = .slice po (bl f len').length cap' by rw [bl_len]] at this
      simpa [bl_len] using this⟩

/-- an argument that is read as six cells is an aggregate of them -/
theorem agg_of {v : Value} {c0 c1 c2 c3 c4 c5 : Value} (h : v.cells.toList = [c0, c1, c2, c3, c4, c5]) : v = .agg #[c0, c1, c2, c3, c4, c5] := by
  cases v with
  | agg cs =>
    have : cs.toList = [c0, c1, c2, c3, c4, c5] := h
    obtain rfl : cs = #[c0, c1, c2, c3, c4, c5] := by cases cs; simp_all
    rfl
  | _ => simp [Value.cells] at h
end
end Go.Proofs.YtpdepmkojbpklaaDoor
