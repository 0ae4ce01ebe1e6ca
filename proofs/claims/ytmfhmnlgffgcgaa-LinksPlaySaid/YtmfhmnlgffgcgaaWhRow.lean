/- Longs in a row: as they are read, one more, several more, sorted from one on, compared. -/
import Derived.Test.YtmfhmnlgffgcgaaAppMany
import Derived.Test.YtmfhmnlgffgcgaaRun
import Derived.Test.YtmfhmnlgffgcgaaPlace
import Derived.Test.YtmfhmnlgffgcgaaWhChain
import Derived.Test.YtmfhmnlgffgcgaaShelf
import Derived.OwnWalk
import Derived.LoopN
import Derived.Deep.RegionLaw
import Derived.Sort.OwnSortedInts
namespace Go.Proofs.Ytmfhmnlgffgcgaa
open Go.RowKit

theorem Try.infoLong : (Try.prog.info? 2).map (fun i => (i.zero, i.size, i.bytes)) = some (some (.int .i64 0), 1, 8) := by kernel_rfl
/-- the cells of longs -/
def lv (l : List Int) : List Value := l.map (Value.int .i64)
theorem lv_len (l : List Int) : (lv l).length = l.length := by simp [lv]
theorem lv_get {l : List Int} {i : Nat} {x : Int} (h : l[i]? = some x) : (lv l)[i]? = some (.int .i64 x) := by simp [lv, h]
theorem lv_got {l : List Int} {i : Nat} {u : Value} (h : (lv l)[i]? = some u) : ∃ x, l[i]? = some x ∧ u = .int .i64 x := by
  unfold lv at h
  rw [List.getElem?_map] at h
  obtain ⟨x, hx, rfl⟩ := Option.map_eq_some_iff.1 h
  exact ⟨x, hx, rfl⟩
theorem lv_one (l : List Int) : ∀ u ∈ lv l, u.oneCell' = true := by
  intro u hu
  obtain ⟨x, _, rfl⟩ := List.mem_map.1 hu
  rfl
theorem lv_app (l : List Int) (x : Int) : lv l ++ [.int .i64 x] = lv (l ++ [x]) := by simp [lv]

/-- longs of one's own -/
def Lw (w : World) (v : Value) (l : List Int) : Prop := w.ownsW 0 2 v l.length (lv l)
/-- longs that can be read -/
def Lr (w : World) (v : Value) (l : List Int) : Prop :=
  ∃ po cap, v = .slice po l.length cap ∧ l.length ≤ cap ∧ cap ≤ maxLen ∧ ∀ i x, l[i]? = some x → ∃ g off, po = some ⟨g, off, none⟩ ∧ w.cell? ⟨g, off + i, none⟩ = some (.int .i64 x)

section
variable {F : Nat → Prop} {w w' : World} {v : Value} {l : List Int}
theorem Lw.kp (h : Lw w v l) (hk : Kp F w w') (hF : ∀ g, v.ownBlock = some g → ¬ F g) : Lw w' v l := hk.roww h hF
theorem Lw.lt (h : Lw w v l) : ∀ k, v.ownBlock = some k → k < w.heap.size := fun k hk => (ownsW_lt h k hk).2
theorem Lw.nil (w : World) : Lw w (.slice none 0 0) [] := ownsW_nil _ _ _
theorem Lw.rd (h : Lw w v l) : Lr w v l := by
  rcases h.2 with ⟨e, h0⟩ | ⟨g, cap, cur, e, hb, hg, h2, h3, h4, h5⟩
  · have hl := List.eq_nil_of_length_eq_zero h0
    subst hl
    exact ⟨none, 0, e, by simp, by simp, fun i x hi => by simp at hi⟩
  · refine ⟨_, cap, e, h2, h4, fun i x hi => ⟨g, 0, rfl, ?_⟩⟩
    obtain ⟨g', cap', e', _, _, hc⟩ := ownsW_get h i _ (lv_get hi)
    rw [e] at e'
    injection e' with e'
    injection e' with e'
    injection e' with e'
    rw [Nat.zero_add, e']; exact hc
theorem Lr.kp (h : Lr w v l) (hk : Kp F w w') (hF : ∀ g, v.ownBlock = some g → ¬ F g) : Lr w' v l := by
  obtain ⟨po, cap, rfl, h1, h2, h3⟩ := h
  refine ⟨po, cap, rfl, h1, h2, fun i x hi => ?_⟩
  obtain ⟨g, off, rfl, hc⟩ := h3 i x hi
  exact ⟨g, off, rfl, (hk.cell (p := ⟨g, off + i, none⟩) (World.block_lt_of_cell? _ _ hc) (hF g rfl)).trans hc⟩
theorem Lr.same (h : Lr w v l) (hk : Kp (fun _ => False) w w') : Lr w' v l := h.kp hk (fun _ _ e => e)
theorem Lw.same (h : Lw w v l) (hk : Kp (fun _ => False) w w') : Lw w' v l := h.kp hk (fun _ _ e => e)
theorem Lw.form (h : Lw w v l) : ∃ po cap, v = .slice po l.length cap := ownsW_form h
theorem Lw.get (h : Lw w v l) {j : Nat} {x : Int} (hj : l[j]? = some x) : ∃ g cap, v = .slice (some ⟨g, 0, none⟩) l.length cap ∧ l.length ≤ cap ∧ cap ≤ 9223372036854775807 ∧ w.cell? ⟨g, j, none⟩ = some (.int .i64 x) :=
  ownsW_get h j _ (lv_get hj)
/-- one more -/
theorem longs_push (ho : Lw w v l) (hk : l.length + 1 ≤ 17592186044416) (x : Int) :
    ∃ g cap w', (Builtin.append_ #[32, 32] 32 #[v, .slice (some ⟨w.heap.size, 0, none⟩) 1 1]).run Try.prog (w.alloc (.cells #[.int .i64 x] 2)) = .ok (.slice (some ⟨g, 0, none⟩) (l.length + 1) cap) w' ∧
      Lw w' (.slice (some ⟨g, 0, none⟩) (l.length + 1) cap) (l ++ [x]) ∧ Kp (fun q => v.ownBlock = some q) w w' ∧ (v.ownBlock = some g ∨ w.heap.size ≤ g) ∧ g < w'.heap.size := by
  obtain ⟨i0, hi, hz0, hz1, hz2⟩ := info_parts Try.infoLong
  have hka : Kp (fun _ => False) w (w.alloc (.cells #[.int .i64 x] 2)) := (Kp.refl _ w).alloc _
  have hown : (w.alloc (.cells #[.int .i64 x] 2)).ownsW 0 2 v l.length (lv l) := ho.same hka
  obtain ⟨g, cap, w', h1, h2, h3, h4, h5⟩ := run_append_w (P := Try.prog) _ 32 32 0 2 i0 (.int .i64 0) 8 Try.underlying32 hi hz0 hz1 hz2 rfl v l.length (lv l) hown ⟨w.heap.size, 0, none⟩ 1 (.int .i64 x)
    (by rw [cell_of_row _ w.heap.size 0 _ _ _ (heap_alloc_new w _)]; rfl) rfl (by unfold maxLen; omega) (by omega) (Nat.zero_le _)
  refine ⟨g, cap, w', h1, ?_, ((Kp.refl _ w).alloc _).grown h3 (fun q hq => .inl hq), ?_, h5⟩
  · unfold Lw
    rw [List.length_append, ← lv_app]
    exact h2
  · rcases h4 with h4 | h4
    · exact .inl h4
    · exact .inr (by rw [h4]; simp)
end

set_option maxRecDepth 100000 in
set_option maxHeartbeats 400000 in
/-- the same longs -/
theorem sameLongs_any {w : World} {s1 s2 : Value} {l : List Int} (h1 : Lr w s1 l) (h2 : Lr w s2 l) :
    Calls Try.prog 16 #[s1, s2] w fun e w' => e = .returned (.bool true) ∧ ∃ k, w' = w.drewN k := by
  obtain ⟨p1, c1, rfl, g1, g2, g3⟩ := h1
  obtain ⟨p2, c2, rfl, k1, k2, k3⟩ := h2
  have hm : l.length ≤ 9223372036854775807 := by unfold maxLen at g2; omega
  clear g1 g2 k1 k2
  go_enter Try.func16, Try.ntmps16
  go_wp2_with fail
  go_loopg [5] l.length (fun gk i wr => ∃ (j k : Nat), j ≤ l.length ∧ gk = l.length - j ∧ i = .int .i64 j ∧ wr = w.drewN k)
  case atStart => exact ⟨0, 0, by omega, rfl, rfl, rfl⟩
  case round =>
    obtain ⟨j, k, hj, rfl, rfl, rfl⟩ := hrel
    by_cases hlt : j < l.length
    · obtain ⟨ga, oa, rfl, a1⟩ := g3 j l[j] (List.getElem?_eq_getElem hlt)
      obtain ⟨gb, ob, rfl, b1⟩ := k3 j l[j] (List.getElem?_eq_getElem hlt)
      obtain ⟨a, ha⟩ : ∃ a, l[j] = a := ⟨_, rfl⟩
      rw [ha] at a1 b1
      clear ha g3 k3
      have hli : (j : Int) < l.length := by omega
      go_wp2_with fail
      go_region
      all_goals go_wp2_with fail
      all_goals go_roundg (l.length - (j + 1))
      case measure => omega
      case rel => exact ⟨j + 1, k + 1, by omega, rfl, by go_num, rfl⟩
    · obtain rfl : j = l.length := by omega
      clear g3 k3
      go_wp2_with fail
      go_ret
      exact ⟨rfl, k, rfl⟩


section
variable {F : Nat → Prop} {w w' : World} {v : Value} {l : List Int}
/-- several more, that lie in a row -/
theorem longs_append (ho : Lw w v l) {v2 : Value} {m : List Int} (h2 : Lr w v2 m) (hk : l.length + m.length ≤ 17592186044416) :
    ∃ v' w', (Builtin.append_ #[32, 32] 32 #[v, v2]).run Try.prog w = .ok v' w' ∧ Lw w' v' (l ++ m) ∧ Kp (fun q => v.ownBlock = some q) w w' ∧ (∀ g, v'.ownBlock = some g → v.ownBlock = some g ∨ w.heap.size ≤ g) := by
  obtain ⟨i0, hi, hz0, hz1, hz2⟩ := info_parts Try.infoLong
  obtain ⟨po, cap, rfl, h3, h4, h5⟩ := h2
  by_cases h0 : m = []
  · subst h0
    refine ⟨v, w, ?_, by rw [List.append_nil]; exact ho, Kp.refl _ w, fun g hg => .inl hg⟩
    rcases ho.2 with ⟨e, e0⟩ | ⟨g, c1, cur, e, hb, hg, e1, e2, e3, e4⟩
    · subst e
      cases po <;> simp [Builtin.append_, run_underlying Try.underlying32, sizeOf, typeInfo, hi, Builtin.lenOf, Builtin.firstCells, loadCells, loadCellsFrom]
    · subst e
      cases po <;> simp [Builtin.append_, run_underlying Try.underlying32, sizeOf, typeInfo, hi, Builtin.lenOf, Builtin.firstCells, loadCells, loadCellsFrom, e1, storeCells]
  · have hpos : 0 < m.length := List.length_pos_iff.2 h0
    obtain ⟨b, off, rfl, -⟩ := h5 0 m[0] (List.getElem?_eq_getElem hpos)
    obtain ⟨g, cap', w', r1, r2, r3, r4, r5⟩ := run_append_many (P := Try.prog) w 32 32 0 2 i0 (.int .i64 0) 8 Try.underlying32 hi hz0 hz1 hz2 rfl v l.length (lv l) ho ⟨b, off, none⟩ m.length cap (lv m) (lv_len m) hpos
      (fun j u hj => by
        obtain ⟨x, hx, rfl⟩ := lv_got hj
        obtain ⟨b2, off2, e2, hcell⟩ := h5 j x hx
        rw [Option.some.inj e2, Go.WideShapes.add_plain]
        exact hcell) (lv_one m) (by unfold maxLen; omega) (by omega) (Nat.zero_le _)
    refine ⟨_, w', r1, ?_, (Kp.refl _ w).grown r3 (fun q hq => .inl hq), fun g' hg' => ?_⟩
    · unfold Lw
      rw [List.length_append, show lv (l ++ m) = lv l ++ lv m from by simp [lv]]
      exact r2
    · have : g = g' := by injection hg'
      subst this
      exact r4.imp (fun e => e) (fun e => by omega)
/-- from k on it is sorted -/
theorem longs_sorted {g cap k n : Nat} {os : Array Obj} (h : Lw w (.slice (some ⟨g, 0, none⟩) l.length cap) l) (hk : k ≤ l.length) (ts : List Int) (hts : ts.length = l.length - k) :
    Lw (Sort.grow (Sort.putRow (Value.int .i64) (Sort.ahead w n) g k ts.toArray) os) (.slice (some ⟨g, 0, none⟩) l.length cap) (l.take k ++ ts) ∧ Kp (fun q => q = g) w (Sort.grow (Sort.putRow (Value.int .i64) (Sort.ahead w n) g k ts.toArray) os) := by
  have hlen : (l.take k ++ ts).length = l.length := by simp; omega
  rcases h.2 with ⟨e, h0⟩ | ⟨g', cap', cur, e, hb, hg, h2, h3, h4, h5⟩
  · cases e
  · injection e with e1 _ e2
    injection e1 with e1
    injection e1 with e1
    subst e1 e2
    have hgl : g < w.heap.size := (Array.getElem?_eq_some_iff.1 hg).1
    have hrow : (Sort.grow (Sort.putRow (Value.int .i64) (Sort.ahead w n) g k ts.toArray) os).heap[g]? = some (.cells (Sort.putCells (Value.int .i64) k ts.toArray cur) 2 (0, 0)) := by
      rw [Sort.heap_grow_old _ _ (by simpa using hgl)]
      simp [Sort.putRow, Sort.mapBlock, Sort.ahead, Array.getElem?_modify, hg, Sort.onCells]
    refine ⟨?_, (Kp.refl _ w).grown (row := some g) ⟨rfl, rfl, rfl, by simp, fun q hq hne => ?_⟩ (fun q e => .inl (by injection e with e; exact e.symm))⟩
    · unfold Lw
      rw [hlen]
      refine ⟨by rw [lv_len, hlen], .inr ⟨g, cap, _, rfl, hb, hrow, h2, by simpa [Sort.putCells] using h3, h4, ?_⟩⟩
      apply List.ext_getElem?
      intro j
      by_cases hj : j < l.length
      · rw [List.getElem?_take_of_lt hj, Array.getElem?_toList]
        have hcj : j < cur.size := by omega
        have h6 : (cur.toList.take l.length)[j]? = (lv l)[j]? := by rw [h5]
        rw [List.getElem?_take_of_lt hj, Array.getElem?_toList] at h6
        unfold lv
        rw [List.map_append, List.map_take]
        by_cases hjk : j < k
        · rw [List.getElem?_append_left (by simp; omega), List.getElem?_take_of_lt hjk]
          simp only [Sort.putCells, Array.getElem?_mapIdx]
          rw [h6]
          unfold lv
          cases (l.map (Value.int .i64))[j]? with
          | none => rfl
          | some y => rw [Option.map_some, if_neg (by omega)]
        · rw [List.getElem?_append_right (by simp; omega)]
          simp only [Sort.putCells, Array.getElem?_mapIdx]
          rw [Array.getElem?_eq_getElem hcj, Option.map_some, if_pos ⟨by omega, by simp; omega⟩]
          have hjt : j - k < ts.length := by omega
          rw [show j - (List.take k (List.map (Value.int .i64) l)).length = j - k by simp; omega, List.getElem?_map, List.getElem?_eq_getElem hjt]
          simp [hjt]
      · rw [List.getElem?_take_eq_none (by omega), List.getElem?_eq_none (by rw [lv_len, hlen]; omega)]
    · rw [Sort.heap_grow_old _ _ (by simpa using hq)]
      have : g ≠ q := fun e => hne (by rw [e])
      simp [Sort.putRow, Sort.mapBlock, Sort.ahead, Array.getElem?_modify, this]
/-- the sort of what stands from k on -/
def SortIs (w : World) (v : Value) (l : List Int) (k : Nat) (e : Ending) (w' : World) : Prop :=
  e = .returned (.tuple #[]) ∧ Lw w' v (l.take k ++ (l.drop k).mergeSort fun x y => decide (x ≤ y)) ∧ Kp (fun q => v.ownBlock = some q) w w'
theorem sort_some {g cap k : Nat} (h : Lw w (.slice (some ⟨g, 0, none⟩) l.length cap) l) (hk : k < l.length) (hl : l.length ≤ 17592186044416) (c : Nat) :
    Calls Try.prog 47 #[.slice (some ⟨g, k, none⟩) (l.length - k) c] w (SortIs w (.slice (some ⟨g, 0, none⟩) l.length cap) l k) := by
  have hlt : ∀ q, Value.ownBlock (.slice (some ⟨g, 0, none⟩) l.length cap) = some q → q < w.heap.size := h.lt
  have hs := Try.slices_Sort_int g k c (l.drop k) w (fun j hj => by
    have hj' : j < l.length - k := by simpa using hj
    obtain ⟨g', cap', e, _, _, hc⟩ := h.get (j := k + j) (x := l[k + j]) (by rw [List.getElem?_eq_getElem])
    injection e with e
    injection e with e
    injection e with e
    subst e
    refine ⟨by rw [hc]; simp [hj'], ?_⟩
    rcases h.2 with ⟨e, _⟩ | ⟨g', cap', cur, e, hb, hg, _⟩
    · cases e
    · injection e with e1
      injection e1 with e1
      injection e1 with e1
      subst e1
      simp [World.frozen?, hg]) (hlt g rfl) (by simp; omega)
  rw [List.length_drop] at hs
  refine hs.mono ?_
  rintro e w' ⟨rfl, n, os, rfl⟩
  obtain ⟨h1, h2⟩ := longs_sorted (n := n) (os := os) h (Nat.le_of_lt hk) ((l.drop k).mergeSort fun x y => decide (x ≤ y)) (by simp)
  exact ⟨rfl, h1, h2.mono fun q _ hq => by rw [hq]; rfl⟩
theorem sort_none (h : Lw w v l) (p : Option Addr) (c : Nat) : Calls Try.prog 47 #[.slice p 0 c] w (SortIs w v l l.length) := by
  refine (Try.slices_Sort_int_none p c w).mono ?_
  rintro e w' ⟨rfl, rfl⟩
  refine ⟨rfl, ?_, Kp.refl _ w'⟩
  rw [List.take_length, List.drop_length]
  simpa using h
end
end Go.Proofs.Ytmfhmnlgffgcgaa
