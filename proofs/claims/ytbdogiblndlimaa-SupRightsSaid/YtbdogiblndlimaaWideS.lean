/- Slices of structs of so many cells, that need not lie alone in their block: one law for append, whatever is appended. -/
import Derived.Test.YtbdogiblndlimaaAppMany
namespace Go
open Go.RowKit

/-- a slice of n elements of s cells each: its cells -/
def World.ownsS (w : World) (e : TypeId) (s : Nat) (v : Value) (n : Nat) (xs : List Value) : Prop :=
  xs.length = n * s ∧ ((v = .slice none 0 0 ∧ n = 0) ∨
    ∃ g cap cur, v = .slice (some ⟨g, 0, none⟩) n cap ∧ w.heap[g]? = some (.cells cur e (0, 0)) ∧ n ≤ cap ∧ cap * s ≤ cur.size ∧ cap ≤ maxLen ∧ cur.toList.take (n * s) = xs)

section
variable {w w' : World} {e : TypeId} {s : Nat} {v : Value} {n : Nat} {xs : List Value}
theorem ownsS_nil (w : World) (e : TypeId) (s : Nat) : w.ownsS e s (.slice none 0 0) 0 [] := ⟨by simp, .inl ⟨rfl, rfl⟩⟩
theorem Kp.rowS {F : Nat → Prop} (h : Kp F w w') (ho : w.ownsS e s v n xs) (hF : ∀ g, v.ownBlock = some g → ¬ F g) : w'.ownsS e s v n xs := by
  refine ⟨ho.1, ?_⟩
  rcases ho.2 with hn | ⟨g, cap, cur, rfl, hgg, rest⟩
  · exact .inl hn
  · refine .inr ⟨g, cap, cur, rfl, ?_, rest⟩
    rw [h.block g (Array.getElem?_eq_some_iff.1 hgg).1 (hF g rfl)]
    exact hgg
theorem ownsS_lt (h : w.ownsS e s v n xs) : ∀ k, v.ownBlock = some k → k < w.heap.size := by
  intro k hk
  rcases h.2 with ⟨rfl, _⟩ | ⟨g, cap, cur, rfl, hg, _⟩
  · simp [Value.ownBlock] at hk
  · simp [Value.ownBlock] at hk
    subst hk
    exact (Array.getElem?_eq_some_iff.1 hg).1
theorem ownsS_form (h : w.ownsS e s v n xs) : ∃ po cap, v = .slice po n cap ∧ n ≤ cap ∧ cap ≤ 9223372036854775807 := by
  rcases h.2 with ⟨e1, e2⟩ | ⟨g, cap, _, e1, _, h1, _, h2, _⟩
  · rw [e2]; exact ⟨_, _, e1, Nat.le_refl _, by omega⟩
  · exact ⟨_, _, e1, h1, by unfold maxLen at h2; omega⟩
/-- a cell -/
theorem ownsS_get (h : w.ownsS e s v n xs) (j : Nat) (x : Value) (hj : xs[j]? = some x) : ∃ g cap, v = .slice (some ⟨g, 0, none⟩) n cap ∧ n ≤ cap ∧ cap ≤ 9223372036854775807 ∧ w.cell? ⟨g, j, none⟩ = some x := by
  have hlt := (List.getElem?_eq_some_iff.1 hj).1
  have h1 := h.1
  rcases h.2 with ⟨_, h0⟩ | ⟨g, cap, cur, rfl, hg, h2, h3, h4, h5⟩
  · subst h0; simp at h1; subst h1; simp at hj
  · refine ⟨g, cap, rfl, h2, by unfold maxLen at h4; omega, ?_⟩
    rw [cell_of_row w g j cur e (0, 0) hg]
    rw [← h5, List.getElem?_take, if_pos (by omega)] at hj
    simpa using hj
/-- v[:j:j] -/
theorem ownsS_cut {g cap j : Nat} (h : w.ownsS e s (.slice (some ⟨g, 0, none⟩) n cap) n xs) (hj : j ≤ n) : w.ownsS e s (.slice (some ⟨g, 0, none⟩) j j) j (xs.take (j * s)) := by
  have hjs : j * s ≤ n * s := Nat.mul_le_mul_right _ hj
  rcases h.2 with ⟨e0, _⟩ | ⟨g', cap', cur, e0, hg, h2, h3, h4, h5⟩
  · cases e0
  · injection e0 with e1 _ e2
    injection e1 with e1
    injection e1 with e1
    subst e1 e2
    refine ⟨by rw [List.length_take, h.1]; omega, .inr ⟨g, j, cur, rfl, hg, Nat.le_refl _, ?_, by omega, ?_⟩⟩
    · exact Nat.le_trans (Nat.mul_le_mul_right _ (by omega)) h3
    · rw [← h5, List.take_take, Nat.min_eq_left hjs]
end

section
variable {P : Program} (w : World)
/-- append(v, ys...) -/
theorem run_append_s (t ty : TypeId) (e : TypeId) (i : TypeInfo) (z : Value) (s bytes : Nat) (ht : P.underlying t = some (.slice e)) (hi : P.info? e = some i) (hz : i.zero = some z)
    (hsize : i.size = s) (hby : i.bytes = bytes) (hzc : z.cells.size = s)
    (v : Value) (n : Nat) (xs : List Value) (hown : w.ownsS e s v n xs)
    (po : Option Addr) (m c : Nat) (ys : List Value) (hm : ys.length = m * s) (hsrc : 0 < m → ∃ ad, po = some ad ∧ ∀ j u, ys[j]? = some u → w.cell? (ad.add j) = some u) (h1s : ∀ u ∈ ys, u.oneCell' = true)
    (h63 : n + m ≤ maxLen) (hbytes : (n + m) * bytes ≤ 140737488355328) :
    ∃ v' w', (Builtin.append_ #[t, t] ty #[v, .slice po m c]).run P w = .ok v' w' ∧ w'.ownsS e s v' (n + m) (xs ++ ys) ∧ w.grownBy w' v.ownBlock ∧ ∀ g, v'.ownBlock = some g → v.ownBlock = some g ∨ w.heap.size ≤ g := by
  subst hby
  have hxl := hown.1
  have h63' : n + m ≤ 9223372036854775807 := by unfold maxLen at h63; omega
  rcases Nat.eq_zero_or_pos m with h0 | hpos
  · subst h0
    have hys : ys = [] := List.eq_nil_of_length_eq_zero (by simpa using hm)
    subst hys
    refine ⟨v, w, ?_, by rw [List.append_nil, Nat.add_zero]; exact hown, ⟨rfl, rfl, rfl, Nat.le_refl _, fun _ _ _ => rfl⟩, fun g hg => .inl hg⟩
    rcases hown.2 with ⟨rfl, e0⟩ | ⟨g, cap, cur, rfl, hg, h2, _⟩
    · cases po <;> simp [Builtin.append_, run_underlying ht, sizeOf, typeInfo, hi, Builtin.lenOf, Builtin.firstCells, loadCells, loadCellsFrom]
    · cases po <;> simp [Builtin.append_, run_underlying ht, sizeOf, typeInfo, hi, Builtin.lenOf, Builtin.firstCells, loadCells, loadCellsFrom, h2, storeCells]
  obtain ⟨ad, rfl, hnews⟩ := hsrc hpos
  have hl : ys.length = m * i.size := by rw [hsize]; exact hm
  have grown : ∀ (old : Nat), old < n + m → ∀ (row : Option Nat),
      (w.drew.alloc (.cells (xs.toArray ++ ys.toArray ++ Builtin.zeroCells z.cells (grownCap w (n + m) old e - (n + m))) e)).ownsS e s (.slice (some ⟨w.heap.size, 0, none⟩) (n + m) (grownCap w (n + m) old e)) (n + m) (xs ++ ys) ∧
      w.grownBy (w.drew.alloc (.cells (xs.toArray ++ ys.toArray ++ Builtin.zeroCells z.cells (grownCap w (n + m) old e - (n + m))) e)) row := by
    intro old ho row
    have hge := grownCap_ge w (n + m) old e
    have hcm : grownCap w (n + m) old e ≤ maxLen := grownCap_le_maxLen w (n + m) old e h63'
    have hlen : (xs ++ ys).length = (n + m) * s := by rw [List.length_append, hxl, hm, Nat.add_mul]
    refine ⟨⟨hlen, .inr ⟨w.heap.size, _, _, rfl, heap_alloc_new w.drew _, hge, ?_, hcm, ?_⟩⟩, ⟨rfl, rfl, rfl, by simp, fun q hq _ => by exact Below.heap_alloc w.drew _ q hq⟩⟩
    · simp only [Array.size_append, List.size_toArray, size_zeroCells, hzc, hxl, hm]
      rw [← Nat.add_mul, ← Nat.add_mul, Nat.add_sub_cancel' hge]
      exact Nat.le_refl _
    · simp only [Array.toList_append]
      rw [List.take_append_of_le_length (by rw [← hlen]; simp), List.take_of_length_le (by rw [← hlen]; simp)]
  rcases hown.2 with ⟨rfl, rfl⟩ | ⟨g, cap, cur, rfl, hg, hnc, hcs, hcm, htake⟩
  · have hx : xs = [] := List.eq_nil_of_length_eq_zero (by simpa using hxl)
    subst hx
    have hr := run_append_nil (P := P) w t ty e i z ht hi hz ad m c ys hl hnews (by omega) (by omega) (by have := hbytes; rw [Nat.zero_add] at this; omega)
    have hgr := grown 0 (by omega) (Value.ownBlock (.slice none 0 0))
    simp only [Nat.zero_add, List.nil_append, Array.empty_append] at hgr ⊢
    exact ⟨_, _, hr, hgr.1, hgr.2, fun q hq => .inr (by have : w.heap.size = q := by injection hq
                                                        omega)⟩
  · have hglt := (Array.getElem?_eq_some_iff.1 hg).1
    by_cases hroom : n + m ≤ cap
    · have hms : (n + m) * s ≤ cap * s := Nat.mul_le_mul_right _ hroom
      rw [Nat.add_mul] at hms
      have hfit : n * i.size + ys.length ≤ cur.size := by rw [hsize, hm]; omega
      have hr := run_append_room (P := P) w t ty e i ht hi g n cap cur hg ad m c ys hl hnews h1s hroom hfit
      refine ⟨_, _, hr, ⟨by rw [List.length_append, hxl, hm, Nat.add_mul], .inr ⟨g, cap, _, rfl, setRow_heap w g cur _ e _ hg, hroom, ?_, hcm, ?_⟩⟩, ⟨rfl, rfl, rfl, by simp, fun k _ hk => setRow_other w g k _ (fun e => hk (by rw [e]; rfl))⟩, fun q hq => .inl hq⟩
      · rw [hsize]; simp; omega
      · rw [hsize]
        rw [htake, List.take_append_of_le_length (by simp [hxl, hm, Nat.add_mul]), List.take_of_length_le (by simp [hxl, hm, Nat.add_mul])]
    · have holds : ∀ j u, xs[j]? = some u → w.cell? ((⟨g, 0, none⟩ : Addr).add j) = some u := by
        intro j u hj
        have hadd : (⟨g, 0, none⟩ : Addr).add j = ⟨g, j, none⟩ := by rw [Go.WideShapes.add_plain, Nat.zero_add]
        obtain ⟨g', cap', e1, _, _, hc⟩ := ownsS_get hown j u hj
        injection e1 with e1
        injection e1 with e1
        injection e1 with e1
        rw [hadd, e1]; exact hc
      have hr := run_append_grow (P := P) w t ty e i z ht hi hz ⟨g, 0, none⟩ n cap xs (by rw [hsize, hxl]) holds ad m c ys hl hnews (by omega) (by omega) (growslice_fits (by omega) hbytes)
      have hgr := grown cap (by omega) (Value.ownBlock (.slice (some ⟨g, 0, none⟩) n cap))
      exact ⟨_, _, hr, hgr.1, hgr.2, fun q hq => .inr (by have : w.heap.size = q := by injection hq
                                                          omega)⟩
end
end Go
