/- The document's own table: New (well), Add, All. -/
import Derived.Test.YtdcmdidikengbaaTbRef2
namespace Go.Proofs.Ytdcmdidikengbaa
open Go.RowKit
set_option linter.unusedVariables false

section
variable {F : Nat → Prop} {w w' : World} {b g1 g2 size B : Nat} {v : Value} {sl : List Sg} {ns : List Nm} {p : Int}
def XTNewTo (m : Nat) (w : World) (e : Ending) (w' : World) : Prop :=
  ∃ b g1 g2, e = .returned (.tuple #[.pointer (some ⟨b, 0, none⟩), .pointer none]) ∧ RT w' b g1 g2 (.slice none 0 0) m [] [] ∧ Kp (fun _ => False) w w' ∧ w.heap.size ≤ b ∧ w.heap.size ≤ g1 ∧ w.heap.size ≤ g2
theorem xt_made1 (m : Nat) (h1 : 1 ≤ m) (h2 : m ≤ 64) (w : World) (j : Nat) : XTNewTo m w (.returned (.tuple #[.pointer (some ⟨w.heap.size + 1 + 1, 0, none⟩), .pointer none]))
    ((((w.alloc (.cells (madeCells #[.int .i64 0] m) 2)).alloc (.cells (madeCells #[.bool false] m) 4)).alloc (.cells #[.int .i64 (m : Nat), .slice (some ⟨w.heap.size, 0, none⟩) m m, .slice (some ⟨w.heap.size + 1, 0, none⟩) m m, .slice none 0 0] 99)).drewN j) := by
  have hl := longs_made (w := w) m h1 h2
  obtain ⟨w1, hw1⟩ : ∃ w1, w.alloc (.cells (madeCells #[.int .i64 0] m) 2) = w1 := ⟨_, rfl⟩
  have hz1 : w1.heap.size = w.heap.size + 1 := by rw [← hw1]; simp
  rw [hw1] at hl ⊢
  have ho := bools_made (w := w1) m h1 h2
  obtain ⟨w2, hw2⟩ : ∃ w2, w1.alloc (.cells (madeCells #[.bool false] m) 4) = w2 := ⟨_, rfl⟩
  have hz2 : w2.heap.size = w.heap.size + 1 + 1 := by rw [← hw2]; simp [hz1]
  rw [hw2] at ho ⊢
  rw [hz1] at ho
  have hk1 : Kp (fun _ => False) w w1 := by rw [← hw1]; exact (Kp.refl _ w).alloc _
  have hk2 : Kp (fun _ => False) w1 w2 := by rw [← hw2]; exact (Kp.refl _ w1).alloc _
  have hb := heap_alloc_new w2 (.cells #[.int .i64 (m : Nat), .slice (some ⟨w.heap.size, 0, none⟩) m m, .slice (some ⟨w.heap.size + 1, 0, none⟩) m m, .slice none 0 0] 99)
  have hk3 : Kp (fun _ => False) w2 ((w2.alloc (.cells #[.int .i64 (m : Nat), .slice (some ⟨w.heap.size, 0, none⟩) m m, .slice (some ⟨w.heap.size + 1, 0, none⟩) m m, .slice none 0 0] 99)).drewN j) := kp_drewN ((Kp.refl _ w2).alloc _) j
  rw [hz2] at hb
  refine ⟨_, _, _, rfl, ⟨hb, ?_, ?_, ownsS_nil _ _ _⟩, (hk1.trans' hk2).trans' hk3, by omega, by omega, by omega⟩
  · rw [givenL_nil, List.length_replicate]
    exact (hl.same hk2).same hk3
  · rw [onL_nil, List.length_replicate]
    exact hk3.roww ho (fun _ _ e => e)
theorem xt_made2 (m : Nat) (h1 : 1 ≤ m) (h2 : m ≤ 64) (w : World) (j : Nat) : XTNewTo m w (.returned (.tuple #[.pointer (some ⟨w.heap.size + 1 + 1, 0, none⟩), .pointer none]))
    ((((w.alloc (.cells (madeCells #[.bool false] m) 4)).alloc (.cells (madeCells #[.int .i64 0] m) 2)).alloc (.cells #[.int .i64 (m : Nat), .slice (some ⟨w.heap.size + 1, 0, none⟩) m m, .slice (some ⟨w.heap.size, 0, none⟩) m m, .slice none 0 0] 99)).drewN j) := by
  have ho := bools_made (w := w) m h1 h2
  obtain ⟨w1, hw1⟩ : ∃ w1, w.alloc (.cells (madeCells #[.bool false] m) 4) = w1 := ⟨_, rfl⟩
  have hz1 : w1.heap.size = w.heap.size + 1 := by rw [← hw1]; simp
  rw [hw1] at ho ⊢
  have hl := longs_made (w := w1) m h1 h2
  obtain ⟨w2, hw2⟩ : ∃ w2, w1.alloc (.cells (madeCells #[.int .i64 0] m) 2) = w2 := ⟨_, rfl⟩
  have hz2 : w2.heap.size = w.heap.size + 1 + 1 := by rw [← hw2]; simp [hz1]
  rw [hw2] at hl ⊢
  rw [hz1] at hl
  have hk1 : Kp (fun _ => False) w w1 := by rw [← hw1]; exact (Kp.refl _ w).alloc _
  have hk2 : Kp (fun _ => False) w1 w2 := by rw [← hw2]; exact (Kp.refl _ w1).alloc _
  have hb := heap_alloc_new w2 (.cells #[.int .i64 (m : Nat), .slice (some ⟨w.heap.size + 1, 0, none⟩) m m, .slice (some ⟨w.heap.size, 0, none⟩) m m, .slice none 0 0] 99)
  have hk3 : Kp (fun _ => False) w2 ((w2.alloc (.cells #[.int .i64 (m : Nat), .slice (some ⟨w.heap.size + 1, 0, none⟩) m m, .slice (some ⟨w.heap.size, 0, none⟩) m m, .slice none 0 0] 99)).drewN j) := kp_drewN ((Kp.refl _ w2).alloc _) j
  rw [hz2] at hb
  refine ⟨_, _, _, rfl, ⟨hb, ?_, ?_, ownsS_nil _ _ _⟩, (hk1.trans' hk2).trans' hk3, by omega, by omega, by omega⟩
  · rw [givenL_nil, List.length_replicate]
    exact hl.same hk3
  · rw [onL_nil, List.length_replicate]
    exact hk3.roww (hk2.roww ho (fun _ _ e => e)) (fun _ _ e => e)
theorem Try.infoBoolT : (Try.prog.info? 4).map (fun i => (i.zero, i.size, i.bytes)) = some (some (.bool false), 1, 1) := by kernel_rfl
set_option maxRecDepth 100000 in
set_option maxHeartbeats 4000000 in
theorem xtnew_ok (m : Nat) (h1 : 1 ≤ m) (h2 : m ≤ 64) (w : World) : Calls Try.prog 24 #[.int .i64 (m : Nat)] w (XTNewTo m w) := by
  obtain ⟨i0, hi, hz0, hz1, hz2⟩ := info_parts Try.infoLong
  obtain ⟨j0, hj, hw0, hw1, hw2⟩ := info_parts Try.infoBoolT
  have hmk : ∀ u : World, (Instr.makeSlice 50 (.int .i64 (m : Int)) (.int .i64 (m : Int))).run Try.prog u = .ok (.slice (some ⟨u.heap.size, 0, none⟩) m m) (u.alloc (.cells (madeCells #[.int .i64 0] m) 2)) := fun u => by
    have h := run_make (P := Try.prog) u 50 2 i0 (.int .i64 0) Try.underlying50 hi hz0 .i64 .i64 (m : Int) (m : Int) (by omega) (Int.le_refl _) (by rw [hz2]; omega) (by omega)
    rw [hz1] at h
    simpa [Value.cells] using h
  have hmb : ∀ u : World, (Instr.makeSlice 96 (.int .i64 (m : Int)) (.int .i64 (m : Int))).run Try.prog u = .ok (.slice (some ⟨u.heap.size, 0, none⟩) m m) (u.alloc (.cells (madeCells #[.bool false] m) 4)) := fun u => by
    have h := run_make (P := Try.prog) u 96 4 j0 (.bool false) Try.underlying96 hj hw0 .i64 .i64 (m : Int) (m : Int) (by omega) (Int.le_refl _) (by rw [hw2]; omega) (by omega)
    rw [hw1] at h
    simpa [Value.cells] using h
  have HM1 := Lib.hid (xt_made1 m h1 h2 w)
  have HM2 := Lib.hid (xt_made2 m h1 h2 w)
  have n1 : ¬ (m : Int) < 1 := by omega
  have n2 : ¬ 64 < (m : Int) := by omega
  clear hi hz0 hz1 hz2 hj hw0 hw1 hw2
  go_enter Try.func24, Try.ntmps24
  go_wp2_with fail
  go_region_with fail
  all_goals
    go_wp2_with fail
    go_ret2
    first | exact HM1.out 1 | exact HM2.out 1
/-! Add -/
theorem addTo_given {k : Nat} (h : SlOk B sl) (hf : freeAt sl < 64) : givenAt (addTo sl) k = if k = freeAt sl then givenAt sl k + 1 else givenAt sl k := by
  unfold addTo givenAt
  cases hs : sl[freeAt sl]? with
  | some s =>
    simp only []
    by_cases e : k = freeAt sl
    · subst e
      rw [if_pos rfl, List.getElem?_set_self (List.getElem?_eq_some_iff.1 hs).1, hs]
      simp only []
      omega
    · rw [if_neg e, List.getElem?_set_ne (fun e2 => e e2.symm)]
  | none =>
    simp only []
    have h1 := List.getElem?_eq_none_iff.1 hs
    have h2 := freeAt_le sl
    by_cases e : k = freeAt sl
    · rw [if_pos e, List.getElem?_append_right (by omega), show k - sl.length = 0 by omega, e, hs]
      simp only [List.getElem?_cons_zero]
      omega
    · rw [if_neg e]
      by_cases hk : k < sl.length
      · rw [List.getElem?_append_left hk]
      · rw [List.getElem?_eq_none (by simp; omega), List.getElem?_eq_none (by omega)]
theorem addTo_on {k : Nat} : onAt (addTo sl) k = if k = freeAt sl then true else onAt sl k := by
  unfold addTo onAt
  cases hs : sl[freeAt sl]? with
  | some s =>
    simp only []
    by_cases e : k = freeAt sl
    · subst e
      rw [if_pos rfl, List.getElem?_set_self (List.getElem?_eq_some_iff.1 hs).1]
    · rw [if_neg e, List.getElem?_set_ne (fun e2 => e e2.symm)]
  | none =>
    simp only []
    have h1 := List.getElem?_eq_none_iff.1 hs
    have h2 := freeAt_le sl
    by_cases e : k = freeAt sl
    · rw [if_pos e, List.getElem?_append_right (by omega), show k - sl.length = 0 by omega]
      rfl
    · rw [if_neg e]
      by_cases hk : k < sl.length
      · rw [List.getElem?_append_left hk]
      · rw [List.getElem?_eq_none (by simp; omega), List.getElem?_eq_none (by omega)]
theorem addPid_given (h : SlOk B sl) (hf : freeAt sl < 64) : addPid sl = freeAt sl + 64 * givenAt sl (freeAt sl) := by
  unfold addPid givenAt
  cases hs : sl[freeAt sl]? with
  | some s =>
    simp only []
    have := h.at_ _ s hs
    omega
  | none =>
    simp only []
    have h1 := List.getElem?_eq_none_iff.1 hs
    have h2 := freeAt_le sl
    omega
theorem onAt_free (k : Nat) (hk : k < freeAt sl) : onAt sl k = true := by
  have h2 := freeAt_le sl
  have hlt : k < sl.length := by omega
  unfold onAt
  rw [List.getElem?_eq_getElem hlt]
  exact freeAt_before hk (List.getElem?_eq_getElem hlt)
theorem onAt_at : onAt sl (freeAt sl) = false := by
  unfold onAt
  cases hs : sl[freeAt sl]? with
  | some s => exact freeAt_off hs
  | none => rfl
end
end Go.Proofs.Ytdcmdidikengbaa
