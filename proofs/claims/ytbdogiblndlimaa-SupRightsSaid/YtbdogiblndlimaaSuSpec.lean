/- A spec in new memory; the document's own Right. -/
import Derived.Test.YtbdogiblndlimaaSuUse
import Derived.Test.YtbdogiblndlimaaSuIn
namespace Go.Proofs.Ytbdogiblndlimaa
open Go.RowKit
set_option linter.unusedVariables false

section
variable {w w' : World} {v : Value} {cs : List Ch} {s : Sp}
theorem ChR.src (h : ChR w v cs) : ∃ po cap, v = .slice po cs.length cap ∧ (0 < cs.length → ∃ ad, po = some ad ∧ ∀ j u, (chC cs)[j]? = some u → w.cell? (ad.add j) = some u) := by
  obtain ⟨po, cap, rfl, h1, h2, h3⟩ := h
  refine ⟨po, cap, rfl, fun h0 => ?_⟩
  obtain ⟨g, off, rfl, -⟩ := h3 0 _ (List.getElem?_eq_getElem h0)
  refine ⟨_, rfl, fun j u hj => ?_⟩
  have hjl := (List.getElem?_eq_some_iff.1 hj).1
  rw [chC_len] at hjl
  obtain ⟨c, hc⟩ : ∃ c, cs[j / 3]? = some c := ⟨_, List.getElem?_eq_getElem (by omega)⟩
  obtain ⟨g', off', e, a1, a2, a3, -⟩ := h3 _ c hc
  injection e with e
  injection e with e e2
  subst e e2
  rw [Go.WideShapes.add_plain]
  obtain h | h | h : j % 3 = 0 ∨ j % 3 = 1 ∨ j % 3 = 2 := by omega
  · have hu := chC_get cs (j / 3) 0 c _ hc rfl
    rw [show j / 3 * 3 + 0 = j by omega, hj] at hu
    injection hu with hu
    rw [hu, show off + j = off + j / 3 * 3 by omega]; exact a1
  · have hu := chC_get cs (j / 3) 1 c _ hc rfl
    rw [show j / 3 * 3 + 1 = j by omega, hj] at hu
    injection hu with hu
    rw [hu, show off + j = off + j / 3 * 3 + 1 by omega]; exact a2
  · have hu := chC_get cs (j / 3) 2 c _ hc rfl
    rw [show j / 3 * 3 + 2 = j by omega, hj] at hu
    injection hu with hu
    rw [hu, show off + j = off + j / 3 * 3 + 2 by omega]; exact a3
theorem ChR.ok (h : ChR w v cs) : ∀ c ∈ cs, ChOk c := by
  obtain ⟨po, cap, rfl, h1, h2, h3⟩ := h
  intro c hc
  obtain ⟨i, hi⟩ := List.getElem?_of_mem hc
  obtain ⟨g, off, -, -, -, -, a4⟩ := h3 i c hi
  exact a4
set_option maxHeartbeats 2000000 in
set_option maxRecDepth 100000 in
theorem spec_any (hv : ChR w v cs) (hl : cs.length ≤ 4398046511104) : Calls Try.prog 22 #[specV s v] w fun e w' => ∃ v', e = .returned (specV s v') ∧ ChR w' v' cs ∧ Kp (fun _ => False) w w' := by
  have hok := hv.ok
  have hn0 := heap_alloc_new w (.cells #[.int .i64 s.sg, .int .i64 s.m, .int .i64 s.t, v] 33)
  have hk0 : Kp (fun _ => False) w (w.alloc (.cells #[.int .i64 s.sg, .int .i64 s.m, .int .i64 s.t, v] 33)) := (Kp.refl _ w).alloc _
  obtain ⟨w1, hw1⟩ : ∃ w1, w.alloc (.cells #[.int .i64 s.sg, .int .i64 s.m, .int .i64 s.t, v] 33) = w1 := ⟨_, rfl⟩
  rw [hw1] at hk0 hn0
  have hz0 := heap_alloc_new w1 (.cells #[.int .i64 0, .int .i64 0, .int .i64 0, .slice none 0 0] 33)
  have hkz : Kp (fun _ => False) w1 (w1.alloc (.cells #[.int .i64 0, .int .i64 0, .int .i64 0, .slice none 0 0] 33)) := (Kp.refl _ w1).alloc _
  obtain ⟨wz, hwz⟩ : ∃ wz, w1.alloc (.cells #[.int .i64 0, .int .i64 0, .int .i64 0, .slice none 0 0] 33) = wz := ⟨_, rfl⟩
  rw [hwz] at hkz hz0
  have hlt : w.heap.size < w1.heap.size := (Array.getElem?_eq_some_iff.1 hn0).1
  have hlz : w1.heap.size < wz.heap.size := (Array.getElem?_eq_some_iff.1 hz0).1
  have hnz : wz.heap[w.heap.size]? = _ := (hkz.block w.heap.size hlt (fun e => e)).trans hn0
  have hv1 := hv.same (hk0.trans' hkz)
  obtain ⟨po, cap, rfl, hsrc⟩ := hv1.src
  have hv0 : wz.ownsS 29 3 (.slice none 0 0) ([] : List Ch).length (chC []) := ownsS_nil _ _ _
  obtain ⟨v', w2, e1, e2, e3, e4⟩ := chC_append hv0 po cap cs hsrc (by simp; exact hl)
  rw [List.nil_append] at e2
  obtain ⟨po2, cap2, rfl, -, -⟩ := ownsS_form e2
  have b3 : wz.cell? ⟨w.heap.size, 3, none⟩ = some (.slice po cs.length cap) := cell_of_row _ _ 3 _ _ _ hnz
  have hn2 : w2.heap[w.heap.size]? = _ := (e3.block w.heap.size (by omega) (fun e => by cases e)).trans hnz
  have hn3 : w2.heap[w1.heap.size]? = _ := (e3.block w1.heap.size hlz (fun e => by cases e)).trans hz0
  have d0 : w2.cell? ⟨w.heap.size, 0, none⟩ = some (.int .i64 s.sg) := cell_of_row _ _ 0 _ _ _ hn2
  have d1 : w2.cell? ⟨w.heap.size, 1, none⟩ = some (.int .i64 s.m) := cell_of_row _ _ 1 _ _ _ hn2
  have d2 : w2.cell? ⟨w.heap.size, 2, none⟩ = some (.int .i64 s.t) := cell_of_row _ _ 2 _ _ _ hn2
  have d3 : w2.cell? ⟨w.heap.size, 3, none⟩ = some (.slice po cs.length cap) := cell_of_row _ _ 3 _ _ _ hn2
  have hfz : ∀ o, w2.frozen? ⟨w.heap.size, o, none⟩ = false := fun o => by simp [World.frozen?, hn2]
  have f0 : w2.cell? ⟨w1.heap.size, 0, none⟩ = some (.int .i64 0) := cell_of_row _ _ 0 _ _ _ hn3
  have f1 : w2.cell? ⟨w1.heap.size, 1, none⟩ = some (.int .i64 0) := cell_of_row _ _ 1 _ _ _ hn3
  have f2 : w2.cell? ⟨w1.heap.size, 2, none⟩ = some (.int .i64 0) := cell_of_row _ _ 2 _ _ _ hn3
  have f3 : w2.cell? ⟨w1.heap.size, 3, none⟩ = some (.slice none 0 0) := cell_of_row _ _ 3 _ _ _ hn3
  have hfy : ∀ o, w2.frozen? ⟨w1.heap.size, o, none⟩ = false := fun o => by simp [World.frozen?, hn3]
  have hne : ∀ q, (Value.slice po2 cs.length cap2).ownBlock = some q → q ≠ w.heap.size ∧ q ≠ w1.heap.size := fun q hq => by
    rcases e4 q hq with h | h
    · cases h
    · omega
  have hk2 : Kp (fun _ => False) wz w2 := e3.mono fun q hq e => by simp [Value.ownBlock] at e
  have HG : Hid (∀ wf, Kp (fun q => q = w.heap.size ∨ q = w1.heap.size) w2 wf → ChR wf (.slice po2 cs.length cap2) cs ∧ Kp (fun _ => False) w wf) := by
    refine Lib.hid fun wf hkf => ⟨ChR.of (hkf.rowS e2 fun q hq e => ?_) hok, ?_⟩
    · rcases e with e | e
      · exact (hne q hq).1 e
      · exact (hne q hq).2 e
    · exact ((hk0.trans' hkz).trans' hk2).trans (hkf.mono fun q hq e => .inr ⟨by rcases e with e | e <;> omega, hq⟩)
  have HR := Lib.hid e1
  clear e1 e2 e3 e4 hv0 hsrc hv1 hv hk0 hn0 hn2 hn3 hne hk2 hok hkz hz0 hnz
  unfold specV
  go_enter Try.func22, Try.ntmps22
  go_wp2_with (at_builtin; refine wpList_run rfl _ _ 31 rfl (.slice none 0 0) (.slice po cs.length cap) rfl rfl _ w2 HR.out ?_)
  have t0 : ∀ x u, (w2.setCell ⟨w.heap.size, 3, none⟩ u).cell? ⟨w1.heap.size, x, none⟩ = w2.cell? ⟨w1.heap.size, x, none⟩ := fun x u => World.cell?_setCell_other _ _ _ _ (fun e => by injection e; omega)
  refine bodyPost_ret (v := .agg #[.int .i64 s.sg, .int .i64 s.m, .int .i64 s.t, .slice po2 cs.length cap2]) (by simp [results, Try.results22, go_sem, f0, f1, f2, f3, t0]) rfl ?_
  refine ⟨_, rfl, HG.out _ ?_⟩
  exact (((((Kp.refl _ w2).setCell _ _ (.inl (.inl rfl))).setCell _ _ (.inl (.inr rfl))).setCell _ _ (.inl (.inr rfl))).setCell _ _ (.inl (.inr rfl))).setCell _ _ (.inl (.inr rfl))
end
end Go.Proofs.Ytbdogiblndlimaa
