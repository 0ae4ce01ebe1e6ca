/- The reader: a literal, whether it may be or not. Instructions in a row. -/
import Derived.Test.YtaeoohjgdkablaaDoorM25
/- The reader: a literal, whether it may be or not. -/
namespace Go.Proofs.YtaeoohjgdkablaaDoor
open Go.RowKit

/-- the end of literal -/
def LitPost (w : World) (R : Nat) (v : Value) (l : List UInt8) (p : Nat) (e : Ending) (w' : World) : Prop :=
  (∃ T h k n s a1 l1 c1 a2 l2 c2 a3 l3 c3 q, e = .returned (.agg #[.int .i64 k, .int .i64 n, .string s, .slice a1 l1 c1, .slice a2 l2 c2, .slice a3 l3 c3]) ∧ TermAt (Own w.heap.size w') w' h T [.int .i64 k, .int .i64 n, .string s, .slice a1 l1 c1, .slice a2 l2 c2, .slice a3 l3 c3] ∧ okT T ∧ RAt w' R v l q ∧ p < q ∧
    (∀ T0 y, (wfT T0 ∧ l.drop p = encT T0 ++ y) ↔ (T0 = T ∧ l.drop q = y)) ∧ Kp (fun q => q = R) w w') ∨
  (RFail R w e w' ∧ ∀ T0 y, wfT T0 → okT T0 → l.drop p ≠ encT T0 ++ y)

set_option maxRecDepth 100000 in
set_option maxHeartbeats 4000000 in
theorem literal_any {w : World} {R : Nat} {v : Value} {l : List UInt8} {p : Nat} (h : RAt w R v l p) (hl : l.length ≤ 1000000000) :
    Calls Tryd.prog 41 #[.pointer (some ⟨R, 0, none⟩)] w (LitPost w R v l p) := by
  have hRl := (Array.getElem?_eq_some_iff.1 h.cells).1
  obtain ⟨w1, hw1⟩ : ∃ w1, w.alloc (.cells #[.int .i64 0, .int .i64 0, .string ⟨#[]⟩, .slice none 0 0, .slice none 0 0, .slice none 0 0] 25) = w1 := ⟨_, rfl⟩
  have hk1 : Kp (fun _ => False) w w1 := by rw [← hw1]; exact (Kp.refl _ w).alloc _
  have hbx : w1.heap[w.heap.size]? = some (.cells #[.int .i64 0, .int .i64 0, .string ⟨#[]⟩, .slice none 0 0, .slice none 0 0, .slice none 0 0] 25 (0, 0)) := by rw [← hw1]; exact heap_alloc_new w _
  have h1 := h.kp hk1
  have c1 : w1.cell? ⟨R, 1, none⟩ = some (.int .i64 p) := by rw [cell_of_row w1 R 1 _ _ _ h1.cells]; rfl
  have H1 := Lib.hid (And.intro h1 (And.intro hk1 (And.intro hbx hRl)))
  clear h1 hk1 hbx hRl h
  go_enter Tryd.func41, Tryd.ntmps41
  go_wp2_with fail
  try rw [hw1]
  clear hw1
  refine (term_any H1.out.1 hl).mono ?_
  rintro e w2 (⟨T, B, hh, k, n, s, a1, l1, d1, a2, l2, d2, a3, l3, d3, q, rfl, hT, hr2, hpq, hruns, hmode, hk2⟩ | ⟨hf, hno⟩)
  · obtain ⟨w3, hw3⟩ : ∃ w3, w2.alloc (.cells #[.int .i64 k, .int .i64 n, .string s, .slice a1 l1 d1, .slice a2 l2 d2, .slice a3 l3 d3] 25) = w3 := ⟨_, rfl⟩
    have hk3 : Kp (fun _ => False) w2 w3 := by rw [← hw3]; exact (Kp.refl _ w2).alloc _
    have hb3 : w3.heap[w2.heap.size]? = some (.cells #[.int .i64 k, .int .i64 n, .string s, .slice a1 l1 d1, .slice a2 l2 d2, .slice a3 l3 d3] 25 (0, 0)) := by rw [← hw3]; exact heap_alloc_new w2 _
    have hT3 := hT.kp hk3 (fun _ _ e => e)
    have hsz := tsz_eq hT3
    have y0 : w3.cell? ⟨w2.heap.size, 0, none⟩ = some (.int .i64 k) := by rw [cell_of_row w3 _ 0 _ _ _ hb3]; rfl
    have y1 : w3.cell? ⟨w2.heap.size, 1, none⟩ = some (.int .i64 n) := by rw [cell_of_row w3 _ 1 _ _ _ hb3]; rfl
    have y2 : w3.cell? ⟨w2.heap.size, 2, none⟩ = some (.string s) := by rw [cell_of_row w3 _ 2 _ _ _ hb3]; rfl
    have y3 : w3.cell? ⟨w2.heap.size, 3, none⟩ = some (.slice a1 l1 d1) := by rw [cell_of_row w3 _ 3 _ _ _ hb3]; rfl
    have y4 : w3.cell? ⟨w2.heap.size, 4, none⟩ = some (.slice a2 l2 d2) := by rw [cell_of_row w3 _ 4 _ _ _ hb3]; rfl
    have y5 : w3.cell? ⟨w2.heap.size, 5, none⟩ = some (.slice a3 l3 d3) := by rw [cell_of_row w3 _ 5 _ _ _ hb3]; rfl
    have H2 := Lib.hid (And.intro hT3 (And.intro (hr2.kp hk3) (And.intro hpq (And.intro hruns (And.intro hmode (And.intro (hk2.trans' (hk3.mono fun _ _ e => e.elim)) (And.intro hb3 (And.intro hsz hk2.size))))))))
    clear hT hr2 hpq hruns hmode hk2 hk3 hb3 hT3 hsz
    go_wp2_with fail
    try rw [hw3]
    clear hw3
    refine (tright_deep H2.out.1).mono ?_
    rintro e w5 ⟨⟨rfl, hok1, hok2⟩ | ⟨⟨v5, n5, k5, rfl, hch⟩, hno⟩, hk5⟩
    · have hBT : okT T ∧ B = T := by
        rw [H2.out.2.2.2.2.2.2.2.1] at hok2
        rcases H2.out.2.2.2.2.1 with e | ⟨e, _⟩
        · exact ⟨e ▸ ⟨hok1, hok2⟩, e⟩
        · omega
      have hb5 := (hk5.block _ (Array.getElem?_eq_some_iff.1 H2.out.2.2.2.2.2.2.1).1 (fun e => e)).trans H2.out.2.2.2.2.2.2.1
      have z0 : w5.cell? ⟨w2.heap.size, 0, none⟩ = some (.int .i64 k) := by rw [cell_of_row w5 _ 0 _ _ _ hb5]; rfl
      have z1 : w5.cell? ⟨w2.heap.size, 1, none⟩ = some (.int .i64 n) := by rw [cell_of_row w5 _ 1 _ _ _ hb5]; rfl
      have z2 : w5.cell? ⟨w2.heap.size, 2, none⟩ = some (.string s) := by rw [cell_of_row w5 _ 2 _ _ _ hb5]; rfl
      have z3 : w5.cell? ⟨w2.heap.size, 3, none⟩ = some (.slice a1 l1 d1) := by rw [cell_of_row w5 _ 3 _ _ _ hb5]; rfl
      have z4 : w5.cell? ⟨w2.heap.size, 4, none⟩ = some (.slice a2 l2 d2) := by rw [cell_of_row w5 _ 4 _ _ _ hb5]; rfl
      have z5 : w5.cell? ⟨w2.heap.size, 5, none⟩ = some (.slice a3 l3 d3) := by rw [cell_of_row w5 _ 5 _ _ _ hb5]; rfl
      have hbl1 := (Array.getElem?_eq_some_iff.1 H1.out.2.2.1).1
      have hR := H1.out.2.2.2
      have hk15 : Kp (fun q => q = R) w1 w5 := H2.out.2.2.2.2.2.1.trans' (hk5.mono fun _ _ e => e.elim)
      have hbx := (hk15.block _ hbl1 (by omega)).trans H1.out.2.2.1
      obtain ⟨hr9, hk9⟩ := sixSet_any (c0 := .int .i64 k) (c1 := .int .i64 n) (c2 := .string s) (c3 := .slice a1 l1 d1) (c4 := .slice a2 l2 d2) (c5 := .slice a3 l3 d3) hbx
      have e0 : w5.cell? ⟨w.heap.size, 0, none⟩ = some (.int .i64 0) := by rw [cell_of_row w5 _ 0 _ _ _ hbx]; rfl
      have e1 : w5.cell? ⟨w.heap.size, 1, none⟩ = some (.int .i64 0) := by rw [cell_of_row w5 _ 1 _ _ _ hbx]; rfl
      have e2 : w5.cell? ⟨w.heap.size, 2, none⟩ = some (.string ⟨#[]⟩) := by rw [cell_of_row w5 _ 2 _ _ _ hbx]; rfl
      have e3 : w5.cell? ⟨w.heap.size, 3, none⟩ = some (.slice none 0 0) := by rw [cell_of_row w5 _ 3 _ _ _ hbx]; rfl
      have e4 : w5.cell? ⟨w.heap.size, 4, none⟩ = some (.slice none 0 0) := by rw [cell_of_row w5 _ 4 _ _ _ hbx]; rfl
      have e5 : w5.cell? ⟨w.heap.size, 5, none⟩ = some (.slice none 0 0) := by rw [cell_of_row w5 _ 5 _ _ _ hbx]; rfl
      have ef : ∀ j, w5.frozen? ⟨w.heap.size, j, none⟩ = false := fun j => by simp [World.frozen?, hbx]
      have HD := Lib.hid (And.intro hr9 (And.intro hk9 (And.intro hk15 (And.intro hk5 (And.intro hBT (And.intro hbl1 hR))))))
      clear hr9 hk9 hbx hb5 hk15 hk5 hBT hbl1 hR hok1 hok2 y0 y1 y2 y3 y4 y5
      go_wp2_with fail
      change bodyPost _ _ _ _ _ (sixSet w5 w.heap.size (.int .i64 k) (.int .i64 n) (.string s) (.slice a1 l1 d1) (.slice a2 l2 d2) (.slice a3 l3 d3))
      clear e0 e1 e2 e3 e4 e5 ef z0 z1 z2 z3 z4 z5
      obtain ⟨w9, hw9⟩ : ∃ w9, sixSet w5 w.heap.size (.int .i64 k) (.int .i64 n) (.string s) (.slice a1 l1 d1) (.slice a2 l2 d2) (.slice a3 l3 d3) = w9 := ⟨_, rfl⟩
      rw [hw9]
      obtain ⟨hr9, hk9, hk15, hk5, hBT, hbl1, hR⟩ := HD.out
      rw [hw9] at hr9 hk9
      have i0 : w9.cell? ⟨w.heap.size, 0, none⟩ = some (.int .i64 k) := by rw [cell_of_row w9 _ 0 _ _ _ hr9]; rfl
      have i1 : w9.cell? ⟨w.heap.size, 1, none⟩ = some (.int .i64 n) := by rw [cell_of_row w9 _ 1 _ _ _ hr9]; rfl
      have i2 : w9.cell? ⟨w.heap.size, 2, none⟩ = some (.string s) := by rw [cell_of_row w9 _ 2 _ _ _ hr9]; rfl
      have i3 : w9.cell? ⟨w.heap.size, 3, none⟩ = some (.slice a1 l1 d1) := by rw [cell_of_row w9 _ 3 _ _ _ hr9]; rfl
      have i4 : w9.cell? ⟨w.heap.size, 4, none⟩ = some (.slice a2 l2 d2) := by rw [cell_of_row w9 _ 4 _ _ _ hr9]; rfl
      have i5 : w9.cell? ⟨w.heap.size, 5, none⟩ = some (.slice a3 l3 d3) := by rw [cell_of_row w9 _ 5 _ _ _ hr9]; rfl
      refine bodyPost_ret (v := .agg #[.int .i64 k, .int .i64 n, .string s, .slice a1 l1 d1, .slice a2 l2 d2, .slice a3 l3 d3]) (by simp [results, Tryd.results41, go_sem, i0, i1, i2, i3, i4, i5]) rfl ?_
      have hs9 := hk9.size
      have hs5 := hk5.size
      have hs1 := H1.out.2.1.size
      have hT := H2.out.1
      rw [hBT.2] at hT
      have hr1 := H2.out.2.1.kp hk5
      have hT5 := TermAt.imp (G := Own w.heap.size w9) (fun q e => ⟨Nat.le_trans hs1 e.1, Nat.lt_of_lt_of_le e.2 (Nat.le_trans (Nat.le_of_lt (Array.getElem?_eq_some_iff.1 H2.out.2.2.2.2.2.2.1).1) (Nat.le_trans hs5 hs9))⟩) (fun b j u hb hc => cells_kp hk9 (F := Own w1.heap.size w2) (fun q e e2 => by have := e.1; omega) b j u hb (cells_kp hk5 (F := Own w1.heap.size w2) (fun _ _ e => e) b j u hb hc)) hh T _ hT
      exact .inl ⟨T, hh, k, n, s, a1, l1, d1, a2, l2, d2, a3, l3, d3, q, rfl, hT5, hBT.1, ⟨(hk9.block R (Array.getElem?_eq_some_iff.1 hr1.cells).1 (by omega)).trans hr1.cells, bytes_kp hr1.bytes hk9 (fun x e e2 => by omega), hr1.le⟩, H2.out.2.2.1, H2.out.2.2.2.1, kp_new ((H1.out.2.1.mono fun _ _ e => e.elim : Kp (fun q => q = R) w w1).trans' hk15) (hk9.mono fun x _ e => .inr (by omega))⟩
    · obtain ⟨gv, rfl⟩ := hch.out.form
      have H5 := Lib.hid (And.intro hch (And.intro hk5 hno))
      clear hch hk5 hno y0 y1 y2 y3 y4 y5
      go_wp2_with (go_at_call 19; refine (at_any _ _ _ _ _).mono ?_; rintro e w' ⟨rfl, rfl⟩)
      refine bodyPost_panic rfl (.inr ⟨⟨_, p, [Lk.fault termS n5, Lk.kind k5], rfl, ChainB.cons readS p (ChainB.kp ((Kp.refl (fun _ => False) w5).alloc _) (fun _ e => e.elim) (H5.out.1.le ?_)) ?_ (heap_alloc_new w5 _), by simp, ?_⟩, fun T0 y hw ho e => ?_⟩)
      · have h1 := H1.out.2.1.size
        have h2 := H2.out.2.2.2.2.2.1.size
        omega
      · have h1 := H1.out.2.1.size
        have h2 := H2.out.2.2.2.2.2.1.size
        have h3 := H5.out.2.1.size
        omega
      · exact (H1.out.2.1.mono fun _ _ e => e.elim : Kp (fun q => q = R) w w1).trans' (H2.out.2.2.2.2.2.1.trans' ((H5.out.2.1.mono fun _ _ e => e.elim).trans' ((Kp.refl _ w5).alloc _)))
      · obtain ⟨rfl, _⟩ := (H2.out.2.2.2.1 T0 y).1 ⟨hw, e⟩
        have hno := H5.out.2.2
        rw [H2.out.2.2.2.2.2.2.2.1] at hno
        rcases H2.out.2.2.2.2.1 with e | ⟨_, e⟩
        · exact hno (e ▸ ho)
        · have := ho.2
          omega
  · obtain ⟨c, rfl⟩ := hf.pan
    have H2 := Lib.hid (And.intro hf hno)
    clear hf hno
    go_wp2_with fail
    refine bodyPost_panic rfl (.inr ⟨?_, fun T0 y hw _ => H2.out.2 T0 y hw⟩)
    obtain ⟨v, n, ls, q1, q2, q3, q4⟩ := H2.out.1
    exact ⟨v, n, ls, q1, q2.le H1.out.2.1.size, q3, (H1.out.2.1.mono fun _ _ e => e.elim).trans' q4⟩
end Go.Proofs.YtaeoohjgdkablaaDoor

/- Instructions in a row. -/
namespace Go.Proofs.YtaeoohjgdkablaaDoor
open Go.RowKit

theorem Tryd.infoIns : (Tryd.prog.info? 27).map (fun i => (i.zero, i.size, i.bytes)) = some (some (.agg #[.int .i64 0, .int .i64 0, .int .i64 0, .int .i64 0]), 4, 32) := by kernel_rfl
def insCells (l : List In4) : List Value := l.flatMap fun x => [.int .i64 x.op, .int .i64 x.a, .int .i64 x.b, .int .i64 x.c]
theorem insCells_len (l : List In4) : (insCells l).length = l.length * 4 := by
  induction l with
  | nil => rfl
  | cons x l ih => simp only [insCells, List.flatMap_cons, List.length_append, List.length_cons, List.length_nil] at ih ⊢; omega
/-- an instruction more is put behind the others -/
theorem ins_row {W0 k : Nat} {w : World} {v : Value} {l : List In4} (ho : w.ownsRow W0 27 4 v k (insCells l)) (hW : W0 ≤ w.heap.size) (hk : (k + 1) * 32 ≤ 140737488351232) (x : In4) :
    ∃ g cap w', (Builtin.append_ #[28, 28] 28 #[v, .slice (some ⟨w.heap.size, 0, none⟩) 1 1]).run Tryd.prog (w.alloc (.cells #[.int .i64 x.op, .int .i64 x.a, .int .i64 x.b, .int .i64 x.c] 27)) = .ok (.slice (some ⟨g, 0, none⟩) (k + 1) cap) w' ∧
      w'.ownsRow W0 27 4 (.slice (some ⟨g, 0, none⟩) (k + 1) cap) (k + 1) (insCells (l ++ [x])) ∧ Kp (fun q => v.ownBlock = some q) w w' ∧ (v.ownBlock = some g ∨ w.heap.size ≤ g) := by
  obtain ⟨i0, hi, hz0, hz1, hz2⟩ := info_parts Tryd.infoIns
  have hka : Kp (fun _ => False) w (w.alloc (.cells #[.int .i64 x.op, .int .i64 x.a, .int .i64 x.b, .int .i64 x.c] 27)) := (Kp.refl _ w).alloc _
  obtain ⟨g, cap, w', h1, h2, h3, h4, h5⟩ := run_append_lies (P := Tryd.prog) _ 28 28 W0 27 i0 (.agg #[.int .i64 0, .int .i64 0, .int .i64 0, .int .i64 0]) 4 32 Tryd.underlying28 hi hz0 hz1 hz2 rfl (by omega) v k _ (hka.row ho (fun _ _ e => e)) ⟨w.heap.size, 0, none⟩ 1 1 [.int .i64 x.op, .int .i64 x.a, .int .i64 x.b, .int .i64 x.c] rfl
    (World.news_of_block (cs := #[.int .i64 x.op, .int .i64 x.a, .int .i64 x.b, .int .i64 x.c]) (heap_alloc_new w _)) (by intro u hu; simp at hu; rcases hu with rfl | rfl | rfl | rfl <;> rfl) (by omega) (by unfold maxLen; omega) (by omega) (by simp; omega) (w.heap.size + 1) (by simp)
  refine ⟨g, cap, w', h1, ?_, ((Kp.refl _ w).alloc _).grown h3 (fun q hq => .inl hq), h4.imp id (fun e => by omega)⟩
  rw [show insCells (l ++ [x]) = insCells l ++ [.int .i64 x.op, .int .i64 x.a, .int .i64 x.b, .int .i64 x.c] by simp [insCells]]
  exact h2
/-- an own row of instructions -/
theorem insCells_at {W0 : Nat} {w : World} {v : Value} {l : List In4} (ho : w.ownsRow W0 27 4 v l.length (insCells l)) (hl : l.length * 32 ≤ 140737488351232) (hw : ∀ x ∈ l, x.wf) : CodeAt (Own W0 w) w l v := by
  have hel : ∀ (i : Nat) (x : In4), l[i]? = some x → (insCells l)[i * 4]? = some (.int .i64 x.op) ∧ (insCells l)[i * 4 + 1]? = some (.int .i64 x.a) ∧ (insCells l)[i * 4 + 2]? = some (.int .i64 x.b) ∧ (insCells l)[i * 4 + 3]? = some (.int .i64 x.c) := by
    clear ho hl hw
    induction l with
    | nil => intro i x hi; simp at hi
    | cons y l ih =>
      intro i x hi
      cases i with
      | zero => simp at hi; subst hi; exact ⟨rfl, rfl, rfl, rfl⟩
      | succ i =>
        obtain ⟨h0, h1, h2, h3⟩ := ih i x (by simpa using hi)
        have e : ∀ k, (insCells (y :: l))[(i + 1) * 4 + k]? = (insCells l)[i * 4 + k]? := fun k => by
          simp only [insCells, List.flatMap_cons]
          rw [List.getElem?_append_right (by simp; omega)]
          congr 1; simp; omega
        exact ⟨(e 0).trans h0, (e 1).trans h1, (e 2).trans h2, (e 3).trans h3⟩
  have hrow := ho
  rcases ho.2 with ⟨e, h0⟩ | ⟨g, cap, cur, e, hb, hg, hn, _⟩
  · obtain rfl := List.eq_nil_of_length_eq_zero h0
    exact ⟨none, 0, by rw [e]; rfl, by simp, by simp, fun i x hi => by simp at hi⟩
  · subst e
    refine ⟨some ⟨g, 0, none⟩, cap, rfl, hn, hl, fun i x hi => ?_⟩
    obtain ⟨h0, h1, h2, h3⟩ := hel i x hi
    have hlt := (List.getElem?_eq_some_iff.1 hi).1
    have hc : ∀ k u, k < 4 → (insCells l)[i * 4 + k]? = some u → w.cell? ⟨g, 0 + i * 4 + k, none⟩ = some u := fun k u hk e => by
      rw [Nat.zero_add, hrow.cellAt _ (by omega)]; exact e
    exact ⟨g, 0, rfl, ⟨hb, (Array.getElem?_eq_some_iff.1 hg).1⟩, hc 0 _ (by omega) h0, hc 1 _ (by omega) h1, hc 2 _ (by omega) h2, hc 3 _ (by omega) h3, hw x (List.mem_of_getElem? hi)⟩

end Go.Proofs.YtaeoohjgdkablaaDoor
