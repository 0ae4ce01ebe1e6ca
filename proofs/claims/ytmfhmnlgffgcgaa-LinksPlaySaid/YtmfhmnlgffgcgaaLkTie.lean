/- Ties and cuts of a net. -/
import Derived.Test.YtmfhmnlgffgcgaaLkForget
namespace Go.Proofs.Ytmfhmnlgffgcgaa
open Go.RowKit Go.Maps
set_option linter.unusedVariables false

section
variable {F G : Nat → Prop} {w w' w'' : World} {b : Nat} {col col' col'' : Nat → Nat} {h h' : Nat → Value} {S : Nat → List (Int × Int)} {ms : List Mo} {k : Nat} {a x r : Int} {v : Value}
/-- a box that stays -/
theorem box_step {w w' : World} {B : Nat} {o : Obj} (hb : w.heap[B]? = some o) (hc : col B = 0) (hs : NxStep w col w' col') : w'.heap[B]? = some o ∧ col' B = 0 :=
  have hl : B < w.heap.size := (Array.getElem?_eq_some_iff.1 hb).1
  ⟨(hs.2.block B hl (fun e => e hc)).trans hb, (hs.1 B hl).trans hc⟩
theorem box_two {w : World} {B : Nat} {c d : Int} (hb : w.heap[B]? = some (.cells #[.int .i64 c, .int .i64 d] 70 (0, 0))) : w.cell? ⟨B, 0, none⟩ = some (.int .i64 c) ∧ w.cell? ⟨B, 1, none⟩ = some (.int .i64 d) :=
  ⟨by rw [cell_of_row _ _ 0 _ _ _ hb]; rfl, by rw [cell_of_row _ _ 1 _ _ _ hb]; rfl⟩
theorem lk_upd_upd {α : Type} (f : Nat → α) (k : Nat) (u v : α) : upd (upd f k u) k v = upd f k v := by
  funext j
  unfold upd
  split <;> rfl
theorem NxTo.step {e : Ending} {ms'' : List Mo} {S'' : Nat → List (Int × Int)} (hs : NxStep w col w' col') (h7 : h' 7 = h 7) (h1 : NxTo w' b col' h' S'' ms'' e w'') : NxTo w b col h S'' ms'' e w'' := by
  obtain ⟨he, col2, h2, h3, h4, h5⟩ := h1
  exact ⟨he, col2, h2, h3, h4.trans h7, hs.trans h5⟩
set_option maxRecDepth 100000 in
set_option maxHeartbeats 4000000 in
theorem tie_link (H : Nx w b col h S ms) (hax : a ≠ x) (hn1 : (a, x) ∉ S 0) (hn2 : (x, a) ∉ S 0) (ha : I64 a) (hx : I64 x) (hl : (S 0).length + 2 ≤ 17592186044416) :
    Calls Try.prog 29 #[.pointer (some ⟨b, 0, none⟩), .int .i64 0, pv a x] w (NxTo w b col h (upd S 0 (S 0 ++ [(a, x)] ++ [(x, a)])) ms) := by
  have kb : Kp (fun _ => False) w (w.alloc (.cells #[.int .i64 a, .int .i64 x] 70)) := (Kp.refl _ w).alloc _
  have hB := heap_alloc_new w (.cells #[.int .i64 a, .int .i64 x] 70)
  have hBc : col w.heap.size = 0 := H.fr _ (Nat.le_refl _)
  have H1 := H.same kb
  have HO := Lib.hid (show Calls Try.prog 42 #[.pointer (some ⟨b, 0, none⟩), .int .i64 0, .agg #[.int .i64 a, .int .i64 x]] (w.alloc (.cells #[.int .i64 a, .int .i64 x] 70)) (OsTo 0 x a (w.alloc (.cells #[.int .i64 a, .int .i64 x] 70))) from other_link _ b a x)
  have HQ := Lib.hid (And.intro H (And.intro kb (And.intro hB hBc)))
  unfold pv
  clear H kb hB hBc H1
  go_enter Try.func29, Try.ntmps29
  go_wp2_with fail
  refine HO.out.mono ?_
  rintro e W2 ⟨rfl, hk2⟩
  unfold pv
  obtain ⟨B, hB⟩ : ∃ B, W2.heap.size = B := ⟨_, rfl⟩
  have kW := HQ.out.2.1.trans' hk2
  have q3 : Kp (fun _ => False) w (W2.alloc (.cells #[.int .i64 x, .int .i64 a] 70)) := kW.alloc _
  have H3 := HQ.out.1.same q3
  have g1 : (W2.alloc (.cells #[.int .i64 x, .int .i64 a] 70)).heap[w.heap.size]? = some (Obj.cells #[.int .i64 a, .int .i64 x] 70 (0, 0)) := ((hk2.alloc _).block _ (by simp) (fun e => e)).trans HQ.out.2.2.1
  have g2 : (W2.alloc (.cells #[.int .i64 x, .int .i64 a] 70)).heap[B]? = some (Obj.cells #[.int .i64 x, .int .i64 a] 70 (0, 0)) := by rw [← hB]; exact heap_alloc_new W2 _
  have gc : col B = 0 := by rw [← hB]; exact HQ.out.1.fr _ kW.size
  have HX := Lib.hid (And.intro q3 (And.intro H3 (And.intro g1 (And.intro g2 (And.intro gc HQ.out.2.2.2)))))
  obtain ⟨x0, x1⟩ := box_two g1
  obtain ⟨y0, y1⟩ := box_two g2
  clear hk2 kW q3 H3 g1 g2 gc
  go_wp2_with fail
  obtain ⟨W3, hW3⟩ : ∃ W3, W2.alloc (.cells #[.int .i64 x, .int .i64 a] 70) = W3 := ⟨_, rfl⟩
  rw [hW3] at HX x0 x1 y0 y1
  have hs3 : NxStep w col W3 col := NxStep.quiet col HX.out.1
  have HN4 : Hid (Nx W3 b col h S ms ∧ True ∧ NxStep w col W3 col ∧ (W3.heap[w.heap.size]? = some (Obj.cells #[.int .i64 a, .int .i64 x] 70 (0, 0)) ∧ col w.heap.size = 0) ∧ (W3.heap[B]? = some (Obj.cells #[.int .i64 x, .int .i64 a] 70 (0, 0)) ∧ col B = 0)) :=
    Lib.hid ⟨HX.out.2.1, trivial, hs3, ⟨HX.out.2.2.1, HX.out.2.2.2.2.2⟩, HX.out.2.2.2.1, HX.out.2.2.2.2.1⟩
  rw [hW3]
  obtain ⟨W4, hW4⟩ : ∃ W4, W3 = W4 := ⟨_, rfl⟩
  obtain ⟨col4, hcol4⟩ : ∃ c, col = c := ⟨_, rfl⟩
  clear hs3 hW3 x0 x1 y0 y1
  subst hW4
  obtain ⟨x0, x1⟩ := box_two HN4.out.2.2.2.1.1
  have D4 := HN4.out.1.same ((Kp.refl (fun _ => False) W3).drew)
  have HA := Lib.hid (show Calls Try.prog 43 #[.pointer (some ⟨b, 0, none⟩), .agg #[.int .i64 a, .int .i64 x]] W3.drew (NxTo W3.drew b col h (upd S 0 (S 0 ++ [(a, x)])) ms) from nx_add D4 (k := 0) (by omega) hn1 ha hx (by omega))
  clear D4
  go_wp2_with fail
  go_still_tail 6, (by kernel_rfl)
  go_wp2_with fail
  refine HA.out.mono ?_
  rintro e W5 ⟨rfl, col5, h5, n5, e5, s5⟩
  have s45 : NxStep W3 col W5 col5 := (NxStep.quiet col ((Kp.refl (fun _ => False) W3).drew)).trans s5
  have HN5 := Lib.hid (And.intro n5 (And.intro e5 (And.intro (HN4.out.2.2.1.trans s45) (box_step HN4.out.2.2.2.2.1 HN4.out.2.2.2.2.2 s45))))
  clear n5 e5 s5 s45 x0 x1
  obtain ⟨y0, y1⟩ := box_two HN5.out.2.2.2.1
  have D5 := HN5.out.1.same ((Kp.refl (fun _ => False) W5).drew)
  have HA5 := Lib.hid (show Calls Try.prog 43 #[.pointer (some ⟨b, 0, none⟩), .agg #[.int .i64 x, .int .i64 a]] W5.drew (NxTo W5.drew b col5 h5 (upd S 0 (S 0 ++ [(a, x)] ++ [(x, a)])) ms) from (by
    have h6 := nx_add D5 (k := 0) (a := x) (x := a) (by omega) (by rw [upd_same]; intro e; rcases List.mem_append.1 e with e | e; exact hn2 e; simp at e; exact hax e.1.symm) hx ha (by rw [upd_same, List.length_append]; simp; omega)
    rw [upd_same, lk_upd_upd] at h6
    exact h6))
  clear D5
  go_wp2_with fail
  go_still_tail 6, (by kernel_rfl)
  go_wp2_with fail
  refine HA5.out.mono ?_
  rintro e W6 ht
  obtain ⟨rfl, -⟩ := id ht
  have HT := Lib.hid (NxTo.step ((NxStep.quiet col5 ((Kp.refl (fun _ => False) W5).drew))) rfl ht)
  clear ht
  go_wp2_with fail
  refine bodyPost_end (results_none rfl _ _ _) rfl ?_
  exact NxTo.step HN5.out.2.2.1 HN5.out.2.1 HT.out
set_option maxRecDepth 100000 in
set_option maxHeartbeats 4000000 in
theorem tie_watch (H : Nx w b col h S ms) {m : Mo} (hr : I64 m.ref) (hm : moOf ms m.ref = some m) (hn1 : (m.who, m.ref) ∉ S 1) (hn2 : (m.whom, m.ref) ∉ S 2) (ha : I64 m.who) (hx : I64 m.whom) (hl1 : (S 1).length + 1 ≤ 17592186044416) (hl2 : (S 2).length + 1 ≤ 17592186044416) :
    Calls Try.prog 29 #[.pointer (some ⟨b, 0, none⟩), .int .i64 1, pv m.who m.ref] w (NxTo w b col h (upd (upd S 1 (S 1 ++ [(m.who, m.ref)])) 2 (S 2 ++ [(m.whom, m.ref)])) ms) := by
  have kb : Kp (fun _ => False) w (w.alloc (.cells #[.int .i64 m.who, .int .i64 m.ref] 70)) := (Kp.refl _ w).alloc _
  have hB := heap_alloc_new w (.cells #[.int .i64 m.who, .int .i64 m.ref] 70)
  have hBc : col w.heap.size = 0 := H.fr _ (Nat.le_refl _)
  have H1 := H.same kb
  have HO := Lib.hid (show Calls Try.prog 42 #[.pointer (some ⟨b, 0, none⟩), .int .i64 1, .agg #[.int .i64 m.who, .int .i64 m.ref]] (w.alloc (.cells #[.int .i64 m.who, .int .i64 m.ref] 70)) (OsTo 2 m.whom m.ref (w.alloc (.cells #[.int .i64 m.who, .int .i64 m.ref] 70))) from other_who H1.head H1.mon hr hm m.who)
  have HQ := Lib.hid (And.intro H (And.intro kb (And.intro hB hBc)))
  unfold pv
  clear H kb hB hBc H1
  go_enter Try.func29, Try.ntmps29
  go_wp2_with fail
  refine HO.out.mono ?_
  rintro e W2 ⟨rfl, hk2⟩
  unfold pv
  obtain ⟨B, hB⟩ : ∃ B, W2.heap.size = B := ⟨_, rfl⟩
  have kW := HQ.out.2.1.trans' hk2
  have q3 : Kp (fun _ => False) w (W2.alloc (.cells #[.int .i64 m.whom, .int .i64 m.ref] 70)) := kW.alloc _
  have H3 := HQ.out.1.same q3
  have g1 : (W2.alloc (.cells #[.int .i64 m.whom, .int .i64 m.ref] 70)).heap[w.heap.size]? = some (Obj.cells #[.int .i64 m.who, .int .i64 m.ref] 70 (0, 0)) := ((hk2.alloc _).block _ (by simp) (fun e => e)).trans HQ.out.2.2.1
  have g2 : (W2.alloc (.cells #[.int .i64 m.whom, .int .i64 m.ref] 70)).heap[B]? = some (Obj.cells #[.int .i64 m.whom, .int .i64 m.ref] 70 (0, 0)) := by rw [← hB]; exact heap_alloc_new W2 _
  have gc : col B = 0 := by rw [← hB]; exact HQ.out.1.fr _ kW.size
  have HX := Lib.hid (And.intro q3 (And.intro H3 (And.intro g1 (And.intro g2 (And.intro gc HQ.out.2.2.2)))))
  obtain ⟨x0, x1⟩ := box_two g1
  obtain ⟨y0, y1⟩ := box_two g2
  clear hk2 kW q3 H3 g1 g2 gc
  go_wp2_with fail
  obtain ⟨W3, hW3⟩ : ∃ W3, W2.alloc (.cells #[.int .i64 m.whom, .int .i64 m.ref] 70) = W3 := ⟨_, rfl⟩
  rw [hW3] at HX x0 x1 y0 y1
  have hs3 : NxStep w col W3 col := NxStep.quiet col HX.out.1
  have HN4 : Hid (Nx W3 b col h S ms ∧ True ∧ NxStep w col W3 col ∧ (W3.heap[w.heap.size]? = some (Obj.cells #[.int .i64 m.who, .int .i64 m.ref] 70 (0, 0)) ∧ col w.heap.size = 0) ∧ (W3.heap[B]? = some (Obj.cells #[.int .i64 m.whom, .int .i64 m.ref] 70 (0, 0)) ∧ col B = 0)) :=
    Lib.hid ⟨HX.out.2.1, trivial, hs3, ⟨HX.out.2.2.1, HX.out.2.2.2.2.2⟩, HX.out.2.2.2.1, HX.out.2.2.2.2.1⟩
  rw [hW3]
  obtain ⟨W4, hW4⟩ : ∃ W4, W3 = W4 := ⟨_, rfl⟩
  obtain ⟨col4, hcol4⟩ : ∃ c, col = c := ⟨_, rfl⟩
  clear hs3 hW3 x0 x1 y0 y1
  subst hW4
  obtain ⟨x0, x1⟩ := box_two HN4.out.2.2.2.1.1
  have D4 := HN4.out.1.same ((Kp.refl (fun _ => False) W3).drew)
  have HA := Lib.hid (show Calls Try.prog 43 #[.pointer (some ⟨b, 2, none⟩), .agg #[.int .i64 m.who, .int .i64 m.ref]] W3.drew (NxTo W3.drew b col h (upd S 1 (S 1 ++ [(m.who, m.ref)])) ms) from nx_add D4 (k := 1) (by omega) hn1 ha hr hl1)
  clear D4
  go_wp2_with fail
  go_still_tail 6, (by kernel_rfl)
  go_wp2_with fail
  refine HA.out.mono ?_
  rintro e W5 ⟨rfl, col5, h5, n5, e5, s5⟩
  have s45 : NxStep W3 col W5 col5 := (NxStep.quiet col ((Kp.refl (fun _ => False) W3).drew)).trans s5
  have HN5 := Lib.hid (And.intro n5 (And.intro e5 (And.intro (HN4.out.2.2.1.trans s45) (box_step HN4.out.2.2.2.2.1 HN4.out.2.2.2.2.2 s45))))
  clear n5 e5 s5 s45 x0 x1
  obtain ⟨y0, y1⟩ := box_two HN5.out.2.2.2.1
  have D5 := HN5.out.1.same ((Kp.refl (fun _ => False) W5).drew)
  have HA5 := Lib.hid (show Calls Try.prog 43 #[.pointer (some ⟨b, 4, none⟩), .agg #[.int .i64 m.whom, .int .i64 m.ref]] W5.drew (NxTo W5.drew b col5 h5 (upd (upd S 1 (S 1 ++ [(m.who, m.ref)])) 2 (S 2 ++ [(m.whom, m.ref)])) ms) from (by
    have h6 := nx_add D5 (k := 2) (a := m.whom) (x := m.ref) (by omega) (by rw [upd_other _ _ (by omega)]; exact hn2) hx hr (by rw [upd_other _ _ (by omega)]; exact hl2)
    rw [upd_other S _ (show (2 : Nat) ≠ 1 by omega)] at h6
    exact h6))
  clear D5
  go_wp2_with fail
  go_still_tail 6, (by kernel_rfl)
  go_wp2_with fail
  refine HA5.out.mono ?_
  rintro e W6 ht
  obtain ⟨rfl, -⟩ := id ht
  have HT := Lib.hid (NxTo.step ((NxStep.quiet col5 ((Kp.refl (fun _ => False) W5).drew))) rfl ht)
  clear ht
  go_wp2_with fail
  refine bodyPost_end (results_none rfl _ _ _) rfl ?_
  exact NxTo.step HN5.out.2.2.1 HN5.out.2.1 HT.out
set_option maxRecDepth 100000 in
set_option maxHeartbeats 4000000 in
theorem cut_link (H : Nx w b col h S ms) (hax : a ≠ x) (hn1 : (a, x) ∈ S 0) (hn2 : (x, a) ∈ S 0) (hl : (S 0).length ≤ 17592186044416) :
    Calls Try.prog 32 #[.pointer (some ⟨b, 0, none⟩), .int .i64 0, pv a x] w (NxTo w b col h (upd S 0 (butPair (butPair (S 0) (a, x)) (x, a))) ms) := by
  have kb : Kp (fun _ => False) w (w.alloc (.cells #[.int .i64 a, .int .i64 x] 70)) := (Kp.refl _ w).alloc _
  have hB := heap_alloc_new w (.cells #[.int .i64 a, .int .i64 x] 70)
  have hBc : col w.heap.size = 0 := H.fr _ (Nat.le_refl _)
  have H1 := H.same kb
  have HO := Lib.hid (show Calls Try.prog 42 #[.pointer (some ⟨b, 0, none⟩), .int .i64 0, .agg #[.int .i64 a, .int .i64 x]] (w.alloc (.cells #[.int .i64 a, .int .i64 x] 70)) (OsTo 0 x a (w.alloc (.cells #[.int .i64 a, .int .i64 x] 70))) from other_link _ b a x)
  have HQ := Lib.hid (And.intro H (And.intro kb (And.intro hB hBc)))
  unfold pv
  clear H kb hB hBc H1
  go_enter Try.func32, Try.ntmps32
  go_wp2_with fail
  refine HO.out.mono ?_
  rintro e W2 ⟨rfl, hk2⟩
  unfold pv
  obtain ⟨B, hB⟩ : ∃ B, W2.heap.size = B := ⟨_, rfl⟩
  have kW := HQ.out.2.1.trans' hk2
  have q3 : Kp (fun _ => False) w (W2.alloc (.cells #[.int .i64 x, .int .i64 a] 70)) := kW.alloc _
  have H3 := HQ.out.1.same q3
  have g1 : (W2.alloc (.cells #[.int .i64 x, .int .i64 a] 70)).heap[w.heap.size]? = some (Obj.cells #[.int .i64 a, .int .i64 x] 70 (0, 0)) := ((hk2.alloc _).block _ (by simp) (fun e => e)).trans HQ.out.2.2.1
  have g2 : (W2.alloc (.cells #[.int .i64 x, .int .i64 a] 70)).heap[B]? = some (Obj.cells #[.int .i64 x, .int .i64 a] 70 (0, 0)) := by rw [← hB]; exact heap_alloc_new W2 _
  have gc : col B = 0 := by rw [← hB]; exact HQ.out.1.fr _ kW.size
  have HX := Lib.hid (And.intro q3 (And.intro H3 (And.intro g1 (And.intro g2 (And.intro gc HQ.out.2.2.2)))))
  obtain ⟨x0, x1⟩ := box_two g1
  obtain ⟨y0, y1⟩ := box_two g2
  clear hk2 kW q3 H3 g1 g2 gc
  go_wp2_with fail
  obtain ⟨W3, hW3⟩ : ∃ W3, W2.alloc (.cells #[.int .i64 x, .int .i64 a] 70) = W3 := ⟨_, rfl⟩
  rw [hW3] at HX x0 x1 y0 y1
  have hs3 : NxStep w col W3 col := NxStep.quiet col HX.out.1
  have HN4 : Hid (Nx W3 b col h S ms ∧ True ∧ NxStep w col W3 col ∧ (W3.heap[w.heap.size]? = some (Obj.cells #[.int .i64 a, .int .i64 x] 70 (0, 0)) ∧ col w.heap.size = 0) ∧ (W3.heap[B]? = some (Obj.cells #[.int .i64 x, .int .i64 a] 70 (0, 0)) ∧ col B = 0)) :=
    Lib.hid ⟨HX.out.2.1, trivial, hs3, ⟨HX.out.2.2.1, HX.out.2.2.2.2.2⟩, HX.out.2.2.2.1, HX.out.2.2.2.2.1⟩
  rw [hW3]
  obtain ⟨W4, hW4⟩ : ∃ W4, W3 = W4 := ⟨_, rfl⟩
  obtain ⟨col4, hcol4⟩ : ∃ c, col = c := ⟨_, rfl⟩
  clear hs3 hW3 x0 x1 y0 y1
  subst hW4
  obtain ⟨x0, x1⟩ := box_two HN4.out.2.2.2.1.1
  have D4 := HN4.out.1.same ((Kp.refl (fun _ => False) W3).drew)
  have HA := Lib.hid (show Calls Try.prog 45 #[.pointer (some ⟨b, 0, none⟩), .agg #[.int .i64 a, .int .i64 x]] W3.drew (NxTo W3.drew b col h (upd S 0 (butPair (S 0) (a, x))) ms) from nx_drop D4 (k := 0) (by omega) hn1 hl)
  clear D4
  go_wp2_with fail
  go_still_tail 6, (by kernel_rfl)
  go_wp2_with fail
  refine HA.out.mono ?_
  rintro e W5 ⟨rfl, col5, h5, n5, e5, s5⟩
  have s45 : NxStep W3 col W5 col5 := (NxStep.quiet col ((Kp.refl (fun _ => False) W3).drew)).trans s5
  have HN5 := Lib.hid (And.intro n5 (And.intro e5 (And.intro (HN4.out.2.2.1.trans s45) (box_step HN4.out.2.2.2.2.1 HN4.out.2.2.2.2.2 s45))))
  clear n5 e5 s5 s45 x0 x1
  obtain ⟨y0, y1⟩ := box_two HN5.out.2.2.2.1
  have D5 := HN5.out.1.same ((Kp.refl (fun _ => False) W5).drew)
  have HA5 := Lib.hid (show Calls Try.prog 45 #[.pointer (some ⟨b, 0, none⟩), .agg #[.int .i64 x, .int .i64 a]] W5.drew (NxTo W5.drew b col5 h5 (upd S 0 (butPair (butPair (S 0) (a, x)) (x, a))) ms) from (by
    have h6 := nx_drop D5 (k := 0) (a := x) (x := a) (by omega) (by rw [upd_same]; exact mem_butPair.2 ⟨hn2, fun e => hax (Prod.mk.inj e).2⟩) (by rw [upd_same]; exact Nat.le_trans (List.length_filter_le _ _) hl)
    rw [upd_same, lk_upd_upd] at h6
    exact h6))
  clear D5
  go_wp2_with fail
  go_still_tail 6, (by kernel_rfl)
  go_wp2_with fail
  refine HA5.out.mono ?_
  rintro e W6 ht
  obtain ⟨rfl, -⟩ := id ht
  have HT := Lib.hid (NxTo.step ((NxStep.quiet col5 ((Kp.refl (fun _ => False) W5).drew))) rfl ht)
  clear ht
  go_wp2_with fail
  refine bodyPost_end (results_none rfl _ _ _) rfl ?_
  exact NxTo.step HN5.out.2.2.1 HN5.out.2.1 HT.out
set_option maxRecDepth 100000 in
set_option maxHeartbeats 4000000 in
theorem cut_who (H : Nx w b col h S ms) {m : Mo} (hr : I64 m.ref) (hm : m ∈ ms) (hmo : moOf ms m.ref = some m) (hn1 : (m.who, m.ref) ∈ S 1) (hn2 : (m.whom, m.ref) ∈ S 2) (hl1 : (S 1).length ≤ 17592186044416) (hl2 : (S 2).length ≤ 17592186044416) :
    Calls Try.prog 32 #[.pointer (some ⟨b, 0, none⟩), .int .i64 1, pv m.who m.ref] w (NxTo w b col h (upd (upd S 1 (butPair (S 1) (m.who, m.ref))) 2 (butPair (S 2) (m.whom, m.ref))) (butRef ms m.ref)) := by
  have kb : Kp (fun _ => False) w (w.alloc (.cells #[.int .i64 m.who, .int .i64 m.ref] 70)) := (Kp.refl _ w).alloc _
  have hB := heap_alloc_new w (.cells #[.int .i64 m.who, .int .i64 m.ref] 70)
  have hBc : col w.heap.size = 0 := H.fr _ (Nat.le_refl _)
  have H1 := H.same kb
  have HO := Lib.hid (show Calls Try.prog 42 #[.pointer (some ⟨b, 0, none⟩), .int .i64 1, .agg #[.int .i64 m.who, .int .i64 m.ref]] (w.alloc (.cells #[.int .i64 m.who, .int .i64 m.ref] 70)) (OsTo 2 m.whom m.ref (w.alloc (.cells #[.int .i64 m.who, .int .i64 m.ref] 70))) from other_who H1.head H1.mon hr hmo m.who)
  have HQ := Lib.hid (And.intro H (And.intro kb (And.intro hB hBc)))
  unfold pv
  clear H kb hB hBc H1
  go_enter Try.func32, Try.ntmps32
  go_wp2_with fail
  refine HO.out.mono ?_
  rintro e W2 ⟨rfl, hk2⟩
  unfold pv
  obtain ⟨B, hB⟩ : ∃ B, W2.heap.size = B := ⟨_, rfl⟩
  have kW := HQ.out.2.1.trans' hk2
  have q3 : Kp (fun _ => False) w (W2.alloc (.cells #[.int .i64 m.whom, .int .i64 m.ref] 70)) := kW.alloc _
  have H3 := HQ.out.1.same q3
  have g1 : (W2.alloc (.cells #[.int .i64 m.whom, .int .i64 m.ref] 70)).heap[w.heap.size]? = some (Obj.cells #[.int .i64 m.who, .int .i64 m.ref] 70 (0, 0)) := ((hk2.alloc _).block _ (by simp) (fun e => e)).trans HQ.out.2.2.1
  have g2 : (W2.alloc (.cells #[.int .i64 m.whom, .int .i64 m.ref] 70)).heap[B]? = some (Obj.cells #[.int .i64 m.whom, .int .i64 m.ref] 70 (0, 0)) := by rw [← hB]; exact heap_alloc_new W2 _
  have gc : col B = 0 := by rw [← hB]; exact HQ.out.1.fr _ kW.size
  have HX := Lib.hid (And.intro q3 (And.intro H3 (And.intro g1 (And.intro g2 (And.intro gc HQ.out.2.2.2)))))
  obtain ⟨x0, x1⟩ := box_two g1
  obtain ⟨y0, y1⟩ := box_two g2
  clear hk2 kW q3 H3 g1 g2 gc
  go_wp2_with fail
  obtain ⟨W3, hW3⟩ : ∃ W3, W2.alloc (.cells #[.int .i64 m.whom, .int .i64 m.ref] 70) = W3 := ⟨_, rfl⟩
  rw [hW3] at HX x0 x1 y0 y1
  have hs3 : NxStep w col W3 col := NxStep.quiet col HX.out.1
  have HG := Lib.hid (nx_forget HX.out.2.1 hm hr)
  have HS3 := Lib.hid hs3
  clear hs3
  rw [hW3]
  clear hW3
  go_wp2_with fail
  refine HG.out.mono ?_
  rintro e W4 ⟨rfl, col4, h4, n4, e4, s4⟩
  have HN4 := Lib.hid (And.intro n4 (And.intro e4 (And.intro (HS3.out.trans s4) (And.intro (box_step HX.out.2.2.1 HX.out.2.2.2.2.2 s4) (box_step HX.out.2.2.2.1 HX.out.2.2.2.2.1 s4)))))
  clear n4 e4 s4 x0 x1 y0 y1
  obtain ⟨x0, x1⟩ := box_two HN4.out.2.2.2.1.1
  have D4 := HN4.out.1.same ((Kp.refl (fun _ => False) W4).drew)
  have HA := Lib.hid (show Calls Try.prog 45 #[.pointer (some ⟨b, 2, none⟩), .agg #[.int .i64 m.who, .int .i64 m.ref]] W4.drew (NxTo W4.drew b col4 h4 (upd S 1 (butPair (S 1) (m.who, m.ref))) (butRef ms m.ref)) from nx_drop D4 (k := 1) (by omega) hn1 hl1)
  clear D4
  go_wp2_with fail
  go_still_tail 6, (by kernel_rfl)
  go_wp2_with fail
  refine HA.out.mono ?_
  rintro e W5 ⟨rfl, col5, h5, n5, e5, s5⟩
  have s45 : NxStep W4 col4 W5 col5 := (NxStep.quiet col4 ((Kp.refl (fun _ => False) W4).drew)).trans s5
  have HN5 := Lib.hid (And.intro n5 (And.intro (e5.trans HN4.out.2.1) (And.intro (HN4.out.2.2.1.trans s45) (box_step HN4.out.2.2.2.2.1 HN4.out.2.2.2.2.2 s45))))
  clear n5 e5 s5 s45 x0 x1
  obtain ⟨y0, y1⟩ := box_two HN5.out.2.2.2.1
  have D5 := HN5.out.1.same ((Kp.refl (fun _ => False) W5).drew)
  have HA5 := Lib.hid (show Calls Try.prog 45 #[.pointer (some ⟨b, 4, none⟩), .agg #[.int .i64 m.whom, .int .i64 m.ref]] W5.drew (NxTo W5.drew b col5 h5 (upd (upd S 1 (butPair (S 1) (m.who, m.ref))) 2 (butPair (S 2) (m.whom, m.ref))) (butRef ms m.ref)) from (by
    have h6 := nx_drop D5 (k := 2) (a := m.whom) (x := m.ref) (by omega) (by rw [upd_other _ _ (by omega)]; exact hn2) (by rw [upd_other _ _ (by omega)]; exact hl2)
    rw [upd_other S _ (show (2 : Nat) ≠ 1 by omega)] at h6
    exact h6))
  clear D5
  go_wp2_with fail
  go_still_tail 6, (by kernel_rfl)
  go_wp2_with fail
  refine HA5.out.mono ?_
  rintro e W6 ht
  obtain ⟨rfl, -⟩ := id ht
  have HT := Lib.hid (NxTo.step ((NxStep.quiet col5 ((Kp.refl (fun _ => False) W5).drew))) rfl ht)
  clear ht
  go_wp2_with fail
  refine bodyPost_end (results_none rfl _ _ _) rfl ?_
  exact NxTo.step HN5.out.2.2.1 HN5.out.2.1 HT.out
set_option maxRecDepth 100000 in
set_option maxHeartbeats 4000000 in
theorem cut_whom (H : Nx w b col h S ms) {m : Mo} (hr : I64 m.ref) (hm : m ∈ ms) (hmo : moOf ms m.ref = some m) (hn1 : (m.who, m.ref) ∈ S 1) (hn2 : (m.whom, m.ref) ∈ S 2) (hl1 : (S 1).length ≤ 17592186044416) (hl2 : (S 2).length ≤ 17592186044416) :
    Calls Try.prog 32 #[.pointer (some ⟨b, 0, none⟩), .int .i64 2, pv m.whom m.ref] w (NxTo w b col h (upd (upd S 2 (butPair (S 2) (m.whom, m.ref))) 1 (butPair (S 1) (m.who, m.ref))) (butRef ms m.ref)) := by
  have kb : Kp (fun _ => False) w (w.alloc (.cells #[.int .i64 m.whom, .int .i64 m.ref] 70)) := (Kp.refl _ w).alloc _
  have hB := heap_alloc_new w (.cells #[.int .i64 m.whom, .int .i64 m.ref] 70)
  have hBc : col w.heap.size = 0 := H.fr _ (Nat.le_refl _)
  have H1 := H.same kb
  have HO := Lib.hid (show Calls Try.prog 42 #[.pointer (some ⟨b, 0, none⟩), .int .i64 2, .agg #[.int .i64 m.whom, .int .i64 m.ref]] (w.alloc (.cells #[.int .i64 m.whom, .int .i64 m.ref] 70)) (OsTo 1 m.who m.ref (w.alloc (.cells #[.int .i64 m.whom, .int .i64 m.ref] 70))) from other_whom H1.head H1.mon hr hmo m.whom)
  have HQ := Lib.hid (And.intro H (And.intro kb (And.intro hB hBc)))
  unfold pv
  clear H kb hB hBc H1
  go_enter Try.func32, Try.ntmps32
  go_wp2_with fail
  refine HO.out.mono ?_
  rintro e W2 ⟨rfl, hk2⟩
  unfold pv
  obtain ⟨B, hB⟩ : ∃ B, W2.heap.size = B := ⟨_, rfl⟩
  have kW := HQ.out.2.1.trans' hk2
  have q3 : Kp (fun _ => False) w (W2.alloc (.cells #[.int .i64 m.who, .int .i64 m.ref] 70)) := kW.alloc _
  have H3 := HQ.out.1.same q3
  have g1 : (W2.alloc (.cells #[.int .i64 m.who, .int .i64 m.ref] 70)).heap[w.heap.size]? = some (Obj.cells #[.int .i64 m.whom, .int .i64 m.ref] 70 (0, 0)) := ((hk2.alloc _).block _ (by simp) (fun e => e)).trans HQ.out.2.2.1
  have g2 : (W2.alloc (.cells #[.int .i64 m.who, .int .i64 m.ref] 70)).heap[B]? = some (Obj.cells #[.int .i64 m.who, .int .i64 m.ref] 70 (0, 0)) := by rw [← hB]; exact heap_alloc_new W2 _
  have gc : col B = 0 := by rw [← hB]; exact HQ.out.1.fr _ kW.size
  have HX := Lib.hid (And.intro q3 (And.intro H3 (And.intro g1 (And.intro g2 (And.intro gc HQ.out.2.2.2)))))
  obtain ⟨x0, x1⟩ := box_two g1
  obtain ⟨y0, y1⟩ := box_two g2
  clear hk2 kW q3 H3 g1 g2 gc
  go_wp2_with fail
  obtain ⟨W3, hW3⟩ : ∃ W3, W2.alloc (.cells #[.int .i64 m.who, .int .i64 m.ref] 70) = W3 := ⟨_, rfl⟩
  rw [hW3] at HX x0 x1 y0 y1
  have hs3 : NxStep w col W3 col := NxStep.quiet col HX.out.1
  have HG := Lib.hid (nx_forget HX.out.2.1 hm hr)
  have HS3 := Lib.hid hs3
  clear hs3
  rw [hW3]
  clear hW3
  go_wp2_with fail
  refine HG.out.mono ?_
  rintro e W4 ⟨rfl, col4, h4, n4, e4, s4⟩
  have HN4 := Lib.hid (And.intro n4 (And.intro e4 (And.intro (HS3.out.trans s4) (And.intro (box_step HX.out.2.2.1 HX.out.2.2.2.2.2 s4) (box_step HX.out.2.2.2.1 HX.out.2.2.2.2.1 s4)))))
  clear n4 e4 s4 x0 x1 y0 y1
  obtain ⟨x0, x1⟩ := box_two HN4.out.2.2.2.1.1
  have D4 := HN4.out.1.same ((Kp.refl (fun _ => False) W4).drew)
  have HA := Lib.hid (show Calls Try.prog 45 #[.pointer (some ⟨b, 4, none⟩), .agg #[.int .i64 m.whom, .int .i64 m.ref]] W4.drew (NxTo W4.drew b col4 h4 (upd S 2 (butPair (S 2) (m.whom, m.ref))) (butRef ms m.ref)) from nx_drop D4 (k := 2) (by omega) hn2 hl2)
  clear D4
  go_wp2_with fail
  go_still_tail 6, (by kernel_rfl)
  go_wp2_with fail
  refine HA.out.mono ?_
  rintro e W5 ⟨rfl, col5, h5, n5, e5, s5⟩
  have s45 : NxStep W4 col4 W5 col5 := (NxStep.quiet col4 ((Kp.refl (fun _ => False) W4).drew)).trans s5
  have HN5 := Lib.hid (And.intro n5 (And.intro (e5.trans HN4.out.2.1) (And.intro (HN4.out.2.2.1.trans s45) (box_step HN4.out.2.2.2.2.1 HN4.out.2.2.2.2.2 s45))))
  clear n5 e5 s5 s45 x0 x1
  obtain ⟨y0, y1⟩ := box_two HN5.out.2.2.2.1
  have D5 := HN5.out.1.same ((Kp.refl (fun _ => False) W5).drew)
  have HA5 := Lib.hid (show Calls Try.prog 45 #[.pointer (some ⟨b, 2, none⟩), .agg #[.int .i64 m.who, .int .i64 m.ref]] W5.drew (NxTo W5.drew b col5 h5 (upd (upd S 2 (butPair (S 2) (m.whom, m.ref))) 1 (butPair (S 1) (m.who, m.ref))) (butRef ms m.ref)) from (by
    have h6 := nx_drop D5 (k := 1) (a := m.who) (x := m.ref) (by omega) (by rw [upd_other _ _ (by omega)]; exact hn1) (by rw [upd_other _ _ (by omega)]; exact hl1)
    rw [upd_other S _ (show (1 : Nat) ≠ 2 by omega)] at h6
    exact h6))
  clear D5
  go_wp2_with fail
  go_still_tail 6, (by kernel_rfl)
  go_wp2_with fail
  refine HA5.out.mono ?_
  rintro e W6 ht
  obtain ⟨rfl, -⟩ := id ht
  have HT := Lib.hid (NxTo.step ((NxStep.quiet col5 ((Kp.refl (fun _ => False) W5).drew))) rfl ht)
  clear ht
  go_wp2_with fail
  refine bodyPost_end (results_none rfl _ _ _) rfl ?_
  exact NxTo.step HN5.out.2.2.1 HN5.out.2.1 HT.out
end
end Go.Proofs.Ytmfhmnlgffgcgaa
