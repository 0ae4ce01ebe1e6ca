/- Levels of terms: behind a part that was laid. The reader's levels as plain data: their cells, their count, what is built of them. -/
import Derived.Test.YtaeoohjgdkablaaDoorM18
import Derived.Test.YtaeoohjgdkablaaDoorM19
/- Levels of terms: behind a part that was laid. -/
namespace Go.Proofs.YtaeoohjgdkablaaDoor
open Go.RowKit

section
variable {W0 : Nat} {F G G' : Nat → Prop} {w w' : World} {h tb : Nat}
theorem own_toList {v : Value} {g : Nat} (e : v.ownBlock = some g) : v.ownBlock.toList = [g] := by rw [e]; rfl
theorem mem_own {v : Value} {g : Nat} : g ∈ v.ownBlock.toList ↔ v.ownBlock = some g := by simp

set_option maxHeartbeats 1000000 in
theorem put_items {T : Bl} {r : List Bl} (hT : LevOk W0 G w h T) (hU : Under W0 G w h tb T r) (hx : Sep W0 G w tb (T :: r)) (hc : T.ch = 0) {gl i : Nat} {lv : Value} (hgl : gl ∉ tb :: rowsOf (T :: r)) (hGgl : ¬ G gl)
    {kk gg cap : Nat} {d : Hd} {vb : Value} {xs : List Value} (hkk : kk = T.its.length) (hel : ∀ (i : Nat) (t : Tm), T.its[i]? = some t → ∃ c0 c1 c2 c3 c4 c5, Six xs i c0 c1 c2 c3 c4 c5 ∧ TermAt G w h t [c0, c1, c2, c3, c4, c5])
    (p1 : w'.ownsRow W0 25 6 (.slice (some ⟨gg, 0, none⟩) (kk + 1) cap) (kk + 1) (xs ++ [.int .i64 d.k, .int .i64 d.n, .string d.s, .slice none 0 0, .slice none 0 0, vb])) (hxl : xs.length = kk * 6) (p2 : T.vi.ownBlock = some gg ∨ w.heap.size ≤ gg) (p3 : gg < w'.heap.size)
    (p4 : Kp (fun q => T.vi.ownBlock = some q) ((w.setCell ⟨gl, i, none⟩ lv).setCell ⟨T.b, T.o + 3, none⟩ (.slice (some ⟨gg, 0, none⟩) (kk + 1) cap)) w') (hsz : (kk + 1) * 104 ≤ 140737488351232) (hd : isI64 d.k ∧ isI64 d.n ∧ d.s.size ≤ maxLen) (hy : BytesAt G w d.bys vb) :
    StkOk W0 G w' h tb (newBl gg (kk * 6) d vb :: { T with vi := .slice (some ⟨gg, 0, none⟩) (kk + 1) cap, ch := 1 } :: r) ∧ Sep W0 G w' tb (newBl gg (kk * 6) d vb :: { T with vi := .slice (some ⟨gg, 0, none⟩) (kk + 1) cap, ch := 1 } :: r) := by
  have hin : ∀ q, q ∈ T.rows → q ∈ tb :: rowsOf (T :: r) := fun q hq => List.mem_cons_of_mem _ (by rw [rowsOf_cons]; exact List.mem_append_left _ hq)
  have hin2 : ∀ q, q ∈ rowsOf r → q ∈ tb :: rowsOf (T :: r) := fun q hq => List.mem_cons_of_mem _ (by rw [rowsOf_cons]; exact List.mem_append_right _ hq)
  have hTb : T.b ∈ tb :: rowsOf (T :: r) := by
    rcases hU.hb with e | e
    · rw [e]; exact List.mem_cons_self
    · exact hin2 _ e
  have hnd := hx.nd
  rw [rowsOf_cons, List.nodup_cons] at hnd
  have hTrow : ∀ q ∈ T.rows, q ≠ T.b := fun q hq e => by
    rcases hU.hb with e2 | e2
    · exact hnd.1 (List.mem_append_left _ (e2 ▸ e ▸ hq))
    · exact (List.nodup_append.1 hnd.2).2.2 q hq T.b e2 e
  -- the level's own cell, in the levels' row
  have k1 : Kp (fun q => q = gl) w (w.setCell ⟨gl, i, none⟩ lv) := (Kp.refl (fun q => q = gl) w).setCell _ _ (.inl rfl)
  obtain ⟨w1, hw1⟩ : ∃ w1, w.setCell ⟨gl, i, none⟩ lv = w1 := ⟨_, rfl⟩
  rw [hw1] at k1 p4
  have hG1 : ∀ q, G q → ¬ q = gl := fun q e e2 => hGgl (e2 ▸ e)
  have T1 := hT.kp k1 (fun e => hgl (e ▸ hTb)) (fun g hg e => hgl (e ▸ hin g hg)) hG1
  have U1 := hU.kp k1 (fun e => hgl (e ▸ List.mem_cons_self)) (fun g hg e => hgl (e ▸ hin2 g hg)) hG1
  have hz1 : w1.heap.size = w.heap.size := by rw [← hw1]; simp [World.setCell]
  -- the slice's own cell
  have U2 := U1.set (hx.tail.size k1.size) 3 (.slice (some ⟨gg, 0, none⟩) (kk + 1) cap)
  have k2 : Kp (fun q => q = T.b) w1 (w1.setCell ⟨T.b, T.o + 3, none⟩ (.slice (some ⟨gg, 0, none⟩) (kk + 1) cap)) := (Kp.refl (fun q => q = T.b) w1).setCell _ _ (.inl rfl)
  obtain ⟨tcs, htcs⟩ := T1.blk
  have b2 := heap_set_same htcs (i := T.o + 3) (.slice (some ⟨gg, 0, none⟩) (kk + 1) cap)
  have g3 : (w1.setCell ⟨T.b, T.o + 3, none⟩ (.slice (some ⟨gg, 0, none⟩) (kk + 1) cap)).cell? ⟨T.b, T.o + 3, none⟩ = some (.slice (some ⟨gg, 0, none⟩) (kk + 1) cap) := World.cell?_setCell_same _ _ _ T1.c3
  have g0 : (w1.setCell ⟨T.b, T.o + 3, none⟩ (.slice (some ⟨gg, 0, none⟩) (kk + 1) cap)).cell? ⟨T.b, T.o, none⟩ = some _ := (World.cell?_setCell_other _ _ _ _ (addr_ne (by omega))).trans T1.c0
  have g1 : (w1.setCell ⟨T.b, T.o + 3, none⟩ (.slice (some ⟨gg, 0, none⟩) (kk + 1) cap)).cell? ⟨T.b, T.o + 1, none⟩ = some _ := (World.cell?_setCell_other _ _ _ _ (addr_ne (by omega))).trans T1.c1
  have g2 : (w1.setCell ⟨T.b, T.o + 3, none⟩ (.slice (some ⟨gg, 0, none⟩) (kk + 1) cap)).cell? ⟨T.b, T.o + 2, none⟩ = some _ := (World.cell?_setCell_other _ _ _ _ (addr_ne (by omega))).trans T1.c2
  have g4 : (w1.setCell ⟨T.b, T.o + 3, none⟩ (.slice (some ⟨gg, 0, none⟩) (kk + 1) cap)).cell? ⟨T.b, T.o + 4, none⟩ = some _ := (World.cell?_setCell_other _ _ _ _ (addr_ne (by omega))).trans T1.c4
  have g5 : (w1.setCell ⟨T.b, T.o + 3, none⟩ (.slice (some ⟨gg, 0, none⟩) (kk + 1) cap)).cell? ⟨T.b, T.o + 5, none⟩ = some _ := (World.cell?_setCell_other _ _ _ _ (addr_ne (by omega))).trans T1.c5
  have hGT : ∀ q, G q → ¬ q = T.b := fun q e e2 => hx.ng _ hTb (e2 ▸ e)
  have rx2 := T1.rr.kp k2 (fun g hg => hTrow g (by simp [Bl.rows, hg])) hGT
  have by2 := bytes_kp T1.by' k2 hGT
  have hz2 := k2.size
  obtain ⟨w2, hw2⟩ : ∃ w2, w1.setCell ⟨T.b, T.o + 3, none⟩ (.slice (some ⟨gg, 0, none⟩) (kk + 1) cap) = w2 := ⟨_, rfl⟩
  rw [hw2] at U2 k2 b2 g0 g1 g2 g3 g4 g5 rx2 by2 p4 hz2
  -- the row
  have hv : ∀ q, T.vi.ownBlock = some q → q ∈ T.rows := fun q e => by simp [Bl.rows, e]
  have hG4 : ∀ q, G q → ¬ T.vi.ownBlock = some q := fun q e e2 => hx.ng _ (hin _ (hv q e2)) e
  have U3 := U2.kp p4 (fun e => hnd.1 (List.mem_append_left _ (hv _ e))) (fun g hg e => (List.nodup_append.1 hnd.2).2.2 g (hv g e) g hg rfl) hG4
  have hTbl : T.b < w2.heap.size := (Array.getElem?_eq_some_iff.1 b2).1
  have hTv : ¬ T.vi.ownBlock = some T.b := fun e => hTrow _ (hv _ e) rfl
  have hc3 : ∀ i u, w2.cell? ⟨T.b, i, none⟩ = some u → w'.cell? ⟨T.b, i, none⟩ = some u := fun i u e => (p4.cell (p := ⟨T.b, i, none⟩) hTbl hTv).trans e
  have hrn : (T.vi.ownBlock.toList ++ T.vr.ownBlock.toList).Nodup := (List.nodup_append.1 hnd.2).1
  have rx3 := rx2.kp p4 (fun g hg e => (List.nodup_append.1 hrn).2.2 g (by simp [e]) g (by simp [hg]) rfl) hG4
  have hcell : ∀ i u, (xs ++ [.int .i64 d.k, .int .i64 d.n, .string d.s, .slice none 0 0, .slice none 0 0, vb])[kk * 6 + i]? = some u → w'.cell? ⟨gg, kk * 6 + i, none⟩ = some u := fun i u e => by
    have hl := (List.getElem?_eq_some_iff.1 e).1
    have e1 := p1.1
    rw [p1.cellAt _ (by omega)]; exact e
  have hgnew : gg ∉ tb :: rowsOf r ∧ gg ∉ T.vr.ownBlock.toList ∧ ¬ G gg := by
    rcases p2 with e | e
    · have hm := hv gg e
      refine ⟨fun e2 => ?_, fun e2 => ?_, hx.ng _ (hin _ hm)⟩
      · rcases List.mem_cons.1 e2 with e2 | e2
        · exact hnd.1 (List.mem_append_left _ (e2 ▸ hm))
        · exact (List.nodup_append.1 hnd.2).2.2 _ hm _ e2 rfl
      · exact (List.nodup_append.1 hrn).2.2 gg (by simp [e]) gg e2 rfl
    · refine ⟨fun e2 => ?_, fun e2 => ?_, fun e2 => ?_⟩
      · have : gg ∈ tb :: rowsOf (T :: r) := by
          rcases List.mem_cons.1 e2 with e2 | e2
          · rw [e2]; exact List.mem_cons_self
          · exact hin2 _ e2
        have := (hx.lo _ this).2; omega
      · have := (hx.lo _ (hin gg (by simp only [Bl.rows, List.mem_append]; exact .inr e2))).2; omega
      · have := (hx.gl _ e2).2; omega
  have tch : ∀ i t, T.its[i]? = some t → ∃ c0 c1 c2 c3 c4 c5, Six (xs ++ [.int .i64 d.k, .int .i64 d.n, .string d.s, .slice none 0 0, .slice none 0 0, vb]) i c0 c1 c2 c3 c4 c5 ∧ TermAt G w' h t [c0, c1, c2, c3, c4, c5] := fun i t hi => by
    obtain ⟨c0, c1, c2, c3, c4, c5, s6, ht⟩ := hel i t hi
    exact ⟨c0, c1, c2, c3, c4, c5, s6.more, ((ht.kp k1 hG1).kp k2 hGT).kp p4 hG4⟩
  have hT' : LevOk W0 G w' h { T with vi := .slice (some ⟨gg, 0, none⟩) (kk + 1) cap, ch := 1 } :=
    ⟨⟨_, (p4.block _ hTbl hTv).trans b2⟩, hc3 _ _ g0, hc3 _ _ g1, hc3 _ _ g2, hc3 _ _ g3, hc3 _ _ g4, hc3 _ _ g5, hT.rng, ⟨by simp, by simpa [hkk] using hsz, _, by simpa [hkk] using p1, tch⟩, by simpa [hc] using rx3, bytes_kp by2 p4 hG4⟩
  have hN : LevOk W0 G w' h (newBl gg (kk * 6) d vb) := newLev (row_blk p1)
    (by have := hcell 0 _ (by rw [List.getElem?_append_right (by omega), hxl, Nat.add_sub_cancel_left]; rfl); simpa using this)
    (hcell 1 _ (by rw [List.getElem?_append_right (by omega), hxl, Nat.add_sub_cancel_left]; rfl)) (hcell 2 _ (by rw [List.getElem?_append_right (by omega), hxl, Nat.add_sub_cancel_left]; rfl)) (hcell 3 _ (by rw [List.getElem?_append_right (by omega), hxl, Nat.add_sub_cancel_left]; rfl))
    (hcell 4 _ (by rw [List.getElem?_append_right (by omega), hxl, Nat.add_sub_cancel_left]; rfl)) (hcell 5 _ (by rw [List.getElem?_append_right (by omega), hxl, Nat.add_sub_cancel_left]; rfl)) hd (bytes_kp (bytes_kp (bytes_kp hy k1 hG1) k2 hGT) p4 hG4)
  have hz4 := p4.size
  have hrows : rowsOf (newBl gg (kk * 6) d vb :: { T with vi := .slice (some ⟨gg, 0, none⟩) (kk + 1) cap, ch := 1 } :: r) = ([gg] ++ T.vr.ownBlock.toList) ++ rowsOf r := by
    rw [rowsOf_cons, rowsOf_cons]
    simp [newBl, Bl.rows, Value.ownBlock]
  refine ⟨⟨hN, .inl ⟨rfl, rfl, by simp [newBl, hkk]⟩, stk_iff.2 ⟨hT', ?_⟩⟩, ?_, ?_, ?_, ?_⟩
  · cases r with
    | nil => exact U3
    | cons P r => exact U3
  · rw [hrows, List.nodup_cons]
    refine ⟨fun e => ?_, List.nodup_append.2 ⟨?_, (List.nodup_append.1 hnd.2).2.1, fun a ha b hb e => ?_⟩⟩
    · rcases List.mem_append.1 e with e | e
      · rcases List.mem_append.1 e with e | e
        · exact hgnew.1 (by rw [← List.mem_singleton.1 e]; exact List.mem_cons_self)
        · exact hnd.1 (List.mem_append_left _ (by simp only [Bl.rows, List.mem_append]; exact .inr e))
      · exact hnd.1 (List.mem_append_right _ e)
    · exact List.nodup_append.2 ⟨by simp, (List.nodup_append.1 hrn).2.1, fun a ha b hb e => hgnew.2.1 (by rw [← List.mem_singleton.1 ha, e]; exact hb)⟩
    · subst e
      rcases List.mem_append.1 ha with ha | ha
      · obtain rfl := List.mem_singleton.1 ha; exact hgnew.1 (List.mem_cons_of_mem _ hb)
      · exact (List.nodup_append.1 hnd.2).2.2 a (by simp only [Bl.rows, List.mem_append]; exact .inr ha) a hb rfl
  · rw [hrows]
    intro q hq
    rcases List.mem_cons.1 hq with rfl | hq
    · have := hx.lo q List.mem_cons_self; exact ⟨this.1, by omega⟩
    · rcases List.mem_append.1 hq with hq | hq
      · rcases List.mem_append.1 hq with hq | hq
        · obtain rfl := List.mem_singleton.1 hq; exact ⟨(p1.lt q rfl).1, p3⟩
        · have := hx.lo q (hin q (by simp only [Bl.rows, List.mem_append]; exact .inr hq)); exact ⟨this.1, by omega⟩
      · have := hx.lo q (hin2 q hq); exact ⟨this.1, by omega⟩
  · rw [hrows]
    intro q hq hg
    rcases List.mem_cons.1 hq with rfl | hq
    · exact hx.ng q List.mem_cons_self hg
    · rcases List.mem_append.1 hq with hq | hq
      · rcases List.mem_append.1 hq with hq | hq
        · obtain rfl := List.mem_singleton.1 hq; exact hgnew.2.2 hg
        · exact hx.ng q (hin q (by simp only [Bl.rows, List.mem_append]; exact .inr hq)) hg
      · exact hx.ng q (hin2 q hq) hg
  · intro q hg
    have := hx.gl q hg
    exact ⟨this.1, by omega⟩

set_option maxHeartbeats 1000000 in
theorem put_rest {T : Bl} {r : List Bl} (hT : LevOk W0 G w h T) (hU : Under W0 G w h tb T r) (hx : Sep W0 G w tb (T :: r)) (hc : T.ch = 0) {gl i : Nat} {lv : Value} (hgl : gl ∉ tb :: rowsOf (T :: r)) (hGgl : ¬ G gl)
    {kk gg cap : Nat} {d : Hd} {vb : Value} {xs : List Value} (hkk : kk = T.res.length) (hel : ∀ (i : Nat) (t : Tm), T.res[i]? = some t → ∃ c0 c1 c2 c3 c4 c5, Six xs i c0 c1 c2 c3 c4 c5 ∧ TermAt G w h t [c0, c1, c2, c3, c4, c5])
    (p1 : w'.ownsRow W0 25 6 (.slice (some ⟨gg, 0, none⟩) (kk + 1) cap) (kk + 1) (xs ++ [.int .i64 d.k, .int .i64 d.n, .string d.s, .slice none 0 0, .slice none 0 0, vb])) (hxl : xs.length = kk * 6) (p2 : T.vr.ownBlock = some gg ∨ w.heap.size ≤ gg) (p3 : gg < w'.heap.size)
    (p4 : Kp (fun q => T.vr.ownBlock = some q) ((w.setCell ⟨gl, i, none⟩ lv).setCell ⟨T.b, T.o + 4, none⟩ (.slice (some ⟨gg, 0, none⟩) (kk + 1) cap)) w') (hsz : (kk + 1) * 104 ≤ 140737488351232) (hd : isI64 d.k ∧ isI64 d.n ∧ d.s.size ≤ maxLen) (hy : BytesAt G w d.bys vb) :
    StkOk W0 G w' h tb (newBl gg (kk * 6) d vb :: { T with vr := .slice (some ⟨gg, 0, none⟩) (kk + 1) cap, ch := 2 } :: r) ∧ Sep W0 G w' tb (newBl gg (kk * 6) d vb :: { T with vr := .slice (some ⟨gg, 0, none⟩) (kk + 1) cap, ch := 2 } :: r) := by
  have hin : ∀ q, q ∈ T.rows → q ∈ tb :: rowsOf (T :: r) := fun q hq => List.mem_cons_of_mem _ (by rw [rowsOf_cons]; exact List.mem_append_left _ hq)
  have hin2 : ∀ q, q ∈ rowsOf r → q ∈ tb :: rowsOf (T :: r) := fun q hq => List.mem_cons_of_mem _ (by rw [rowsOf_cons]; exact List.mem_append_right _ hq)
  have hTb : T.b ∈ tb :: rowsOf (T :: r) := by
    rcases hU.hb with e | e
    · rw [e]; exact List.mem_cons_self
    · exact hin2 _ e
  have hnd := hx.nd
  rw [rowsOf_cons, List.nodup_cons] at hnd
  have hTrow : ∀ q ∈ T.rows, q ≠ T.b := fun q hq e => by
    rcases hU.hb with e2 | e2
    · exact hnd.1 (List.mem_append_left _ (e2 ▸ e ▸ hq))
    · exact (List.nodup_append.1 hnd.2).2.2 q hq T.b e2 e
  -- the level's own cell, in the levels' row
  have k1 : Kp (fun q => q = gl) w (w.setCell ⟨gl, i, none⟩ lv) := (Kp.refl (fun q => q = gl) w).setCell _ _ (.inl rfl)
  obtain ⟨w1, hw1⟩ : ∃ w1, w.setCell ⟨gl, i, none⟩ lv = w1 := ⟨_, rfl⟩
  rw [hw1] at k1 p4
  have hG1 : ∀ q, G q → ¬ q = gl := fun q e e2 => hGgl (e2 ▸ e)
  have T1 := hT.kp k1 (fun e => hgl (e ▸ hTb)) (fun g hg e => hgl (e ▸ hin g hg)) hG1
  have U1 := hU.kp k1 (fun e => hgl (e ▸ List.mem_cons_self)) (fun g hg e => hgl (e ▸ hin2 g hg)) hG1
  have hz1 : w1.heap.size = w.heap.size := by rw [← hw1]; simp [World.setCell]
  -- the slice's own cell
  have U2 := U1.set (hx.tail.size k1.size) 4 (.slice (some ⟨gg, 0, none⟩) (kk + 1) cap)
  have k2 : Kp (fun q => q = T.b) w1 (w1.setCell ⟨T.b, T.o + 4, none⟩ (.slice (some ⟨gg, 0, none⟩) (kk + 1) cap)) := (Kp.refl (fun q => q = T.b) w1).setCell _ _ (.inl rfl)
  obtain ⟨tcs, htcs⟩ := T1.blk
  have b2 := heap_set_same htcs (i := T.o + 4) (.slice (some ⟨gg, 0, none⟩) (kk + 1) cap)
  have g4 : (w1.setCell ⟨T.b, T.o + 4, none⟩ (.slice (some ⟨gg, 0, none⟩) (kk + 1) cap)).cell? ⟨T.b, T.o + 4, none⟩ = some (.slice (some ⟨gg, 0, none⟩) (kk + 1) cap) := World.cell?_setCell_same _ _ _ T1.c4
  have g0 : (w1.setCell ⟨T.b, T.o + 4, none⟩ (.slice (some ⟨gg, 0, none⟩) (kk + 1) cap)).cell? ⟨T.b, T.o, none⟩ = some _ := (World.cell?_setCell_other _ _ _ _ (addr_ne (by omega))).trans T1.c0
  have g1 : (w1.setCell ⟨T.b, T.o + 4, none⟩ (.slice (some ⟨gg, 0, none⟩) (kk + 1) cap)).cell? ⟨T.b, T.o + 1, none⟩ = some _ := (World.cell?_setCell_other _ _ _ _ (addr_ne (by omega))).trans T1.c1
  have g2 : (w1.setCell ⟨T.b, T.o + 4, none⟩ (.slice (some ⟨gg, 0, none⟩) (kk + 1) cap)).cell? ⟨T.b, T.o + 2, none⟩ = some _ := (World.cell?_setCell_other _ _ _ _ (addr_ne (by omega))).trans T1.c2
  have g3 : (w1.setCell ⟨T.b, T.o + 4, none⟩ (.slice (some ⟨gg, 0, none⟩) (kk + 1) cap)).cell? ⟨T.b, T.o + 3, none⟩ = some _ := (World.cell?_setCell_other _ _ _ _ (addr_ne (by omega))).trans T1.c3
  have g5 : (w1.setCell ⟨T.b, T.o + 4, none⟩ (.slice (some ⟨gg, 0, none⟩) (kk + 1) cap)).cell? ⟨T.b, T.o + 5, none⟩ = some _ := (World.cell?_setCell_other _ _ _ _ (addr_ne (by omega))).trans T1.c5
  have hGT : ∀ q, G q → ¬ q = T.b := fun q e e2 => hx.ng _ hTb (e2 ▸ e)
  have rx2 := T1.ri.kp k2 (fun g hg => hTrow g (by simp [Bl.rows, hg])) hGT
  have by2 := bytes_kp T1.by' k2 hGT
  have hz2 := k2.size
  obtain ⟨w2, hw2⟩ : ∃ w2, w1.setCell ⟨T.b, T.o + 4, none⟩ (.slice (some ⟨gg, 0, none⟩) (kk + 1) cap) = w2 := ⟨_, rfl⟩
  rw [hw2] at U2 k2 b2 g0 g1 g2 g3 g4 g5 rx2 by2 p4 hz2
  -- the row
  have hv : ∀ q, T.vr.ownBlock = some q → q ∈ T.rows := fun q e => by simp [Bl.rows, e]
  have hG4 : ∀ q, G q → ¬ T.vr.ownBlock = some q := fun q e e2 => hx.ng _ (hin _ (hv q e2)) e
  have U3 := U2.kp p4 (fun e => hnd.1 (List.mem_append_left _ (hv _ e))) (fun g hg e => (List.nodup_append.1 hnd.2).2.2 g (hv g e) g hg rfl) hG4
  have hTbl : T.b < w2.heap.size := (Array.getElem?_eq_some_iff.1 b2).1
  have hTv : ¬ T.vr.ownBlock = some T.b := fun e => hTrow _ (hv _ e) rfl
  have hc3 : ∀ i u, w2.cell? ⟨T.b, i, none⟩ = some u → w'.cell? ⟨T.b, i, none⟩ = some u := fun i u e => (p4.cell (p := ⟨T.b, i, none⟩) hTbl hTv).trans e
  have hrn : (T.vi.ownBlock.toList ++ T.vr.ownBlock.toList).Nodup := (List.nodup_append.1 hnd.2).1
  have rx3 := rx2.kp p4 (fun g hg e => (List.nodup_append.1 hrn).2.2 g (by simp [hg]) g (by simp [e]) rfl) hG4
  have hcell : ∀ i u, (xs ++ [.int .i64 d.k, .int .i64 d.n, .string d.s, .slice none 0 0, .slice none 0 0, vb])[kk * 6 + i]? = some u → w'.cell? ⟨gg, kk * 6 + i, none⟩ = some u := fun i u e => by
    have hl := (List.getElem?_eq_some_iff.1 e).1
    have e1 := p1.1
    rw [p1.cellAt _ (by omega)]; exact e
  have hgnew : gg ∉ tb :: rowsOf r ∧ gg ∉ T.vi.ownBlock.toList ∧ ¬ G gg := by
    rcases p2 with e | e
    · have hm := hv gg e
      refine ⟨fun e2 => ?_, fun e2 => ?_, hx.ng _ (hin _ hm)⟩
      · rcases List.mem_cons.1 e2 with e2 | e2
        · exact hnd.1 (List.mem_append_left _ (e2 ▸ hm))
        · exact (List.nodup_append.1 hnd.2).2.2 _ hm _ e2 rfl
      · exact (List.nodup_append.1 hrn).2.2 gg e2 gg (by simp [e]) rfl
    · refine ⟨fun e2 => ?_, fun e2 => ?_, fun e2 => ?_⟩
      · have : gg ∈ tb :: rowsOf (T :: r) := by
          rcases List.mem_cons.1 e2 with e2 | e2
          · rw [e2]; exact List.mem_cons_self
          · exact hin2 _ e2
        have := (hx.lo _ this).2; omega
      · have := (hx.lo _ (hin gg (by simp only [Bl.rows, List.mem_append]; exact .inl e2))).2; omega
      · have := (hx.gl _ e2).2; omega
  have tch : ∀ i t, T.res[i]? = some t → ∃ c0 c1 c2 c3 c4 c5, Six (xs ++ [.int .i64 d.k, .int .i64 d.n, .string d.s, .slice none 0 0, .slice none 0 0, vb]) i c0 c1 c2 c3 c4 c5 ∧ TermAt G w' h t [c0, c1, c2, c3, c4, c5] := fun i t hi => by
    obtain ⟨c0, c1, c2, c3, c4, c5, s6, ht⟩ := hel i t hi
    exact ⟨c0, c1, c2, c3, c4, c5, s6.more, ((ht.kp k1 hG1).kp k2 hGT).kp p4 hG4⟩
  have hT' : LevOk W0 G w' h { T with vr := .slice (some ⟨gg, 0, none⟩) (kk + 1) cap, ch := 2 } :=
    ⟨⟨_, (p4.block _ hTbl hTv).trans b2⟩, hc3 _ _ g0, hc3 _ _ g1, hc3 _ _ g2, hc3 _ _ g3, hc3 _ _ g4, hc3 _ _ g5, hT.rng, by simpa [hc] using rx3, ⟨by simp, by simpa [hkk] using hsz, _, by simpa [hkk] using p1, tch⟩, bytes_kp by2 p4 hG4⟩
  have hN : LevOk W0 G w' h (newBl gg (kk * 6) d vb) := newLev (row_blk p1)
    (by have := hcell 0 _ (by rw [List.getElem?_append_right (by omega), hxl, Nat.add_sub_cancel_left]; rfl); simpa using this)
    (hcell 1 _ (by rw [List.getElem?_append_right (by omega), hxl, Nat.add_sub_cancel_left]; rfl)) (hcell 2 _ (by rw [List.getElem?_append_right (by omega), hxl, Nat.add_sub_cancel_left]; rfl)) (hcell 3 _ (by rw [List.getElem?_append_right (by omega), hxl, Nat.add_sub_cancel_left]; rfl))
    (hcell 4 _ (by rw [List.getElem?_append_right (by omega), hxl, Nat.add_sub_cancel_left]; rfl)) (hcell 5 _ (by rw [List.getElem?_append_right (by omega), hxl, Nat.add_sub_cancel_left]; rfl)) hd (bytes_kp (bytes_kp (bytes_kp hy k1 hG1) k2 hGT) p4 hG4)
  have hz4 := p4.size
  have hrows : rowsOf (newBl gg (kk * 6) d vb :: { T with vr := .slice (some ⟨gg, 0, none⟩) (kk + 1) cap, ch := 2 } :: r) = (T.vi.ownBlock.toList ++ [gg]) ++ rowsOf r := by
    rw [rowsOf_cons, rowsOf_cons]
    simp [newBl, Bl.rows, Value.ownBlock]
  refine ⟨⟨hN, .inr ⟨rfl, rfl, by simp [newBl, hkk]⟩, stk_iff.2 ⟨hT', ?_⟩⟩, ?_, ?_, ?_, ?_⟩
  · cases r with
    | nil => exact U3
    | cons P r => exact U3
  · rw [hrows, List.nodup_cons]
    refine ⟨fun e => ?_, List.nodup_append.2 ⟨?_, (List.nodup_append.1 hnd.2).2.1, fun a ha b hb e => ?_⟩⟩
    · rcases List.mem_append.1 e with e | e
      · rcases List.mem_append.1 e with e | e
        · exact hnd.1 (List.mem_append_left _ (by simp only [Bl.rows, List.mem_append]; exact .inl e))
        · exact hgnew.1 (by rw [← List.mem_singleton.1 e]; exact List.mem_cons_self)
      · exact hnd.1 (List.mem_append_right _ e)
    · exact List.nodup_append.2 ⟨(List.nodup_append.1 hrn).1, by simp, fun a ha b hb e => hgnew.2.1 (by rw [← List.mem_singleton.1 hb, ← e]; exact ha)⟩
    · subst e
      rcases List.mem_append.1 ha with ha | ha
      · exact (List.nodup_append.1 hnd.2).2.2 a (by simp only [Bl.rows, List.mem_append]; exact .inl ha) a hb rfl
      · obtain rfl := List.mem_singleton.1 ha; exact hgnew.1 (List.mem_cons_of_mem _ hb)
  · rw [hrows]
    intro q hq
    rcases List.mem_cons.1 hq with rfl | hq
    · have := hx.lo q List.mem_cons_self; exact ⟨this.1, by omega⟩
    · rcases List.mem_append.1 hq with hq | hq
      · rcases List.mem_append.1 hq with hq | hq
        · have := hx.lo q (hin q (by simp only [Bl.rows, List.mem_append]; exact .inl hq)); exact ⟨this.1, by omega⟩
        · obtain rfl := List.mem_singleton.1 hq; exact ⟨(p1.lt q rfl).1, p3⟩
      · have := hx.lo q (hin2 q hq); exact ⟨this.1, by omega⟩
  · rw [hrows]
    intro q hq hg
    rcases List.mem_cons.1 hq with rfl | hq
    · exact hx.ng q List.mem_cons_self hg
    · rcases List.mem_append.1 hq with hq | hq
      · rcases List.mem_append.1 hq with hq | hq
        · exact hx.ng q (hin q (by simp only [Bl.rows, List.mem_append]; exact .inl hq)) hg
        · obtain rfl := List.mem_singleton.1 hq; exact hgnew.2.2 hg
      · exact hx.ng q (hin2 q hq) hg
  · intro q hg
    have := hx.gl q hg
    exact ⟨this.1, by omega⟩
end
end Go.Proofs.YtaeoohjgdkablaaDoor

/- The reader's levels as plain data: their cells, their count, what is built of them. -/
namespace Go.Proofs.YtaeoohjgdkablaaDoor
open Go.RowKit

mutual
/-- how many parts a term has -/
def cnt : Tm → Nat
  | .mk _ _ _ it re _ => 1 + cnts it + cnts re
def cnts : List Tm → Nat
  | [] => 0
  | t :: ts => cnt t + cnts ts
end
theorem cnts_snoc (l : List Tm) (t : Tm) : cnts (l ++ [t]) = cnts l + cnt t := by
  induction l with
  | nil => simp [cnts]
  | cons a l ih => simp [cnts, ih]; omega
mutual
theorem cnt_le : ∀ t : Tm, cnt t ≤ tsize t
  | .mk _ _ _ it re bys => by
    have h1 := cnts_le it
    have h2 := cnts_le re
    rw [cnt, tsize]; omega
theorem cnts_le : ∀ l : List Tm, cnts l ≤ tsizes l
  | [] => by simp [cnts, tsizes]
  | t :: l => by
    have h1 := cnt_le t
    have h2 := cnts_le l
    rw [cnts, tsizes]; omega
end
def Fr.nodes (f : Fr) : Nat := 1 + cnts f.its + cnts f.res
def nodesF (fs : List Fr) : Nat := (fs.map Fr.nodes).sum
def Bl.nodes (L : Bl) : Nat := 1 + cnts L.its + cnts L.res
def nodesB (Ls : List Bl) : Nat := (Ls.map Bl.nodes).sum
theorem Fr.tm_cnt (f : Fr) : cnt f.tm = f.nodes := by rw [Fr.tm, cnt, Fr.nodes]
theorem Bl.tm_cnt (L : Bl) : cnt L.tm = L.nodes := by rw [Bl.tm, cnt, Bl.nodes]
theorem Fr.push_nodes (f : Fr) (t : Tm) : (f.push t).nodes = f.nodes + cnt t := by
  unfold Fr.push Fr.nodes
  cases f.inR <;> simp [cnts_snoc] <;> omega
theorem Bl.took_nodes (P : Bl) (t : Tm) : (P.took t).nodes = P.nodes + cnt t := by
  unfold Bl.took Bl.nodes
  split <;> simp [cnts_snoc] <;> omega
theorem nodesF_pop (f g : Fr) (r : List Fr) : nodesF (g.push f.tm :: r) = nodesF (f :: g :: r) := by
  simp only [nodesF, List.map_cons, List.sum_cons, Fr.push_nodes, Fr.tm_cnt]; omega
theorem nodesB_pop (C P : Bl) (r : List Bl) : nodesB (P.took C.tm :: r) = nodesB (C :: P :: r) := by
  simp only [nodesB, List.map_cons, List.sum_cons, Bl.took_nodes, Bl.tm_cnt]; omega

/-- the level is what the frame says -/
def Match (top : Bool) (f : Fr) (L : Bl) : Prop :=
  L.k = f.hd.k ∧ L.n = f.hd.n ∧ L.s = f.hd.s ∧ L.bys = f.hd.bys ∧ L.its = f.its ∧ L.res = f.res ∧ L.ch = if top then 0 else if f.inR then 2 else 1
def MatchAll : Bool → List Fr → List Bl → Prop
  | _, [], [] => True
  | top, f :: fs, L :: Ls => Match top f L ∧ MatchAll false fs Ls
  | _, _, _ => False
theorem MatchAll.len : ∀ {top : Bool} {fs : List Fr} {Ls : List Bl}, MatchAll top fs Ls → fs.length = Ls.length
  | _, [], [], _ => rfl
  | _, _ :: _, _ :: _, h => by simp [MatchAll.len h.2]
  | _, [], _ :: _, h => h.elim
  | _, _ :: _, [], h => h.elim
theorem MatchAll.nodes : ∀ {top : Bool} {fs : List Fr} {Ls : List Bl}, MatchAll top fs Ls → nodesB Ls = nodesF fs
  | _, [], [], _ => rfl
  | _, f :: fs, L :: Ls, h => by
    have ih := MatchAll.nodes h.2
    obtain ⟨⟨_, _, _, _, e1, e2, _⟩, _⟩ := h
    simp only [nodesB, nodesF, List.map_cons, List.sum_cons] at ih ⊢
    rw [ih, Bl.nodes, Fr.nodes, e1, e2]
  | _, [], _ :: _, h => h.elim
  | _, _ :: _, [], h => h.elim
theorem Match.tm {top : Bool} {f : Fr} {L : Bl} (h : Match top f L) : L.tm = f.tm := by
  obtain ⟨e1, e2, e3, e4, e5, e6, _⟩ := h
  rw [Bl.tm, Fr.tm, e1, e2, e3, e4, e5, e6]
theorem MatchAll.pop {f g : Fr} {C P : Bl} {fs : List Fr} {Ls : List Bl} (h : MatchAll true (f :: g :: fs) (C :: P :: Ls)) : MatchAll true (g.push f.tm :: fs) (P.took C.tm :: Ls) := by
  obtain ⟨h1, ⟨e1, e2, e3, e4, e5, e6, e7⟩, h3⟩ := h
  refine ⟨?_, h3⟩
  rw [h1.tm]
  unfold Match Fr.push Bl.took
  cases hR : g.inR
  · simp only [hR] at e7
    simp at e7
    rw [if_pos e7]
    exact ⟨e1, e2, e3, e4, by simp [e5], by simp [e6], rfl⟩
  · simp only [hR] at e7
    simp at e7
    rw [if_neg (by omega)]
    exact ⟨e1, e2, e3, e4, by simp [e5], by simp [e6], rfl⟩

/-- a level's pointer -/
def Bl.ptr (L : Bl) : Value := .pointer (some ⟨L.b, L.o, none⟩)
/-- the pointers, the innermost first: those that are not built have none -/
def ptrs (n : Nat) (Ls : List Bl) : List Value := List.replicate (n - Ls.length) (.pointer none) ++ Ls.map Bl.ptr
/-- the levels' cells, the outermost first -/
def lvRow : Bool → List Fr → List Value → List Value
  | _, [], _ => []
  | top, f :: fs, ps => lvRow false fs ps.tail ++ LvD.cells ⟨ps.headD (.pointer none), if top then f.left else (f.left : Int) - 1, f.lst, f.inR⟩
theorem lvRow_len : ∀ (top : Bool) (fs : List Fr) (ps : List Value), (lvRow top fs ps).length = fs.length * 4
  | _, [], _ => rfl
  | top, f :: fs, ps => by
    rw [lvRow, List.length_append, lvRow_len]
    simp [LvD.cells]; omega
/-- a level is whole: the one under it is the innermost -/
theorem lvRow_pop (g : Fr) (fs : List Fr) (ps : List Value) (t : Tm) (h : 0 < g.left) : lvRow false (g :: fs) ps = lvRow true (g.push t :: fs) ps := by
  have e : ((g.left : Int) - 1) = ((g.left - 1 : Nat) : Int) := by omega
  rw [lvRow, lvRow]
  unfold Fr.push
  cases g.inR <;> simp [e]
theorem ptrs_down (n : Nat) (Ls : List Bl) (h : Ls.length ≤ n) : ptrs (n + 1) Ls = .pointer none :: ptrs n Ls := by
  unfold ptrs
  rw [show n + 1 - Ls.length = (n - Ls.length) + 1 by omega, List.replicate_succ, List.cons_append]
theorem ptrs_new (n : Nat) (C : Bl) (Ls : List Bl) (h : Ls.length = n) : ptrs (n + 1) (C :: Ls) = C.ptr :: ptrs n Ls := by
  unfold ptrs
  simp [h]
theorem ptrs_tail (n : Nat) (Ls : List Bl) (h : Ls.length ≤ n) : (ptrs (n + 1) Ls).tail = ptrs n Ls := by rw [ptrs_down n Ls h]; rfl
theorem ptrs_full (n : Nat) (C : Bl) (Ls : List Bl) (h : Ls.length = n) : (ptrs (n + 1) (C :: Ls)).tail = ptrs n Ls ∧ (ptrs (n + 1) (C :: Ls)).headD (.pointer none) = C.ptr := by
  rw [ptrs_new n C Ls h]; exact ⟨rfl, rfl⟩
/-- levels that stand at the same places -/
theorem ptrs_same (n : Nat) {C C' : Bl} (Ls : List Bl) (h1 : C'.b = C.b) (h2 : C'.o = C.o) : ptrs n (C' :: Ls) = ptrs n (C :: Ls) := by
  unfold ptrs
  simp [Bl.ptr, h1, h2]
end Go.Proofs.YtaeoohjgdkablaaDoor
