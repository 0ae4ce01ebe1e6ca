/- lay: a part is put behind the others, in the items or in Rest. -/
import Derived.Test.YtaeoohjgdkablaaDoorM19
/- lay: a part is put behind the others, in the items or in Rest. -/
namespace Go.Proofs.YtaeoohjgdkablaaDoor
open Go.RowKit

def zeroT : List Value := [.int .i64 0, .int .i64 0, .string ⟨#[]⟩, .slice none 0 0, .slice none 0 0, .slice none 0 0]
def sixAt (w : World) (g i : Nat) (c0 c1 c2 c3 c4 c5 : Value) : World :=
  (((((w.setCell ⟨g, i, none⟩ c0).setCell ⟨g, i + 1, none⟩ c1).setCell ⟨g, i + 2, none⟩ c2).setCell ⟨g, i + 3, none⟩ c3).setCell ⟨g, i + 4, none⟩ c4).setCell ⟨g, i + 5, none⟩ c5
theorem sixAt_kp (w : World) (g i : Nat) (c0 c1 c2 c3 c4 c5 : Value) : Kp (fun q => q = g) w (sixAt w g i c0 c1 c2 c3 c4 c5) :=
  ((((((Kp.refl (fun q => q = g) w).setCell _ _ (.inl rfl)).setCell _ _ (.inl rfl)).setCell _ _ (.inl rfl)).setCell _ _ (.inl rfl)).setCell _ _ (.inl rfl)).setCell _ _ (.inl rfl)
theorem set_six (xs : List Value) (k : Nat) (hx : xs.length = k * 6) (z0 z1 z2 z3 z4 z5 c0 c1 c2 c3 c4 c5 : Value) :
    ((((((xs ++ [z0, z1, z2, z3, z4, z5]).set (k * 6) c0).set (k * 6 + 1) c1).set (k * 6 + 2) c2).set (k * 6 + 3) c3).set (k * 6 + 4) c4).set (k * 6 + 5) c5 = xs ++ [c0, c1, c2, c3, c4, c5] := by
  rw [← hx]
  simp
theorem sixAt_row {W0 g k m : Nat} {w : World} {v : Value} {xs : List Value} (ho : w.ownsRow W0 25 6 v m (xs ++ zeroT)) (hv : v.ownBlock = some g) (hx : xs.length = k * 6) (c0 c1 c2 c3 c4 c5 : Value) :
    (sixAt w g (k * 6) c0 c1 c2 c3 c4 c5).ownsRow W0 25 6 v m (xs ++ [c0, c1, c2, c3, c4, c5]) := by
  have h := row_set (row_set (row_set (row_set (row_set (row_set ho hv (k * 6) c0) hv (k * 6 + 1) c1) hv (k * 6 + 2) c2) hv (k * 6 + 3) c3) hv (k * 6 + 4) c4) hv (k * 6 + 5) c5
  rw [zeroT, set_six xs k hx] at h
  exact h
/-- what an append of one term, without fields yet, leaves -/
theorem put_row {W0 k : Nat} {w : World} {v : Value} {xs : List Value} (ho : w.ownsRow W0 25 6 v k xs) (hW : W0 ≤ w.heap.size) (hk : (k + 1) * 104 ≤ 140737488351232) :
    ∃ g cap w', (Builtin.append_ #[22, 22] 22 #[v, .slice (some ⟨w.heap.size, 0, none⟩) 1 1]).run Tryd.prog (w.alloc (.cells #[.int .i64 0, .int .i64 0, .string ⟨#[]⟩, .slice none 0 0, .slice none 0 0, .slice none 0 0] 25)).drew = .ok (.slice (some ⟨g, 0, none⟩) (k + 1) cap) w' ∧
      w'.ownsRow W0 25 6 (.slice (some ⟨g, 0, none⟩) (k + 1) cap) (k + 1) (xs ++ zeroT) ∧ Kp (fun q => v.ownBlock = some q) w w' ∧ (v.ownBlock = some g ∨ g = w.heap.size + 1) ∧ g < w'.heap.size := by
  obtain ⟨i0, hi, hz0, hz1, hz2⟩ := info_parts Tryd.infoTerm
  have hrow : (w.alloc (.cells #[.int .i64 0, .int .i64 0, .string ⟨#[]⟩, .slice none 0 0, .slice none 0 0, .slice none 0 0] 25)).drew.ownsRow W0 25 6 v k xs := (((Kp.refl (fun _ => False) w).alloc _).drew).row ho (fun _ _ e => e)
  obtain ⟨g, cap, w', h1, h2, h3, h4, h5⟩ := run_append_lies (P := Tryd.prog) _ 22 22 W0 25 i0 (.agg #[.int .i64 0, .int .i64 0, .string ByteArray.empty, .slice none 0 0, .slice none 0 0, .slice none 0 0]) 6 104 Tryd.underlying22 hi hz0 hz1 hz2 rfl (by omega) v k xs hrow ⟨w.heap.size, 0, none⟩ 1 1 zeroT rfl
    (World.news_of_block (w := (w.alloc (.cells #[.int .i64 0, .int .i64 0, .string ⟨#[]⟩, .slice none 0 0, .slice none 0 0, .slice none 0 0] 25)).drew) (cs := #[.int .i64 0, .int .i64 0, .string ⟨#[]⟩, .slice none 0 0, .slice none 0 0, .slice none 0 0]) (heap_alloc_new w _)) form_one (by omega) (by unfold maxLen; omega) (by omega) (by show W0 ≤ (w.alloc _).heap.size; simp; omega) (w.heap.size + 1) (by show (w.alloc _).heap.size = _; simp)
  exact ⟨g, cap, w', h1, h2, (((Kp.refl _ w).alloc _).drew).grown h3 (fun q hq => .inl hq), h4, h5⟩

set_option maxRecDepth 100000 in
set_option maxHeartbeats 2000000 in
/-- a part is laid into the items -/
theorem lay_items {w : World} {W0 g o : Nat} {d : LvD} (h : LvAt w g o d) (hd1 : -1000000000000 ≤ d.left) (hd2 : d.left ≤ 1099511627776) {b bo : Nat} (hp : d.ptr = .pointer (some ⟨b, bo, none⟩)) (hR : d.inR = false)
    (k n : Int) (s : ByteArray) (a a2 a3 : Option Addr) (l c l2 c2 l3 c3 : Nat) (m : Nat) (hm : m ≤ 1099511627776) (hm2 : ¬ 65536 < m) {po : Option Addr} {kk vc : Nat} {xs : List Value}
    (hb : ∃ cs, w.heap[b]? = some (.cells cs 25 (0, 0))) (hc : w.cell? ⟨b, bo + 3, none⟩ = some (.slice po kk vc)) (hv : w.ownsRow W0 25 6 (.slice po kk vc) kk xs) (hne : (Value.slice po kk vc).ownBlock ≠ some b) (hW : W0 ≤ w.heap.size) (hk : (kk + 1) * 104 ≤ 140737488351232) :
    Calls Tryd.prog 62 #[.pointer (some ⟨g, o, none⟩), .agg #[.int .i64 k, .int .i64 n, .string s, .slice a l c, .slice a2 l2 c2, .slice a3 l3 c3], .int .i64 m] w fun e w' => ∃ gg cap, e = .returned (.pointer (some ⟨gg, kk * 6, none⟩)) ∧
      w'.ownsRow W0 25 6 (.slice (some ⟨gg, 0, none⟩) (kk + 1) cap) (kk + 1) (xs ++ [.int .i64 k, .int .i64 n, .string s, .slice a l c, .slice a2 l2 c2, .slice a3 l3 c3]) ∧ ((Value.slice po kk vc).ownBlock = some gg ∨ w.heap.size ≤ gg) ∧ gg < w'.heap.size ∧
      Kp (fun q => (Value.slice po kk vc).ownBlock = some q) ((w.setCell ⟨g, o + 1, none⟩ (.int .i64 (d.left - 1))).setCell ⟨b, bo + 3, none⟩ (.slice (some ⟨gg, 0, none⟩) (kk + 1) cap)) w' := by
  obtain ⟨cs, hcs⟩ := h.blk
  have hgl := (Array.getElem?_eq_some_iff.1 hcs).1
  obtain ⟨bcs, hbcs⟩ := hb
  have hbl := (Array.getElem?_eq_some_iff.1 hbcs).1
  have hgb : g ≠ b := by
    intro e
    rw [e, hbcs] at hcs
    injection hcs with hcs
    injection hcs with _ hcs _
    exact absurd hcs (by decide)
  obtain ⟨w1, hw1⟩ : ∃ w1, w.alloc (.cells #[.int .i64 k, .int .i64 n, .string s, .slice a l c, .slice a2 l2 c2, .slice a3 l3 c3] 25) = w1 := ⟨_, rfl⟩
  have hk1 : Kp (fun _ => False) w w1 := by rw [← hw1]; exact (Kp.refl _ w).alloc _
  have hbx : w1.heap[w.heap.size]? = some (.cells #[.int .i64 k, .int .i64 n, .string s, .slice a l c, .slice a2 l2 c2, .slice a3 l3 c3] 25 (0, 0)) := by rw [← hw1]; exact heap_alloc_new w _
  have hz1 : w1.heap.size = w.heap.size + 1 := by rw [← hw1]; simp
  have h1 := h.kp hk1 (fun e => e)
  have g1 := h1.c1
  have f1 := h1.fz (o + 1)
  have h2 := h1.setLeft (d.left - 1)
  have hkL : Kp (fun q => q = g) w1 (w1.setCell ⟨g, o + 1, none⟩ (.int .i64 (d.left - 1))) := (Kp.refl (fun q => q = g) w1).setCell _ _ (.inl rfl)
  obtain ⟨w2, hw2⟩ : ∃ w2, w1.setCell ⟨g, o + 1, none⟩ (.int .i64 (d.left - 1)) = w2 := ⟨_, rfl⟩
  have hk2 : Kp (fun _ => False) (w.setCell ⟨g, o + 1, none⟩ (.int .i64 (d.left - 1))) w2 := by rw [← hw2]; exact kp_swap hk1 _
  rw [hw2] at h2 hkL
  have hz2 : w2.heap.size = w.heap.size + 1 := by rw [← hw2]; simp [World.setCell, hz1]
  have hv1 : ∀ q, (Value.slice po kk vc).ownBlock = some q → W0 ≤ q ∧ q < w.heap.size := fun q e => hv.lt q e
  have hvg : (Value.slice po kk vc).ownBlock ≠ some g := by
    intro e
    rcases hv.2 with ⟨e2, _⟩ | ⟨g', cap', cur', e2, _, e3, _⟩
    · rw [e2] at e; cases e
    · rw [e2] at e
      injection e with e
      subst e
      rw [hcs] at e3
      injection e3 with e3
      injection e3 with _ e3
      exact absurd e3 (by decide)
  have hv2 : w2.ownsRow W0 25 6 (.slice po kk vc) kk xs := hkL.row (hk1.row hv (fun _ _ e => e)) (fun q e e2 => hvg (e2 ▸ e))
  have hb2 : w2.heap[b]? = some (.cells bcs 25 (0, 0)) := (hkL.block b (by omega) (fun e => hgb e.symm)).trans ((hk1.block b hbl (fun e => e)).trans hbcs)
  have hc2 : w2.cell? ⟨b, bo + 3, none⟩ = some (.slice po kk vc) := (hkL.cell (p := ⟨b, bo + 3, none⟩) (show b < w1.heap.size by omega) (fun e => hgb e.symm)).trans ((hk1.cell (p := ⟨b, bo + 3, none⟩) hbl (fun e => e)).trans hc)
  have hbx2 : w2.heap[w.heap.size]? = some (.cells #[.int .i64 k, .int .i64 n, .string s, .slice a l c, .slice a2 l2 c2, .slice a3 l3 c3] 25 (0, 0)) := (hkL.block _ (Array.getElem?_eq_some_iff.1 hbx).1 (by omega)).trans hbx
  obtain ⟨gg, cap, w3, hr, ho3, hk3, hat, hlt3⟩ := put_row hv2 (by omega) hk
  have hgg : (Value.slice po kk vc).ownBlock = some gg ∨ w.heap.size < gg := hat.imp id (fun e => by omega)
  have hbx3 := (hk3.block _ (Array.getElem?_eq_some_iff.1 hbx2).1 (fun e => by have := (hv1 _ e).2; omega)).trans hbx2
  have hb3 := (hk3.block b (by omega) (fun e => hne e)).trans hb2
  have hggb : gg ≠ b := by
    rcases hgg with e | e
    · exact fun e2 => hne (e2 ▸ e)
    · omega
  have hx := hv2.1
  have ho4 := sixAt_row ho3 (g := gg) rfl hx (.int .i64 k) (.int .i64 n) (.string s) (.slice a l c) (.slice a2 l2 c2) (.slice a3 l3 c3)
  have hk4 := sixAt_kp w3 gg (kk * 6) (.int .i64 k) (.int .i64 n) (.string s) (.slice a l c) (.slice a2 l2 c2) (.slice a3 l3 c3)
  obtain ⟨w4, hw4⟩ : ∃ w4, sixAt w3 gg (kk * 6) (.int .i64 k) (.int .i64 n) (.string s) (.slice a l c) (.slice a2 l2 c2) (.slice a3 l3 c3) = w4 := ⟨_, rfl⟩
  rw [hw4] at ho4 hk4
  have hb4 := (hk4.block b (by have := hk3.size; omega) (fun e => hggb e.symm)).trans hb3
  have hcell3 : ∀ i u, (xs ++ zeroT)[kk * 6 + i]? = some u → w3.cell? ⟨gg, kk * 6 + i, none⟩ = some u := fun i u e => by
    have hl := (List.getElem?_eq_some_iff.1 e).1
    have e1 := ho3.1
    rw [ho3.cellAt _ (by omega)]; exact e
  have z0 := hcell3 0 (.int .i64 0) (by rw [List.getElem?_append_right (by omega)]; simp [hx, zeroT])
  have z1 := hcell3 1 (.int .i64 0) (by rw [List.getElem?_append_right (by omega)]; simp [hx, zeroT])
  have z2 := hcell3 2 (.string ⟨#[]⟩) (by rw [List.getElem?_append_right (by omega)]; simp [hx, zeroT])
  have z3 := hcell3 3 (.slice none 0 0) (by rw [List.getElem?_append_right (by omega)]; simp [hx, zeroT])
  have z4 := hcell3 4 (.slice none 0 0) (by rw [List.getElem?_append_right (by omega)]; simp [hx, zeroT])
  have z5 := hcell3 5 (.slice none 0 0) (by rw [List.getElem?_append_right (by omega)]; simp [hx, zeroT])
  rw [Nat.add_zero] at z0
  have fz3 : ∀ j, w3.frozen? ⟨gg, j, none⟩ = false := by
    intro j
    rcases ho3.2 with ⟨e, _⟩ | ⟨g', cap', cur', e, _, e3, _⟩
    · cases e
    · injection e with e
      have e := Option.some.inj e
      rw [Addr.mk.injEq] at e
      obtain ⟨rfl, _⟩ := e
      simp [World.frozen?, e3]
  have x0 : w2.cell? ⟨w.heap.size, 0, none⟩ = some (.int .i64 k) := by rw [cell_of_row w2 _ 0 _ _ _ hbx2]; rfl
  have x1 : w2.cell? ⟨w.heap.size, 1, none⟩ = some (.int .i64 n) := by rw [cell_of_row w2 _ 1 _ _ _ hbx2]; rfl
  have x2 : w2.cell? ⟨w.heap.size, 2, none⟩ = some (.string s) := by rw [cell_of_row w2 _ 2 _ _ _ hbx2]; rfl
  have x3 : w2.cell? ⟨w.heap.size, 3, none⟩ = some (.slice a l c) := by rw [cell_of_row w2 _ 3 _ _ _ hbx2]; rfl
  have x4 : w2.cell? ⟨w.heap.size, 4, none⟩ = some (.slice a2 l2 c2) := by rw [cell_of_row w2 _ 4 _ _ _ hbx2]; rfl
  have x5 : w2.cell? ⟨w.heap.size, 5, none⟩ = some (.slice a3 l3 c3) := by rw [cell_of_row w2 _ 5 _ _ _ hbx2]; rfl
  have past : ∀ q j u, q < w2.heap.size → w2.cell? ⟨q, j, none⟩ = some u → (w2.alloc (.cells #[.int .i64 0, .int .i64 0, .string ⟨#[]⟩, .slice none 0 0, .slice none 0 0, .slice none 0 0] 25)).cell? ⟨q, j, none⟩ = some u := fun q j u hq e => by rw [World.cell?_alloc_past _ _ _ hq]; exact e
  have t0 := past _ _ _ (by omega) x0
  have t1 := past _ _ _ (by omega) x1
  have t2 := past _ _ _ (by omega) x2
  have t3 := past _ _ _ (by omega) x3
  have t4 := past _ _ _ (by omega) x4
  have t5 := past _ _ _ (by omega) x5
  have tc := past _ _ _ (by omega) hc2
  have y0 : w3.cell? ⟨w.heap.size, 0, none⟩ = some (.int .i64 k) := by rw [cell_of_row w3 _ 0 _ _ _ hbx3]; rfl
  have y1 : w3.cell? ⟨w.heap.size, 1, none⟩ = some (.int .i64 n) := by rw [cell_of_row w3 _ 1 _ _ _ hbx3]; rfl
  have y2 : w3.cell? ⟨w.heap.size, 2, none⟩ = some (.string s) := by rw [cell_of_row w3 _ 2 _ _ _ hbx3]; rfl
  have y3 : w3.cell? ⟨w.heap.size, 3, none⟩ = some (.slice a l c) := by rw [cell_of_row w3 _ 3 _ _ _ hbx3]; rfl
  have y4 : w3.cell? ⟨w.heap.size, 4, none⟩ = some (.slice a2 l2 c2) := by rw [cell_of_row w3 _ 4 _ _ _ hbx3]; rfl
  have y5 : w3.cell? ⟨w.heap.size, 5, none⟩ = some (.slice a3 l3 c3) := by rw [cell_of_row w3 _ 5 _ _ _ hbx3]; rfl
  have hc4 : w4.cell? ⟨b, bo + 3, none⟩ = some (.slice po kk vc) := (hk4.cell (p := ⟨b, bo + 3, none⟩) (show b < w3.heap.size by have := hk3.size; omega) (fun e => hggb e.symm)).trans ((hk3.cell (p := ⟨b, bo + 3, none⟩) (show b < w2.heap.size by omega) (fun e => hne e)).trans hc2)
  have fb4 : w4.frozen? ⟨b, bo + 3, none⟩ = false := by simp [World.frozen?, hb4]
  obtain ⟨w5, hw5⟩ : ∃ w5, w4.setCell ⟨b, bo + 3, none⟩ (.slice (some ⟨gg, 0, none⟩) (kk + 1) cap) = w5 := ⟨_, rfl⟩
  have hc5 : w5.cell? ⟨b, bo + 3, none⟩ = some (.slice (some ⟨gg, 0, none⟩) (kk + 1) cap) := by rw [← hw5]; exact World.cell?_setCell_same _ _ _ hc4
  have hkb : Kp (fun q => q = b) w4 w5 := by rw [← hw5]; exact (Kp.refl (fun q => q = b) w4).setCell _ _ (.inl rfl)
  have ho5 := hkb.row ho4 (fun q e e2 => by
    have e := Option.some.inj e
    exact hggb (e.trans e2))
  have hkA : Kp (fun q => (Value.slice po kk vc).ownBlock = some q) (w.setCell ⟨g, o + 1, none⟩ (.int .i64 (d.left - 1))) w4 := kp_new ((hk2.mono fun _ _ e => e.elim).trans' hk3) (hk4.mono fun q _ e => by
    rcases hgg with e2 | e2
    · exact .inl (e ▸ e2)
    · exact .inr (by simp [World.setCell]; omega))
  have hkB := kp_swap hkA (a := ⟨b, bo + 3, none⟩) (.slice (some ⟨gg, 0, none⟩) (kk + 1) cap)
  rw [hw5] at hkB
  have hc3 : w3.cell? ⟨b, bo + 3, none⟩ = some (.slice po kk vc) := (hk3.cell (p := ⟨b, bo + 3, none⟩) (show b < w2.heap.size by omega) (fun e => hne e)).trans hc2
  have fb3 : w3.frozen? ⟨b, bo + 3, none⟩ = false := by simp [World.frozen?, hb3]
  obtain ⟨v3, hv3⟩ : ∃ v3, w3.setCell ⟨b, bo + 3, none⟩ (.slice (some ⟨gg, 0, none⟩) (kk + 1) cap) = v3 := ⟨_, rfl⟩
  have hkb3 : Kp (fun q => q = b) w3 v3 := by rw [← hv3]; exact (Kp.refl (fun q => q = b) w3).setCell _ _ (.inl rfl)
  have hov3 := hkb3.row ho3 (fun q e e2 => by
    have e := Option.some.inj e
    exact hggb (e.trans e2))
  have hov5 := sixAt_row hov3 (g := gg) rfl hx (.int .i64 k) (.int .i64 n) (.string s) (.slice a l c) (.slice a2 l2 c2) (.slice a3 l3 c3)
  have hkv5 := sixAt_kp v3 gg (kk * 6) (.int .i64 k) (.int .i64 n) (.string s) (.slice a l c) (.slice a2 l2 c2) (.slice a3 l3 c3)
  obtain ⟨v5, hv5⟩ : ∃ v5, sixAt v3 gg (kk * 6) (.int .i64 k) (.int .i64 n) (.string s) (.slice a l c) (.slice a2 l2 c2) (.slice a3 l3 c3) = v5 := ⟨_, rfl⟩
  rw [hv5] at hov5 hkv5
  have hcv5 : v5.cell? ⟨b, bo + 3, none⟩ = some (.slice (some ⟨gg, 0, none⟩) (kk + 1) cap) := (hkv5.cell (p := ⟨b, bo + 3, none⟩) (show b < v3.heap.size by have := hkb3.size; have := hk3.size; omega) (fun e => hggb e.symm)).trans (by rw [← hv3]; exact World.cell?_setCell_same _ _ _ hc3)
  have hkC := kp_swap ((hk2.mono fun _ _ e => e.elim).trans' hk3 : Kp (fun q => (Value.slice po kk vc).ownBlock = some q) (w.setCell ⟨g, o + 1, none⟩ (.int .i64 (d.left - 1))) w3) (a := ⟨b, bo + 3, none⟩) (.slice (some ⟨gg, 0, none⟩) (kk + 1) cap)
  rw [hv3] at hkC
  have hkD : Kp (fun q => (Value.slice po kk vc).ownBlock = some q) ((w.setCell ⟨g, o + 1, none⟩ (.int .i64 (d.left - 1))).setCell ⟨b, bo + 3, none⟩ (.slice (some ⟨gg, 0, none⟩) (kk + 1) cap)) v5 := kp_new hkC (hkv5.mono fun q _ e => by
    rcases hgg with e2 | e2
    · exact .inl (e ▸ e2)
    · exact .inr (by simp [World.setCell]; omega))
  have hfv3 : ∀ i u, w3.cell? ⟨gg, i, none⟩ = some u → v3.cell? ⟨gg, i, none⟩ = some u := fun i u e => (hkb3.cell (p := ⟨gg, i, none⟩) hlt3 hggb).trans e
  have u0 := hfv3 _ _ z0
  have u1 := hfv3 _ _ z1
  have u2 := hfv3 _ _ z2
  have u3 := hfv3 _ _ z3
  have u4 := hfv3 _ _ z4
  have u5 := hfv3 _ _ z5
  have fzv : ∀ j, v3.frozen? ⟨gg, j, none⟩ = false := fun j => (hkb3.frozen (p := ⟨gg, j, none⟩) hlt3 hggb).trans (fz3 j)
  have HV := Lib.hid (And.intro hov5 (And.intro (hgg.imp id (fun e => Nat.le_of_lt e)) (And.intro (show gg < v5.heap.size by have := hkb3.size; have := hkv5.size; omega) hkD)))
  have hzb := hkb.size
  have hz4 := hk4.size
  have HF := Lib.hid (And.intro ho5 (And.intro (hgg.imp id (fun e => Nat.le_of_lt e)) (And.intro (show gg < w5.heap.size by omega) hkB)))
  have e0 := h2.c0
  have e3 := h2.c3
  have HR := Lib.hid hr
  have hkw : IntKind.i64.wrap (kk : Int) = kk := by rw [IntKind.wrap_i64]; omega
  have hkw2 : IntKind.i64.wrap ((kk : Int) + 1 - 1) = kk := by rw [IntKind.wrap_i64]; omega
  have hkb0 : kk ≤ 9000000000000 := by omega
  have hkl : (kk : Int) < (kk : Int) + 1 := by omega
  have hz2' : w2.heap.size = w.heap.size + 1 := hz2
  clear hkb3 hov3 hov5 hkv5 hkC hkD hfv3
  clear past
  clear hr hcell3 hk4 hk3 ho3 ho4 ho5 hkb hkA hkB hk2 hkL hk1 hb4 hb3 hb2 hbx hbx2 hbx3 hv hv1 hv2 hvg h1 h2 h hcs hbcs hgl hbl hat hlt3 hgg hx hzb hz4 hz2 hz1 hk hne hgb hW hc
  obtain ⟨dp, dl, dt, dr⟩ := d
  simp only at hd1 hd2 hp hR g1 e0 e3 hw2
  subst hp hR
  unfold sixAt at hw4 hv5
  go_enter Tryd.func62, Tryd.ntmps62
  go_wp2_with fail
  go_region_law (refine step_run (by rfl) (.tmp 51) (.tmp 54) 22 (by rfl) (.slice po kk vc) (.slice (some ⟨w2.heap.size, 0, none⟩) 1 1) (by first | (simp [Act.eval]; done) | simp [Act.eval, Act.put]) (by first | (simp [Act.eval, hz2']; done) | simp [Act.eval, Act.put, hz2']) _ _ HR.out ?_)
  all_goals
    go_wp2_with fail
    go_quiet (fail)
    go_wp2_with fail
    go_ret
    first
      | exact ⟨_, _, rfl, HF.out.1, HF.out.2.1, HF.out.2.2.1, HF.out.2.2.2.drewN _⟩
      | exact ⟨_, _, rfl, ((Kp.refl (fun _ => False) w5).drewN _).row HF.out.1 (fun _ _ e => e), HF.out.2.1, HF.out.2.2.1, HF.out.2.2.2.drewN _⟩
      | exact ⟨_, _, rfl, ((Kp.refl (fun _ => False) v5).drewN _).row HV.out.1 (fun _ _ e => e), HV.out.2.1, HV.out.2.2.1, HV.out.2.2.2.drewN _⟩
end Go.Proofs.YtaeoohjgdkablaaDoor
