/- The reader's levels: levelOf, whole, lay. -/
import Derived.Test.YtaeoohjgdkablaaDoorM18
/- The reader's levels: levelOf, whole, lay. -/
namespace Go.Proofs.YtaeoohjgdkablaaDoor
open Go.RowKit

/-- a level, as four cells -/
structure LvD where
  ptr : Value
  left : Int
  lst : Bool
  inR : Bool
def LvD.cells (d : LvD) : List Value := [d.ptr, .int .i64 d.left, .bool d.lst, .bool d.inR]
structure LvAt (w : World) (g o : Nat) (d : LvD) : Prop where
  blk : ∃ cs, w.heap[g]? = some (.cells cs 133 (0, 0))
  c0 : w.cell? ⟨g, o, none⟩ = some d.ptr
  c1 : w.cell? ⟨g, o + 1, none⟩ = some (.int .i64 d.left)
  c2 : w.cell? ⟨g, o + 2, none⟩ = some (.bool d.lst)
  c3 : w.cell? ⟨g, o + 3, none⟩ = some (.bool d.inR)

theorem levelOf_any (p : Option Addr) (k m : Int) (w : World) :
    Calls Tryd.prog 60 #[.pointer p, .int .i64 k, .int .i64 m] w fun e w' => e = .returned (.agg #[.pointer p, .int .i64 m, .bool (k == 7), .bool false]) ∧ Kp (fun _ => False) w w' := by
  go_enter Tryd.func60, Tryd.ntmps60
  go_wp2_with fail
  exact bodyPost_ret (v := .agg #[.pointer p, .int .i64 m, .bool (k == 7), .bool false]) (by simp [results, Tryd.results60, go_sem]) rfl ⟨rfl, (Kp.refl _ w).alloc _⟩
theorem LvAt.fz {w : World} {g o : Nat} {d : LvD} (h : LvAt w g o d) (j : Nat) : w.frozen? ⟨g, j, none⟩ = false := by
  obtain ⟨cs, e⟩ := h.blk
  simp [World.frozen?, e]

theorem LvAt.kp {F : Nat → Prop} {w w' : World} {g o : Nat} {d : LvD} (h : LvAt w g o d) (hk : Kp F w w') (hF : ¬ F g) : LvAt w' g o d := by
  obtain ⟨cs, e⟩ := h.blk
  have hlt := (Array.getElem?_eq_some_iff.1 e).1
  exact ⟨⟨cs, (hk.block g hlt hF).trans e⟩, (hk.cell (p := ⟨g, o, none⟩) hlt hF).trans h.c0, (hk.cell (p := ⟨g, o + 1, none⟩) hlt hF).trans h.c1, (hk.cell (p := ⟨g, o + 2, none⟩) hlt hF).trans h.c2, (hk.cell (p := ⟨g, o + 3, none⟩) hlt hF).trans h.c3⟩
theorem addr_ne {b o b' o' : Nat} (h : b ≠ b' ∨ o ≠ o') : (⟨b, o, none⟩ : Addr) ≠ ⟨b', o', none⟩ := by
  intro e
  rw [Addr.mk.injEq] at e
  omega
theorem LvAt.setLeft {w : World} {g o : Nat} {d : LvD} (h : LvAt w g o d) (n : Int) : LvAt (w.setCell ⟨g, o + 1, none⟩ (.int .i64 n)) g o { d with left := n } := by
  obtain ⟨cs, e⟩ := h.blk
  refine ⟨⟨_, heap_set_same e _⟩, ?_, World.cell?_setCell_same _ _ _ h.c1, ?_, ?_⟩
  · rw [World.cell?_setCell_other _ _ _ _ (addr_ne (by omega))]; exact h.c0
  · rw [World.cell?_setCell_other _ _ _ _ (addr_ne (by omega))]; exact h.c2
  · rw [World.cell?_setCell_other _ _ _ _ (addr_ne (by omega))]; exact h.c3
/-- what comes of a write and of new blocks, in either order -/
theorem kp_swap {F : Nat → Prop} {w w1 : World} (hk : Kp F w w1) {a : Addr} (u : Value) : Kp F (w.setCell a u) (w1.setCell a u) := by
  refine ⟨hk.os, hk.tape, hk.output, by have := hk.size; simpa [World.setCell] using this, fun k hk' hFk => ?_⟩
  have hkl : k < w.heap.size := by simpa [World.setCell] using hk'
  have e := hk.block k hkl hFk
  by_cases hka : k = a.block
  · subst hka
    simp only [World.setCell, Array.getElem?_modify, if_true]
    rw [e]
  · rw [Below.heap_setCell _ _ _ _ hka, Below.heap_setCell _ _ _ _ hka]; exact e

set_option maxRecDepth 100000 in
set_option maxHeartbeats 1000000 in
theorem lay_skip {w : World} {g o : Nat} {d : LvD} (h : LvAt w g o d) (hd1 : -1000000000000 ≤ d.left) (hd2 : d.left ≤ 1099511627776) (k n : Int) (s : ByteArray) (a a2 a3 : Option Addr) (l c l2 c2 l3 c3 : Nat) (m : Nat) (hm : d.ptr = .pointer none ∨ ((∃ x, d.ptr = .pointer (some x)) ∧ 65536 < m ∧ d.inR = false)) :
    Calls Tryd.prog 62 #[.pointer (some ⟨g, o, none⟩), .agg #[.int .i64 k, .int .i64 n, .string s, .slice a l c, .slice a2 l2 c2, .slice a3 l3 c3], .int .i64 m] w fun e w' => e = .returned (.pointer none) ∧ Kp (fun _ => False) (w.setCell ⟨g, o + 1, none⟩ (.int .i64 (d.left - 1))) w' := by
  obtain ⟨cs, hcs⟩ := h.blk
  have hgl := (Array.getElem?_eq_some_iff.1 hcs).1
  obtain ⟨w1, hw1⟩ : ∃ w1, w.alloc (.cells #[.int .i64 k, .int .i64 n, .string s, .slice a l c, .slice a2 l2 c2, .slice a3 l3 c3] 25) = w1 := ⟨_, rfl⟩
  have hk1 : Kp (fun _ => False) w w1 := by rw [← hw1]; exact (Kp.refl _ w).alloc _
  have h1 := h.kp hk1 (fun e => e)
  have g1 := h1.c1
  have f1 := h1.fz (o + 1)
  have h2 := h1.setLeft (d.left - 1)
  obtain ⟨w2, hw2⟩ : ∃ w2, w1.setCell ⟨g, o + 1, none⟩ (.int .i64 (d.left - 1)) = w2 := ⟨_, rfl⟩
  have hk2 : Kp (fun _ => False) (w.setCell ⟨g, o + 1, none⟩ (.int .i64 (d.left - 1))) w2 := by rw [← hw2]; exact kp_swap hk1 _
  rw [hw2] at h2
  have e0 := h2.c0
  have e3 := h2.c3
  have H := Lib.hid hk2
  clear hk2 hk1 h1 h2 hcs hgl h
  obtain ⟨dp, dl, dt, dr⟩ := d
  simp only at hd1 hd2 hm g1 e0 e3 hw2 H ⊢
  rcases hm with rfl | ⟨⟨x, rfl⟩, hm, rfl⟩
  · go_enter Tryd.func62, Tryd.ntmps62
    go_wp2_with fail
    all_goals
      go_ret
      exact ⟨rfl, H.out⟩
  · have hmi : (65536 : Int) < m := by omega
    go_enter Tryd.func62, Tryd.ntmps62
    go_wp2_with fail
    all_goals
      go_ret
      exact ⟨rfl, H.out⟩

theorem LvAt.setLst {w : World} {g o : Nat} {d : LvD} (h : LvAt w g o d) (x : Bool) : LvAt (w.setCell ⟨g, o + 2, none⟩ (.bool x)) g o { d with lst := x } := by
  obtain ⟨cs, e⟩ := h.blk
  refine ⟨⟨_, heap_set_same e _⟩, ?_, ?_, World.cell?_setCell_same _ _ _ h.c2, ?_⟩
  · rw [World.cell?_setCell_other _ _ _ _ (addr_ne (by omega))]; exact h.c0
  · rw [World.cell?_setCell_other _ _ _ _ (addr_ne (by omega))]; exact h.c1
  · rw [World.cell?_setCell_other _ _ _ _ (addr_ne (by omega))]; exact h.c3
theorem LvAt.setInR {w : World} {g o : Nat} {d : LvD} (h : LvAt w g o d) (x : Bool) : LvAt (w.setCell ⟨g, o + 3, none⟩ (.bool x)) g o { d with inR := x } := by
  obtain ⟨cs, e⟩ := h.blk
  refine ⟨⟨_, heap_set_same e _⟩, ?_, ?_, ?_, World.cell?_setCell_same _ _ _ h.c3⟩
  · rw [World.cell?_setCell_other _ _ _ _ (addr_ne (by omega))]; exact h.c0
  · rw [World.cell?_setCell_other _ _ _ _ (addr_ne (by omega))]; exact h.c1
  · rw [World.cell?_setCell_other _ _ _ _ (addr_ne (by omega))]; exact h.c2
theorem RAt.other {w : World} {R : Nat} {v : Value} {l : List UInt8} {p : Nat} (h : RAt w R v l p) {g : Nat} (hg : R < g) (i : Nat) (u : Value) : RAt (w.setCell ⟨g, i, none⟩ u) R v l p := by
  have hk : Kp (fun q => q = g) w (w.setCell ⟨g, i, none⟩ u) := (Kp.refl (fun q => q = g) w).setCell _ _ (.inl rfl)
  exact ⟨(hk.block R (Array.getElem?_eq_some_iff.1 h.cells).1 (by omega)).trans h.cells, bytes_kp h.bytes hk (fun q e e2 => by omega), h.le⟩

theorem whole_more {w : World} {R g o : Nat} {d : LvD} (h : LvAt w g o d) (hd : 0 < d.left) :
    Calls Tryd.prog 61 #[.pointer (some ⟨R, 0, none⟩), .pointer (some ⟨g, o, none⟩)] w fun e w' => e = .returned (.bool false) ∧ Kp (fun _ => False) w w' := by
  have c1 := h.c1
  have c2 := h.c2
  obtain ⟨dp, dl, dt, dr⟩ := d
  simp only at hd c1 c2
  have hb : ((dl : Int) == 0) = false := by rw [beq_eq_false_iff_ne]; omega
  clear h
  go_enter Tryd.func61, Tryd.ntmps61
  go_wp2_with fail
  all_goals
    go_ret
    exact ⟨rfl, Kp.refl _ _⟩
theorem whole_done {w : World} {R g o : Nat} {d : LvD} (h : LvAt w g o d) (hd : d.left = 0) (hl : d.lst = false) :
    Calls Tryd.prog 61 #[.pointer (some ⟨R, 0, none⟩), .pointer (some ⟨g, o, none⟩)] w fun e w' => e = .returned (.bool true) ∧ Kp (fun _ => False) w w' := by
  have c1 := h.c1
  have c2 := h.c2
  obtain ⟨dp, dl, dt, dr⟩ := d
  simp only at hd hl c1 c2
  subst hd hl
  clear h
  go_enter Tryd.func61, Tryd.ntmps61
  go_wp2_with fail
  all_goals
    go_ret
    exact ⟨rfl, Kp.refl _ _⟩

/-- the reader gave up, behind a write to block g -/
def RFailX (R g : Nat) (w : World) (e : Ending) (w' : World) : Prop := ∃ v n ls, e = .panicked [{ v := v, recovered := false }] ∧ ChainB w.heap.size w' v (Lk.fault readS n :: ls) ∧ ls ≠ [] ∧ Kp (fun q => q = R ∨ q = g) w w'

set_option maxRecDepth 100000 in
set_option maxHeartbeats 1000000 in
theorem whole_byte {w : World} {R : Nat} {v : Value} {l : List UInt8} {p : Nat} (hr : RAt w R v l p) {g o : Nat} {d : LvD} (h : LvAt w g o d) (hRg : R < g) (hd : d.left = 0) (hl : d.lst = true) :
    Calls Tryd.prog 61 #[.pointer (some ⟨R, 0, none⟩), .pointer (some ⟨g, o, none⟩)] w fun e w' =>
      (l[p]? = some 0 ∧ e = .returned (.bool true) ∧ RAt w' R v l (p + 1) ∧ Kp (fun q => q = R) (w.setCell ⟨g, o + 2, none⟩ (.bool false)) w') ∨
      (l[p]? = some 1 ∧ e = .returned (.bool false) ∧ RAt w' R v l (p + 1) ∧ Kp (fun q => q = R) (((w.setCell ⟨g, o + 2, none⟩ (.bool false)).setCell ⟨g, o + 1, none⟩ (.int .i64 1)).setCell ⟨g, o + 3, none⟩ (.bool true)) w') ∨
      ((l[p]? ≠ some 0 ∧ l[p]? ≠ some 1) ∧ RFailX R g w e w') := by
  have c1 := h.c1
  have c2 := h.c2
  have f2 := h.fz (o + 2)
  have h2 := h.setLst false
  have r2 := hr.other hRg (o + 2) (.bool false)
  have hk2 : Kp (fun q => q = R ∨ q = g) w (w.setCell ⟨g, o + 2, none⟩ (.bool false)) := (Kp.refl (fun q => q = R ∨ q = g) w).setCell _ _ (.inl (.inr rfl))
  obtain ⟨w2, hw2⟩ : ∃ w2, w.setCell ⟨g, o + 2, none⟩ (.bool false) = w2 := ⟨_, rfl⟩
  rw [hw2] at h2 r2 hk2 ⊢
  have e1 : w2.cell? ⟨R, 1, none⟩ = some (.int .i64 p) := by rw [cell_of_row w2 R 1 _ _ _ r2.cells]; rfl
  have H := Lib.hid (And.intro h2 (And.intro r2 hk2))
  clear h2 r2 hk2 h hr
  obtain ⟨dp, dl, dt, dr⟩ := d
  simp only at hd hl c1 c2 H
  subst hd hl
  go_enter Tryd.func61, Tryd.ntmps61
  go_wp2_with fail
  clear hw2 c1 c2 f2 e1
  by_cases hend : p = l.length
  · refine (next_no H.out.2.1 hend).mono ?_
    rintro e w3 ⟨v1, n1, ls, rfl, h1, h2, h3⟩
    have H3 := Lib.hid (And.intro (h1.le H.out.2.2.size) (And.intro h2 (H.out.2.2.trans' (h3.mono fun _ _ e => .inl e))))
    clear h1 h2 h3
    go_wp2_with fail
    refine bodyPost_panic rfl (.inr (.inr ⟨?_, _, _, _, rfl, H3.out⟩))
    rw [List.getElem?_eq_none (by omega)]
    exact ⟨by simp, by simp⟩
  · obtain ⟨c, hcc⟩ : ∃ c, l[p]? = some c := ⟨l[p]'(by have := H.out.2.1.le; omega), List.getElem?_eq_getElem _⟩
    refine (next_ok H.out.2.1 hcc).mono ?_
    rintro e w3 ⟨rfl, hr3, hk3⟩
    by_cases h0 : c = 0
    · subst h0
      have H3 := Lib.hid (And.intro hr3 hk3)
      clear hr3 hk3
      go_wp2_with fail
      go_ret
      exact .inl ⟨hcc, rfl, H3.out⟩
    · by_cases h1 : c = 1
      · subst h1
        have h3 := H.out.1.kp hk3 (by omega)
        have g1 := h3.c1
        have k1 := h3.fz (o + 1)
        have h4 := h3.setLeft 1
        obtain ⟨w4, hw4⟩ : ∃ w4, w3.setCell ⟨g, o + 1, none⟩ (.int .i64 1) = w4 := ⟨_, rfl⟩
        have hk4 : Kp (fun q => q = R) (w2.setCell ⟨g, o + 1, none⟩ (.int .i64 1)) w4 := by rw [← hw4]; exact kp_swap hk3 _
        have r4 : RAt w4 R v l (p + 1) := by rw [← hw4]; exact hr3.other hRg _ _
        rw [hw4] at h4
        have g3 := h4.c3
        have k3 := h4.fz (o + 3)
        have hk5 := kp_swap hk4 (a := ⟨g, o + 3, none⟩) (.bool true)
        have r5 := r4.other hRg (o + 3) (.bool true)
        have H5 := Lib.hid (And.intro r5 hk5)
        clear r5 hk5 r4 hk4 h4 h3 hr3 hk3
        go_wp2_with fail
        go_ret
        exact .inr (.inl ⟨hcc, rfl, H5.out⟩)
      · have e0 : ((c.toNat : Int) == 0) = false := by
          rw [beq_eq_false_iff_ne]
          intro e
          exact h0 (u8_ext (by simp; omega))
        have e1 : ((c.toNat : Int) == 1) = false := by
          rw [beq_eq_false_iff_ne]
          intro e
          exact h1 (u8_ext (by simp; omega))
        have H3 := Lib.hid (And.intro hcc (H.out.2.2.trans' (hk3.mono fun _ _ e => .inl e)))
        clear hr3 hk3 hcc
        go_wp2_with (go_at_call 38; refine (wrong_any _ _).mono ?_; rintro e w' ⟨rfl, rfl⟩)
        refine bodyPost_panic rfl (.inr (.inr ⟨?_, _, p, [Lk.kind 10], rfl, ChainB.cons readS p (ChainB.root _ _ (by decide)) H3.out.2.size (heap_alloc_new w3 _), by simp, H3.out.2.alloc _⟩))
        rw [H3.out.1]
        exact ⟨fun e => h0 (Option.some.inj e), fun e => h1 (Option.some.inj e)⟩
end Go.Proofs.YtaeoohjgdkablaaDoor
