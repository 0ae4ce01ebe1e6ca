/- The reader: a term's head. -/
import Derived.Test.YtaeoohjgdkablaaDoorM15
import Derived.Test.YtaeoohjgdkablaaDoorM16
/- The reader: a term's head. -/
namespace Go.Proofs.YtaeoohjgdkablaaDoor
open Go.RowKit

theorem kp_new {F : Nat → Prop} {w w1 w2 : World} (h : Kp F w w1) (k : Kp (fun q => F q ∨ w.heap.size ≤ q) w1 w2) : Kp F w w2 :=
  ⟨k.os.trans h.os, k.tape.trans h.tape, k.output.trans h.output, Nat.le_trans h.size k.size, fun i hi hF =>
    (k.block i (Nat.lt_of_lt_of_le hi h.size) (fun e => e.elim hF (fun e => by omega))).trans (h.block i hi hF)⟩

/-- the end of begin -/
def BegPost (w : World) (R : Nat) (v : Value) (l : List UInt8) (p : Nat) (e : Ending) (w' : World) : Prop :=
  (∃ d po n c, e = .returned (.tuple #[.agg #[.int .i64 d.k, .int .i64 d.n, .string d.s, .slice none 0 0, .slice none 0 0, .slice po n c], .int .i64 (d.m : Nat)]) ∧ d.wf ∧ p + (encH d).length + d.m ≤ l.length ∧
    BytesAt (Own w.heap.size w') w' d.bys (.slice po n c) ∧ RAt w' R v l (p + (encH d).length) ∧ l.drop p = encH d ++ l.drop (p + (encH d).length) ∧ Kp (fun q => q = R) w w') ∨
  (RFail R w e w' ∧ ∀ d z, d.wf → d.m ≤ z.length → l.drop p ≠ encH d ++ z)

theorem drop_cons {l : List UInt8} {p : Nat} {c : UInt8} (h : l[p]? = some c) : l.drop p = c :: l.drop (p + 1) := by
  obtain ⟨hl, rfl⟩ := List.getElem?_eq_some_iff.1 h
  exact List.drop_eq_getElem_cons hl
/-- what stands behind the kind -/
def pay (d : Hd) : List UInt8 := (encH d).tail
theorem encH_pay (d : Hd) : encH d = UInt8.ofNat d.k.toNat :: pay d := rfl
theorem head_first {l : List UInt8} {p : Nat} {c : UInt8} {d : Hd} {z : List UInt8} (h : l[p]? = some c) (hd : d.wf) (e : l.drop p = encH d ++ z) : d.k = c.toNat ∧ l.drop (p + 1) = pay d ++ z := by
  rw [drop_cons h, encH_pay, List.cons_append, List.cons.injEq] at e
  have hk := hd.kind
  refine ⟨?_, e.2⟩
  have := congrArg UInt8.toNat e.1
  rw [u8_of (by omega)] at this
  omega
/-- a head that was read -/
theorem head_made {l : List UInt8} {p : Nat} {c : UInt8} {d : Hd} (h : l[p]? = some c) (hk : d.k = c.toNat) {q : Nat} (hq : q = p + 1 + (pay d).length) (e : l.drop (p + 1) = pay d ++ l.drop q) :
    l.drop p = encH d ++ l.drop (p + (encH d).length) ∧ p + (encH d).length = q := by
  have h2 : (encH d).length = 1 + (pay d).length := by rw [encH_pay, List.length_cons]; omega
  have h3 : p + (encH d).length = q := by omega
  refine ⟨?_, h3⟩
  rw [h3, drop_cons h, encH_pay, e, hk]
  simp

/-- the head's own block is written -/
theorem begin_store {w w4 w5 : World} {R : Nat} {v : Value} {l : List UInt8} {q : Nat} (hR : R < w.heap.size) (hk : Kp (fun q => q = w.heap.size) w4 w5) (hr : RAt w4 R v l q) (h : Kp (fun q => q = R) w w4) : RAt w5 R v l q ∧ Kp (fun q => q = R) w w5 :=
  ⟨⟨(hk.block R (Array.getElem?_eq_some_iff.1 hr.cells).1 (by omega)).trans hr.cells, bytes_kp hr.bytes hk (fun q e e2 => by omega), hr.le⟩, kp_new h (hk.mono fun q _ e => .inr (by omega))⟩
theorem begin_keep {w w4 w5 : World} {R : Nat} {v : Value} {l : List UInt8} {q : Nat} (hR : R < w.heap.size) (hk : Kp (fun q => q = w.heap.size) w4 w5) (hr : RAt w4 R v l q) (h : Kp (fun q => q = R) w w4) : RAt w5 R v l q ∧ Kp (fun q => q = R) w w5 :=
  begin_store hR hk hr h
theorem cf_some (args : Array Value) (w : World) : (callFunc 39 args).run Tryd.prog w = .ok (.enter 39 args) w := by kernel_rfl
theorem own_kp {w5 w6 : World} {B T : Nat} {s : List UInt8} {x : Value} (h : BytesAt (Own B w5) w5 s x) (hT : T < B) (hk : Kp (fun q => q = T) w5 w6) : BytesAt (Own B w6) w6 s x :=
  (bytes_kp h hk (fun q e e2 => by have := e.1; omega)).imp (fun q e => ⟨e.1, Nat.lt_of_lt_of_le e.2 hk.size⟩) (fun _ _ _ _ e => e)
theorem some_ok3 {w w3 : World} {R : Nat} {v : Value} {l : List UInt8} {p q : Nat} {s : List UInt8} (h : RAt w3 R v l p) (hs : s.length ≤ 1099511627776) (hx : l.drop p = encB s ++ l.drop q) (hq : q = p + (encB s).length) (hk : Kp (fun _ => False) w3 w) :
    Calls Tryd.prog 39 #[.pointer (some ⟨R, 0, none⟩)] w fun e w' => ∃ po n c, e = .returned (.slice po n c) ∧ BytesAt (fun q => q < R) w' s (.slice po n c) ∧ RAt w' R v l q ∧ Kp (fun q => q = R) w3 w' :=
  (some_ok (h.kp hk) hs hx hq).mono fun _ _ ⟨po, n, c, h1, h2, h3, h4⟩ => ⟨po, n, c, h1, h2, h3, (hk.mono fun _ _ e => e.elim).trans' h4⟩
/-- the bytes of a head: copied, and what the head's block and the reader are then -/
theorem begin_bytes {F : Nat → Prop} {w w3 w4 : World} {R : Nat} {v : Value} {l : List UInt8} {q : Nat} {s : List UInt8} {x : Value} (hb : BytesAt F w4 s x) (hs : s.length ≤ 70368744177664) (h4 : RAt w4 R v l q) (hk : Kp (fun q => q = R) w3 w4)
    (h03 : Kp (fun q => q = R) w w3) (hbx : w3.heap[w.heap.size]? = some (.cells #[.int .i64 8, .int .i64 0, .string ⟨#[]⟩, .slice none 0 0, .slice none 0 0, .slice none 0 0] 25 (0, 0))) (hR : R < w.heap.size) :
    ∃ pa na ca w5, (Builtin.append_ #[23, 23] 23 #[.slice none 0 0, x]).run Tryd.prog w4 = .ok (.slice pa na ca) w5 ∧ w4.cell? ⟨w.heap.size, 5, none⟩ = some (.slice none 0 0) ∧ w5.cell? ⟨w.heap.size, 5, none⟩ = some (.slice none 0 0) ∧ w5.frozen? ⟨w.heap.size, 5, none⟩ = false ∧
      BytesAt (Own w.heap.size w5) w5 s (.slice pa na ca) ∧ RAt w5 R v l q ∧ Kp (fun q => q = R) w w5 ∧ w5.heap[w.heap.size]? = some (.cells #[.int .i64 8, .int .i64 0, .string ⟨#[]⟩, .slice none 0 0, .slice none 0 0, .slice none 0 0] 25 (0, 0)) ∧ w.heap.size < w4.heap.size ∧ BytesAt (Own w4.heap.size w5) w5 s (.slice pa na ca) := by
  obtain ⟨pa, na, ca, w5, h1, h2, h3⟩ := app_new hb hs
  have hbx4 := (hk.block _ (Array.getElem?_eq_some_iff.1 hbx).1 (by omega)).trans hbx
  have hlt := (Array.getElem?_eq_some_iff.1 hbx4).1
  have hbx5 := (h3.block _ hlt (fun e => e)).trans hbx4
  have hz := (h03.trans' hk).size
  exact ⟨pa, na, ca, w5, h1, by rw [cell_of_row w4 _ 5 _ _ _ hbx4]; rfl, by rw [cell_of_row w5 _ 5 _ _ _ hbx5]; rfl, by simp [World.frozen?, hbx5], h2.imp (fun q e => ⟨Nat.le_trans hz e.1, e.2⟩) (fun _ _ _ _ e => e), h4.kp h3, (h03.trans' hk).trans' (h3.mono fun _ _ e => e.elim), hbx5, hlt, h2⟩
set_option maxRecDepth 100000 in
set_option maxHeartbeats 4000000 in
theorem begin_any {w : World} {R : Nat} {v : Value} {l : List UInt8} {p : Nat} (h : RAt w R v l p) :
    Calls Tryd.prog 59 #[.pointer (some ⟨R, 0, none⟩)] w (BegPost w R v l p) := by
  have hRl := (Array.getElem?_eq_some_iff.1 h.cells).1
  obtain ⟨w1, hw1⟩ : ∃ w1, w.alloc (.cells #[.int .i64 0, .int .i64 0, .string ⟨#[]⟩, .slice none 0 0, .slice none 0 0, .slice none 0 0] 25) = w1 := ⟨_, rfl⟩
  have hk1 : Kp (fun _ => False) w w1 := by rw [← hw1]; exact (Kp.refl _ w).alloc _
  have hbx : w1.heap[w.heap.size]? = some (.cells #[.int .i64 0, .int .i64 0, .string ⟨#[]⟩, .slice none 0 0, .slice none 0 0, .slice none 0 0] 25 (0, 0)) := by rw [← hw1]; exact heap_alloc_new w _
  have h1 := h.kp hk1
  have c1 : w1.cell? ⟨R, 1, none⟩ = some (.int .i64 p) := by rw [cell_of_row w1 R 1 _ _ _ h1.cells]; rfl
  have H1 := Lib.hid (And.intro h1 (And.intro hk1 (And.intro hbx hRl)))
  clear h1 hk1 hbx hRl h
  go_enter Tryd.func59, Tryd.ntmps59
  go_wp2_with fail
  clear hw1 c1
  by_cases hend : p = l.length
  · refine (next_no H1.out.1 hend).mono ?_
    rintro e w2 hf
    obtain ⟨c, rfl⟩ := hf.pan
    have H2 := Lib.hid hf
    clear hf
    go_wp2_with fail
    refine bodyPost_panic rfl (.inr ⟨?_, fun d z _ _ e => ?_⟩)
    · obtain ⟨v, n, ls, q1, q2, q3, q4⟩ := H2.out
      exact ⟨v, n, ls, q1, q2.le H1.out.2.1.size, q3, (H1.out.2.1.mono fun _ _ e => e.elim).trans' q4⟩
    · have e2 := congrArg List.length e
      rw [List.length_drop, encH_pay, List.cons_append, List.length_cons] at e2
      omega
  · obtain ⟨c, hcc⟩ : ∃ c, l[p]? = some c := ⟨l[p]'(by have := H1.out.1.le; omega), List.getElem?_eq_getElem _⟩
    refine (next_ok H1.out.1 hcc).mono ?_
    rintro e w2 ⟨rfl, hr2, hk2⟩
    obtain ⟨kk, hkk⟩ : ∃ kk : Int, (c.toNat : Int) = kk := ⟨_, rfl⟩
    rw [hkk]
    have hk0 : 0 ≤ kk := by omega
    have hk9 : kk ≤ 255 := by have := c.toNat_lt; omega
    have hbx := (hk2.block _ (Array.getElem?_eq_some_iff.1 H1.out.2.2.1).1 (by have := H1.out.2.2.2; omega)).trans H1.out.2.2.1
    have f2 : ∀ j, w2.frozen? ⟨w.heap.size, j, none⟩ = false := fun j => by simp [World.frozen?, hbx]
    have d0 : w2.cell? ⟨w.heap.size, 0, none⟩ = some (.int .i64 0) := by rw [cell_of_row w2 _ 0 _ _ _ hbx]; rfl
    obtain ⟨w3, hw3⟩ : ∃ w3, w2.setCell ⟨w.heap.size, 0, none⟩ (.int .i64 kk) = w3 := ⟨_, rfl⟩
    have hk3 : Kp (fun q => q = w.heap.size) w2 w3 := by rw [← hw3]; exact (Kp.refl (fun q => q = w.heap.size) w2).setCell _ _ (.inl rfl)
    have hbx3 : w3.heap[w.heap.size]? = some (.cells #[.int .i64 kk, .int .i64 0, .string ⟨#[]⟩, .slice none 0 0, .slice none 0 0, .slice none 0 0] 25 (0, 0)) := by rw [← hw3]; exact heap_set_same hbx _
    have hr3 : RAt w3 R v l (p + 1) := ⟨(hk3.block R (Array.getElem?_eq_some_iff.1 hr2.cells).1 (by have := H1.out.2.2.2; omega)).trans hr2.cells, bytes_kp hr2.bytes hk3 (fun q e e2 => by have := H1.out.2.2.2; omega), hr2.le⟩
    have hk03 : Kp (fun q => q = R) w w3 := kp_new ((H1.out.2.1.mono fun _ _ e => e.elim).trans' hk2) (hk3.mono fun q _ e => .inr (by omega))
    have e0 : w3.cell? ⟨w.heap.size, 0, none⟩ = some (.int .i64 kk) := by rw [cell_of_row w3 _ 0 _ _ _ hbx3]; rfl
    have hRl := H1.out.2.2.2
    have H3 := Lib.hid (And.intro hr3 (And.intro hk03 (And.intro hbx3 (And.intro hRl (And.intro hcc hkk)))))
    clear hr3 hk03 hbx3 hRl hcc hkk hk3 hr2 hk2 hbx H1
    by_cases k1 : kk = 1
    · subst k1
      go_wp2_with fail
      try clear hw3 e0
      refine (integer_any H3.out.1).mono ?_
      rintro e w4 (⟨x, rfl, h1, h2, h3, h4⟩ | ⟨hf, hno⟩)
      · have hbx4 := (h4.block _ (Array.getElem?_eq_some_iff.1 H3.out.2.2.1).1 (by have := H3.out.2.2.2.1; omega)).trans H3.out.2.2.1
        have f4 : ∀ j, w4.frozen? ⟨w.heap.size, j, none⟩ = false := fun j => by simp [World.frozen?, hbx4]
        have g1 : w4.cell? ⟨w.heap.size, 1, none⟩ = some (.int .i64 0) := by rw [cell_of_row w4 _ 1 _ _ _ hbx4]; rfl
        obtain ⟨w5, hwN⟩ : ∃ w5, w4.setCell ⟨w.heap.size, 1, none⟩ (.int .i64 x) = w5 := ⟨_, rfl⟩
        have hk5 : Kp (fun q => q = w.heap.size) w4 w5 := by rw [← hwN]; exact (Kp.refl (fun q => q = w.heap.size) w4).setCell _ _ (.inl rfl)
        have hbxN : w5.heap[w.heap.size]? = some (.cells #[.int .i64 1, .int .i64 x, .string ⟨#[]⟩, .slice none 0 0, .slice none 0 0, .slice none 0 0] 25 (0, 0)) := by rw [← hwN]; exact heap_set_same hbx4 _
        obtain ⟨hrN, hkN⟩ := begin_store H3.out.2.2.2.1 hk5 h2 (H3.out.2.1.trans' h4)
        have H5 := Lib.hid (And.intro h1 (And.intro h3 hbx4))
        clear h2 h3 h4 hk5 hbx4
        have e0 : w5.cell? ⟨w.heap.size, 0, none⟩ = some (.int .i64 1) := by rw [cell_of_row w5 _ 0 _ _ _ hbxN]; rfl
        have e1 : w5.cell? ⟨w.heap.size, 1, none⟩ = some (.int .i64 x) := by rw [cell_of_row w5 _ 1 _ _ _ hbxN]; rfl
        have e2 : w5.cell? ⟨w.heap.size, 2, none⟩ = some (.string ⟨#[]⟩) := by rw [cell_of_row w5 _ 2 _ _ _ hbxN]; rfl
        have e3 : w5.cell? ⟨w.heap.size, 3, none⟩ = some (.slice none 0 0) := by rw [cell_of_row w5 _ 3 _ _ _ hbxN]; rfl
        have e4 : w5.cell? ⟨w.heap.size, 4, none⟩ = some (.slice none 0 0) := by rw [cell_of_row w5 _ 4 _ _ _ hbxN]; rfl
        have e5 : w5.cell? ⟨w.heap.size, 5, none⟩ = some (.slice none 0 0) := by rw [cell_of_row w5 _ 5 _ _ _ hbxN]; rfl
        have ef : ∀ j, w5.frozen? ⟨w.heap.size, j, none⟩ = false := fun j => by simp [World.frozen?, hbxN]
        obtain ⟨hr9, hk9⟩ := sixSet_any (c0 := .int .i64 1) (c1 := .int .i64 x) (c2 := .string ⟨#[]⟩) (c3 := .slice none 0 0) (c4 := .slice none 0 0) (c5 := .slice none 0 0) hbxN
        have HN := Lib.hid (And.intro hr9 (And.intro hk9 (And.intro hrN hkN)))
        clear hr9 hk9 hrN hkN hbxN
        go_wp2_with fail
        change bodyPost _ _ _ _ _ (sixSet w5 w.heap.size (.int .i64 1) (.int .i64 x) (.string ⟨#[]⟩) (.slice none 0 0) (.slice none 0 0) (.slice none 0 0))
        clear e0 e1 e2 e3 e4 e5 ef
        try clear hwN
        obtain ⟨w9, hw9⟩ : ∃ w9, sixSet w5 w.heap.size (.int .i64 1) (.int .i64 x) (.string ⟨#[]⟩) (.slice none 0 0) (.slice none 0 0) (.slice none 0 0) = w9 := ⟨_, rfl⟩
        rw [hw9]
        obtain ⟨hr9, hk9, hrN, hkN⟩ := HN.out
        rw [hw9] at hr9 hk9
        have i0 : w9.cell? ⟨w.heap.size, 0, none⟩ = some (.int .i64 1) := by rw [cell_of_row w9 _ 0 _ _ _ hr9]; rfl
        have i1 : w9.cell? ⟨w.heap.size, 1, none⟩ = some (.int .i64 x) := by rw [cell_of_row w9 _ 1 _ _ _ hr9]; rfl
        have i2 : w9.cell? ⟨w.heap.size, 2, none⟩ = some (.string ⟨#[]⟩) := by rw [cell_of_row w9 _ 2 _ _ _ hr9]; rfl
        have i3 : w9.cell? ⟨w.heap.size, 3, none⟩ = some (.slice none 0 0) := by rw [cell_of_row w9 _ 3 _ _ _ hr9]; rfl
        have i4 : w9.cell? ⟨w.heap.size, 4, none⟩ = some (.slice none 0 0) := by rw [cell_of_row w9 _ 4 _ _ _ hr9]; rfl
        have i5 : w9.cell? ⟨w.heap.size, 5, none⟩ = some (.slice none 0 0) := by rw [cell_of_row w9 _ 5 _ _ _ hr9]; rfl
        have hr := begin_keep H3.out.2.2.2.1 hk9 hrN hkN
        refine bodyPost_ret (v := .tuple #[.agg #[.int .i64 1, .int .i64 x, .string ⟨#[]⟩, .slice none 0 0, .slice none 0 0, .slice none 0 0], .int .i64 0]) (by simp [results, Tryd.results59, go_sem, i0, i1, i2, i3, i4, i5]) rfl ?_
        obtain ⟨q1, q2⟩ := head_made (d := ⟨1, x, ByteArray.empty, [], 0⟩) (q := p + 1 + (encNat (zig x)).length) H3.out.2.2.2.2.1 (by rw [H3.out.2.2.2.2.2]) (by simp [pay, encH]) (by simpa [pay, encH] using H5.out.2.1)
        exact .inl ⟨⟨1, x, ByteArray.empty, [], 0⟩, _, _, _, rfl, .inl ⟨by simp, h1, rfl, rfl, rfl⟩, by rw [q2]; exact hr.1.le, by exact ⟨none, 0, rfl, by simp, by simp, fun i c hi => by simp at hi⟩, by rw [q2]; exact hr.1, q1, hr.2⟩
      · obtain ⟨c1, rfl⟩ := hf.pan
        have HF := Lib.hid (And.intro (hf.le H3.out.2.1) hno)
        clear hf hno
        go_wp2_with fail
        exact bodyPost_panic rfl (.inr ⟨HF.out.1, fun d z hd _ e => by
          obtain ⟨hkd, e2⟩ := head_first H3.out.2.2.2.2.1 hd e
          rw [H3.out.2.2.2.2.2] at hkd
          have h1 : zig d.n ≤ 18446744073709551615 := by unfold Hd.wf at hd; omega
          exact HF.out.2 d.n z h1 (by rw [e2]; simp [pay, encH, hkd])⟩)
    by_cases k3 : kk = 3
    · subst k3
      go_wp2_with fail
      try clear hw3 e0
      refine (integer_any H3.out.1).mono ?_
      rintro e w4 (⟨x, rfl, h1, h2, h3, h4⟩ | ⟨hf, hno⟩)
      · have hbx4 := (h4.block _ (Array.getElem?_eq_some_iff.1 H3.out.2.2.1).1 (by have := H3.out.2.2.2.1; omega)).trans H3.out.2.2.1
        have f4 : ∀ j, w4.frozen? ⟨w.heap.size, j, none⟩ = false := fun j => by simp [World.frozen?, hbx4]
        have g1 : w4.cell? ⟨w.heap.size, 1, none⟩ = some (.int .i64 0) := by rw [cell_of_row w4 _ 1 _ _ _ hbx4]; rfl
        obtain ⟨w5, hwN⟩ : ∃ w5, w4.setCell ⟨w.heap.size, 1, none⟩ (.int .i64 x) = w5 := ⟨_, rfl⟩
        have hk5 : Kp (fun q => q = w.heap.size) w4 w5 := by rw [← hwN]; exact (Kp.refl (fun q => q = w.heap.size) w4).setCell _ _ (.inl rfl)
        have hbxN : w5.heap[w.heap.size]? = some (.cells #[.int .i64 3, .int .i64 x, .string ⟨#[]⟩, .slice none 0 0, .slice none 0 0, .slice none 0 0] 25 (0, 0)) := by rw [← hwN]; exact heap_set_same hbx4 _
        obtain ⟨hrN, hkN⟩ := begin_store H3.out.2.2.2.1 hk5 h2 (H3.out.2.1.trans' h4)
        have H5 := Lib.hid (And.intro h1 (And.intro h3 hbx4))
        clear h2 h3 h4 hk5 hbx4
        have e0 : w5.cell? ⟨w.heap.size, 0, none⟩ = some (.int .i64 3) := by rw [cell_of_row w5 _ 0 _ _ _ hbxN]; rfl
        have e1 : w5.cell? ⟨w.heap.size, 1, none⟩ = some (.int .i64 x) := by rw [cell_of_row w5 _ 1 _ _ _ hbxN]; rfl
        have e2 : w5.cell? ⟨w.heap.size, 2, none⟩ = some (.string ⟨#[]⟩) := by rw [cell_of_row w5 _ 2 _ _ _ hbxN]; rfl
        have e3 : w5.cell? ⟨w.heap.size, 3, none⟩ = some (.slice none 0 0) := by rw [cell_of_row w5 _ 3 _ _ _ hbxN]; rfl
        have e4 : w5.cell? ⟨w.heap.size, 4, none⟩ = some (.slice none 0 0) := by rw [cell_of_row w5 _ 4 _ _ _ hbxN]; rfl
        have e5 : w5.cell? ⟨w.heap.size, 5, none⟩ = some (.slice none 0 0) := by rw [cell_of_row w5 _ 5 _ _ _ hbxN]; rfl
        have ef : ∀ j, w5.frozen? ⟨w.heap.size, j, none⟩ = false := fun j => by simp [World.frozen?, hbxN]
        obtain ⟨hr9, hk9⟩ := sixSet_any (c0 := .int .i64 3) (c1 := .int .i64 x) (c2 := .string ⟨#[]⟩) (c3 := .slice none 0 0) (c4 := .slice none 0 0) (c5 := .slice none 0 0) hbxN
        have HN := Lib.hid (And.intro hr9 (And.intro hk9 (And.intro hrN hkN)))
        clear hr9 hk9 hrN hkN hbxN
        go_wp2_with fail
        change bodyPost _ _ _ _ _ (sixSet w5 w.heap.size (.int .i64 3) (.int .i64 x) (.string ⟨#[]⟩) (.slice none 0 0) (.slice none 0 0) (.slice none 0 0))
        clear e0 e1 e2 e3 e4 e5 ef
        try clear hwN
        obtain ⟨w9, hw9⟩ : ∃ w9, sixSet w5 w.heap.size (.int .i64 3) (.int .i64 x) (.string ⟨#[]⟩) (.slice none 0 0) (.slice none 0 0) (.slice none 0 0) = w9 := ⟨_, rfl⟩
        rw [hw9]
        obtain ⟨hr9, hk9, hrN, hkN⟩ := HN.out
        rw [hw9] at hr9 hk9
        have i0 : w9.cell? ⟨w.heap.size, 0, none⟩ = some (.int .i64 3) := by rw [cell_of_row w9 _ 0 _ _ _ hr9]; rfl
        have i1 : w9.cell? ⟨w.heap.size, 1, none⟩ = some (.int .i64 x) := by rw [cell_of_row w9 _ 1 _ _ _ hr9]; rfl
        have i2 : w9.cell? ⟨w.heap.size, 2, none⟩ = some (.string ⟨#[]⟩) := by rw [cell_of_row w9 _ 2 _ _ _ hr9]; rfl
        have i3 : w9.cell? ⟨w.heap.size, 3, none⟩ = some (.slice none 0 0) := by rw [cell_of_row w9 _ 3 _ _ _ hr9]; rfl
        have i4 : w9.cell? ⟨w.heap.size, 4, none⟩ = some (.slice none 0 0) := by rw [cell_of_row w9 _ 4 _ _ _ hr9]; rfl
        have i5 : w9.cell? ⟨w.heap.size, 5, none⟩ = some (.slice none 0 0) := by rw [cell_of_row w9 _ 5 _ _ _ hr9]; rfl
        have hr := begin_keep H3.out.2.2.2.1 hk9 hrN hkN
        refine bodyPost_ret (v := .tuple #[.agg #[.int .i64 3, .int .i64 x, .string ⟨#[]⟩, .slice none 0 0, .slice none 0 0, .slice none 0 0], .int .i64 0]) (by simp [results, Tryd.results59, go_sem, i0, i1, i2, i3, i4, i5]) rfl ?_
        obtain ⟨q1, q2⟩ := head_made (d := ⟨3, x, ByteArray.empty, [], 0⟩) (q := p + 1 + (encNat (zig x)).length) H3.out.2.2.2.2.1 (by rw [H3.out.2.2.2.2.2]) (by simp [pay, encH]) (by simpa [pay, encH] using H5.out.2.1)
        exact .inl ⟨⟨3, x, ByteArray.empty, [], 0⟩, _, _, _, rfl, .inl ⟨by simp, h1, rfl, rfl, rfl⟩, by rw [q2]; exact hr.1.le, by exact ⟨none, 0, rfl, by simp, by simp, fun i c hi => by simp at hi⟩, by rw [q2]; exact hr.1, q1, hr.2⟩
      · obtain ⟨c1, rfl⟩ := hf.pan
        have HF := Lib.hid (And.intro (hf.le H3.out.2.1) hno)
        clear hf hno
        go_wp2_with fail
        exact bodyPost_panic rfl (.inr ⟨HF.out.1, fun d z hd _ e => by
          obtain ⟨hkd, e2⟩ := head_first H3.out.2.2.2.2.1 hd e
          rw [H3.out.2.2.2.2.2] at hkd
          have h1 : zig d.n ≤ 18446744073709551615 := by unfold Hd.wf at hd; omega
          exact HF.out.2 d.n z h1 (by rw [e2]; simp [pay, encH, hkd])⟩)
    by_cases k4 : kk = 4
    · subst k4
      go_wp2_with fail
      try clear hw3 e0
      refine (integer_any H3.out.1).mono ?_
      rintro e w4 (⟨x, rfl, h1, h2, h3, h4⟩ | ⟨hf, hno⟩)
      · have hbx4 := (h4.block _ (Array.getElem?_eq_some_iff.1 H3.out.2.2.1).1 (by have := H3.out.2.2.2.1; omega)).trans H3.out.2.2.1
        have f4 : ∀ j, w4.frozen? ⟨w.heap.size, j, none⟩ = false := fun j => by simp [World.frozen?, hbx4]
        have g1 : w4.cell? ⟨w.heap.size, 1, none⟩ = some (.int .i64 0) := by rw [cell_of_row w4 _ 1 _ _ _ hbx4]; rfl
        obtain ⟨w5, hwN⟩ : ∃ w5, w4.setCell ⟨w.heap.size, 1, none⟩ (.int .i64 x) = w5 := ⟨_, rfl⟩
        have hk5 : Kp (fun q => q = w.heap.size) w4 w5 := by rw [← hwN]; exact (Kp.refl (fun q => q = w.heap.size) w4).setCell _ _ (.inl rfl)
        have hbxN : w5.heap[w.heap.size]? = some (.cells #[.int .i64 4, .int .i64 x, .string ⟨#[]⟩, .slice none 0 0, .slice none 0 0, .slice none 0 0] 25 (0, 0)) := by rw [← hwN]; exact heap_set_same hbx4 _
        obtain ⟨hrN, hkN⟩ := begin_store H3.out.2.2.2.1 hk5 h2 (H3.out.2.1.trans' h4)
        have H5 := Lib.hid (And.intro h1 (And.intro h3 hbx4))
        clear h2 h3 h4 hk5 hbx4
        have e0 : w5.cell? ⟨w.heap.size, 0, none⟩ = some (.int .i64 4) := by rw [cell_of_row w5 _ 0 _ _ _ hbxN]; rfl
        have e1 : w5.cell? ⟨w.heap.size, 1, none⟩ = some (.int .i64 x) := by rw [cell_of_row w5 _ 1 _ _ _ hbxN]; rfl
        have e2 : w5.cell? ⟨w.heap.size, 2, none⟩ = some (.string ⟨#[]⟩) := by rw [cell_of_row w5 _ 2 _ _ _ hbxN]; rfl
        have e3 : w5.cell? ⟨w.heap.size, 3, none⟩ = some (.slice none 0 0) := by rw [cell_of_row w5 _ 3 _ _ _ hbxN]; rfl
        have e4 : w5.cell? ⟨w.heap.size, 4, none⟩ = some (.slice none 0 0) := by rw [cell_of_row w5 _ 4 _ _ _ hbxN]; rfl
        have e5 : w5.cell? ⟨w.heap.size, 5, none⟩ = some (.slice none 0 0) := by rw [cell_of_row w5 _ 5 _ _ _ hbxN]; rfl
        have ef : ∀ j, w5.frozen? ⟨w.heap.size, j, none⟩ = false := fun j => by simp [World.frozen?, hbxN]
        obtain ⟨hr9, hk9⟩ := sixSet_any (c0 := .int .i64 4) (c1 := .int .i64 x) (c2 := .string ⟨#[]⟩) (c3 := .slice none 0 0) (c4 := .slice none 0 0) (c5 := .slice none 0 0) hbxN
        have HN := Lib.hid (And.intro hr9 (And.intro hk9 (And.intro hrN hkN)))
        clear hr9 hk9 hrN hkN hbxN
        go_wp2_with fail
        change bodyPost _ _ _ _ _ (sixSet w5 w.heap.size (.int .i64 4) (.int .i64 x) (.string ⟨#[]⟩) (.slice none 0 0) (.slice none 0 0) (.slice none 0 0))
        clear e0 e1 e2 e3 e4 e5 ef
        try clear hwN
        obtain ⟨w9, hw9⟩ : ∃ w9, sixSet w5 w.heap.size (.int .i64 4) (.int .i64 x) (.string ⟨#[]⟩) (.slice none 0 0) (.slice none 0 0) (.slice none 0 0) = w9 := ⟨_, rfl⟩
        rw [hw9]
        obtain ⟨hr9, hk9, hrN, hkN⟩ := HN.out
        rw [hw9] at hr9 hk9
        have i0 : w9.cell? ⟨w.heap.size, 0, none⟩ = some (.int .i64 4) := by rw [cell_of_row w9 _ 0 _ _ _ hr9]; rfl
        have i1 : w9.cell? ⟨w.heap.size, 1, none⟩ = some (.int .i64 x) := by rw [cell_of_row w9 _ 1 _ _ _ hr9]; rfl
        have i2 : w9.cell? ⟨w.heap.size, 2, none⟩ = some (.string ⟨#[]⟩) := by rw [cell_of_row w9 _ 2 _ _ _ hr9]; rfl
        have i3 : w9.cell? ⟨w.heap.size, 3, none⟩ = some (.slice none 0 0) := by rw [cell_of_row w9 _ 3 _ _ _ hr9]; rfl
        have i4 : w9.cell? ⟨w.heap.size, 4, none⟩ = some (.slice none 0 0) := by rw [cell_of_row w9 _ 4 _ _ _ hr9]; rfl
        have i5 : w9.cell? ⟨w.heap.size, 5, none⟩ = some (.slice none 0 0) := by rw [cell_of_row w9 _ 5 _ _ _ hr9]; rfl
        have hr := begin_keep H3.out.2.2.2.1 hk9 hrN hkN
        refine bodyPost_ret (v := .tuple #[.agg #[.int .i64 4, .int .i64 x, .string ⟨#[]⟩, .slice none 0 0, .slice none 0 0, .slice none 0 0], .int .i64 0]) (by simp [results, Tryd.results59, go_sem, i0, i1, i2, i3, i4, i5]) rfl ?_
        obtain ⟨q1, q2⟩ := head_made (d := ⟨4, x, ByteArray.empty, [], 0⟩) (q := p + 1 + (encNat (zig x)).length) H3.out.2.2.2.2.1 (by rw [H3.out.2.2.2.2.2]) (by simp [pay, encH]) (by simpa [pay, encH] using H5.out.2.1)
        exact .inl ⟨⟨4, x, ByteArray.empty, [], 0⟩, _, _, _, rfl, .inl ⟨by simp, h1, rfl, rfl, rfl⟩, by rw [q2]; exact hr.1.le, by exact ⟨none, 0, rfl, by simp, by simp, fun i c hi => by simp at hi⟩, by rw [q2]; exact hr.1, q1, hr.2⟩
      · obtain ⟨c1, rfl⟩ := hf.pan
        have HF := Lib.hid (And.intro (hf.le H3.out.2.1) hno)
        clear hf hno
        go_wp2_with fail
        exact bodyPost_panic rfl (.inr ⟨HF.out.1, fun d z hd _ e => by
          obtain ⟨hkd, e2⟩ := head_first H3.out.2.2.2.2.1 hd e
          rw [H3.out.2.2.2.2.2] at hkd
          have h1 : zig d.n ≤ 18446744073709551615 := by unfold Hd.wf at hd; omega
          exact HF.out.2 d.n z h1 (by rw [e2]; simp [pay, encH, hkd])⟩)
    by_cases k2 : kk = 2
    · subst k2
      go_wp2_with fail
      try clear hw3 e0
      refine (some_any H3.out.1).mono ?_
      rintro e w4 (⟨s, x, rfl, hby, h1, h2, h3, h4⟩ | ⟨hf, hno⟩)
      · have hcv := conv_any hby
        obtain ⟨xa, xn, xc, rfl⟩ := hby.form
        have hbx4 := (h4.block _ (Array.getElem?_eq_some_iff.1 H3.out.2.2.1).1 (by have := H3.out.2.2.2.1; omega)).trans H3.out.2.2.1
        have f4 : ∀ j, w4.frozen? ⟨w.heap.size, j, none⟩ = false := fun j => by simp [World.frozen?, hbx4]
        have g2 : w4.cell? ⟨w.heap.size, 2, none⟩ = some (.string ⟨#[]⟩) := by rw [cell_of_row w4 _ 2 _ _ _ hbx4]; rfl
        obtain ⟨w5, hwN⟩ : ∃ w5, w4.setCell ⟨w.heap.size, 2, none⟩ (.string (strB s)) = w5 := ⟨_, rfl⟩
        have hk5 : Kp (fun q => q = w.heap.size) w4 w5 := by rw [← hwN]; exact (Kp.refl (fun q => q = w.heap.size) w4).setCell _ _ (.inl rfl)
        have hbxN : w5.heap[w.heap.size]? = some (.cells #[.int .i64 2, .int .i64 0, .string (strB s), .slice none 0 0, .slice none 0 0, .slice none 0 0] 25 (0, 0)) := by rw [← hwN]; exact heap_set_same hbx4 _
        obtain ⟨hrN, hkN⟩ := begin_store H3.out.2.2.2.1 hk5 h2 (H3.out.2.1.trans' h4)
        have H5 := Lib.hid (And.intro h1 (And.intro h3 hbx4))
        clear h2 h3 h4 hk5 hbx4 hby
        have e0 : w5.cell? ⟨w.heap.size, 0, none⟩ = some (.int .i64 2) := by rw [cell_of_row w5 _ 0 _ _ _ hbxN]; rfl
        have e1 : w5.cell? ⟨w.heap.size, 1, none⟩ = some (.int .i64 0) := by rw [cell_of_row w5 _ 1 _ _ _ hbxN]; rfl
        have e2 : w5.cell? ⟨w.heap.size, 2, none⟩ = some (.string (strB s)) := by rw [cell_of_row w5 _ 2 _ _ _ hbxN]; rfl
        have e3 : w5.cell? ⟨w.heap.size, 3, none⟩ = some (.slice none 0 0) := by rw [cell_of_row w5 _ 3 _ _ _ hbxN]; rfl
        have e4 : w5.cell? ⟨w.heap.size, 4, none⟩ = some (.slice none 0 0) := by rw [cell_of_row w5 _ 4 _ _ _ hbxN]; rfl
        have e5 : w5.cell? ⟨w.heap.size, 5, none⟩ = some (.slice none 0 0) := by rw [cell_of_row w5 _ 5 _ _ _ hbxN]; rfl
        have ef : ∀ j, w5.frozen? ⟨w.heap.size, j, none⟩ = false := fun j => by simp [World.frozen?, hbxN]
        obtain ⟨hr9, hk9⟩ := sixSet_any (c0 := .int .i64 2) (c1 := .int .i64 0) (c2 := .string (strB s)) (c3 := .slice none 0 0) (c4 := .slice none 0 0) (c5 := .slice none 0 0) hbxN
        have HN := Lib.hid (And.intro hr9 (And.intro hk9 (And.intro hrN hkN)))
        clear hr9 hk9 hrN hkN hbxN
        go_wp2_with fail
        change bodyPost _ _ _ _ _ (sixSet w5 w.heap.size (.int .i64 2) (.int .i64 0) (.string (strB s)) (.slice none 0 0) (.slice none 0 0) (.slice none 0 0))
        clear e0 e1 e2 e3 e4 e5 ef
        try clear hwN
        obtain ⟨w9, hw9⟩ : ∃ w9, sixSet w5 w.heap.size (.int .i64 2) (.int .i64 0) (.string (strB s)) (.slice none 0 0) (.slice none 0 0) (.slice none 0 0) = w9 := ⟨_, rfl⟩
        rw [hw9]
        obtain ⟨hr9, hk9, hrN, hkN⟩ := HN.out
        rw [hw9] at hr9 hk9
        have i0 : w9.cell? ⟨w.heap.size, 0, none⟩ = some (.int .i64 2) := by rw [cell_of_row w9 _ 0 _ _ _ hr9]; rfl
        have i1 : w9.cell? ⟨w.heap.size, 1, none⟩ = some (.int .i64 0) := by rw [cell_of_row w9 _ 1 _ _ _ hr9]; rfl
        have i2 : w9.cell? ⟨w.heap.size, 2, none⟩ = some (.string (strB s)) := by rw [cell_of_row w9 _ 2 _ _ _ hr9]; rfl
        have i3 : w9.cell? ⟨w.heap.size, 3, none⟩ = some (.slice none 0 0) := by rw [cell_of_row w9 _ 3 _ _ _ hr9]; rfl
        have i4 : w9.cell? ⟨w.heap.size, 4, none⟩ = some (.slice none 0 0) := by rw [cell_of_row w9 _ 4 _ _ _ hr9]; rfl
        have i5 : w9.cell? ⟨w.heap.size, 5, none⟩ = some (.slice none 0 0) := by rw [cell_of_row w9 _ 5 _ _ _ hr9]; rfl
        have hr := begin_keep H3.out.2.2.2.1 hk9 hrN hkN
        refine bodyPost_ret (v := .tuple #[.agg #[.int .i64 2, .int .i64 0, .string (strB s), .slice none 0 0, .slice none 0 0, .slice none 0 0], .int .i64 0]) (by simp [results, Tryd.results59, go_sem, i0, i1, i2, i3, i4, i5]) rfl ?_
        obtain ⟨q1, q2⟩ := head_made (d := ⟨2, 0, strB s, [], 0⟩) (q := p + 1 + (encB s).length) H3.out.2.2.2.2.1 (by rw [H3.out.2.2.2.2.2]) (by simp [pay, encH, strB]) (by simpa [pay, encH, strB] using H5.out.2.1)
        exact .inl ⟨⟨2, 0, strB s, [], 0⟩, _, _, _, rfl, .inr (.inl ⟨rfl, by simpa [strB, ByteArray.size] using h1, rfl, rfl, rfl⟩), by rw [q2]; exact hr.1.le, by exact ⟨none, 0, rfl, by simp, by simp, fun i c hi => by simp at hi⟩, by rw [q2]; exact hr.1, q1, hr.2⟩
      · obtain ⟨c1, rfl⟩ := hf.pan
        have HF := Lib.hid (And.intro (hf.le H3.out.2.1) hno)
        clear hf hno
        go_wp2_with fail
        exact bodyPost_panic rfl (.inr ⟨HF.out.1, fun d z hd _ e => by
          obtain ⟨hkd, e2⟩ := head_first H3.out.2.2.2.2.1 hd e
          rw [H3.out.2.2.2.2.2] at hkd
          have h1 : d.s.size ≤ 1099511627776 := by unfold Hd.wf at hd; omega
          exact HF.out.2 d.s.data.toList z (by have : d.s.data.toList.length = d.s.size := Array.length_toList; omega) (by rw [e2]; simp [pay, encH, hkd])⟩)
    by_cases k5 : kk = 5
    · subst k5
      go_wp2_with fail
      try clear hw3 e0
      refine (count_any H3.out.1).mono ?_
      rintro e w4 (⟨n, rfl, h1, hle, h2, h3, h4⟩ | ⟨hf, hno⟩)
      · have hbxN := (h4.block _ (Array.getElem?_eq_some_iff.1 H3.out.2.2.1).1 (by have := H3.out.2.2.2.1; omega)).trans H3.out.2.2.1
        have hrN := h2
        have hkN := H3.out.2.1.trans' h4
        have H5 := Lib.hid (And.intro h1 (And.intro h3 hle))
        clear h2 h3 h4 hle
        have e0 : w4.cell? ⟨w.heap.size, 0, none⟩ = some (.int .i64 5) := by rw [cell_of_row w4 _ 0 _ _ _ hbxN]; rfl
        have e1 : w4.cell? ⟨w.heap.size, 1, none⟩ = some (.int .i64 0) := by rw [cell_of_row w4 _ 1 _ _ _ hbxN]; rfl
        have e2 : w4.cell? ⟨w.heap.size, 2, none⟩ = some (.string ⟨#[]⟩) := by rw [cell_of_row w4 _ 2 _ _ _ hbxN]; rfl
        have e3 : w4.cell? ⟨w.heap.size, 3, none⟩ = some (.slice none 0 0) := by rw [cell_of_row w4 _ 3 _ _ _ hbxN]; rfl
        have e4 : w4.cell? ⟨w.heap.size, 4, none⟩ = some (.slice none 0 0) := by rw [cell_of_row w4 _ 4 _ _ _ hbxN]; rfl
        have e5 : w4.cell? ⟨w.heap.size, 5, none⟩ = some (.slice none 0 0) := by rw [cell_of_row w4 _ 5 _ _ _ hbxN]; rfl
        have ef : ∀ j, w4.frozen? ⟨w.heap.size, j, none⟩ = false := fun j => by simp [World.frozen?, hbxN]
        obtain ⟨hr9, hk9⟩ := sixSet_any (c0 := .int .i64 5) (c1 := .int .i64 0) (c2 := .string ⟨#[]⟩) (c3 := .slice none 0 0) (c4 := .slice none 0 0) (c5 := .slice none 0 0) hbxN
        have HN := Lib.hid (And.intro hr9 (And.intro hk9 (And.intro hrN hkN)))
        clear hr9 hk9 hrN hkN hbxN
        go_wp2_with fail
        change bodyPost _ _ _ _ _ (sixSet w4 w.heap.size (.int .i64 5) (.int .i64 0) (.string ⟨#[]⟩) (.slice none 0 0) (.slice none 0 0) (.slice none 0 0))
        clear e0 e1 e2 e3 e4 e5 ef
        try clear hwN
        obtain ⟨w9, hw9⟩ : ∃ w9, sixSet w4 w.heap.size (.int .i64 5) (.int .i64 0) (.string ⟨#[]⟩) (.slice none 0 0) (.slice none 0 0) (.slice none 0 0) = w9 := ⟨_, rfl⟩
        rw [hw9]
        obtain ⟨hr9, hk9, hrN, hkN⟩ := HN.out
        rw [hw9] at hr9 hk9
        have i0 : w9.cell? ⟨w.heap.size, 0, none⟩ = some (.int .i64 5) := by rw [cell_of_row w9 _ 0 _ _ _ hr9]; rfl
        have i1 : w9.cell? ⟨w.heap.size, 1, none⟩ = some (.int .i64 0) := by rw [cell_of_row w9 _ 1 _ _ _ hr9]; rfl
        have i2 : w9.cell? ⟨w.heap.size, 2, none⟩ = some (.string ⟨#[]⟩) := by rw [cell_of_row w9 _ 2 _ _ _ hr9]; rfl
        have i3 : w9.cell? ⟨w.heap.size, 3, none⟩ = some (.slice none 0 0) := by rw [cell_of_row w9 _ 3 _ _ _ hr9]; rfl
        have i4 : w9.cell? ⟨w.heap.size, 4, none⟩ = some (.slice none 0 0) := by rw [cell_of_row w9 _ 4 _ _ _ hr9]; rfl
        have i5 : w9.cell? ⟨w.heap.size, 5, none⟩ = some (.slice none 0 0) := by rw [cell_of_row w9 _ 5 _ _ _ hr9]; rfl
        have hr := begin_keep H3.out.2.2.2.1 hk9 hrN hkN
        refine bodyPost_ret (v := .tuple #[.agg #[.int .i64 5, .int .i64 0, .string ⟨#[]⟩, .slice none 0 0, .slice none 0 0, .slice none 0 0], .int .i64 n]) (by simp [results, Tryd.results59, go_sem, i0, i1, i2, i3, i4, i5]) rfl ?_
        obtain ⟨q1, q2⟩ := head_made (d := ⟨5, 0, ByteArray.empty, [], n⟩) (q := p + 1 + (encNat n).length) H3.out.2.2.2.2.1 (by rw [H3.out.2.2.2.2.2]) (by simp [pay, encH]) (by simpa [pay, encH] using H5.out.2.1)
        exact .inl ⟨⟨5, 0, ByteArray.empty, [], n⟩, _, _, _, rfl, .inr (.inr (.inl ⟨by simp, h1, rfl, rfl, rfl⟩)), by rw [q2]; exact H5.out.2.2, by exact ⟨none, 0, rfl, by simp, by simp, fun i c hi => by simp at hi⟩, by rw [q2]; exact hr.1, q1, hr.2⟩
      · obtain ⟨c1, rfl⟩ := hf.pan
        have HF := Lib.hid (And.intro (hf.le H3.out.2.1) hno)
        clear hf hno
        go_wp2_with fail
        exact bodyPost_panic rfl (.inr ⟨HF.out.1, fun d z hd hz e => by
          obtain ⟨hkd, e2⟩ := head_first H3.out.2.2.2.2.1 hd e
          rw [H3.out.2.2.2.2.2] at hkd
          have h1 : d.m ≤ 1099511627776 := by unfold Hd.wf at hd; omega
          exact HF.out.2 d.m z h1 hz (by rw [e2]; simp [pay, encH, hkd])⟩)
    by_cases k7 : kk = 7
    · subst k7
      go_wp2_with fail
      try clear hw3 e0
      refine (count_any H3.out.1).mono ?_
      rintro e w4 (⟨n, rfl, h1, hle, h2, h3, h4⟩ | ⟨hf, hno⟩)
      · have hbxN := (h4.block _ (Array.getElem?_eq_some_iff.1 H3.out.2.2.1).1 (by have := H3.out.2.2.2.1; omega)).trans H3.out.2.2.1
        have hrN := h2
        have hkN := H3.out.2.1.trans' h4
        have H5 := Lib.hid (And.intro h1 (And.intro h3 hle))
        clear h2 h3 h4 hle
        have e0 : w4.cell? ⟨w.heap.size, 0, none⟩ = some (.int .i64 7) := by rw [cell_of_row w4 _ 0 _ _ _ hbxN]; rfl
        have e1 : w4.cell? ⟨w.heap.size, 1, none⟩ = some (.int .i64 0) := by rw [cell_of_row w4 _ 1 _ _ _ hbxN]; rfl
        have e2 : w4.cell? ⟨w.heap.size, 2, none⟩ = some (.string ⟨#[]⟩) := by rw [cell_of_row w4 _ 2 _ _ _ hbxN]; rfl
        have e3 : w4.cell? ⟨w.heap.size, 3, none⟩ = some (.slice none 0 0) := by rw [cell_of_row w4 _ 3 _ _ _ hbxN]; rfl
        have e4 : w4.cell? ⟨w.heap.size, 4, none⟩ = some (.slice none 0 0) := by rw [cell_of_row w4 _ 4 _ _ _ hbxN]; rfl
        have e5 : w4.cell? ⟨w.heap.size, 5, none⟩ = some (.slice none 0 0) := by rw [cell_of_row w4 _ 5 _ _ _ hbxN]; rfl
        have ef : ∀ j, w4.frozen? ⟨w.heap.size, j, none⟩ = false := fun j => by simp [World.frozen?, hbxN]
        obtain ⟨hr9, hk9⟩ := sixSet_any (c0 := .int .i64 7) (c1 := .int .i64 0) (c2 := .string ⟨#[]⟩) (c3 := .slice none 0 0) (c4 := .slice none 0 0) (c5 := .slice none 0 0) hbxN
        have HN := Lib.hid (And.intro hr9 (And.intro hk9 (And.intro hrN hkN)))
        clear hr9 hk9 hrN hkN hbxN
        go_wp2_with fail
        change bodyPost _ _ _ _ _ (sixSet w4 w.heap.size (.int .i64 7) (.int .i64 0) (.string ⟨#[]⟩) (.slice none 0 0) (.slice none 0 0) (.slice none 0 0))
        clear e0 e1 e2 e3 e4 e5 ef
        try clear hwN
        obtain ⟨w9, hw9⟩ : ∃ w9, sixSet w4 w.heap.size (.int .i64 7) (.int .i64 0) (.string ⟨#[]⟩) (.slice none 0 0) (.slice none 0 0) (.slice none 0 0) = w9 := ⟨_, rfl⟩
        rw [hw9]
        obtain ⟨hr9, hk9, hrN, hkN⟩ := HN.out
        rw [hw9] at hr9 hk9
        have i0 : w9.cell? ⟨w.heap.size, 0, none⟩ = some (.int .i64 7) := by rw [cell_of_row w9 _ 0 _ _ _ hr9]; rfl
        have i1 : w9.cell? ⟨w.heap.size, 1, none⟩ = some (.int .i64 0) := by rw [cell_of_row w9 _ 1 _ _ _ hr9]; rfl
        have i2 : w9.cell? ⟨w.heap.size, 2, none⟩ = some (.string ⟨#[]⟩) := by rw [cell_of_row w9 _ 2 _ _ _ hr9]; rfl
        have i3 : w9.cell? ⟨w.heap.size, 3, none⟩ = some (.slice none 0 0) := by rw [cell_of_row w9 _ 3 _ _ _ hr9]; rfl
        have i4 : w9.cell? ⟨w.heap.size, 4, none⟩ = some (.slice none 0 0) := by rw [cell_of_row w9 _ 4 _ _ _ hr9]; rfl
        have i5 : w9.cell? ⟨w.heap.size, 5, none⟩ = some (.slice none 0 0) := by rw [cell_of_row w9 _ 5 _ _ _ hr9]; rfl
        have hr := begin_keep H3.out.2.2.2.1 hk9 hrN hkN
        refine bodyPost_ret (v := .tuple #[.agg #[.int .i64 7, .int .i64 0, .string ⟨#[]⟩, .slice none 0 0, .slice none 0 0, .slice none 0 0], .int .i64 n]) (by simp [results, Tryd.results59, go_sem, i0, i1, i2, i3, i4, i5]) rfl ?_
        obtain ⟨q1, q2⟩ := head_made (d := ⟨7, 0, ByteArray.empty, [], n⟩) (q := p + 1 + (encNat n).length) H3.out.2.2.2.2.1 (by rw [H3.out.2.2.2.2.2]) (by simp [pay, encH]) (by simpa [pay, encH] using H5.out.2.1)
        exact .inl ⟨⟨7, 0, ByteArray.empty, [], n⟩, _, _, _, rfl, .inr (.inr (.inl ⟨by simp, h1, rfl, rfl, rfl⟩)), by rw [q2]; exact H5.out.2.2, by exact ⟨none, 0, rfl, by simp, by simp, fun i c hi => by simp at hi⟩, by rw [q2]; exact hr.1, q1, hr.2⟩
      · obtain ⟨c1, rfl⟩ := hf.pan
        have HF := Lib.hid (And.intro (hf.le H3.out.2.1) hno)
        clear hf hno
        go_wp2_with fail
        exact bodyPost_panic rfl (.inr ⟨HF.out.1, fun d z hd hz e => by
          obtain ⟨hkd, e2⟩ := head_first H3.out.2.2.2.2.1 hd e
          rw [H3.out.2.2.2.2.2] at hkd
          have h1 : d.m ≤ 1099511627776 := by unfold Hd.wf at hd; omega
          exact HF.out.2 d.m z h1 hz (by rw [e2]; simp [pay, encH, hkd])⟩)
    by_cases k6 : kk = 6
    · subst k6
      have hbxN := H3.out.2.2.1
      have hrN := H3.out.1
      have hkN := H3.out.2.1
      have hwN := hw3
      clear e0 hw3
      have e0 : w3.cell? ⟨w.heap.size, 0, none⟩ = some (.int .i64 6) := by rw [cell_of_row w3 _ 0 _ _ _ hbxN]; rfl
      have e1 : w3.cell? ⟨w.heap.size, 1, none⟩ = some (.int .i64 0) := by rw [cell_of_row w3 _ 1 _ _ _ hbxN]; rfl
      have e2 : w3.cell? ⟨w.heap.size, 2, none⟩ = some (.string ⟨#[]⟩) := by rw [cell_of_row w3 _ 2 _ _ _ hbxN]; rfl
      have e3 : w3.cell? ⟨w.heap.size, 3, none⟩ = some (.slice none 0 0) := by rw [cell_of_row w3 _ 3 _ _ _ hbxN]; rfl
      have e4 : w3.cell? ⟨w.heap.size, 4, none⟩ = some (.slice none 0 0) := by rw [cell_of_row w3 _ 4 _ _ _ hbxN]; rfl
      have e5 : w3.cell? ⟨w.heap.size, 5, none⟩ = some (.slice none 0 0) := by rw [cell_of_row w3 _ 5 _ _ _ hbxN]; rfl
      have ef : ∀ j, w3.frozen? ⟨w.heap.size, j, none⟩ = false := fun j => by simp [World.frozen?, hbxN]
      obtain ⟨hr9, hk9⟩ := sixSet_any (c0 := .int .i64 6) (c1 := .int .i64 0) (c2 := .string ⟨#[]⟩) (c3 := .slice none 0 0) (c4 := .slice none 0 0) (c5 := .slice none 0 0) hbxN
      have HN := Lib.hid (And.intro hr9 (And.intro hk9 (And.intro hrN hkN)))
      clear hr9 hk9 hrN hkN hbxN
      go_wp2_with fail
      change bodyPost _ _ _ _ _ (sixSet w3 w.heap.size (.int .i64 6) (.int .i64 0) (.string ⟨#[]⟩) (.slice none 0 0) (.slice none 0 0) (.slice none 0 0))
      clear e0 e1 e2 e3 e4 e5 ef
      try clear hwN
      obtain ⟨w9, hw9⟩ : ∃ w9, sixSet w3 w.heap.size (.int .i64 6) (.int .i64 0) (.string ⟨#[]⟩) (.slice none 0 0) (.slice none 0 0) (.slice none 0 0) = w9 := ⟨_, rfl⟩
      rw [hw9]
      obtain ⟨hr9, hk9, hrN, hkN⟩ := HN.out
      rw [hw9] at hr9 hk9
      have i0 : w9.cell? ⟨w.heap.size, 0, none⟩ = some (.int .i64 6) := by rw [cell_of_row w9 _ 0 _ _ _ hr9]; rfl
      have i1 : w9.cell? ⟨w.heap.size, 1, none⟩ = some (.int .i64 0) := by rw [cell_of_row w9 _ 1 _ _ _ hr9]; rfl
      have i2 : w9.cell? ⟨w.heap.size, 2, none⟩ = some (.string ⟨#[]⟩) := by rw [cell_of_row w9 _ 2 _ _ _ hr9]; rfl
      have i3 : w9.cell? ⟨w.heap.size, 3, none⟩ = some (.slice none 0 0) := by rw [cell_of_row w9 _ 3 _ _ _ hr9]; rfl
      have i4 : w9.cell? ⟨w.heap.size, 4, none⟩ = some (.slice none 0 0) := by rw [cell_of_row w9 _ 4 _ _ _ hr9]; rfl
      have i5 : w9.cell? ⟨w.heap.size, 5, none⟩ = some (.slice none 0 0) := by rw [cell_of_row w9 _ 5 _ _ _ hr9]; rfl
      have hr := begin_keep H3.out.2.2.2.1 hk9 hrN hkN
      refine bodyPost_ret (v := .tuple #[.agg #[.int .i64 6, .int .i64 0, .string ⟨#[]⟩, .slice none 0 0, .slice none 0 0, .slice none 0 0], .int .i64 0]) (by simp [results, Tryd.results59, go_sem, i0, i1, i2, i3, i4, i5]) rfl ?_
      obtain ⟨q1, q2⟩ := head_made (d := ⟨6, 0, ByteArray.empty, [], 0⟩) (q := p + 1) H3.out.2.2.2.2.1 (by rw [H3.out.2.2.2.2.2]) (by simp [pay, encH]) (by simp [pay, encH])
      exact .inl ⟨⟨6, 0, ByteArray.empty, [], 0⟩, _, _, _, rfl, .inr (.inr (.inr (.inl ⟨rfl, rfl, rfl, rfl, rfl⟩))), by rw [q2]; exact hr.1.le, by exact ⟨none, 0, rfl, by simp, by simp, fun i c hi => by simp at hi⟩, by rw [q2]; exact hr.1, q1, hr.2⟩
    by_cases k8 : kk = 8
    · subst k8
      have e5 : w3.cell? ⟨w.heap.size, 5, none⟩ = some (.slice none 0 0) := by rw [cell_of_row w3 _ 5 _ _ _ H3.out.2.2.1]; rfl
      by_cases hok : ∃ s q, s.length ≤ 1099511627776 ∧ q = p + 1 + (encB s).length ∧ l.drop (p + 1) = encB s ++ l.drop q
      · obtain ⟨s, q, hs1, hs2, hs3⟩ := hok
        have HS := Lib.hid (And.intro (fun (wx : World) (hk : Kp (fun _ => False) w3 wx) => some_ok3 H3.out.1 hs1 hs3 hs2 hk) (And.intro hs1 (And.intro hs2 hs3)))
        clear hs1 hs2 hs3
        go_wp2_with fail
        try clear hw3 e0
        go_region_law (first
          | (refine step_fn (by rfl) 39 #[.tmp 41] #[88] (by rfl) cf_some #[.pointer (some ⟨R, 0, none⟩)] (by first | (simp [Act.eval]; done) | simp [Act.eval, Act.put]) ?_; refine (HS.out.1 _ (by first | exact Kp.refl _ _ | exact (Kp.refl _ _).drew)).mono ?_; rintro e w4 ⟨po, n, c, rfl, h1, h2, h3⟩; refine ⟨_, rfl, ?_⟩; obtain ⟨pa, na, ca, w5, hE⟩ := begin_bytes h1 (by have := HS.out.2.1; omega) h2 h3 H3.out.2.1 H3.out.2.2.1 H3.out.2.2.2.1; have HE := Lib.hid hE; clear hE h1 h2 h3; have g5 := HE.out.2.1; have g6 := HE.out.2.2.1; have f6 := HE.out.2.2.2.1; obtain ⟨w6, hwN⟩ : ∃ w6, w5.setCell ⟨w.heap.size, 5, none⟩ (.slice pa na ca) = w6 := ⟨_, rfl⟩)
          | (refine step_run (by rfl) (.tmp 40) (.tmp 42) 23 (by rfl) (.slice none 0 0) (.slice po n c) (by first | (simp [Act.eval]; done) | simp [Act.eval, Act.put]) (by first | (simp [Act.eval]; done) | simp [Act.eval, Act.put]) _ _ HE.out.1 ?_))
        all_goals
          have hk5 : Kp (fun q => q = w.heap.size) w5 w6 := by rw [← hwN]; exact (Kp.refl (fun q => q = w.heap.size) w5).setCell _ _ (.inl rfl)
          have hbxN : w6.heap[w.heap.size]? = some (.cells #[.int .i64 8, .int .i64 0, .string ⟨#[]⟩, .slice none 0 0, .slice none 0 0, .slice pa na ca] 25 (0, 0)) := by rw [← hwN]; exact heap_set_same HE.out.2.2.2.2.2.2.2.1 _
          obtain ⟨hrN, hkN⟩ := begin_store H3.out.2.2.2.1 hk5 HE.out.2.2.2.2.2.1 HE.out.2.2.2.2.2.2.1
          have H5 := Lib.hid hk5
          clear hk5 g5 g6 f6
          have e0 : w6.cell? ⟨w.heap.size, 0, none⟩ = some (.int .i64 8) := by rw [cell_of_row w6 _ 0 _ _ _ hbxN]; rfl
          have e1 : w6.cell? ⟨w.heap.size, 1, none⟩ = some (.int .i64 0) := by rw [cell_of_row w6 _ 1 _ _ _ hbxN]; rfl
          have e2 : w6.cell? ⟨w.heap.size, 2, none⟩ = some (.string ⟨#[]⟩) := by rw [cell_of_row w6 _ 2 _ _ _ hbxN]; rfl
          have e3 : w6.cell? ⟨w.heap.size, 3, none⟩ = some (.slice none 0 0) := by rw [cell_of_row w6 _ 3 _ _ _ hbxN]; rfl
          have e4 : w6.cell? ⟨w.heap.size, 4, none⟩ = some (.slice none 0 0) := by rw [cell_of_row w6 _ 4 _ _ _ hbxN]; rfl
          have e5 : w6.cell? ⟨w.heap.size, 5, none⟩ = some (.slice pa na ca) := by rw [cell_of_row w6 _ 5 _ _ _ hbxN]; rfl
          have ef : ∀ j, w6.frozen? ⟨w.heap.size, j, none⟩ = false := fun j => by simp [World.frozen?, hbxN]
          obtain ⟨hr9, hk9⟩ := sixSet_any (c0 := .int .i64 8) (c1 := .int .i64 0) (c2 := .string ⟨#[]⟩) (c3 := .slice none 0 0) (c4 := .slice none 0 0) (c5 := .slice pa na ca) hbxN
          have HN := Lib.hid (And.intro hr9 (And.intro hk9 (And.intro hrN hkN)))
          clear hr9 hk9 hrN hkN hbxN
          go_wp2_with fail
          change bodyPost _ _ _ _ _ (sixSet w6 w.heap.size (.int .i64 8) (.int .i64 0) (.string ⟨#[]⟩) (.slice none 0 0) (.slice none 0 0) (.slice pa na ca))
          clear e0 e1 e2 e3 e4 e5 ef
          try clear hwN
          obtain ⟨w9, hw9⟩ : ∃ w9, sixSet w6 w.heap.size (.int .i64 8) (.int .i64 0) (.string ⟨#[]⟩) (.slice none 0 0) (.slice none 0 0) (.slice pa na ca) = w9 := ⟨_, rfl⟩
          rw [hw9]
          obtain ⟨hr9, hk9, hrN, hkN⟩ := HN.out
          rw [hw9] at hr9 hk9
          have i0 : w9.cell? ⟨w.heap.size, 0, none⟩ = some (.int .i64 8) := by rw [cell_of_row w9 _ 0 _ _ _ hr9]; rfl
          have i1 : w9.cell? ⟨w.heap.size, 1, none⟩ = some (.int .i64 0) := by rw [cell_of_row w9 _ 1 _ _ _ hr9]; rfl
          have i2 : w9.cell? ⟨w.heap.size, 2, none⟩ = some (.string ⟨#[]⟩) := by rw [cell_of_row w9 _ 2 _ _ _ hr9]; rfl
          have i3 : w9.cell? ⟨w.heap.size, 3, none⟩ = some (.slice none 0 0) := by rw [cell_of_row w9 _ 3 _ _ _ hr9]; rfl
          have i4 : w9.cell? ⟨w.heap.size, 4, none⟩ = some (.slice none 0 0) := by rw [cell_of_row w9 _ 4 _ _ _ hr9]; rfl
          have i5 : w9.cell? ⟨w.heap.size, 5, none⟩ = some (.slice pa na ca) := by rw [cell_of_row w9 _ 5 _ _ _ hr9]; rfl
          have hr := begin_keep H3.out.2.2.2.1 hk9 hrN hkN
          refine bodyPost_ret (v := .tuple #[.agg #[.int .i64 8, .int .i64 0, .string ⟨#[]⟩, .slice none 0 0, .slice none 0 0, .slice pa na ca], .int .i64 0]) (by simp [results, Tryd.results59, go_sem, i0, i1, i2, i3, i4, i5]) rfl ?_
          obtain ⟨q1, q2⟩ := head_made (d := ⟨8, 0, ByteArray.empty, s, 0⟩) (q := q) H3.out.2.2.2.2.1 (by rw [H3.out.2.2.2.2.2]) (by rw [HS.out.2.2.1]; simp [pay, encH]) (by simpa [pay, encH] using HS.out.2.2.2)
          exact .inl ⟨⟨8, 0, ByteArray.empty, s, 0⟩, _, _, _, rfl, .inr (.inr (.inr (.inr ⟨rfl, HS.out.2.1, rfl, rfl, rfl⟩))), by rw [q2]; exact hr.1.le, (own_kp (own_kp HE.out.2.2.2.2.2.2.2.2.2 HE.out.2.2.2.2.2.2.2.2.1 H5.out) HE.out.2.2.2.2.2.2.2.2.1 hk9).imp (fun q e => ⟨Nat.le_trans (Nat.le_of_lt HE.out.2.2.2.2.2.2.2.2.1) e.1, e.2⟩) (fun _ _ _ _ e => e), by rw [q2]; exact hr.1, q1, hr.2⟩
      · have hno : ∀ s y, s.length ≤ 1099511627776 → l.drop (p + 1) ≠ encB s ++ y := fun s y hs e => hok ⟨s, p + 1 + (encB s).length, hs, rfl, by rw [e, ← List.drop_drop, e, List.drop_left]⟩
        have HS := Lib.hid (And.intro (fun (n : Nat) => some_no (H3.out.1.drewN n) hno) hno)
        clear hno hok
        go_wp2_with fail
        try clear hw3 e0
        have hdie : ∀ (n : Nat) (e : Ending) (w4 : World), RFail R (w3.drewN n) e w4 → ∃ c, e = .panicked c ∧ BegPost w R v l p (.panicked c) w4 := by
          rintro n e w4 ⟨v1, n1, ls, rfl, hf⟩
          refine ⟨_, rfl, .inr ⟨RFail.le ⟨v1, n1, ls, rfl, hf⟩ (H3.out.2.1.drewN n), fun d z hd _ e => ?_⟩⟩
          obtain ⟨hkd, e2⟩ := head_first H3.out.2.2.2.2.1 hd e
          rw [H3.out.2.2.2.2.2] at hkd
          exact HS.out.2 d.bys z (by unfold Hd.wf at hd; omega) (by rw [e2]; simp [pay, encH, hkd])
        have HD := Lib.hid ((HS.out.1 1).mono fun e w' h => hdie 1 e w' h)
        clear hdie
        refine wp_region_any (by kernel_rfl) ?_
        change wpAny _ _ _ _ _ _ _ (World.drew _)
        refine wpAny_take (i := 0) (v := ?_) rfl (by kernel_rfl) (by kernel_rfl) (by kernel_rfl) (fun _ _ _ h => h) (Or.inl ⟨by rfl, ?_⟩) ?_
        rotate_left
        · intro w; go_simp; with_reducible rfl
        refine wpAny_take (i := 2) (v := ?_) rfl (by kernel_rfl) (by kernel_rfl) (by kernel_rfl) (fun _ _ _ h => h) (Or.inl ⟨by rfl, ?_⟩) ?_
        rotate_left
        · intro w; go_simp; with_reducible rfl
        refine wpAny_ready (rs := [1, 3]) (by kernel_rfl) (by simp) ?_
        refine AllReady.cons rfl (fun K hK => ?_) ?_
        · go_simp
          refine hK _ _ ?_
          clear hK K
          refine wpAny_ready (rs := [3]) (by kernel_rfl) (by simp) ?_
          refine AllReady.cons rfl (fun K hK => ?_) AllReady.nil
          go_simp
          refine HD.out.mono ?_
          rintro e w4 ⟨c4, rfl, hb⟩
          go_wp2_with fail
          exact bodyPost_panic rfl hb
        · refine AllReady.cons rfl (fun K hK => ?_) AllReady.nil
          go_simp
          refine HD.out.mono ?_
          rintro e w4 ⟨c4, rfl, hb⟩
          go_wp2_with fail
          exact bodyPost_panic rfl hb
    go_wp2_with (go_at_call 38; refine (wrong_any _ _).mono ?_; rintro e w' ⟨rfl, rfl⟩)
    refine bodyPost_panic rfl (.inr ⟨rfail_wrong _ H3.out.2.1, fun d z hd _ e => ?_⟩)
    obtain ⟨hkd, _⟩ := head_first H3.out.2.2.2.2.1 hd e
    rw [H3.out.2.2.2.2.2] at hkd
    have := hd.kind
    omega
end Go.Proofs.YtaeoohjgdkablaaDoor
