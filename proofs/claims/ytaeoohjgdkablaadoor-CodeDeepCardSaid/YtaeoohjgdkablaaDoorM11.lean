/- A term's bytes; writeTerm. -/
import Derived.Test.YtaeoohjgdkablaaDoorM05
import Derived.Test.YtaeoohjgdkablaaDoorM10
import Derived.Deep.LoopGhost
/- A term's bytes; writeTerm. -/
namespace Go.Proofs.YtaeoohjgdkablaaDoor
open Go.RowKit

mutual
/-- a term's bytes -/
def encT : Tm → List UInt8
  | .mk k n s it re bys => UInt8.ofNat k.toNat :: (if k = 1 ∨ k = 3 ∨ k = 4 then encNat (zig n) else if k = 2 then encB s.data.toList else if k = 5 then encNat it.length ++ encTs it
      else if k = 7 then (encNat it.length ++ encTs it) ++ (encNat re.length ++ encTs re) else if k = 8 then encB bys else [])
/-- the bytes of terms, one behind the other -/
def encTs : List Tm → List UInt8
  | [] => []
  | t :: ts => encT t ++ encTs ts
end
/-- how many, and these -/
def encL (ts : List Tm) : List UInt8 := encNat ts.length ++ encTs ts
theorem encTs_append (a b : List Tm) : encTs (a ++ b) = encTs a ++ encTs b := by
  induction a with
  | nil => simp [encTs]
  | cons t a ih => simp [encTs, ih]
theorem encTs_take {ts : List Tm} {j : Nat} {t : Tm} (h : ts[j]? = some t) : encTs (ts.drop j) = encT t ++ encTs (ts.drop (j + 1)) := by
  obtain ⟨hl, rfl⟩ := List.getElem?_eq_some_iff.1 h
  rw [List.drop_eq_getElem_cons hl]
  simp [encTs]

/-- writeTerm of terms of a height -/
def WtIs (h : Nat) : Prop := ∀ (B : Nat) (T : Tm) (d : Nat) (w : World) (v : Value) (l : List UInt8) (cs : List Value), BufAt B w v l → TermAt (fun q => q < B) w h T cs → tok d T → (l ++ encT T).length + 40 ≤ 70368744177664 →
  Calls Tryd.prog 20 #[v, .agg cs.toArray] w (BufTo B w (l ++ encT T))

set_option maxRecDepth 100000 in
set_option maxHeartbeats 1000000 in
theorem wts_of {h : Nat} (ih : WtIs h) {B d : Nat} {ts : List Tm} {w : World} {v x : Value} {l : List UInt8} (hb : BufAt B w v l) (hx : ListAt (fun q => q < B) w (TermAt (fun q => q < B) w h) ts x) (ht : ∀ t ∈ ts, tok d t)
    (hl : (l ++ encL ts).length + 40 ≤ 70368744177664) : Calls Tryd.prog 33 #[v, x] w (BufTo B w (l ++ encL ts)) := by
  obtain ⟨po, cap, rfl, hx1, hx2, hx3⟩ := hx
  have Hx := Lib.hid (And.intro ih (And.intro hx3 ht))
  clear hx3 ih ht
  have Hl := Lib.hid hl
  unfold encL at hl
  simp only [List.length_append] at hl
  go_enter Tryd.func33, Tryd.ntmps33
  go_wp2_with fail
  refine (wcount_any ts.length hb (by omega) (by omega)).mono ?_
  rintro e w1 ⟨pb, k, c, rfl, hb1, hk1⟩
  have H1 := Lib.hid (And.intro hb1 hk1)
  clear hb1 hk1 hb hl
  go_wp2_with fail
  go_loopg [0, 13] ts.length (fun gk vv jj wr => ∃ (j : Nat) (cur : List UInt8), j ≤ ts.length ∧ gk = ts.length - j ∧ jj = .int .i64 j ∧ BufAt B wr vv cur ∧ cur ++ encTs (ts.drop j) = l ++ encL ts ∧ Kb B w wr)
  case atStart => exact ⟨0, _, by omega, rfl, rfl, H1.out.1, by rw [List.append_assoc]; rfl, H1.out.2⟩
  case round =>
    clear H1
    obtain ⟨j, cur, hj, rfl, rfl, hb, he, hk⟩ := hrel
    obtain ⟨pv, pc, rfl, _⟩ := hb.form
    by_cases hlt : j < ts.length
    · obtain ⟨t, hjt⟩ : ∃ t, ts[j]? = some t := ⟨ts[j], List.getElem?_eq_getElem hlt⟩
      obtain ⟨ih, hx3, htk⟩ := Hx.out
      obtain ⟨b, off, q0, q1, q2, q3, q4, q5, rfl, hF, a0, a1, a2, a3, a4, a5, htT⟩ := hx3 j t hjt
      obtain ⟨jk, jn, js, ja, jl, jc, ja2, jl2, jd, ja3, jl3, je, hq⟩ := htT.form
      simp only [List.cons.injEq, and_true] at hq
      obtain ⟨rfl, rfl, rfl, rfl, rfl, rfl⟩ := hq
      have kc : ∀ i u, w.cell? ⟨b, i, none⟩ = some u → wr.cell? ⟨b, i, none⟩ = some u := fun i u e => cells_kp hk (F := fun q => q < B) (fun q e e2 => by have := e2.1; omega) b i u hF e
      have x0 := kc _ _ a0
      have x1 := kc _ _ a1
      have x2 := kc _ _ a2
      have x3 := kc _ _ a3
      have x4 := kc _ _ a4
      have x5 := kc _ _ a5
      have hli : (j : Int) < ts.length := by omega
      have htr := hk.term htT
      have hsp := encTs_take hjt
      obtain ⟨wq, hwq⟩ : ∃ wq, wr.alloc (.cells #[.int .i64 jk, .int .i64 jn, .string js, .slice ja jl jc, .slice ja2 jl2 jd, .slice ja3 jl3 je] 25) = wq := ⟨_, rfl⟩
      have hkq : Kp (fun _ => False) wr wq := by rw [← hwq]; exact (Kp.refl _ wr).alloc _
      have hc := ih B t _ wq _ cur _ (hb.kp hkq) ((Kb.of hkq).term htr) (htk t (List.mem_of_getElem? hjt)) (by
        have := congrArg List.length he
        rw [hsp] at this
        have h2 := Hl.out
        simp only [List.length_append] at this h2 ⊢
        omega)
      have H := Lib.hid (And.intro hc (And.intro hwq (And.intro (hk.trans (Kb.of hkq)) (And.intro he hsp))))
      clear hc hwq hkq hk he hsp htr kc a0 a1 a2 a3 a4 a5 htT hjt hb hx3 ih htk
      go_wp2_with fail
      rw [H.out.2.1]
      refine H.out.1.mono ?_
      rintro e w5 ⟨pb2, k2, c2, rfl, hb5, hk5⟩
      have H5 := Lib.hid (And.intro hb5 hk5)
      clear hb5 hk5
      go_wp2_with fail
      go_roundg (ts.length - (j + 1))
      case measure => omega
      case rel => exact ⟨j + 1, _, by omega, rfl, by go_num, H5.out.1, by rw [← H.out.2.2.2.1, H.out.2.2.2.2, List.append_assoc], H.out.2.2.1.trans H5.out.2⟩
    · obtain rfl : j = ts.length := by omega
      have H5 := Lib.hid (And.intro hb (And.intro he hk))
      clear hb he hk
      go_wp2_with fail
      go_ret
      obtain ⟨q1, q2, q3⟩ := H5.out
      rw [List.drop_length, encTs, List.append_nil] at q2
      rw [← q2]
      exact ⟨_, _, _, rfl, q1, q3⟩

theorem tok_kind {d : Nat} {k n : Int} {s : ByteArray} {it re : List Tm} {bys : List UInt8} (h : tok d (.mk k n s it re bys)) : k = 1 ∨ k = 2 ∨ k = 3 ∨ k = 4 ∨ k = 5 ∨ k = 6 ∨ k = 7 ∨ k = 8 := by
  have hf := tok_fits h
  unfold fitsB fitsK at hf
  by_cases h1 : k = 1
  · exact .inl h1
  by_cases h2 : k = 2
  · exact .inr (.inl h2)
  by_cases h3 : k = 3
  · exact .inr (.inr (.inl h3))
  by_cases h4 : k = 4
  · exact .inr (.inr (.inr (.inl h4)))
  by_cases h5 : k = 5
  · exact .inr (.inr (.inr (.inr (.inl h5))))
  by_cases h6 : k = 6
  · exact .inr (.inr (.inr (.inr (.inr (.inl h6)))))
  by_cases h7 : k = 7
  · exact .inr (.inr (.inr (.inr (.inr (.inr (.inl h7))))))
  by_cases h8 : k = 8
  · exact .inr (.inr (.inr (.inr (.inr (.inr (.inr h8))))))
  simp [h1, h2, h3, h4, h5, h6, h7, h8] at hf

set_option maxRecDepth 100000 in
set_option maxHeartbeats 4000000 in
theorem wt_succ {h : Nat} (ih : WtIs h) : WtIs (h + 1) := by
  intro B T d w v l cs hb hT htok hl
  obtain ⟨k, n, s, it, re, bys⟩ := T
  have hkind := tok_kind htok
  have htp : ∀ t ∈ it ++ re, tok (d - 1) t := by
    cases d with
    | zero => exact htok.elim
    | succ d => exact fun t ht => (List.mem_append.1 ht).elim (htok.2.1 t) (htok.2.2 t)
  obtain ⟨vi, vr, vb, rfl, hbd, h1, h2, h3⟩ := hT
  obtain ⟨pi, li, ci, hvi⟩ := h1.form
  obtain ⟨pr, lr, cr, hvr⟩ := h2.form
  obtain ⟨pb, lb, cb, hvb⟩ := h3.form
  subst hvi hvr hvb
  obtain ⟨pv, pc, rfl, _⟩ := hb.form
  obtain ⟨w1, hw1⟩ : ∃ w1, w.alloc (.cells #[.int .i64 k, .int .i64 n, .string s, .slice pi li ci, .slice pr lr cr, .slice pb lb cb] 25) = w1 := ⟨_, rfl⟩
  have hk1 : Kp (fun _ => False) w w1 := by rw [← hw1]; exact (Kp.refl _ w).alloc _
  have hbx : w1.heap[w.heap.size]? = some (.cells #[.int .i64 k, .int .i64 n, .string s, .slice pi li ci, .slice pr lr cr, .slice pb lb cb] 25 (0, 0)) := by rw [← hw1]; exact heap_alloc_new w _
  have hkw : UInt8.ofNat k.toNat = UInt8.ofNat k.toNat ∧ ((UInt8.ofNat k.toNat).toNat : Int) = k := ⟨rfl, by rw [u8_of (by omega)]; omega⟩
  have hL : l.length + (encT (.mk k n s it re bys)).length + 40 ≤ 70368744177664 := by simp only [List.length_append] at hl; omega
  obtain ⟨po, pn, cp, w2, hr, hb2, hk2⟩ := app_one (UInt8.ofNat k.toNat) (hb.kp hk1) (by rw [encT] at hL; simp at hL ⊢; omega)
  rw [hkw.2] at hr
  have hbx2 := hk2.heap (by decide) hbx
  have hk02 : Kb B w w2 := (Kb.of hk1).trans hk2
  have c0 : w1.cell? ⟨w.heap.size, 0, none⟩ = some (.int .i64 k) := by rw [cell_of_row w1 _ 0 _ _ _ hbx]; rfl
  have d0 : w2.cell? ⟨w.heap.size, 0, none⟩ = some (.int .i64 k) := by rw [cell_of_row w2 _ 0 _ _ _ hbx2]; rfl
  have d1 : w2.cell? ⟨w.heap.size, 1, none⟩ = some (.int .i64 n) := by rw [cell_of_row w2 _ 1 _ _ _ hbx2]; rfl
  have d2 : w2.cell? ⟨w.heap.size, 2, none⟩ = some (.string s) := by rw [cell_of_row w2 _ 2 _ _ _ hbx2]; rfl
  have d3 : w2.cell? ⟨w.heap.size, 3, none⟩ = some (.slice pi li ci) := by rw [cell_of_row w2 _ 3 _ _ _ hbx2]; rfl
  have d5 : w2.cell? ⟨w.heap.size, 5, none⟩ = some (.slice pb lb cb) := by rw [cell_of_row w2 _ 5 _ _ _ hbx2]; rfl
  have hz1 : w1.heap.size = w.heap.size + 1 := by rw [← hw1]; simp
  rw [hz1] at hr
  have H := Lib.hid (And.intro hr (And.intro hb2 (And.intro hk02 (And.intro hbx2 (And.intro hL (And.intro hbd (And.intro htp (And.intro ih (And.intro (h1.imp (fun _ e => e) (fun b j u e c => cells_kp hk02 (F := fun q => q < B) (fun q e e2 => by have := e2.1; omega) b j u e c) (fun t cs e => hk02.term e)) (And.intro (h2.imp (fun _ e => e) (fun b j u e c => cells_kp hk02 (F := fun q => q < B) (fun q e e2 => by have := e2.1; omega) b j u e c) (fun t cs e => hk02.term e)) (hk02.bytes h3)))))))))))
  clear hr hb2 hk02 hbx2 hL hbd htp ih h1 h2 h3 hb hk1 hk2 hbx htok hkw hl
  rcases hkind with rfl | rfl | rfl | rfl | rfl | rfl | rfl | rfl
  · go_enter Tryd.func20, Tryd.ntmps20
    go_wp2_with (at_builtin; refine wpList_run rfl (.tmp 5) (.tmp 9) 23 rfl (.slice pv l.length pc) (.slice (some ⟨w.heap.size + 1, 0, none⟩) 1 1) rfl rfl _ _ H.out.1 ?_)
    obtain ⟨hr, hb2, hk02, hbx2, hL, hbd, htp, ih, h1, h2, h3⟩ := H.out
    rw [encT] at hL
    simp at hL
    refine (wsigned_any n hb2 hbd.2.2.1 hbd.2.2.2.1 (by simp only [List.length_append, List.length_singleton]; omega)).mono ?_
    rintro e w5 ⟨pb2, k2, c2, rfl, hb5, hk5⟩
    have H5 := Lib.hid (And.intro hb5 (hk02.trans hk5))
    clear hb5 hk5 hr hb2 hk02 hbx2 hL hbd htp ih h1 h2 h3
    go_wp2_with fail
    go_ret
    obtain ⟨q1, q2⟩ := H5.out
    rw [List.append_assoc] at q1
    exact ⟨_, _, _, rfl, q1, q2⟩
  · go_enter Tryd.func20, Tryd.ntmps20
    go_wp2_with (at_builtin; refine wpList_run rfl (.tmp 5) (.tmp 9) 23 rfl (.slice pv l.length pc) (.slice (some ⟨w.heap.size + 1, 0, none⟩) 1 1) rfl rfl _ _ H.out.1 ?_)
    obtain ⟨hr, hb2, hk02, hbx2, hL, hbd, htp, ih, h1, h2, h3⟩ := H.out
    rw [encT] at hL
    simp [encB] at hL
    have hs : s.data.toList.length = s.size := Array.length_toList
    refine (wbytes_string s hb2 (by simp only [List.length_append, List.length_singleton]; have : s.data.size = s.size := rfl; omega)).mono ?_
    rintro e w5 ⟨pb2, k2, c2, rfl, hb5, hk5⟩
    have H5 := Lib.hid (And.intro hb5 (hk02.trans hk5))
    clear hs hb5 hk5 hr hb2 hk02 hbx2 hL hbd htp ih h1 h2 h3
    go_wp2_with fail
    go_ret
    obtain ⟨q1, q2⟩ := H5.out
    rw [List.append_assoc] at q1
    exact ⟨_, _, _, rfl, q1, q2⟩
  · go_enter Tryd.func20, Tryd.ntmps20
    go_wp2_with (at_builtin; refine wpList_run rfl (.tmp 5) (.tmp 9) 23 rfl (.slice pv l.length pc) (.slice (some ⟨w.heap.size + 1, 0, none⟩) 1 1) rfl rfl _ _ H.out.1 ?_)
    obtain ⟨hr, hb2, hk02, hbx2, hL, hbd, htp, ih, h1, h2, h3⟩ := H.out
    rw [encT] at hL
    simp at hL
    refine (wsigned_any n hb2 hbd.2.2.1 hbd.2.2.2.1 (by simp only [List.length_append, List.length_singleton]; omega)).mono ?_
    rintro e w5 ⟨pb2, k2, c2, rfl, hb5, hk5⟩
    have H5 := Lib.hid (And.intro hb5 (hk02.trans hk5))
    clear hb5 hk5 hr hb2 hk02 hbx2 hL hbd htp ih h1 h2 h3
    go_wp2_with fail
    go_ret
    obtain ⟨q1, q2⟩ := H5.out
    rw [List.append_assoc] at q1
    exact ⟨_, _, _, rfl, q1, q2⟩
  · go_enter Tryd.func20, Tryd.ntmps20
    go_wp2_with (at_builtin; refine wpList_run rfl (.tmp 5) (.tmp 9) 23 rfl (.slice pv l.length pc) (.slice (some ⟨w.heap.size + 1, 0, none⟩) 1 1) rfl rfl _ _ H.out.1 ?_)
    obtain ⟨hr, hb2, hk02, hbx2, hL, hbd, htp, ih, h1, h2, h3⟩ := H.out
    rw [encT] at hL
    simp at hL
    refine (wsigned_any n hb2 hbd.2.2.1 hbd.2.2.2.1 (by simp only [List.length_append, List.length_singleton]; omega)).mono ?_
    rintro e w5 ⟨pb2, k2, c2, rfl, hb5, hk5⟩
    have H5 := Lib.hid (And.intro hb5 (hk02.trans hk5))
    clear hb5 hk5 hr hb2 hk02 hbx2 hL hbd htp ih h1 h2 h3
    go_wp2_with fail
    go_ret
    obtain ⟨q1, q2⟩ := H5.out
    rw [List.append_assoc] at q1
    exact ⟨_, _, _, rfl, q1, q2⟩
  · go_enter Tryd.func20, Tryd.ntmps20
    go_wp2_with (at_builtin; refine wpList_run rfl (.tmp 5) (.tmp 9) 23 rfl (.slice pv l.length pc) (.slice (some ⟨w.heap.size + 1, 0, none⟩) 1 1) rfl rfl _ _ H.out.1 ?_)
    obtain ⟨hr, hb2, hk02, hbx2, hL, hbd, htp, ih, h1, h2, h3⟩ := H.out
    rw [encT] at hL
    simp at hL
    refine (wts_of ih hb2 h1 (fun t ht => htp t (List.mem_append_left _ ht)) (by unfold encL; simp only [List.length_append, List.length_singleton]; omega)).mono ?_
    rintro e w5 ⟨pb2, k2, c2, rfl, hb5, hk5⟩
    have H5 := Lib.hid (And.intro hb5 (hk02.trans hk5))
    clear hb5 hk5 hr hb2 hk02 hbx2 hL hbd htp ih h1 h2 h3
    go_wp2_with fail
    go_ret
    obtain ⟨q1, q2⟩ := H5.out
    rw [List.append_assoc] at q1
    exact ⟨_, _, _, rfl, q1, q2⟩
  · go_enter Tryd.func20, Tryd.ntmps20
    go_wp2_with (at_builtin; refine wpList_run rfl (.tmp 5) (.tmp 9) 23 rfl (.slice pv l.length pc) (.slice (some ⟨w.heap.size + 1, 0, none⟩) 1 1) rfl rfl _ _ H.out.1 ?_)
    go_ret
    exact ⟨_, _, _, rfl, H.out.2.1, H.out.2.2.1⟩
  · go_enter Tryd.func20, Tryd.ntmps20
    go_wp2_with (at_builtin; refine wpList_run rfl (.tmp 5) (.tmp 9) 23 rfl (.slice pv l.length pc) (.slice (some ⟨w.heap.size + 1, 0, none⟩) 1 1) rfl rfl _ _ H.out.1 ?_)
    obtain ⟨hr, hb2, hk02, hbx2, hL, hbd, htp, ih, h1, h2, h3⟩ := H.out
    rw [encT] at hL
    simp at hL
    refine (wts_of ih hb2 h1 (fun t ht => htp t (List.mem_append_left _ ht)) (by unfold encL; simp only [List.length_append, List.length_singleton]; omega)).mono ?_
    rintro e w5 ⟨pb2, k2, c2, rfl, hb5, hk5⟩
    have hbx5 := hk5.heap (by decide) hbx2
    have d4 : w5.cell? ⟨w.heap.size, 4, none⟩ = some (.slice pr lr cr) := by rw [cell_of_row w5 _ 4 _ _ _ hbx5]; rfl
    have h25 := h2.imp (w' := w5) (fun _ e => e) (fun b j u e c => cells_kp hk5 (F := fun q => q < B) (fun q e e2 => by have := e2.1; omega) b j u e c) (fun t cs e => hk5.term e)
    have H5 := Lib.hid (And.intro hb5 (And.intro (hk02.trans hk5) (And.intro h25 hL)))
    clear hb5 hk5 hr hb2 hk02 hbx2 hL hbd htp ih h1 h2 h3 hbx5 h25
    go_wp2_with fail
    obtain ⟨_, _, _, _, _, _, htp, ih, _⟩ := H.out
    refine (wts_of ih H5.out.1 H5.out.2.2.1 (fun t ht => htp t (List.mem_append_right _ ht)) (by have := H5.out.2.2.2; unfold encL; simp only [List.length_append, List.length_singleton]; omega)).mono ?_
    rintro e w6 ⟨pb6, k6, c6, rfl, hb6, hk6⟩
    have H6 := Lib.hid (And.intro hb6 (H5.out.2.1.trans hk6))
    clear hb6 hk6 htp ih
    go_wp2_with fail
    go_ret
    obtain ⟨q1, q2⟩ := H6.out
    rw [List.append_assoc, List.append_assoc] at q1
    exact ⟨_, _, _, rfl, q1, q2⟩
  · go_enter Tryd.func20, Tryd.ntmps20
    go_wp2_with (at_builtin; refine wpList_run rfl (.tmp 5) (.tmp 9) 23 rfl (.slice pv l.length pc) (.slice (some ⟨w.heap.size + 1, 0, none⟩) 1 1) rfl rfl _ _ H.out.1 ?_)
    obtain ⟨hr, hb2, hk02, hbx2, hL, hbd, htp, ih, h1, h2, h3⟩ := H.out
    rw [encT] at hL
    simp [encB] at hL
    refine (wbytes_bytes hb2 h3 (by simp only [List.length_append, List.length_singleton]; omega)).mono ?_
    rintro e w5 ⟨pb2, k2, c2, rfl, hb5, hk5⟩
    have H5 := Lib.hid (And.intro hb5 (hk02.trans hk5))
    clear hb5 hk5 hr hb2 hk02 hbx2 hL hbd htp ih h1 h2 h3
    go_wp2_with fail
    go_ret
    obtain ⟨q1, q2⟩ := H5.out
    rw [List.append_assoc] at q1
    exact ⟨_, _, _, rfl, q1, q2⟩

theorem wt_all : ∀ h, WtIs h
  | 0 => fun _ _ _ _ _ _ _ _ ht => ht.elim
  | h + 1 => wt_succ (wt_all h)
end Go.Proofs.YtaeoohjgdkablaaDoor
