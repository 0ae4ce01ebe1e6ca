/- The document's own wheel: find, Get, Start, Cancel. -/
import Derived.Test.YtmekhijmghddiaaWhRef1
namespace Go.Proofs.Ytmekhijmghddiaa
open Go.RowKit

section
variable {F G H : Nat → Prop} {w w' : World} {b most now fresh : Nat} {ts : List Tm} {id : Int} {t : Tm}
theorem tmOf_at {i : Nat} (hi : ts[i]? = some t) (he : (t.id : Int) = id) (hno : ∀ j x, j < i → ts[j]? = some x → (x.id : Int) ≠ id) : tmOf ts id = some t := by
  have hlt := (List.getElem?_eq_some_iff.1 hi).1
  have h1 : ts = ts.take i ++ t :: ts.drop (i + 1) := by
    have h2 := List.drop_eq_getElem_cons hlt
    rw [(List.getElem?_eq_some_iff.1 hi).2] at h2
    rw [← h2, List.take_append_drop]
  unfold tmOf
  rw [h1, List.find?_append, List.find?_eq_none.2 (fun x hx => ?_)]
  · simp [he]
  · obtain ⟨j, hj, e⟩ := List.mem_iff_getElem.1 hx
    rw [List.getElem_take] at e
    have := hno j x (by simp at hj; omega) (by rw [List.getElem?_eq_getElem (by simp at hj; omega), e])
    simpa using this
def FindIs (ts : List Tm) (id : Int) (w : World) (e : Ending) (w' : World) : Prop :=
  w = w' ∧ ((e = .returned (.int .i64 (-1)) ∧ tmOf ts id = none) ∨ ∃ i t, e = .returned (.int .i64 (i : Nat)) ∧ ts[i]? = some t ∧ tmOf ts id = some t)
set_option maxRecDepth 100000 in
set_option maxHeartbeats 2000000 in
theorem xfind_any (h : RW w G b most now fresh ts) (id : Int) : Calls Try.prog 37 #[.pointer (some ⟨b, 0, none⟩), .int .i64 id] w (FindIs ts id w) := by
  obtain ⟨v, h1, h2, -⟩ := h
  obtain ⟨-, -, -, c3, -⟩ := rw_facts h1
  obtain ⟨po, cap, rfl, hcap, hcap2⟩ := ownsS_form h2
  have HO := Lib.hid h2
  obtain ⟨n, hn⟩ : ∃ n, ts.length = n := ⟨_, rfl⟩
  have HN := Lib.hid hn
  rw [hn] at c3 hcap
  clear h1 h2 hn
  go_enter Try.func37, Try.ntmps37
  go_wp2_with fail
  go_loopg [5] n (fun gk s5 wr => ∃ i : Nat, i ≤ n ∧ gk = n - i ∧ s5 = .int .i64 (i : Nat) ∧ Hid (∀ j x, j < i → ts[j]? = some x → (x.id : Int) ≠ id) ∧ w = wr)
  case atStart => exact ⟨0, by omega, rfl, rfl, Lib.hid (fun j x hj => by omega), rfl⟩
  case round =>
    obtain ⟨i, hi, rfl, rfl, HNO, rfl⟩ := hrel
    by_cases hlt : i < n
    · have hli : (i : Int) < n := by omega
      have hil : i < ts.length := by rw [HN.out]; exact hlt
      obtain ⟨t, ht⟩ : ∃ t, ts[i]? = some t := ⟨ts[i], List.getElem?_eq_getElem hil⟩
      obtain ⟨q0, q1, q2⟩ := qcells_get ts i t ht
      obtain ⟨g, cp, e1, -, -, d0⟩ := ownsS_get HO.out _ _ q0
      obtain ⟨rfl, rfl⟩ : po = some ⟨g, 0, none⟩ ∧ cap = cp := by
        injection e1 with e1 _ e2
        exact ⟨e1, e2⟩
      have HT := Lib.hid ht
      by_cases he : (t.id : Int) = id
      · obtain ⟨I, hI⟩ : ∃ I, t.id = I := ⟨_, rfl⟩
        have HI := Lib.hid (And.intro hI he)
        rw [hI] at d0 he
        subst he
        clear ht q0 q1 q2 e1 hI hil
        go_wp2_with fail
        go_ret
        exact ⟨rfl, .inr ⟨i, t, rfl, HT.out, tmOf_at HT.out HI.out.2 HNO.out⟩⟩
      · obtain ⟨I, hI⟩ : ∃ I, t.id = I := ⟨_, rfl⟩
        have HI := Lib.hid (And.intro hI he)
        rw [hI] at d0 he
        clear ht q0 q1 q2 e1 hI hil
        go_wp2_with fail
        go_roundg (n - (i + 1))
        case measure => omega
        case rel =>
          refine ⟨i + 1, by omega, rfl, by go_num, Lib.hid ?_, rfl⟩
          intro j x hj hx
          by_cases ej : j = i
          · subst ej
            rw [HT.out] at hx
            obtain rfl := Option.some.inj hx
            exact HI.out.2
          · exact HNO.out j x (by omega) hx
    · obtain rfl : n = i := by omega
      go_wp2_with fail
      go_ret
      refine ⟨rfl, .inl ⟨rfl, ?_⟩⟩
      unfold tmOf
      rw [List.find?_eq_none]
      intro x hx
      obtain ⟨j, hj, e⟩ := List.mem_iff_getElem.1 hx
      have := HNO.out j x (by rw [← HN.out]; exact hj) (by rw [List.getElem?_eq_getElem hj, e])
      simpa using this

theorem heap_setq {w : World} {b i : Nat} {cs : Array Value} {T : TypeId} {fr : Nat × Nat} (hb : w.heap[b]? = some (.cells cs T fr)) (v : Value) :
    (w.setCell ⟨b, i, none⟩ v).heap[b]? = some (.cells (cs.setIfInBounds i v) T fr) := by
  simp [World.setCell, Array.getElem?_modify, hb]
def tcSet (w : World) (A : Nat) (c0 c1 c2 : Value) : World := ((w.setCell ⟨A, 0, none⟩ c0).setCell ⟨A, 1, none⟩ c1).setCell ⟨A, 2, none⟩ c2
theorem tcSet_any {w : World} {A : Nat} {d0 d1 d2 c0 c1 c2 : Value} {T : TypeId} (h : w.heap[A]? = some (.cells #[d0, d1, d2] T (0, 0))) :
    (tcSet w A c0 c1 c2).heap[A]? = some (.cells #[c0, c1, c2] T (0, 0)) ∧ Kp (fun q => q = A) w (tcSet w A c0 c1 c2) :=
  ⟨heap_setq (heap_setq (heap_setq h _) _) _, (((Kp.refl (fun q => q = A) w).setCell _ _ (.inl rfl)).setCell _ _ (.inl rfl)).setCell _ _ (.inl rfl)⟩
theorem tc_facts {w : World} {A : Nat} {c0 c1 c2 : Value} {T : TypeId} (h : w.heap[A]? = some (.cells #[c0, c1, c2] T (0, 0))) :
    w.cell? ⟨A, 0, none⟩ = some c0 ∧ w.cell? ⟨A, 1, none⟩ = some c1 ∧ w.cell? ⟨A, 2, none⟩ = some c2 ∧ ∀ j, w.frozen? ⟨A, j, none⟩ = false :=
  ⟨by rw [cell_of_row w A 0 _ _ _ h]; rfl, by rw [cell_of_row w A 1 _ _ _ h]; rfl, by rw [cell_of_row w A 2 _ _ _ h]; rfl, fun j => by simp [World.frozen?, h]⟩
theorem kp_hide {w w1 w2 : World} {A : Nat} (h1 : Kp (fun _ => False) w w1) (h2 : Kp (fun q => q = A) w1 w2) (hA : w.heap.size ≤ A) : Kp (fun _ => False) w w2 :=
  h1.trans (h2.mono fun q hq e => .inr ⟨by omega, hq⟩)

def GetIs (ts : List Tm) (op : ByteArray) (id : Int) (w : World) (e : Ending) (w' : World) : Prop :=
  (∃ t, tmOf ts id = some t ∧ e = .returned (.tuple #[.agg #[.int .i64 (t.id : Nat), .int .i64 (t.due : Nat), .int .i64 t.wht], .pointer none]) ∧ Kp (fun _ => False) w w') ∨
    (tmOf ts id = none ∧ XBad w (fun v => .tuple #[.agg #[.int .i64 0, .int .i64 0, .int .i64 0], v]) [Lk.fault op (id % 2147483648), Lk.kind 3] e w')
set_option maxRecDepth 100000 in
set_option maxHeartbeats 4000000 in
theorem xget_any (h : RW w G b most now fresh ts) (op : ByteArray) (id : Int) : Calls Try.prog 19 #[.pointer (some ⟨b, 0, none⟩), .string op, .int .i64 id] w (GetIs ts op id w) := by
  obtain ⟨w1, hw1⟩ : ∃ w1, w.alloc (.cells #[.int .i64 0, .int .i64 0, .int .i64 0] 46) = w1 := ⟨_, rfl⟩
  have hk1 : Kp (fun _ => False) w w1 := by rw [← hw1]; exact (Kp.refl _ w).alloc _
  have hc1 : w1.heap[w.heap.size]? = some (.cells #[.int .i64 0, .int .i64 0, .int .i64 0] 46 (0, 0)) := by rw [← hw1]; exact heap_alloc_new w _
  have h' := h.same hk1
  have HF := Lib.hid (xfind_any h' id)
  have hsz : ∀ q, G q → q < w.heap.size := h.lt
  obtain ⟨v, h1, h2, h3, h4, h5⟩ := h'
  obtain ⟨-, -, -, c3, -⟩ := rw_facts h1
  obtain ⟨po, cap, rfl, hcap, hcap2⟩ := ownsS_form h2
  obtain ⟨a0, a1, a2, af⟩ := tc_facts hc1
  have HO := Lib.hid (And.intro h2 (And.intro hk1 hc1))
  have hbs : b < w.heap.size := hsz b h3
  obtain ⟨n, hn⟩ : ∃ n, ts.length = n := ⟨_, rfl⟩
  have HN := Lib.hid hn
  rw [hn] at c3 hcap
  clear h1 h2 hn h h3 h4 h5 hsz hk1 hc1
  go_enter Try.func19, Try.ntmps19
  go_wp2_with fail
  refine HF.out.mono ?_
  rintro e w2 ⟨rfl, (⟨rfl, hno⟩ | ⟨i, t, rfl, hi, ht⟩)⟩
  · obtain ⟨w3, hw3⟩ : ∃ w3, (w1.alloc (.cells #[.string ByteArray.empty, .int .i64 0, .pointer none, .int .i64 3] 108)).alloc (.cells #[.string op, .int .i64 (id % 2147483648), .pointer (some ⟨w1.heap.size, 0, none⟩), .int .i64 0] 108) = w3 := ⟨_, rfl⟩
    have hx3 : w3.heap[w1.heap.size + 1]? = some (.cells #[.string op, .int .i64 (id % 2147483648), .pointer (some ⟨w1.heap.size, 0, none⟩), .int .i64 0] 108 (0, 0)) := by
      rw [← hw3]
      have := heap_alloc_new (w1.alloc (.cells #[.string ByteArray.empty, .int .i64 0, .pointer none, .int .i64 3] 108)) (.cells #[.string op, .int .i64 (id % 2147483648), .pointer (some ⟨w1.heap.size, 0, none⟩), .int .i64 0] 108)
      rw [show (w1.alloc (.cells #[.string ByteArray.empty, .int .i64 0, .pointer none, .int .i64 3] 108)).heap.size = w1.heap.size + 1 by simp] at this
      exact this
    have hx4 : w3.heap[w1.heap.size]? = some (.cells #[.string ByteArray.empty, .int .i64 0, .pointer none, .int .i64 3] 108 (0, 0)) := by
      rw [← hw3]
      exact (Below.heap_alloc _ _ _ (by simp)).trans (heap_alloc_new w1 _)
    have hk3 : Kp (fun _ => False) w1 w3 := by rw [← hw3]; exact ((Kp.refl (fun _ => False) w1).alloc _).alloc _
    have hz : w.heap.size < w1.heap.size := (Array.getElem?_eq_some_iff.1 HO.out.2.2).1
    have hc3 := (hk3.block w.heap.size hz (fun e => e)).trans HO.out.2.2
    obtain ⟨b0, b1, b2, bf⟩ := tc_facts hc3
    have HX := Lib.hid (And.intro hx3 (And.intro hx4 (And.intro hk3 (And.intro hc3 hz))))
    clear hx3 hx4 hk3 hc3 hz
    go_wp2_with (first | (go_at_call 38; refine (low_any _ _).mono ?_; rintro e wc ⟨rfl, rfl⟩) | (go_at_call 29; refine (k_any _ _).mono ?_; rintro e wc ⟨rfl, rfl⟩) | (go_at_call 28; refine (f13_any _ _ _ _).mono ?_; rintro e wc ⟨rfl, hwc⟩; rw [hw3] at hwc; have hwc := hwc.symm; subst hwc; clear hw3))
    change bodyPost _ _ _ _ _ (tcSet w3 w.heap.size (.int .i64 0) (.int .i64 0) (.int .i64 0))
    clear b0 b1 b2 bf a0 a1 a2 af c3 hcap hcap2
    obtain ⟨hx3, hx4, hk3, hc3, hz⟩ := HX.out
    obtain ⟨hr, hkr⟩ := tcSet_any (c0 := .int .i64 0) (c1 := .int .i64 0) (c2 := .int .i64 0) hc3
    obtain ⟨w5, hw5⟩ : ∃ w5, tcSet w3 w.heap.size (.int .i64 0) (.int .i64 0) (.int .i64 0) = w5 := ⟨_, rfl⟩
    rw [hw5] at hr hkr ⊢
    obtain ⟨i0, i1, i2, -⟩ := tc_facts hr
    have hz3 : w1.heap.size + 1 < w3.heap.size := (Array.getElem?_eq_some_iff.1 hx3).1
    refine bodyPost_ret (v := .tuple #[.agg #[.int .i64 0, .int .i64 0, .int .i64 0], .pointer (some ⟨w1.heap.size + 1, 0, none⟩)]) (by simp [results, Try.results19, go_sem, i0, i1, i2]) rfl ?_
    refine .inr ⟨hno, _, rfl, .inr ⟨rfl, by simp, w1.heap.size + 1, w1.heap.size, rfl, ?_, .inl ⟨rfl, _, rfl, ?_, rfl, rfl⟩⟩, kp_hide (HO.out.2.1.trans' hk3) hkr (Nat.le_refl _)⟩
    · exact (hkr.block _ hz3 (by omega)).trans hx3
    · exact (hkr.block _ (by omega) (by omega)).trans hx4
  · have hin : i < n := by
      have := (List.getElem?_eq_some_iff.1 hi).1
      have := HN.out
      omega
    obtain ⟨q0, q1, q2⟩ := qcells_get ts i t hi
    obtain ⟨g, cp, e1, -, -, d0⟩ := ownsS_get HO.out.1 _ _ q0
    obtain ⟨_, _, e2, -, -, d1⟩ := ownsS_get HO.out.1 _ _ q1
    obtain ⟨_, _, e3, -, -, d2⟩ := ownsS_get HO.out.1 _ _ q2
    obtain ⟨rfl, rfl⟩ : po = some ⟨g, 0, none⟩ ∧ cap = cp := by
      injection e1 with e1 _ e2
      exact ⟨e1, e2⟩
    cases e2
    cases e3
    obtain ⟨I, hI⟩ : ∃ I, t.id = I := ⟨_, rfl⟩
    obtain ⟨D, hD⟩ : ∃ D, t.due = D := ⟨_, rfl⟩
    obtain ⟨V, hV⟩ : ∃ V, t.wht = V := ⟨_, rfl⟩
    have HT := Lib.hid (And.intro ht (And.intro hI (And.intro hD hV)))
    rw [hI] at d0
    rw [hD] at d1
    rw [hV] at d2
    clear e1 q0 q1 q2 hi ht hI hD hV
    go_wp2_with fail
    change bodyPost _ _ _ _ _ (tcSet w1 w.heap.size (.int .i64 (I : Nat)) (.int .i64 (D : Nat)) (.int .i64 V))
    clear d0 d1 d2 a0 a1 a2 af c3
    obtain ⟨hr, hkr⟩ := tcSet_any (c0 := .int .i64 (I : Nat)) (c1 := .int .i64 (D : Nat)) (c2 := .int .i64 V) HO.out.2.2
    obtain ⟨w5, hw5⟩ : ∃ w5, tcSet w1 w.heap.size (.int .i64 (I : Nat)) (.int .i64 (D : Nat)) (.int .i64 V) = w5 := ⟨_, rfl⟩
    rw [hw5] at hr hkr ⊢
    obtain ⟨i0, i1, i2, -⟩ := tc_facts hr
    obtain ⟨ht, rfl, rfl, rfl⟩ := HT.out
    refine bodyPost_ret (v := .tuple #[.agg #[.int .i64 (t.id : Nat), .int .i64 (t.due : Nat), .int .i64 t.wht], .pointer none]) (by simp [results, Try.results19, go_sem, i0, i1, i2]) rfl ?_
    exact .inl ⟨t, ht, rfl, kp_hide HO.out.2.1 hkr (Nat.le_refl _)⟩
end
end Go.Proofs.Ytmekhijmghddiaa
