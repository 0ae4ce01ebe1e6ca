/- The document's own wheel: Cancel. -/
import Derived.Test.YtmekhijmghddiaaWhRef3
namespace Go.Proofs.Ytmekhijmghddiaa
open Go.RowKit

section
variable {v : Value} {F G H : Nat → Prop} {w w' : World} {b most now fresh : Nat} {ts : List Tm} {id : Int} {t : Tm}
theorem without_at {i : Nat} (hi : ts[i]? = some t) (he : (t.id : Int) = id) (hnd : (ts.map Tm.id).Nodup) : without ts id = ts.take i ++ ts.drop (i + 1) := by
  have hlt := (List.getElem?_eq_some_iff.1 hi).1
  have h1 : ts = ts.take i ++ t :: ts.drop (i + 1) := by
    have h2 := List.drop_eq_getElem_cons hlt
    rw [(List.getElem?_eq_some_iff.1 hi).2] at h2
    rw [← h2, List.take_append_drop]
  rw [h1, List.map_append, List.map_cons, List.nodup_append] at hnd
  obtain ⟨-, h3, h4⟩ := hnd
  have e1 : (ts.take i).filter (fun t => !decide ((t.id : Int) = id)) = ts.take i := List.filter_eq_self.2 fun x hx => by
    have := h4 x.id (List.mem_map.2 ⟨x, hx, rfl⟩) t.id (by simp)
    simp
    omega
  have e2 : (ts.drop (i + 1)).filter (fun t => !decide ((t.id : Int) = id)) = ts.drop (i + 1) := List.filter_eq_self.2 fun x hx => by
    have := (List.nodup_cons.1 h3).1
    have : x.id ≠ t.id := fun e => this (e ▸ List.mem_map.2 ⟨x, hx, rfl⟩)
    simp
    omega
  unfold without
  conv => lhs; rw [h1]
  rw [List.filter_append, List.filter_cons, e1, e2]
  simp [he]
theorem qcells_drop (ts : List Tm) (j : Nat) : (qcells ts).drop (j * 3) = qcells (ts.drop j) := by
  rcases Nat.lt_or_ge ts.length j with h | h
  · rw [List.drop_eq_nil_of_le (by rw [qcells_len]; omega), List.drop_eq_nil_of_le (by omega)]
    rfl
  · have h1 : qcells ts = qcells (ts.take j) ++ qcells (ts.drop j) := by rw [← qcells_app, List.take_append_drop]
    rw [h1, List.drop_append_of_le_length (by rw [qcells_len, List.length_take]; omega), List.drop_eq_nil_of_le (by rw [qcells_len, List.length_take]; omega), List.nil_append]
/-- v[j:] -/
theorem q_rest (ho : w.ownsS 46 3 v ts.length (qcells ts)) (j : Nat) {g cap : Nat} (hv : v = .slice (some ⟨g, 0, none⟩) ts.length cap) : ∀ i u, (qcells (ts.drop j))[i]? = some u → w.cell? ((⟨g, j * 3, none⟩ : Addr).add i) = some u := by
  intro i u hu
  rw [← qcells_drop, List.getElem?_drop] at hu
  obtain ⟨g', cap', e, -, -, hc⟩ := ownsS_get ho _ _ hu
  rw [hv] at e
  injection e with e
  injection e with e
  injection e with e
  rw [Go.WideShapes.add_plain, e]
  exact hc
def XCancelIs (G : Nat → Prop) (b most now fresh : Nat) (ts : List Tm) (id : Int) (w : World) (e : Ending) (w' : World) : Prop :=
  (∃ t, tmOf ts id = some t ∧ e = .returned (.tuple #[.int .i64 ((t.due - now : Nat) : Int), .pointer none]) ∧ RGo G w b most now fresh (without ts id) w') ∨
    (tmOf ts id = none ∧ XBad w (fun v => .tuple #[.int .i64 0, v]) [Lk.fault ⟨#[99, 97, 110, 99, 101, 108]⟩ (id % 2147483648), Lk.kind 3] e w')
set_option maxRecDepth 100000 in
set_option maxHeartbeats 2000000 in
theorem xcancel_any (h : RW w G b most now fresh ts) (hnd : (ts.map Tm.id).Nodup) (hge : ∀ t ∈ ts, now ≤ t.due ∧ t.due ≤ 2305843009213693952) (hlen : ts.length ≤ 4096) (id : Int) :
    Calls Try.prog 17 #[.pointer (some ⟨b, 0, none⟩), .int .i64 id] w (XCancelIs G b most now fresh ts id w) := by
  have HG := Lib.hid (xget_any h ⟨#[99, 97, 110, 99, 101, 108]⟩ id)
  go_enter Try.func17, Try.ntmps17
  go_wp2_with fail
  refine HG.out.mono ?_
  rintro e w1 (⟨t, ht, rfl, hk1⟩ | ⟨hno, v, rfl, hch, hk1⟩)
  · obtain ⟨w2, hw2⟩ : ∃ w2, w1.alloc (.cells #[.int .i64 (t.id : Nat), .int .i64 (t.due : Nat), .int .i64 t.wht] 46) = w2 := ⟨_, rfl⟩
    have hk2 : Kp (fun _ => False) w w2 := by rw [← hw2]; exact hk1.alloc _
    have hb2 : w2.heap[w1.heap.size]? = some (.cells #[.int .i64 (t.id : Nat), .int .i64 (t.due : Nat), .int .i64 t.wht] 46 (0, 0)) := by rw [← hw2]; exact heap_alloc_new w1 _
    have h2 := h.same hk2
    have HF := Lib.hid (xfind_any h2 id)
    obtain ⟨v, k1, k2, k3, k4, k5⟩ := h2
    obtain ⟨c0, c1, c2, c3, cf⟩ := rw_facts k1
    obtain ⟨po, cap, rfl, hcap, hcap2⟩ := ownsS_form k2
    obtain ⟨t0, t1, t2, tf⟩ := tc_facts hb2
    have H := Lib.hid (show _ ∧ _ ∧ _ ∧ _ ∧ _ ∧ _ ∧ _ ∧ _ ∧ _ from ⟨k1, k2, k3, k4, h.lt, hk2, hk1, hb2, hnd⟩)
    have HL := Lib.hid (And.intro hlen hge)
    clear k1 k2 k3 k4 k5 h hk1 hk2 hb2 HG
    go_wp2_with fail
    refine HF.out.mono ?_
    rintro e w3 ⟨rfl, (⟨rfl, hno⟩ | ⟨i, u, rfl, hi, hu⟩)⟩
    · rw [ht] at hno
      cases hno
    · rw [ht] at hu
      obtain rfl := Option.some.inj hu
      have hin := (List.getElem?_eq_some_iff.1 hi).1
      obtain ⟨n, hn⟩ : ∃ n, ts.length = n := ⟨_, rfl⟩
      rw [hn] at c3 hcap hin
      go_wp2_with fail
      obtain ⟨q0, -, -⟩ := qcells_get ts i t hi
      obtain ⟨g, cp, e1, -, -, -⟩ := ownsS_get H.out.2.1 _ _ q0
      obtain ⟨rfl, rfl⟩ : po = some ⟨g, 0, none⟩ ∧ cap = cp := by
        injection e1 with e1 _ e2
        exact ⟨e1, e2⟩
      have hod : w2.drew.ownsS 46 3 (.slice (some ⟨g, 0, none⟩) ts.length cap) ts.length (qcells ts) := ((Kp.refl (fun _ => False) w2).drew).rowS H.out.2.1 (fun _ _ e => e)
      have hil : (ts.take i).length = i := by rw [List.length_take]; omega
      have hoc : w2.drew.ownsS 46 3 (.slice (some ⟨g, 0, none⟩) i i) (ts.take i).length (qcells (ts.take i)) := by
        rw [hil, ← qcells_take]
        exact ownsS_cut hod (j := i) (by omega)
      obtain ⟨P, hP, hsrc⟩ : ∃ P : Option Addr, P = (if cap = i + 1 then some ⟨g, 0, none⟩ else some ⟨g, (i + 1) * 3, none⟩) ∧ (0 < (ts.drop (i + 1)).length → ∃ ad, P = some ad ∧ ∀ j u, (qcells (ts.drop (i + 1)))[j]? = some u → w2.drew.cell? (ad.add j) = some u) := by
        refine ⟨_, rfl, fun hp => ?_⟩
        rw [List.length_drop] at hp
        rw [if_neg (by omega)]
        exact ⟨_, rfl, q_rest hod (i + 1) rfl⟩
      obtain ⟨v', w4, hr, ho4, hk4, hat⟩ := q_app hoc P (cap - (i + 1)) (ts.drop (i + 1)) hsrc (by rw [List.length_take, List.length_drop]; have := HL.out.1; omega)
      rw [List.length_drop, hn] at hr
      have hic : i ≤ cap := by omega
      have hi1 : IntKind.i64.wrap ((i : Int) + 1) = ((i + 1 : Nat) : Int) := by rw [IntWalk.i64_in _ (by omega)]; rfl
      have hi2 : (i : Int) + 1 ≤ (n : Int) := by omega
      have hi4 : (0 : Int) ≤ (i : Int) + 1 := by omega
      have hi3 : i + 1 ≤ cap := by omega
      obtain ⟨po2, cap2, rfl, hcap3, hcap4⟩ := ownsS_form ho4
      obtain ⟨N2, hN2⟩ : ∃ N2, (ts.take i ++ ts.drop (i + 1)).length = N2 := ⟨_, rfl⟩
      rw [hN2] at hr hcap3
      have HR := Lib.hid hr
      have HP := Lib.hid hP
      have hbg : b ≠ g := fun e => rw_ne H.out.1 H.out.2.1 (by rw [e]; rfl)
      have hgw : g < w.heap.size := H.out.2.2.2.2.1 g (H.out.2.2.2.1 g rfl)
      have hbw : b < w.heap.size := H.out.2.2.2.2.1 b H.out.2.2.1
      have hz1 := H.out.2.2.2.2.2.2.1.size
      have hz2 : w1.heap.size < w2.heap.size := (Array.getElem?_eq_some_iff.1 H.out.2.2.2.2.2.2.2.1).1
      have hb4 : w4.heap[b]? = some (.cells #[.int .i64 (most : Nat), .int .i64 (now : Nat), .int .i64 (fresh : Nat), .slice (some ⟨g, 0, none⟩) ts.length cap] 51 (0, 0)) := (hk4.block b (show b < w2.heap.size by omega) (fun e => hbg (by injection e with e; exact e.symm))).trans H.out.1
      have ht4 : w4.heap[w1.heap.size]? = some (.cells #[.int .i64 (t.id : Nat), .int .i64 (t.due : Nat), .int .i64 t.wht] 46 (0, 0)) := (hk4.block _ (show w1.heap.size < w2.heap.size by omega) (fun e => by have e : g = w1.heap.size := Option.some.inj e; omega)).trans H.out.2.2.2.2.2.2.2.1
      obtain ⟨d0, d1, d2, d3, df⟩ := rw_facts hb4
      obtain ⟨w5, hw5⟩ : ∃ w5, w4.setCell ⟨b, 3, none⟩ (.slice po2 N2 cap2) = w5 := ⟨_, rfl⟩
      have hk5 : Kp (fun q => q = b) w4 w5 := by rw [← hw5]; exact (Kp.refl (fun q => q = b) w4).setCell _ _ (.inl rfl)
      have hb5 : w5.heap[b]? = some (.cells #[.int .i64 (most : Nat), .int .i64 (now : Nat), .int .i64 (fresh : Nat), .slice po2 N2 cap2] 51 (0, 0)) := by rw [← hw5]; exact heap_setq hb4 _
      have ht5 : w5.heap[w1.heap.size]? = some (.cells #[.int .i64 (t.id : Nat), .int .i64 (t.due : Nat), .int .i64 t.wht] 46 (0, 0)) := (hk5.block _ (Array.getElem?_eq_some_iff.1 ht4).1 (by omega)).trans ht4
      obtain ⟨u0, u1, u2, u3, uf⟩ := rw_facts hb5
      obtain ⟨s0, s1, s2, sf⟩ := tc_facts ht5
      have hRG : ∀ k, RGo G w b most now fresh (without ts id) (w5.drewN k) := by
        intro k
        have hti : (t.id : Int) = id := (tmOf_mem ht).2
        rw [without_at hi hti H.out.2.2.2.2.2.2.2.2]
        refine rgo_of (v := .slice (some ⟨g, 0, none⟩) ts.length cap) (w2 := w4) ((H.out.2.2.2.2.2.1.mono fun _ _ e => e.elim).trans' ((Kp.refl _ w2).drew.trans' hk4)) H.out.2.2.1 H.out.2.2.2.1 H.out.2.2.2.2.1 (v' := .slice po2 N2 cap2) (by rw [hN2] at ho4 ⊢; exact ho4) (fun g' hg => ?_) hb5 (kp_drewN hk5 k) ?_
        · rcases hat g' (by rw [hN2]; exact hg) with e | e
          · exact .inl e
          · refine .inr ?_
            have : w2.heap.size ≤ g' := e
            omega
        · have := rw_ne hb4 ho4
          rw [hN2] at this
          exact this
      obtain ⟨hge1, hge2⟩ := HL.out.2 t (tmOf_mem ht).1
      obtain ⟨D, hD⟩ : ∃ D, t.due = D := ⟨_, rfl⟩
      have HD := Lib.hid hD
      rw [hD] at s1 hge1 hge2 t1
      have HRG := Lib.hid hRG
      clear hRG hk5 hb5 ht5 hb4 ht4 hk4 hat ho4 hbg hgw hz1 hz2 hoc hod hD hi hbw hil hsrc
      rw [hP] at hr
      have HR2 := Lib.hid hr
      clear hr hP
      go_region_law (refine step_run (by rfl) (.tmp 28) (.tmp 35) 49 (by rfl) (.slice (some ⟨g, 0, none⟩) i i) (.slice (if cap = i + 1 then some ⟨g, 0, none⟩ else some ⟨g, (i + 1) * 3, none⟩) (n - (i + 1)) (cap - (i + 1))) (by first | (simp [Act.eval]; done) | simp [Act.eval, Act.put]) (by first | (simp [Act.eval]; done) | simp [Act.eval, Act.put]) _ _ HR2.out ?_)
      all_goals go_wp2_with fail
      all_goals go_quiet (fail)
      all_goals go_wp2_with fail
      all_goals go_ret2
      all_goals exact .inl ⟨t, ht, ret2 (by have := HD.out; omega), HRG.out _⟩
  · rcases hch with ⟨hn, _⟩ | ⟨_, _, g, g2, rfl, hx, hr⟩
    · cases hn
    go_wp2_with fail
    go_ret2
    exact .inr ⟨hno, _, rfl, XCh.kp ((Kp.refl _ w1).alloc _) _ _ (.inr ⟨rfl, by simp, g, g2, rfl, hx, hr⟩), hk1.alloc _⟩
end
end Go.Proofs.Ytmekhijmghddiaa
