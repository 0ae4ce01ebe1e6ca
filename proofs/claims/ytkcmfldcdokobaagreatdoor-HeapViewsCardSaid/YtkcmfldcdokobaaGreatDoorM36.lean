/- Any term of a Store under way. -/
import Derived.Test.YtkcmfldcdokobaaGreatDoorM35
/- Any term of a Store under way. -/
namespace Go.Proofs.YtkcmfldcdokobaaGreatDoor
open Go.RowKit Go.Maps

theorem len_le_sum {F : Nat → Prop} {w : World} {h : Nat} : ∀ (l : List Tm), (∀ t ∈ l, ∃ cs, TermAt F w h t cs) → l.length ≤ (l.map (tsz h)).sum
  | [], _ => by simp
  | t :: l, hl => by
    obtain ⟨cs, hc⟩ := hl t (by simp)
    have h1 := tsz_pos hc
    have h2 := len_le_sum l (fun t ht => hl t (List.mem_cons_of_mem _ ht))
    simp only [List.length_cons, List.map_cons, List.sum_cons]
    omega
theorem ListAt.mem {F : Nat → Prop} {w : World} {h : Nat} {l : List Tm} {v : Value} (hl : ListAt F w (TermAt F w h) l v) : ∀ t ∈ l, ∃ cs, TermAt F w h t cs := fun t ht => by
  obtain ⟨i, hi, e⟩ := List.getElem_of_mem ht
  obtain ⟨_, _, _, cs, _, _, _, _, hT⟩ := hl.six (show l[i]? = some t by rw [List.getElem?_eq_getElem hi, e])
  exact ⟨_, hT⟩

theorem fit_kinds {k n : Int} {s : ByteArray} {it re : List Tm} {bys : List UInt8} (hf : fitsB (.mk k n s it re bys) = true) : (k = 2 ∧ 1 ≤ s.size ∧ s.size ≤ 255) ∨ k = 5 ∨ (k = 7 ∧ (re = [] ∨ ∃ t, re = [t])) ∨ k = 8 ∨ (k = 1 ∨ k = 3 ∨ k = 4 ∨ k = 6) := by
  have hf : fitsK k n s it re bys = true := hf
  unfold fitsK at hf
  by_cases h1 : k = 1
  · exact .inr (.inr (.inr (.inr (.inl h1))))
  · by_cases h2 : k = 2
    · subst h2
      rw [if_neg (by omega), if_pos rfl] at hf
      split at hf
      · rename_i hs
        exact .inl ⟨rfl, hs.1, hs.2⟩
      · cases hf
    · by_cases h3 : k = 3 ∨ k = 4
      · exact .inr (.inr (.inr (.inr (.inr (h3.imp id .inl)))))
      · by_cases h5 : k = 5
        · exact .inr (.inl h5)
        · by_cases h6 : k = 6
          · exact .inr (.inr (.inr (.inr (.inr (.inr (.inr h6))))))
          · by_cases h7 : k = 7
            · subst h7
              simp at hf
              refine .inr (.inr (.inl ⟨rfl, ?_⟩))
              match re, hf.1.1.1.2 with
              | [], _ => exact .inl rfl
              | [t], _ => exact .inr ⟨t, rfl⟩
              | t :: u :: l, e => simp [endsB] at e
            · by_cases h8 : k = 8
              · exact .inr (.inr (.inr (.inl h8)))
              · rw [if_neg h1, if_neg h2, if_neg h3, if_neg h5, if_neg h6, if_neg h7, if_neg h8] at hf
                cases hf

theorem ownCost_up {k : Int} {m b b' i : Nat} (hb : b ≤ b') : ownCost k m b i ≤ ownCost k m b' i := by
  unfold ownCost
  by_cases e : i = 0
  · simp only [if_pos e]
    exact Nat.le_refl _
  · by_cases e1 : i = 1
    · simp only [if_neg e, if_pos e1]
      exact hb
    · simp only [if_neg e, if_neg e1]
      exact Nat.le_refl _
theorem ownCost_m {k : Int} {m m' b i : Nat} (h5 : k ≠ 5) (h7 : k ≠ 7) : ownCost k m b i = ownCost k m' b i := by
  unfold ownCost
  simp only [if_neg h5, if_neg h7]

section
variable {w0 w : World} {col : Nat → Nat} {lb hb ab tb bb least N mb : Nat} {sv : Value} {sl : List (Int × Bool)} {names : List ByteArray} {S : St}
set_option maxRecDepth 100000 in
set_option maxHeartbeats 1000000 in
theorem term_succ {h : Nat} (hN : N ≤ 90000000000000) (hN1 : 1 ≤ N) (ih : TermIs w0 lb hb ab tb bb sv least sl names N mb h) : TermIs w0 lb hb ab tb bb sv least sl names N mb (h + 1) := by
  intro F T w col cs S hT hL hF hok hsz hK
  have hT' := hT
  obtain ⟨k, n, s, it, re, bys⟩ := T
  obtain ⟨vi, vr, vb, rfl, hbd, h1, h2, h3⟩ := hT
  have hts : tsz (h + 1) (.mk k n s it re bys) = 1 + bys.length + (it.map (tsz h)).sum + (re.map (tsz h)).sum := rfl
  have hil := len_le_sum it h1.mem
  have hfit := tok_fits hok
  obtain ⟨_, hoki, hokr⟩ := (id hok : tok (199 + 1) (.mk k n s it re bys))
  obtain ⟨w1, hw1⟩ : ∃ w1, w.alloc (.cells #[.int .i64 k, .int .i64 n, .string s, vi, vr, vb] 41) = w1 := ⟨_, rfl⟩
  have hk1 : Kp (fun _ => False) w w1 := by rw [← hw1]; exact (Kp.refl _ w).alloc _
  have hg1 := Go0.same (col := col) hk1
  have hL1 := hL.same hk1
  have hF1 : ∀ q, F q ∧ q < w.heap.size → q < w1.heap.size → recol col w 0 q = 0 := fun q hq _ => (hg1.old q hq.2).trans (hF q hq.1 hq.2)
  have hlow := (TermAt.low hT').kp hk1 (fun _ _ e => e)
  have hr1 : w1.heap[w.heap.size]? = some (.cells #[.int .i64 k, .int .i64 n, .string s, vi, vr, vb] 41 (0, 0)) := by rw [← hw1]; exact heap_alloc_new w _
  have hpos := tsz_pos hT'
  obtain ⟨k', n', s', a, l, c, a2, l2, d, a3, l3, e, hfm⟩ := hT'.form
  simp only [List.cons.injEq, Value.int.injEq, Value.string.injEq, and_true, true_and] at hfm
  obtain ⟨rfl, rfl, rfl, rfl, rfl, rfl⟩ := hfm
  have HT := Lib.hid (And.intro hlow (And.intro hok hsz))
  obtain ⟨vi2, vr2, vb2, hcs, _, i1, i2, i3⟩ := hlow
  simp only [List.cons.injEq, and_true, true_and] at hcs
  obtain ⟨rfl, rfl, rfl⟩ := hcs
  have H := Lib.hid (And.intro hg1 (And.intro hL1 (And.intro hF1 (And.intro ih (And.intro hw1 (And.intro hr1 (And.intro i1 (And.intro i2 (And.intro i3 (And.intro hoki (And.intro hokr (And.intro hts (And.intro hil (And.intro hsz hK))))))))))))))
  have hkind := fit_kinds hfit
  have d0 : w1.cell? ⟨w.heap.size, 0, none⟩ = some (.int .i64 k) := cell_of hr1 0
  have d1 : w1.cell? ⟨w.heap.size, 1, none⟩ = some (.int .i64 n) := cell_of hr1 1
  have d2 : w1.cell? ⟨w.heap.size, 2, none⟩ = some (.string s) := cell_of hr1 2
  have d3 : w1.cell? ⟨w.heap.size, 3, none⟩ = some (.slice a l c) := cell_of hr1 3
  have d4 : w1.cell? ⟨w.heap.size, 4, none⟩ = some (.slice a2 l2 d) := cell_of hr1 4
  have d5 : w1.cell? ⟨w.heap.size, 5, none⟩ = some (.slice a3 l3 e) := cell_of hr1 5
  have hw : ∀ (B : Nat) (Q R : Int → St → Prop) (V : Nat → Nat) (e : Ending) (w' : World), LEnds w0 w1 (recol col w 0) lb hb ab tb bb sv least sl names N mb S Q B V e w' → B ≤ S.K + 3 * tsz (h + 1) (.mk k n s it re bys) - 1 → (∀ x S', Q x S' → R x S') → (∀ i, V i ≤ pot S i + (ownCost k it.length bys.length i + (it.map fun t => cost h t i).sum + (re.map fun t => cost h t i).sum)) → LEnds w0 w col lb hb ab tb bb sv least sl names N mb S R (S.K + 3 * tsz (h + 1) (.mk k n s it re bys) - 1) (fun i => pot S i + cost (h + 1) (.mk k n s it re bys) i) e w' := fun B Q R V e w' hE hB hQ hV => hE.from .none hg1 hB hQ hV
  have HW := Lib.hid hw
  clear hg1 hL1 hF1 ih hr1 i1 i2 i3 hoki hokr hts hil hsz hK hL hF hok hT' hfit hk1 h1 h2 h3 hbd hw
  rcases hkind with ⟨rfl, hs1, hs2⟩ | rfl | ⟨rfl, hre⟩ | rfl | hk
  · have HC := Lib.hid (atom_ends H.out.2.1 (by obtain ⟨_, _, _, _, _, _, _, _, _, _, _, hts, hil, hsz, hK⟩ := H.out; omega) s hs1 hs2)
    go_enter Tryz.func84, Tryz.ntmps84
    go_wp2_with (go_at_call 127; refine HC.out.mono ?_; intro e4 w4 hE; obtain ⟨S4, col4, m1, m2, m3, m4, ⟨x4, rfl, m5, m6, m7, mV⟩ | ⟨v, op, nn, rfl, m5, mS⟩⟩ := id hE <;> refine Hid.out ?_)
    · refine Lib.hid ?_
      have HE := Lib.hid hE
      clear hE m1 m2 m3 m4 m7 mV
      go_wp2_with fail
      go_ret2
      exact HW.out _ _ _ _ _ _ HE.out (by obtain ⟨_, _, _, _, _, _, _, _, _, _, _, hts, hil, hsz, hK⟩ := H.out; omega) (fun x S' hx => .inl ⟨rfl, hx⟩) (fun i => by have h1 := ownCost_up (k := 2) (m := it.length) (i := i) (Nat.zero_le bys.length); rw [ownCost_m (m' := 0) (by omega) (by omega)] at h1; omega)
    · refine Lib.hid ?_
      obtain ⟨g, rfl, _, _⟩ := m5
      have HE := Lib.hid hE
      clear hE m1 m2 m3 m4 mS
      go_wp2_with fail
      go_ret2
      exact HW.out _ _ _ _ _ _ HE.out (by obtain ⟨_, _, _, _, _, _, _, _, _, _, _, hts, hil, hsz, hK⟩ := H.out; omega) (fun x S' hx => .inl ⟨rfl, hx⟩) (fun i => by have h1 := ownCost_up (k := 2) (m := it.length) (i := i) (Nat.zero_le bys.length); rw [ownCost_m (m' := 0) (by omega) (by omega)] at h1; omega)
  · have HC := Lib.hid (tuple_ends H.out.2.2.2.1 H.out.2.2.2.2.2.2.1 H.out.2.1 H.out.2.2.1 (fun t ht => tok_up (H.out.2.2.2.2.2.2.2.2.2.1 t ht)) (by obtain ⟨_, _, _, _, _, _, _, _, _, _, _, hts, hil, hsz, hK⟩ := H.out; omega) (by obtain ⟨_, _, _, _, _, _, _, _, _, _, _, hts, hil, hsz, hK⟩ := H.out; omega) (by obtain ⟨_, _, _, _, _, _, _, _, _, _, _, hts, hil, hsz, hK⟩ := H.out; omega))
    go_enter Tryz.func84, Tryz.ntmps84
    go_wp2_with (go_at_call 128; refine HC.out.mono ?_; intro e4 w4 hE; obtain ⟨S4, col4, m1, m2, m3, m4, ⟨x4, rfl, m5, m6, m7, mV⟩ | ⟨v, op, nn, rfl, m5, mS⟩⟩ := id hE <;> refine Hid.out ?_)
    · refine Lib.hid ?_
      have HE := Lib.hid hE
      clear hE m1 m2 m3 m4 m7 mV
      go_wp2_with fail
      go_ret2
      exact HW.out _ _ _ _ _ _ HE.out (by obtain ⟨_, _, _, _, _, _, _, _, _, _, _, hts, hil, hsz, hK⟩ := H.out; omega) (fun x S' hx => .inr (.inl ⟨rfl, hx⟩)) (fun i => by have h1 := ownCost_up (k := 5) (m := it.length) (i := i) (Nat.zero_le bys.length); omega)
    · refine Lib.hid ?_
      obtain ⟨g, rfl, _, _⟩ := m5
      have HE := Lib.hid hE
      clear hE m1 m2 m3 m4 mS
      go_wp2_with fail
      go_ret2
      exact HW.out _ _ _ _ _ _ HE.out (by obtain ⟨_, _, _, _, _, _, _, _, _, _, _, hts, hil, hsz, hK⟩ := H.out; omega) (fun x S' hx => .inr (.inl ⟨rfl, hx⟩)) (fun i => by have h1 := ownCost_up (k := 5) (m := it.length) (i := i) (Nat.zero_le bys.length); omega)
  · have HC := Lib.hid (list_ends (k := 7) (n := n) (s := s) H.out.2.2.2.1 H.out.2.2.2.2.2.2.1 H.out.2.2.2.2.2.2.2.1 H.out.2.1 H.out.2.2.2.2.2.2.2.2.1 H.out.2.2.1 (fun t ht => tok_up (H.out.2.2.2.2.2.2.2.2.2.1 t ht)) (fun t ht => tok_up (H.out.2.2.2.2.2.2.2.2.2.2.1 t ht)) hre (by obtain ⟨_, _, _, _, _, _, _, _, _, _, _, hts, hil, hsz, hK⟩ := H.out; omega) (by obtain ⟨_, _, _, _, _, _, _, _, _, _, _, hts, hil, hsz, hK⟩ := H.out; omega) (by obtain ⟨_, _, _, _, _, _, _, _, _, _, _, hts, hil, hsz, hK⟩ := H.out; omega))
    go_enter Tryz.func84, Tryz.ntmps84
    go_wp2_with (go_at_call 129; refine HC.out.mono ?_; intro e4 w4 hE; obtain ⟨S4, col4, m1, m2, m3, m4, ⟨x4, rfl, m5, m6, m7, mV⟩ | ⟨v, op, nn, rfl, m5, mS⟩⟩ := id hE <;> refine Hid.out ?_)
    · refine Lib.hid ?_
      have HE := Lib.hid hE
      clear hE m1 m2 m3 m4 m7 mV
      go_wp2_with fail
      go_ret2
      exact HW.out _ _ _ _ _ _ HE.out (by obtain ⟨_, _, _, _, _, _, _, _, _, _, _, hts, hil, hsz, hK⟩ := H.out; omega) (fun x S' hx => .inr (.inr (.inl ⟨rfl, hx⟩))) (fun i => by have h1 := ownCost_up (k := 7) (m := it.length) (i := i) (Nat.zero_le bys.length); omega)
    · refine Lib.hid ?_
      obtain ⟨g, rfl, _, _⟩ := m5
      have HE := Lib.hid hE
      clear hE m1 m2 m3 m4 mS
      go_wp2_with fail
      go_ret2
      exact HW.out _ _ _ _ _ _ HE.out (by obtain ⟨_, _, _, _, _, _, _, _, _, _, _, hts, hil, hsz, hK⟩ := H.out; omega) (fun x S' hx => .inr (.inr (.inl ⟨rfl, hx⟩))) (fun i => by have h1 := ownCost_up (k := 7) (m := it.length) (i := i) (Nat.zero_le bys.length); omega)
  · have HC := Lib.hid (binary_ends H.out.2.1 (by obtain ⟨_, _, _, _, _, _, _, _, _, _, _, hts, hil, hsz, hK⟩ := H.out; omega) hN hN1 H.out.2.2.2.2.2.2.2.2.1 (fun q hq => H.out.2.2.1 q hq (Nat.lt_of_lt_of_le hq.2 H.out.1.kp.size)) (by obtain ⟨_, _, _, _, _, _, _, _, _, _, _, hts, hil, hsz, hK⟩ := H.out; omega))
    go_enter Tryz.func84, Tryz.ntmps84
    go_wp2_with (go_at_call 130; refine HC.out.mono ?_; intro e4 w4 hE; obtain ⟨S4, col4, m1, m2, m3, m4, ⟨x4, rfl, m5, m6, m7, mV⟩ | ⟨v, op, nn, rfl, m5, mS⟩⟩ := id hE <;> refine Hid.out ?_)
    · refine Lib.hid ?_
      have HE := Lib.hid hE
      clear hE m1 m2 m3 m4 m7 mV
      go_wp2_with fail
      go_ret2
      exact HW.out _ _ _ _ _ _ HE.out (by obtain ⟨_, _, _, _, _, _, _, _, _, _, _, hts, hil, hsz, hK⟩ := H.out; omega) (fun x S' hx => .inr (.inr (.inr (.inl ⟨rfl, hx⟩)))) (fun i => by rw [ownCost_m (k := 8) (m := it.length) (m' := 0) (by omega) (by omega)]; omega)
    · refine Lib.hid ?_
      obtain ⟨g, rfl, _, _⟩ := m5
      have HE := Lib.hid hE
      clear hE m1 m2 m3 m4 mS
      go_wp2_with fail
      go_ret2
      exact HW.out _ _ _ _ _ _ HE.out (by obtain ⟨_, _, _, _, _, _, _, _, _, _, _, hts, hil, hsz, hK⟩ := H.out; omega) (fun x S' hx => .inr (.inr (.inr (.inl ⟨rfl, hx⟩)))) (fun i => by rw [ownCost_m (k := 8) (m := it.length) (m' := 0) (by omega) (by omega)]; omega)
  · have hcells := H.out.2.1.cells
    obtain ⟨tv, fv, c0, _⟩ := hcells
    have hh1 : w1.cell? ⟨hb, 1, none⟩ = some (.pointer (some ⟨tb, 0, none⟩)) := by
      obtain ⟨_, _, _, _, _, q1, _⟩ := H.out.2.1
      exact q1.hr.cells.2.1
    have hnb : -9223372036854775808 ≤ n ∧ n ≤ 9223372036854775807 := by
      obtain ⟨_, _, _, _, hb, _⟩ := HT.out.1
      exact ⟨hb.2.2.1, hb.2.2.2.1⟩
    obtain ⟨hn0, hn1⟩ := hnb
    have HTq := Lib.hid (fun nq : Nat => TermAt.kp HT.out.1 (kp_drewN (fun _ => False) w1 nq) (fun _ _ e => e))
    by_cases hn : k = 1 ∧ (n < -1152921504606846976 ∨ 1152921504606846975 < n)
    · obtain ⟨rfl, hn⟩ := hn
      have hC : ∀ nq : Nat, Calls Tryz.prog 131 #[.agg #[.int .i64 1, .int .i64 n, .string s, .slice a l c, .slice a2 l2 d, .slice a3 l3 e], .pointer (some ⟨tb, 0, none⟩)] (w1.drewN nq) fun e w' => (e = .returned (.tuple #[.int .u64 0, .bool false, .nilIface])) ∧ Kp (fun _ => False) (w1.drewN nq) w' := fun nq => by
        rcases hn with hn | hn
        · exact smallok_less (HTq.out nq) _ hn HT.out.2
        · exact smallok_more (HTq.out nq) _ hn HT.out.2
      have HC := Lib.hid hC
      have Hn := Lib.hid hn
      obtain ⟨m, hm, hm0, hm1⟩ : ∃ m, n % 18446744073709551616 = m ∧ 0 ≤ m ∧ m ≤ 18446744073709551615 := ⟨_, rfl, by omega, by omega⟩
      have hmw : IntKind.u64.wrap n = m := by simp only [IntKind.wrap, IntKind.bits, IntKind.signed]; simpa using hm
      have Hm := Lib.hid hm
      clear hC hn hm
      go_enter Tryz.func84, Tryz.ntmps84
      go_wp2_with fail
      refine wp_region_draw 8 _ (by kernel_rfl) (by kernel_rfl) rfl ?_
      simp only [List.take_succ_cons, List.take_zero, List.drop_succ_cons, List.drop_zero]
      repeat (quiet_step (fail))
      refine wpQuiet_nil ?_
      rintro wd ⟨nq, rfl⟩
      go_wp2_with (go_at_call 131; refine (HC.out nq).mono ?_; rintro e4 w4 ⟨rfl, hk4⟩; refine Hid.out ?_)
      refine Lib.hid ?_
      have HE := Lib.hid ((kp_drewN (fun _ => False) w1 nq).trans' hk4)
      clear hk4
      go_wp2_with fail
      simp only [AfterMid]
      repeat (quiet_step (fail))
      refine wpQuiet_nil ?_
      rintro wd ⟨nr, rfl⟩
      have hkr := HE.out.trans' (kp_drewN (fun _ => False) w4 nr)
      have HR := Lib.hid hkr
      clear hkr
      obtain ⟨w5, hw5⟩ : ∃ w5, w4.drewN nr = w5 := ⟨_, rfl⟩
      rw [hw5] at HR ⊢
      clear hw5
      have d51 : w5.cell? ⟨w.heap.size, 1, none⟩ = some (.int .i64 n) := (HR.out.cell (p := ⟨w.heap.size, 1, none⟩) (World.block_lt_of_cell? _ _ d1) (fun e => e)).trans d1
      have hka : Kp (fun _ => False) w5 (w5.alloc (.cells #[.int .u64 m] 27)) := (Kp.refl _ w5).alloc _
      have hcell := heap_alloc_new w5 (.cells #[.int .u64 m] 27)
      have hws : WordsAt (fun q => q = w5.heap.size) (w5.alloc (.cells #[.int .u64 m] 27)) [m] (.slice (some ⟨w5.heap.size, 0, none⟩) 1 1) :=
        ⟨_, 1, rfl, Nat.le_refl _, fun i x hi => ⟨_, 0, rfl, rfl, by
          rw [Nat.zero_add]
          match i, hi with
          | 0, hi => injection hi with hi; subst hi; exact cell_of hcell 0⟩⟩
      have hkt := HR.out.trans' hka
      have hblock := block_ends (H.out.2.1.same hkt) (by obtain ⟨_, _, _, _, _, _, _, _, _, _, _, hts, hil, hsz, hK⟩ := H.out; omega) 3 0 (by omega) (by omega) (by omega) (by omega) hws (fun q e => by subst e; exact recol_new _ (by have := HR.out.size; omega)) (by simp) (by
        intro y hy
        simp at hy
        subst hy
        exact ⟨hm0, hm1⟩)
      have HB := Lib.hid (And.intro hblock (Go0.same (col := recol col w 0) hkt))
      clear hka hcell hws hkt hblock d0 d1 d2 d3 d4 d5
      go_wp2_with (go_at_call 132; refine HB.out.1.mono ?_; intro e6 w6 hE; obtain ⟨S4, col4, m1, m2, m3, m4, ⟨x4, rfl, m5, m6, m7, mV⟩ | ⟨v, op, nn, rfl, m5, mS⟩⟩ := id hE <;> refine Hid.out ?_)
      · refine Lib.hid ?_
        have HE2 := Lib.hid hE
        clear hE m1 m2 m3 m4 m7 mV
        go_wp2_with fail
        go_ret2
        exact HW.out _ _ _ _ _ _ (HE2.out.from .none HB.out.2 (Nat.le_refl _) (fun _ _ h => h) (fun _ => Nat.le_refl _)) (by obtain ⟨_, _, _, _, _, _, _, _, _, _, _, hts, hil, hsz, hK⟩ := H.out; omega) (fun x S' hx => .inr (.inr (.inr (.inr (.inr ⟨rfl, Hn.out, by rw [Hm.out]; simpa using hx⟩))))) (fun i => by
          have h1 := ownCost_up (k := 1) (m := it.length) (i := i) (Nat.zero_le bys.length)
          rw [show ([m] : List Int).length + 1 = 2 from rfl, cls_2]
          unfold ownCost at *
          by_cases e : i = 0
          · simp only [if_pos e] at *
            simp only [show ¬ ((1 : Int) = 5) by omega, show ¬ ((1 : Int) = 7) by omega, show ¬ ((1 : Int) = 8) by omega, if_false]
            omega
          · simp only [if_neg e]
            omega)
      · refine Lib.hid ?_
        obtain ⟨g, rfl, _, _⟩ := m5
        have HE2 := Lib.hid hE
        clear hE m1 m2 m3 m4 mS
        go_wp2_with fail
        go_ret2
        exact HW.out _ _ _ _ _ _ (HE2.out.from .none HB.out.2 (Nat.le_refl _) (fun _ _ h => h) (fun _ => Nat.le_refl _)) (by obtain ⟨_, _, _, _, _, _, _, _, _, _, _, hts, hil, hsz, hK⟩ := H.out; omega) (fun x S' hx => .inr (.inr (.inr (.inr (.inr ⟨rfl, Hn.out, by rw [Hm.out]; simpa using hx⟩))))) (fun i => by
          have h1 := ownCost_up (k := 1) (m := it.length) (i := i) (Nat.zero_le bys.length)
          rw [show ([m] : List Int).length + 1 = 2 from rfl, cls_2]
          unfold ownCost at *
          by_cases e : i = 0
          · simp only [if_pos e] at *
            simp only [show ¬ ((1 : Int) = 5) by omega, show ¬ ((1 : Int) = 7) by omega, show ¬ ((1 : Int) = 8) by omega, if_false]
            omega
          · simp only [if_neg e]
            omega)
    · rcases hk with rfl | rfl | rfl | rfl
      · have HC := Lib.hid (fun nq => smallok_num (HTq.out nq) (.pointer (some ⟨tb, 0, none⟩)) (by omega) (by omega) HT.out.2)
        have hr : 0 ≤ n * 8 % 18446744073709551616 + 0 ∧ n * 8 % 18446744073709551616 + 0 ≤ 18446744073709551615 := by omega
        have HF := Lib.hid (And.intro hr hn)
        clear hr hn
        go_enter Tryz.func84, Tryz.ntmps84
        go_wp2_with fail
        refine wp_region_draw 8 _ (by kernel_rfl) (by kernel_rfl) rfl ?_
        simp only [List.take_succ_cons, List.take_zero, List.drop_succ_cons, List.drop_zero]
        repeat (quiet_step (fail))
        refine wpQuiet_nil ?_
        rintro wd ⟨nq, rfl⟩
        go_wp2_with (go_at_call 131; refine (HC.out nq).mono ?_; rintro e4 w4 ⟨rfl, hk4⟩; refine Hid.out ?_)
        refine Lib.hid ?_
        have HE := Lib.hid ((kp_drewN (fun _ => False) w1 nq).trans' hk4)
        clear hk4
        go_wp2_with fail
        simp only [AfterMid]
        repeat (quiet_step (fail))
        refine wpQuiet_nil ?_
        rintro wd ⟨nr, rfl⟩
        have hkr := HE.out.trans' (kp_drewN (fun _ => False) w4 nr)
        have HR := Lib.hid hkr
        clear hkr
        go_wp2_with fail
        go_ret2
        exact HW.out S.K (fun x S' => x = leafOf _ n ∧ S' = S) _ (pot S) _ _ ⟨S, _, .none, Nat.le_refl _, H.out.2.1.same HR.out, Go0.same HR.out, .inl ⟨_, rfl, by have := HF.out.1; omega, by have := HF.out.1; omega, ⟨by simp [leafOf], rfl⟩, fun _ => Nat.le_refl _⟩⟩ (by omega) (fun x S' hx => .inr (.inr (.inr (.inr (.inl ⟨by have h := HF.out.2; first | omega | (simp only [true_and] at h; omega), hx.1, hx.2⟩))))) (fun _ => Nat.le_add_right _ _)
      · have HC := Lib.hid (fun nq => smallok_ref (HTq.out nq) (.pointer (some ⟨tb, 0, none⟩)) HT.out.2)
        have hr : 0 ≤ n * 8 % 18446744073709551616 + 3 ∧ n * 8 % 18446744073709551616 + 3 ≤ 18446744073709551615 := by omega
        have HF := Lib.hid (And.intro hr hn)
        clear hr hn
        go_enter Tryz.func84, Tryz.ntmps84
        go_wp2_with fail
        refine wp_region_draw 8 _ (by kernel_rfl) (by kernel_rfl) rfl ?_
        simp only [List.take_succ_cons, List.take_zero, List.drop_succ_cons, List.drop_zero]
        repeat (quiet_step (fail))
        refine wpQuiet_nil ?_
        rintro wd ⟨nq, rfl⟩
        go_wp2_with (go_at_call 131; refine (HC.out nq).mono ?_; rintro e4 w4 ⟨rfl, hk4⟩; refine Hid.out ?_)
        refine Lib.hid ?_
        have HE := Lib.hid ((kp_drewN (fun _ => False) w1 nq).trans' hk4)
        clear hk4
        go_wp2_with fail
        simp only [AfterMid]
        repeat (quiet_step (fail))
        refine wpQuiet_nil ?_
        rintro wd ⟨nr, rfl⟩
        have hkr := HE.out.trans' (kp_drewN (fun _ => False) w4 nr)
        have HR := Lib.hid hkr
        clear hkr
        go_wp2_with fail
        go_ret2
        exact HW.out S.K (fun x S' => x = leafOf _ n ∧ S' = S) _ (pot S) _ _ ⟨S, _, .none, Nat.le_refl _, H.out.2.1.same HR.out, Go0.same HR.out, .inl ⟨_, rfl, by have := HF.out.1; omega, by have := HF.out.1; omega, ⟨by simp [leafOf], rfl⟩, fun _ => Nat.le_refl _⟩⟩ (by omega) (fun x S' hx => .inr (.inr (.inr (.inr (.inl ⟨by have h := HF.out.2; first | omega | (simp only [true_and] at h; omega), hx.1, hx.2⟩))))) (fun _ => Nat.le_add_right _ _)
      · have HC := Lib.hid (fun nq => smallok_pid (HTq.out nq) (.pointer (some ⟨tb, 0, none⟩)) HT.out.2)
        have hr : 0 ≤ n * 8 % 18446744073709551616 + 2 ∧ n * 8 % 18446744073709551616 + 2 ≤ 18446744073709551615 := by omega
        have HF := Lib.hid (And.intro hr hn)
        clear hr hn
        go_enter Tryz.func84, Tryz.ntmps84
        go_wp2_with fail
        refine wp_region_draw 8 _ (by kernel_rfl) (by kernel_rfl) rfl ?_
        simp only [List.take_succ_cons, List.take_zero, List.drop_succ_cons, List.drop_zero]
        repeat (quiet_step (fail))
        refine wpQuiet_nil ?_
        rintro wd ⟨nq, rfl⟩
        go_wp2_with (go_at_call 131; refine (HC.out nq).mono ?_; rintro e4 w4 ⟨rfl, hk4⟩; refine Hid.out ?_)
        refine Lib.hid ?_
        have HE := Lib.hid ((kp_drewN (fun _ => False) w1 nq).trans' hk4)
        clear hk4
        go_wp2_with fail
        simp only [AfterMid]
        repeat (quiet_step (fail))
        refine wpQuiet_nil ?_
        rintro wd ⟨nr, rfl⟩
        have hkr := HE.out.trans' (kp_drewN (fun _ => False) w4 nr)
        have HR := Lib.hid hkr
        clear hkr
        go_wp2_with fail
        go_ret2
        exact HW.out S.K (fun x S' => x = leafOf _ n ∧ S' = S) _ (pot S) _ _ ⟨S, _, .none, Nat.le_refl _, H.out.2.1.same HR.out, Go0.same HR.out, .inl ⟨_, rfl, by have := HF.out.1; omega, by have := HF.out.1; omega, ⟨by simp [leafOf], rfl⟩, fun _ => Nat.le_refl _⟩⟩ (by omega) (fun x S' hx => .inr (.inr (.inr (.inr (.inl ⟨by have h := HF.out.2; first | omega | (simp only [true_and] at h; omega), hx.1, hx.2⟩))))) (fun _ => Nat.le_add_right _ _)
      · have HC := Lib.hid (fun nq => smallok_nil (HTq.out nq) (.pointer (some ⟨tb, 0, none⟩)) HT.out.2)
        have hr : 0 ≤ n * 8 % 18446744073709551616 + 4 ∧ n * 8 % 18446744073709551616 + 4 ≤ 18446744073709551615 := by omega
        have HF := Lib.hid (And.intro hr hn)
        clear hr hn
        go_enter Tryz.func84, Tryz.ntmps84
        go_wp2_with fail
        refine wp_region_draw 8 _ (by kernel_rfl) (by kernel_rfl) rfl ?_
        simp only [List.take_succ_cons, List.take_zero, List.drop_succ_cons, List.drop_zero]
        repeat (quiet_step (fail))
        refine wpQuiet_nil ?_
        rintro wd ⟨nq, rfl⟩
        go_wp2_with (go_at_call 131; refine (HC.out nq).mono ?_; rintro e4 w4 ⟨rfl, hk4⟩; refine Hid.out ?_)
        refine Lib.hid ?_
        have HE := Lib.hid ((kp_drewN (fun _ => False) w1 nq).trans' hk4)
        clear hk4
        go_wp2_with fail
        simp only [AfterMid]
        repeat (quiet_step (fail))
        refine wpQuiet_nil ?_
        rintro wd ⟨nr, rfl⟩
        have hkr := HE.out.trans' (kp_drewN (fun _ => False) w4 nr)
        have HR := Lib.hid hkr
        clear hkr
        go_wp2_with fail
        go_ret2
        exact HW.out S.K (fun x S' => x = leafOf _ n ∧ S' = S) _ (pot S) _ _ ⟨S, _, .none, Nat.le_refl _, H.out.2.1.same HR.out, Go0.same HR.out, .inl ⟨_, rfl, by have := HF.out.1; omega, by have := HF.out.1; omega, ⟨by simp [leafOf], rfl⟩, fun _ => Nat.le_refl _⟩⟩ (by omega) (fun x S' hx => .inr (.inr (.inr (.inr (.inl ⟨by have h := HF.out.2; first | omega | (simp only [true_and] at h; omega), hx.1, hx.2⟩))))) (fun _ => Nat.le_add_right _ _)
theorem term_all (hN : N ≤ 90000000000000) (hN1 : 1 ≤ N) : ∀ h, TermIs w0 lb hb ab tb bb sv least sl names N mb h
  | 0 => fun _ _ _ _ _ _ hT => hT.elim
  | h + 1 => term_succ hN hN1 (term_all hN hN1 h)
end
end Go.Proofs.YtkcmfldcdokobaaGreatDoor
