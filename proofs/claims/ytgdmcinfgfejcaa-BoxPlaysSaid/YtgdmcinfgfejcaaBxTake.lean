/- A box: leave, tighten, Take. -/
import Derived.Test.YtgdmcinfgfejcaaBxOps2
import Derived.StillTailTactics
namespace Go.Proofs.Ytgdmcinfgfejcaa
open Go.RowKit

section
variable {F : Nat → Prop} {w w' : World} {b : Nat} {v v' : Value} {xs ys : List Int} {gone p p' : Nat}
theorem drop_splice (xs : List Int) (gone p : Nat) (h : gone + p < xs.length) : (splice xs (gone + 1) ((xs.drop gone).take p)).drop (gone + 1) = (xs.drop gone).eraseIdx p := by
  have h1 : (xs.take (gone + 1)).length = gone + 1 := by simp; omega
  have h2 : ((xs.drop gone).take p).length = p := by simp; omega
  unfold splice
  rw [List.drop_append, h1, Nat.sub_self, List.drop_zero, List.drop_eq_nil_of_le (Nat.le_of_eq h1), List.nil_append, h2, List.eraseIdx_eq_take_drop_succ, List.drop_drop]
  congr 2
  omega

set_option maxHeartbeats 1000000 in
theorem leave_any (h : BxL w b v xs gone p) (hp : gone + p < xs.length) : Calls Try.prog 23 #[.pointer (some ⟨b, 0, none⟩)] w fun e w' => e = .returned (.tuple #[]) ∧
    BxL w' b v (splice xs (gone + 1) ((xs.drop gone).take p)) (gone + 1) p ∧ Kp (BxF b v) w w' := by
  obtain ⟨n, hn⟩ : ∃ n, xs.length - gone = n := ⟨_, rfl⟩
  obtain ⟨po, hpo, hms⟩ := messages_q h
  rw [hn] at hpo hms
  obtain ⟨g, cap, rfl, rfl⟩ := hpo (by omega)
  have HM := Lib.hid (hms 0)
  have hn2 : n ≤ 17592186044416 := by have := h.2.2.2; omega
  have hg2 : gone ≤ 17592186044416 := by have := h.2.2.2; omega
  have hpn : p < n := by omega
  have hcl : ((xs.drop gone).take p).length = p := by simp; omega
  have H := Lib.hid (And.intro h (And.intro hn (And.intro hp hcl)))
  have hw : IntKind.i64.wrap ((p : Int) + 1) = ((p + 1 : Nat) : Int) := by rw [IntWalk.i64_in _ (by omega)]; rfl
  have hw2 : IntKind.i64.wrap ((gone : Int) + 1) = ((gone + 1 : Nat) : Int) := by rw [IntWalk.i64_in _ (by omega)]; rfl
  clear h hn hpo hms hp hcl
  go_enter Try.func23, Try.ntmps23
  go_wp2_with fail
  refine HM.out.mono ?_
  rintro e w1 ⟨rfl, m1, hw1⟩
  have hk1 : Kp (fun _ => False) w w1 := by rw [hw1]; exact kp_drewN (Kp.refl _ w) m1
  have h1 := H.out.1.same hk1
  obtain ⟨c0, c1, c2, fz, hb, hne⟩ := h1.facts
  have H1 := Lib.hid (And.intro h1 (And.intro hk1 hne))
  clear hw1 hk1 h1 HM hne
  by_cases h1n : n = 1
  · subst h1n
    obtain rfl : p = 0 := by omega
    obtain ⟨w4, hr, ho4, hk4⟩ := words_over (w := w1.drew) (cs := (xs.drop gone).take 0) H1.out.1.2.1 (gone + 1) 0 0 0 1 (some ⟨g, gone, none⟩) (some ⟨g, gone, none⟩) 3 (by rw [H.out.2.2.2]; simp)
      (fun hpos => by have := H.out.2.2.2; first | exact ⟨g, cap, rfl, rfl⟩ | omega)
      (fun i x hx => by
        have hip : i < 0 := by have := (List.getElem?_eq_some_iff.1 hx).1; have := H.out.2.2.2; omega
        rw [List.getElem?_take, if_pos hip, List.getElem?_drop] at hx
        obtain ⟨g', cap', e3, _, _, hc⟩ := H1.out.1.2.1.get hx
        injection e3 with e3
        injection e3 with e3
        injection e3 with e3
        subst e3
        exact ⟨g, gone, rfl, hc⟩)
      (by have := H.out.2.2.1; have := H.out.2.2.2; omega)
    have hlen := length_splice xs (gone + 1) ((xs.drop gone).take 0) (by have := H.out.2.2.1; have := H.out.2.2.2; omega)
    have hb4 : BxL w4 b (.slice (some ⟨g, 0, none⟩) xs.length cap) (splice xs (gone + 1) ((xs.drop gone).take 0)) gone 0 := by
      refine ⟨(hk4.block b (Array.getElem?_eq_some_iff.1 H1.out.1.1).1 (fun e => H1.out.2.2 e)).trans H1.out.1.1, ho4, ?_, ?_⟩
      · rw [hlen]; exact H1.out.1.2.2.1
      · rw [hlen]; exact H1.out.1.2.2.2
    have hk14 : Kp (BxF b (.slice (some ⟨g, 0, none⟩) xs.length cap)) w w4 :=
      (H1.out.2.1.mono (fun _ _ e => e.elim)).trans' ((kp_drewN (Kp.refl _ w1) 1).trans' (hk4.mono fun q _ hq => .inr hq))
    obtain ⟨d0, d1, d2, df, -, -⟩ := hb4.facts
    have H4 := Lib.hid (And.intro hr (And.intro hb4 (And.intro hk14 hlen)))
    clear hr ho4 hk4 hb4 hlen hk14
    go_wp2_with fail
    have q0 : IntKind.i64.wrap 1 = 1 := by decide
    go_still_tail 13, (by kernel_rfl)
    refine wpList_runc rfl _ _ 24 rfl (.slice (some ⟨g, gone, none⟩) 0 0) (.slice (some ⟨g, gone, none⟩) 0 1) rfl rfl _ w4 H4.out.1 ?_
    go_wp2_with fail
    go_end0
    refine ⟨rfl, ?_, ?_⟩
    · refine H4.out.2.1.setg (gone + 1) ?_
      rw [H4.out.2.2.2]
      have := H.out.2.2.1
      omega
    · exact H4.out.2.2.1.setCell ⟨b, 1, none⟩ _ (.inl (.inl rfl))
  · have hn3 : ((n : Int) - 1) = ((n - 1 : Nat) : Int) := by omega
    have hnp : (1 : Int) < n := by omega
    obtain ⟨w4, hr, ho4, hk4⟩ := words_over (w := w1.drew) (cs := (xs.drop gone).take p) H1.out.1.2.1 (gone + 1) p (n - 1) p n (some ⟨g, gone + 1, none⟩) (some ⟨g, gone, none⟩) 3 (by rw [H.out.2.2.2]; simp)
      (fun hpos => by have := H.out.2.2.2; first | exact ⟨g, cap, rfl, rfl⟩ | omega)
      (fun i x hx => by
        have hip : i < p := by have := (List.getElem?_eq_some_iff.1 hx).1; have := H.out.2.2.2; omega
        rw [List.getElem?_take, if_pos hip, List.getElem?_drop] at hx
        obtain ⟨g', cap', e3, _, _, hc⟩ := H1.out.1.2.1.get hx
        injection e3 with e3
        injection e3 with e3
        injection e3 with e3
        subst e3
        exact ⟨g, gone, rfl, hc⟩)
      (by have := H.out.2.2.1; have := H.out.2.2.2; omega)
    have hlen := length_splice xs (gone + 1) ((xs.drop gone).take p) (by have := H.out.2.2.1; have := H.out.2.2.2; omega)
    have hb4 : BxL w4 b (.slice (some ⟨g, 0, none⟩) xs.length cap) (splice xs (gone + 1) ((xs.drop gone).take p)) gone p := by
      refine ⟨(hk4.block b (Array.getElem?_eq_some_iff.1 H1.out.1.1).1 (fun e => H1.out.2.2 e)).trans H1.out.1.1, ho4, ?_, ?_⟩
      · rw [hlen]; exact H1.out.1.2.2.1
      · rw [hlen]; exact H1.out.1.2.2.2
    have hk14 : Kp (BxF b (.slice (some ⟨g, 0, none⟩) xs.length cap)) w w4 :=
      (H1.out.2.1.mono (fun _ _ e => e.elim)).trans' ((kp_drewN (Kp.refl _ w1) 1).trans' (hk4.mono fun q _ hq => .inr hq))
    obtain ⟨d0, d1, d2, df, -, -⟩ := hb4.facts
    have H4 := Lib.hid (And.intro hr (And.intro hb4 (And.intro hk14 hlen)))
    clear hr ho4 hk4 hb4 hlen hk14
    go_wp2_with fail
    have q1 : (1 : Int) ≤ (p : Int) + 1 := by omega
    have q2 : (p : Int) + 1 ≤ n := by omega
    have q3 : ((p : Int) + 1).toNat = p + 1 := by omega
    have q4 : (0 : Int) ≤ (p : Int) + 1 := by omega
    have q5 : (p : Int) ≤ n := by omega
    have q6 : ¬ n - 1 = 0 := by omega
    have q7 : ¬ n = 1 := by omega
    have q8 : ¬ n = 0 := by omega
    go_still_tail 13, (by kernel_rfl)
    refine wpList_runc rfl _ _ 24 rfl (.slice (some ⟨g, gone + 1, none⟩) p (n - 1)) (.slice (some ⟨g, gone, none⟩) p n) rfl rfl _ w4 H4.out.1 ?_
    go_wp2_with fail
    go_end0
    refine ⟨rfl, ?_, ?_⟩
    · refine H4.out.2.1.setg (gone + 1) ?_
      rw [H4.out.2.2.2]
      have := H.out.2.2.1
      omega
    · exact H4.out.2.2.1.setCell ⟨b, 1, none⟩ _ (.inl (.inl rfl))

set_option maxHeartbeats 1000000 in
theorem tighten_any (h : BxL w b v xs gone p) : Calls Try.prog 24 #[.pointer (some ⟨b, 0, none⟩)] w fun e w' => e = .returned (.tuple #[]) ∧
    ∃ v' xs' gone', BxL w' b v' xs' gone' p ∧ xs'.drop gone' = xs.drop gone ∧ gone' ≤ xs'.length - gone' ∧ (∀ g, v'.ownBlock = some g → v.ownBlock = some g ∨ w.heap.size ≤ g) ∧ Kp (BxF b v) w w' := by
  obtain ⟨n, hn⟩ : ∃ n, xs.length - gone = n := ⟨_, rfl⟩
  obtain ⟨c0, c1, c2, fz, hb, hne⟩ := h.facts
  have HL := Lib.hid (fun k => len_q (h.drewN k))
  rw [hn] at HL
  have H := Lib.hid (And.intro h (And.intro hn hne))
  clear h hn hne
  by_cases hgn : n < gone
  · have hgi : (n : Int) < gone := by omega
    go_enter Try.func24, Try.ntmps24
    go_wp2_with fail
    go_quiet ((go_at_call 16; exact Calls.quiet_of (HL.out _)))
    obtain ⟨wq, hwq⟩ : ∃ wq, w.drewN nq = wq := ⟨_, rfl⟩
    rw [hwq]
    have hkq : Kp (fun _ => False) w wq := by rw [← hwq]; exact kp_drewN (Kp.refl _ w) nq
    have HW := Lib.hid (words_any (H.out.1.same hkq))
    have HQ := Lib.hid hkq
    clear hwq hkq c0 c1 c2 fz
    go_wp2_with fail
    refine HW.out.mono ?_
    rintro e w2 ⟨u, rfl, hu, hfr, -, hk2⟩
    obtain ⟨pu, cu, hu0⟩ := hu.form
    obtain ⟨ln, hln⟩ : ∃ ln, (xs.drop gone).length = ln := ⟨_, rfl⟩
    rw [hln] at hu0
    clear hln
    subst hu0
    have h2 := H.out.1.same (HQ.out.trans' hk2)
    obtain ⟨c0, c1, c2, fz, hb2, hne2⟩ := h2.facts
    have hub : (Value.slice pu ln cu).ownBlock ≠ some b := fun e => by have := hfr b e; have := HQ.out.size; omega
    have hb3 : BxL ((w2.setCell ⟨b, 0, none⟩ (Value.slice pu ln cu)).setCell ⟨b, 1, none⟩ (.int .i64 ((0 : Nat) : Int))) b (Value.slice pu ln cu) (xs.drop gone) 0 p := by
      have e1 := bx_heap_set (i := 1) (bx_heap_set (i := 0) h2.1 (Value.slice pu ln cu)) (.int .i64 ((0 : Nat) : Int))
      refine ⟨e1.trans rfl, ?_, Nat.zero_le _, ?_⟩
      · exact (hu.kp (kp_setb w2 b 0 _) (fun g hg e => hub (by rw [hg, e]))).kp (kp_setb _ b 1 _) (fun g hg e => hub (by rw [hg, e]))
      · rw [List.length_drop]; have := h2.2.2.2; omega
    have HF := Lib.hid (And.intro hb3 (And.intro hfr hk2))
    clear h2 hb3 hu hfr hk2 HW HL
    go_wp2_with fail
    go_end0
    refine ⟨rfl, _, xs.drop gone, 0, HF.out.1, rfl, Nat.zero_le _, fun g hg => .inr (Nat.le_trans HQ.out.size (HF.out.2.1 g hg)), ?_⟩
    exact ((((HQ.out.trans' HF.out.2.2).mono (fun _ _ e => e.elim)).setCell ⟨b, 0, none⟩ _ (.inl (.inl rfl))).setCell ⟨b, 1, none⟩ _ (.inl (.inl rfl)))
  · have hgi : ¬ ((n : Int) < gone) := by omega
    have hgd : decide ((n : Int) < (gone : Int)) = false := by simpa using hgi
    go_enter Try.func24, Try.ntmps24
    go_wp2_with fail
    go_quiet ((go_at_call 16; exact Calls.quiet_of (HL.out _)))
    go_wp2_with fail
    go_end0
    refine ⟨rfl, v, xs, gone, H.out.1.drewN _, rfl, by have := H.out.2.1; omega, fun g hg => .inl hg, kp_drewN (Kp.refl _ w) _⟩

set_option maxHeartbeats 1000000 in
theorem take_some (h : BxL w b v xs gone p) {x : Int} (hx : xs[gone + p]? = some x) : Calls Try.prog 12 #[.pointer (some ⟨b, 0, none⟩)] w fun e w' => e = .returned (.tuple #[.int .u64 x, .bool true]) ∧
    ∃ v' xs' gone', BxL w' b v' xs' gone' 0 ∧ xs'.drop gone' = (xs.drop gone).eraseIdx p ∧ gone' ≤ xs'.length - gone' ∧ (∀ g, v'.ownBlock = some g → v.ownBlock = some g ∨ w.heap.size ≤ g) ∧ Kp (BxF b v) w w' := by
  have hlt := (List.getElem?_eq_some_iff.1 hx).1
  have HP := Lib.hid (peek_some h hx)
  have H := Lib.hid (And.intro h hlt)
  clear h hx hlt
  go_enter Try.func12, Try.ntmps12
  go_wp2_with fail
  refine HP.out.mono ?_
  rintro e w1 ⟨rfl, m1, hw1⟩
  have hk1 : Kp (fun _ => False) w w1 := by rw [hw1]; exact kp_drewN (Kp.refl _ w) m1
  have HV := Lib.hid (leave_any (H.out.1.same hk1) H.out.2)
  have H1 := Lib.hid hk1
  clear hw1 hk1 HP
  go_wp2_with fail
  refine HV.out.mono ?_
  rintro e w2 ⟨rfl, h2, hk2⟩
  obtain ⟨c0, c1, c2, fz, -, -⟩ := h2.facts
  have h3 := h2.setp 0
  have HT := Lib.hid (tighten_any h3)
  have H2 := Lib.hid (And.intro h2 hk2)
  clear h2 hk2 h3 HV
  go_wp2_with fail
  refine HT.out.mono ?_
  rintro e w4 ⟨rfl, v', xs', gone', h4, hd, hg, hf, hk4⟩
  have H4 := Lib.hid (And.intro h4 (And.intro hd (And.intro hg (And.intro hf hk4))))
  clear h4 hd hg hf hk4 HT
  go_wp2_with fail
  go_ret2
  refine ⟨rfl, v', xs', gone', H4.out.1, ?_, H4.out.2.2.1, fun g hg => ?_, ?_⟩
  · rw [H4.out.2.1]; exact drop_splice xs gone p H.out.2
  · rcases H4.out.2.2.2.1 g hg with e | e
    · exact .inl e
    · right
      have h1 := H1.out.size
      have h2 := H2.out.2.size
      have h3 : (w2.setCell ⟨b, 2, none⟩ (.int .i64 ((0 : Nat) : Int))).heap.size = w2.heap.size := by simp [World.setCell]
      omega
  · exact (((H1.out.mono (fun _ _ e => e.elim)).trans' H2.out.2).setCell ⟨b, 2, none⟩ _ (.inl (.inl rfl))).trans' H4.out.2.2.2.2
set_option maxHeartbeats 400000 in
theorem take_none (h : BxL w b v xs gone p) (hx : xs.length ≤ gone + p) : Calls Try.prog 12 #[.pointer (some ⟨b, 0, none⟩)] w fun e w' => e = .returned (.tuple #[.int .u64 0, .bool false]) ∧ ∃ m, w' = w.drewN m := by
  have HP := Lib.hid (peek_none h hx)
  clear h hx
  go_enter Try.func12, Try.ntmps12
  go_wp2_with fail
  refine HP.out.mono ?_
  rintro e w1 ⟨rfl, m1, rfl⟩
  go_wp2_with fail
  go_ret2
  exact ⟨rfl, _, rfl⟩
end
end Go.Proofs.Ytgdmcinfgfejcaa
