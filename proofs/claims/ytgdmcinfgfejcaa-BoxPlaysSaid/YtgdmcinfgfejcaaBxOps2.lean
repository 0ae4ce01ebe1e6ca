/- A box: Push, Words, Swap, leave, tighten, Take. -/
import Derived.Test.YtgdmcinfgfejcaaBxOps
import Derived.OwnWalk
import Derived.StillTailTactics
namespace Go.Proofs.Ytgdmcinfgfejcaa
open Go.RowKit

section
variable {F : Nat → Prop} {w w' : World} {b : Nat} {v v' : Value} {xs ys : List Int} {gone p p' : Nat}
/-- the blocks that a box may write -/
def BxF (b : Nat) (v : Value) : Nat → Prop := fun q => q = b ∨ v.ownBlock = some q

set_option maxHeartbeats 1000000 in
theorem push_any (h : BxL w b v xs gone p) (x : Int) (hm : xs.length + 1 ≤ 17592186044416) : Calls Try.prog 9 #[.pointer (some ⟨b, 0, none⟩), .int .u64 x] w fun e w' => e = .returned (.tuple #[]) ∧
    ∃ v', BxL w' b v' (xs ++ [x]) gone p ∧ (∀ g, v'.ownBlock = some g → v.ownBlock = some g ∨ w.heap.size ≤ g) ∧ Kp (BxF b v) w w' := by
  obtain ⟨c0, c1, c2, fz, hb, hne⟩ := h.facts
  obtain ⟨g, cap, w1, hr, ho, hk, hat, hlt⟩ := words_push h.2.1 hm x
  have hblk : w1.heap[b]? = some (.cells #[v, .int .i64 (gone : Nat), .int .i64 (p : Nat)] 26 (0, 0)) := (hk.block b hb (fun e => hne e)).trans h.1
  have d0 : w1.cell? ⟨b, 0, none⟩ = some v := by rw [cell_of_row w1 b 0 _ _ _ hblk]; rfl
  have df : w1.frozen? ⟨b, 0, none⟩ = false := by simp [World.frozen?, hblk]
  have hgb : (Value.slice (some ⟨g, 0, none⟩) (xs.length + 1) cap).ownBlock ≠ some b := by
    intro e
    rcases hat with e1 | e1
    · exact hne (by rw [e1]; exact e)
    · have e' : g = b := by injection e
      omega
  have hfin := bxl_list (p := p) hblk ho hgb (by rw [List.length_append]; have := h.2.2.1; omega) (by rw [List.length_append]; exact hm)
  have HF := Lib.hid (And.intro hfin (And.intro hat (And.intro hk hr)))
  clear h hfin hat hk hblk hgb ho hlt hr
  go_enter Try.func9, Try.ntmps9
  go_wp2_with (at_builtin; refine wpList_run rfl _ _ 24 rfl v (.slice (some ⟨w.heap.size, 0, none⟩) 1 1) rfl rfl _ w1 HF.out.2.2.2 ?_)
  go_end0
  refine ⟨rfl, _, HF.out.1, fun g' e => ?_, ?_⟩
  · injection e with e
    subst e
    exact HF.out.2.1
  · exact (HF.out.2.2.1.mono (fun q _ hq => .inr hq)).setCell ⟨b, 0, none⟩ _ (.inl (.inl rfl))
theorem made_words (n : Nat) : (madeCells (Value.int .u64 0).cells (n * 1)).toList = wv (List.replicate n 0) := by
  apply List.ext_getElem
  · simp [madeCells, wv]
  · intro i h1 h2
    simp [madeCells, Nat.mod_one, wv, Value.cells]
theorem splice_all {zs ys : List Int} (h : zs.length = ys.length) : splice zs 0 ys = ys := by
  simp [splice, h]

set_option maxHeartbeats 1000000 in
theorem words_any (h : BxL w b v xs gone p) : Calls Try.prog 19 #[.pointer (some ⟨b, 0, none⟩)] w fun e w' => ∃ v', e = .returned v' ∧
    Wr w' v' (xs.drop gone) ∧ (∀ g, v'.ownBlock = some g → w.heap.size ≤ g) ∧ v'.ownBlock ≠ none ∧ Kp (fun _ => False) w w' := by
  obtain ⟨i0, hi, hz0, hz1, hz2⟩ := info_parts Try.infoWord
  have HL := Lib.hid (len_q h)
  obtain ⟨n, hn⟩ : ∃ n, xs.length - gone = n := ⟨_, rfl⟩
  rw [hn] at HL
  have hn2 : n ≤ 17592186044416 := by have := h.2.2.2; omega
  have H := Lib.hid (And.intro h hn)
  clear h hn
  go_enter Try.func19, Try.ntmps19
  go_wp2_with fail
  refine HL.out.mono ?_
  rintro e w1 ⟨rfl, m1, hw1⟩
  have hk1 : Kp (fun _ => False) w w1 := by rw [hw1]; exact kp_drewN (Kp.refl _ w) m1
  have H1 := Lib.hid (And.intro (H.out.1.same hk1) hk1)
  clear hw1 hk1 HL
  have hb2 : i0.bytes * n ≤ 281474976710656 := by rw [hz2]; omega
  have hb3 : n ≤ maxLen := by unfold maxLen; omega
  have HB := Lib.hid (And.intro hb2 hb3)
  clear hb2 hb3 hn2
  go_wp2_with (at_make; refine wpList_make_full _ rfl _ _ 24 rfl w1.heap.size 27 i0 (.int .u64 0) 1 Try.underlying24 hi hz0 hz1 .i64 .i64 _ _ n rfl rfl rfl rfl HB.out.1 HB.out.2 (Nat.le_refl _) ?_; intro w2 hown hgrow; refine Hid.out ?_)
  have hk2 : Kp (fun _ => False) w1 w2 := (Kp.refl _ w1).grown hgrow (fun q hq => by cases hq)
  rw [made_words] at hown
  have ho2 : Wr w2 (.slice (some ⟨w1.heap.size, 0, none⟩) n n) (List.replicate n 0) := by
    unfold Wr
    rw [List.length_replicate]
    rcases hown.2 with ⟨e, _⟩ | ⟨g, cap, cur, e, hb, hg, h6, h7, h8, h9⟩
    · cases e
    · exact ⟨by simp [wv], .inr ⟨g, cap, cur, e, Nat.zero_le _, hg, h6, by omega, h7, by rw [Nat.mul_one] at h9; exact h9⟩⟩
  have h2 := H1.out.1.same hk2
  obtain ⟨po, hpo, hms⟩ := messages_q h2
  rw [H.out.2] at hpo hms
  have H2 := Lib.hid (And.intro ho2 (And.intro h2 (And.intro hk2 hpo)))
  have HM := Lib.hid (hms 0)
  clear hown hgrow hk2 ho2 h2 hpo hms
  refine Lib.hid ?_
  go_wp2_with fail
  refine HM.out.mono ?_
  rintro e w3 ⟨rfl, m3, hw3⟩
  have hk3 : Kp (fun _ => False) w2 w3 := by rw [hw3]; exact kp_drewN (Kp.refl _ w2) m3
  have h3 := H2.out.2.1.same hk3
  obtain ⟨w4, hr, ho4, hk4⟩ := words_over (w := w3) (cs := xs.drop gone) (H2.out.1.same hk3) 0 n n n n (some ⟨w1.heap.size, 0, none⟩) po 3 (by rw [List.length_drop, H.out.2]; simp)
    (fun _ => ⟨w1.heap.size, n, by rw [List.length_replicate], rfl⟩)
    (fun i x hx => by
      rw [List.getElem?_drop] at hx
      have hlt := (List.getElem?_eq_some_iff.1 hx).1
      have hnn := H.out.2
      obtain ⟨g, cap, e1, e2⟩ := H2.out.2.2.2 (by omega)
      obtain ⟨g', cap', e3, _, _, hc⟩ := h3.2.1.get hx
      rw [e1] at e3
      injection e3 with e3
      injection e3 with e3
      injection e3 with e3
      subst e3
      exact ⟨g, gone, e2, hc⟩)
    (by rw [List.length_replicate, List.length_drop, H.out.2]; omega)
  have H4 := Lib.hid (And.intro hr (And.intro ho4 (And.intro hk4 hk3)))
  clear hr ho4 hk4 hw3 h3 hk3
  go_wp2_with ((refine wpList_runc rfl _ _ 24 rfl (.slice (some ⟨w1.heap.size, 0, none⟩) n n) (.slice po n n) rfl rfl _ w4 H4.out.1 ?_))
  go_ret
  refine ⟨_, rfl, ?_, fun g e => ?_, (by intro e; cases e), ?_⟩
  · have := H4.out.2.1
    rw [splice_all (by rw [List.length_replicate, List.length_drop, H.out.2])] at this
    exact this
  · have e' : w1.heap.size = g := by injection e
    have := H1.out.2.size
    omega
  · refine (H1.out.2.trans' (H2.out.2.2.1.trans' H4.out.2.2.2)).trans (H4.out.2.2.1.mono fun q hq hF => ?_)
    have e' : w1.heap.size = q := by injection hF
    have := H1.out.2.size
    exact .inr ⟨by omega, hq⟩

set_option maxHeartbeats 1000000 in
theorem swap_ok (h : BxL w b v xs gone p) {u : Value} (hu : Rd w u ys) (hl : ys.length = xs.length - gone) : Calls Try.prog 15 #[.pointer (some ⟨b, 0, none⟩), u] w fun e w' => e = .returned (.bool true) ∧
    BxL w' b v (splice xs gone ys) gone p ∧ Kp (fun q => v.ownBlock = some q) w w' := by
  have HL := Lib.hid (len_q h)
  obtain ⟨-, -, -, -, hb, hne⟩ := h.facts
  obtain ⟨pu, cu, rfl, hu1, hu2, hu3⟩ := hu
  obtain ⟨n, hn⟩ : ∃ n, xs.length - gone = n := ⟨_, rfl⟩
  rw [hn] at HL hl
  rw [hl] at hu1
  rw [hl]
  have hn2 : n ≤ 17592186044416 := by have := h.2.2.2; omega
  have hcu : cu ≤ 9223372036854775807 := by unfold maxLen at hu2; omega
  have H := Lib.hid (And.intro h (And.intro hn (And.intro hl hu3)))
  clear h hn hl hu3 hu2
  go_enter Try.func15, Try.ntmps15
  go_wp2_with fail
  refine HL.out.mono ?_
  rintro e w1 ⟨rfl, m1, hw1⟩
  have hk1 : Kp (fun _ => False) w w1 := by rw [hw1]; exact kp_drewN (Kp.refl _ w) m1
  have h1 := H.out.1.same hk1
  obtain ⟨po, hpo, hms⟩ := messages_q h1
  rw [H.out.2.1] at hpo hms
  have H1 := Lib.hid (And.intro h1 (And.intro hk1 hpo))
  have HM := Lib.hid (hms 0)
  clear hw1 hk1 h1 hpo hms HL
  go_wp2_with fail
  refine HM.out.mono ?_
  rintro e w3 ⟨rfl, m3, hw3⟩
  have hk3 : Kp (fun _ => False) w1 w3 := by rw [hw3]; exact kp_drewN (Kp.refl _ w1) m3
  have h3 := H1.out.1.same hk3
  obtain ⟨w4, hr, ho4, hk4⟩ := words_over (w := w3) (cs := ys) h3.2.1 gone n n n cu po pu 3 (by rw [H.out.2.2.1]; simp)
    (fun _ => by have := H.out.2.2.1; exact H1.out.2.2 (by omega))
    (fun i x hx => by
      obtain ⟨g, o, e1, hc⟩ := H.out.2.2.2 i x hx
      exact ⟨g, o, e1, ((H1.out.2.1.trans' hk3).cell (p := ⟨g, o + i, none⟩) (World.block_lt_of_cell? _ _ hc) (fun e => e)).trans hc⟩)
    (by have := H.out.2.1; have := H.out.2.2.1; have := h3.2.2.1; omega)
  have hb4 : BxL w4 b v (splice xs gone ys) gone p := by
    have hlen := length_splice xs gone ys (by have := H.out.2.1; have := H.out.2.2.1; have := h3.2.2.1; omega)
    exact ⟨(hk4.block b (Array.getElem?_eq_some_iff.1 h3.1).1 (fun e => hne e)).trans h3.1, ho4, by rw [hlen]; exact h3.2.2.1, by rw [hlen]; exact h3.2.2.2⟩
  have H4 := Lib.hid (And.intro hr (And.intro hb4 (And.intro hk4 hk3)))
  clear hr ho4 hk4 hw3 h3 hk3 hb4
  go_wp2_with (refine wpList_runc rfl _ _ 24 rfl (.slice po n n) (.slice pu n cu) rfl rfl _ w4 H4.out.1 ?_)
  go_ret
  exact ⟨rfl, H4.out.2.1, ((H1.out.2.1.trans' H4.out.2.2.2).mono (fun _ _ e => e.elim)).trans' H4.out.2.2.1⟩
set_option maxHeartbeats 1000000 in
theorem swap_bad (h : BxL w b v xs gone p) {u : Value} (hu : Rd w u ys) (hl : ys.length ≠ xs.length - gone) : Calls Try.prog 15 #[.pointer (some ⟨b, 0, none⟩), u] w fun e w' => e = .returned (.bool false) ∧ ∃ m, w' = w.drewN m := by
  have HL := Lib.hid (len_q h)
  obtain ⟨pu, cu, rfl, hu1, hu2, hu3⟩ := hu
  obtain ⟨n, hn⟩ : ∃ n, xs.length - gone = n := ⟨_, rfl⟩
  rw [hn] at HL hl
  obtain ⟨k, hk⟩ : ∃ k, ys.length = k := ⟨_, rfl⟩
  rw [hk] at hl
  rw [hk]
  have hne : ((k : Int) == (n : Int)) = false := by simp; omega
  clear h hn hl hu3 hu2 hu1 hk
  go_enter Try.func15, Try.ntmps15
  go_wp2_with fail
  refine HL.out.mono ?_
  rintro e w1 ⟨rfl, m1, rfl⟩
  go_wp2_with fail
  go_ret
  exact ⟨rfl, m1, rfl⟩
end
end Go.Proofs.Ytgdmcinfgfejcaa
