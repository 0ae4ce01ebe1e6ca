/- A box: how it lies in memory, and what its methods that only read tell. -/
import Derived.Test.YtgdmcinfgfejcaaBxCopy
namespace Go.Proofs.Ytgdmcinfgfejcaa
open Go.RowKit

/-- a box at block b: its list is v, whose words are xs; so many are gone, so far it has looked -/
def BxL (w : World) (b : Nat) (v : Value) (xs : List Int) (gone p : Nat) : Prop :=
  w.heap[b]? = some (.cells #[v, .int .i64 (gone : Nat), .int .i64 (p : Nat)] 26 (0, 0)) ∧ Wr w v xs ∧ gone ≤ xs.length ∧ xs.length ≤ 17592186044416

section
variable {F : Nat → Prop} {w w' : World} {b : Nat} {v : Value} {xs : List Int} {gone p : Nat}
theorem BxL.facts (h : BxL w b v xs gone p) : w.cell? ⟨b, 0, none⟩ = some v ∧ w.cell? ⟨b, 1, none⟩ = some (.int .i64 gone) ∧ w.cell? ⟨b, 2, none⟩ = some (.int .i64 p) ∧ (∀ o, w.frozen? ⟨b, o, none⟩ = false) ∧ b < w.heap.size ∧ v.ownBlock ≠ some b := by
  refine ⟨by rw [cell_of_row w b 0 _ _ _ h.1]; rfl, by rw [cell_of_row w b 1 _ _ _ h.1]; rfl, by rw [cell_of_row w b 2 _ _ _ h.1]; rfl, fun o => by simp [World.frozen?, h.1], (Array.getElem?_eq_some_iff.1 h.1).1, fun e => ?_⟩
  rcases h.2.1.2 with ⟨rfl, _⟩ | ⟨g, cap, cur, rfl, _, hg, _⟩
  · cases e
  · injection e with e
    subst e
    rw [h.1] at hg
    injection hg with hg
    injection hg with _ hg
    exact absurd hg (by decide)
theorem BxL.kp (h : BxL w b v xs gone p) (hk : Kp F w w') (h1 : ¬ F b) (h2 : ∀ g, v.ownBlock = some g → ¬ F g) : BxL w' b v xs gone p :=
  ⟨(hk.block b (Array.getElem?_eq_some_iff.1 h.1).1 h1).trans h.1, h.2.1.kp hk h2, h.2.2⟩
theorem BxL.same (h : BxL w b v xs gone p) (hk : Kp (fun _ => False) w w') : BxL w' b v xs gone p := h.kp hk (fun e => e) (fun _ _ e => e)
theorem BxL.drewN (h : BxL w b v xs gone p) (k : Nat) : BxL (w.drewN k) b v xs gone p := h.same (kp_drewN (Kp.refl _ w) k)

set_option maxHeartbeats 400000 in
theorem len_q (h : BxL w b v xs gone p) : Calls Try.prog 16 #[.pointer (some ⟨b, 0, none⟩)] w fun e w' => e = .returned (.int .i64 ((xs.length - gone : Nat) : Int)) ∧ ∃ m, w' = w.drewN m := by
  obtain ⟨c0, c1, c2, fz, -, -⟩ := h.facts
  obtain ⟨po, cap, rfl⟩ := h.2.1.form
  have h1 := h.2.2.1
  have h2 := h.2.2.2
  have hw : IntKind.i64.wrap ((xs.length : Int) - (gone : Int)) = ((xs.length - gone : Nat) : Int) := by rw [IntWalk.i64_in _ (by omega)]; omega
  clear h
  go_enter Try.func16, Try.ntmps16
  go_wp2_with fail
  go_quiet (fail)
  go_wp2_with fail
  go_ret
  exact ⟨by first | rfl | (rw [hw]) | (congr 2; omega), _, rfl⟩

set_option maxHeartbeats 400000 in
theorem there_q (h : BxL w b v xs gone p) : Calls Try.prog 21 #[.pointer (some ⟨b, 0, none⟩)] w fun e w' => e = .returned (.bool (decide (p < xs.length - gone))) ∧ ∃ m, w' = w.drewN m := by
  obtain ⟨c0, c1, c2, fz, -, -⟩ := h.facts
  have H := Lib.hid (fun k => len_q (h.drewN k))
  obtain ⟨n, hn⟩ : ∃ n, xs.length - gone = n := ⟨_, rfl⟩
  rw [hn] at H
  rw [hn]
  clear h
  go_enter Try.func21, Try.ntmps21
  go_wp2_with fail
  go_quiet ((go_at_call 16; exact Calls.quiet_of (H.out _)))
  go_wp2_with fail
  go_ret
  exact ⟨by simp, _, rfl⟩

set_option maxHeartbeats 1000000 in
theorem messages_q (h : BxL w b v xs gone p) : ∃ po, (0 < xs.length - gone → ∃ g cap, v = .slice (some ⟨g, 0, none⟩) xs.length cap ∧ po = some ⟨g, gone, none⟩) ∧
    ∀ k, Calls Try.prog 22 #[.pointer (some ⟨b, 0, none⟩)] (w.drewN k) fun e w' => e = .returned (.slice po (xs.length - gone) (xs.length - gone)) ∧ ∃ m, w' = (w.drewN k).drewN m := by
  obtain ⟨c0, c1, c2, fz, -, -⟩ := h.facts
  have h1 := h.2.2.1
  have h2 := h.2.2.2
  have ho := h.2.1
  rcases ho.2 with ⟨e, h0⟩ | ⟨g, cap, cur, e, hb, hg, h3, h4, h5, h6⟩
  · rw [h0] at h1 ⊢
    obtain rfl : gone = 0 := by omega
    subst e
    refine ⟨none, fun e => absurd e (by omega), fun k => ?_⟩
    clear h ho h1 h2
    go_enter Try.func22, Try.ntmps22
    go_wp2_with fail
    go_quiet (fail)
    go_wp2_with fail
    go_ret
    exact ⟨rfl, _, rfl⟩
  · subst e
    obtain ⟨n, hn⟩ : ∃ n, xs.length = n := ⟨_, rfl⟩
    rw [hn] at c0 h1 h2 h3 ⊢
    have h7 : cap ≤ 9223372036854775807 := by unfold maxLen at h5; omega
    clear h ho h4 h5 h6 hg hb
    by_cases hgn : gone = n
    · subst hgn
      refine ⟨some ⟨g, 0, none⟩, fun e => absurd e (by omega), fun k => ?_⟩
      go_enter Try.func22, Try.ntmps22
      go_wp2_with fail
      go_quiet (fail)
      go_wp2_with fail
      go_ret
      refine ⟨?_, _, rfl⟩
      simp
    · refine ⟨some ⟨g, gone, none⟩, fun _ => ⟨g, cap, rfl, rfl⟩, fun k => ?_⟩
      go_enter Try.func22, Try.ntmps22
      go_wp2_with fail
      go_quiet (fail)
      go_wp2_with fail
      go_ret
      exact ⟨rfl, _, rfl⟩
end
end Go.Proofs.Ytgdmcinfgfejcaa
