/- The chapter's example. -/
import Derived.Test.YtgdmcinfgfejcaaBxState
namespace Go.Proofs.Ytgdmcinfgfejcaa
open Go.RowKit

theorem rd_lit2 {w : World} {g : Nat} (x y : Int) (hg : w.heap[g]? = some (.cells #[.int .u64 x, .int .u64 y] 27 (0, 0))) : Rd w (.slice (some ⟨g, 0, none⟩) 2 2) [x, y] := by
  refine ⟨_, 2, rfl, by simp, by simp [maxLen], fun i z hi => ⟨g, 0, rfl, ?_⟩⟩
  rw [Nat.zero_add, cell_of_row w g i _ _ _ hg]
  rcases i with _ | _ | i
  · simp at hi; subst hi; rfl
  · simp at hi; subst hi; rfl
  · simp at hi
theorem box_new (w : World) : (w.alloc (.cells #[.slice none 0 0, .int .i64 0, .int .i64 0] 26)).heap[w.heap.size]? = some (.cells #[.slice none 0 0, .int .i64 0, .int .i64 0] 26 (0, 0)) := heap_alloc_new w _

set_option maxRecDepth 100000 in
set_option maxHeartbeats 2000000 in
theorem boxAwake_any (w : World) : Calls Try.prog 20 #[] w fun e w' => e = .returned (.bool true) ∧ Kp (fun _ => False) w w' := by
  have H0 := Lib.hid (Bs.new_box (w0 := w) (n := 0) (box_new w) ((Kp.refl _ w).alloc _) (Nat.le_refl _))
  obtain ⟨w1, hw1⟩ : ∃ w1, w.alloc (.cells #[.slice none 0 0, .int .i64 0, .int .i64 0] 26) = w1 := ⟨_, rfl⟩
  rw [hw1] at H0
  have HW := Lib.hid hw1
  clear hw1
  go_enter Try.func20, Try.ntmps20
  go_wp2_with fail
  rw [HW.out]
  refine (s_push H0.out 5 (by simp)).mono ?_
  rintro e w2 ⟨rfl, h2⟩
  have H2 := Lib.hid h2
  clear h2
  go_wp2_with fail
  refine (s_push H2.out 6 (by simp)).mono ?_
  rintro e w3 ⟨rfl, h3⟩
  have H3 := Lib.hid h3
  clear h3
  go_wp2_with fail
  refine (s_push H3.out 7 (by simp)).mono ?_
  rintro e w4 ⟨rfl, h4⟩
  have H4 := Lib.hid h4
  clear h4
  go_wp2_with fail
  refine (s_next H4.out 1 (by simp)).mono ?_
  rintro e w5 ⟨rfl, h5⟩
  have H5 := Lib.hid h5
  clear h5
  go_wp2_with fail
  refine (s_take_some H5.out (x := 6) (by simp)).mono ?_
  rintro e w6 ⟨rfl, g6, h6⟩
  have H6 := Lib.hid h6
  clear h6
  go_wp2_with fail
  refine (s_words H6.out).mono ?_
  rintro e w7 ⟨v7, rfl, hv7, -, hk7⟩
  have h7 := H6.out.same hk7
  have hka : Kp (fun _ => False) w7 (w7.alloc (.cells #[.int .u64 5, .int .u64 7] 27)) := (Kp.refl _ w7).alloc _
  have hs := sameWords_any (l := [5, 7]) (hv7.rd.same hka) (rd_lit2 (w := w7.alloc (.cells #[.int .u64 5, .int .u64 7] 27)) 5 7 (heap_alloc_new w7 _))
  have H7 := Lib.hid (And.intro (h7.same hka) hs)
  clear hv7 hk7 h7 hka hs
  go_wp2_with fail
  refine H7.out.2.mono ?_
  rintro e w8 ⟨rfl, m8, hw8⟩
  have h8 : Bs w w8 w.heap.size g6 [5, 7] 0 0 (fun _ => .slice none 0 0) (fun _ => []) := by rw [hw8]; exact H7.out.1.drewN m8
  have H8 := Lib.hid h8
  clear hw8 h8
  go_wp2_with fail
  refine (s_at H8.out).mono ?_
  rintro e w9 ⟨rfl, h9⟩
  have H9 := Lib.hid h9
  clear h9
  go_wp2_with fail
  go_ret
  exact ⟨rfl, H9.out.kp⟩
end Go.Proofs.Ytgdmcinfgfejcaa
