/- Marks, and the statements' common example. -/
import Derived.Test.YtlnckpjpoaokjaaOp
namespace Go.Proofs.Ytlnckpjpoaokjaa
open Go.RowKit

theorem mark_ok (k n : Int) (w : World) (h1 : 1 ≤ k) (h2 : k ≤ 4) (h3 : 0 ≤ n) (h4 : n ≤ 1048576) :
    Calls Try.prog 56 #[.int .i64 k, .int .i64 n] w fun e w' => e = .returned (.tuple #[.int .u64 (n * 64 + k * 8 + 7), .nilIface]) ∧ w' = w := by
  go_enter Try.func56, Try.ntmps56
  go_wp2
  go_ret2
  exact ⟨ret2 (mark_bits k n (by omega) (by omega) h3 h4), rfl⟩

def badMark (k n : Int) : Prop := k < 1 ∨ 4 < k ∨ n < 0 ∨ 1048576 < n

theorem mark_bad (k n : Int) (w : World) (h : badMark k n) :
    Calls Try.prog 56 #[.int .i64 k, .int .i64 n] w (EBad w (fun v => .tuple #[.int .u64 0, v]) [Lk.fault ⟨#[109, 97, 114, 107]⟩ k, Lk.kind 1]) := by
  by_cases h1 : k < 1
  · clear h
    go_enter Try.func56, Try.ntmps56
    go_wp2_with (go_at_call 39; refine (at_any _ _ _ _ _).mono ?_; rintro e w' ⟨rfl, rfl⟩)
    go_ret2
    exact ebad1 w _ _ _ _ (by decide) 0
  · by_cases h2 : 4 < k
    · clear h
      go_enter Try.func56, Try.ntmps56
      go_wp2_with (go_at_call 39; refine (at_any _ _ _ _ _).mono ?_; rintro e w' ⟨rfl, rfl⟩)
      go_ret2
      exact ebad1 w _ _ _ _ (by decide) 0
    · by_cases h3 : n < 0
      · clear h
        go_enter Try.func56, Try.ntmps56
        go_wp2_with (go_at_call 39; refine (at_any _ _ _ _ _).mono ?_; rintro e w' ⟨rfl, rfl⟩)
        go_ret2
        exact ebad1 w _ _ _ _ (by decide) 0
      · have h4 : 1048576 < n := by unfold badMark at h; omega
        clear h
        go_enter Try.func56, Try.ntmps56
        go_wp2_with (go_at_call 39; refine (at_any _ _ _ _ _).mono ?_; rintro e w' ⟨rfl, rfl⟩)
        go_ret2
        exact ebad1 w _ _ _ _ (by decide) 0

theorem ret3 {j k : IntKind} {a b c d : Int} {v : Value} (h : a = b) (h2 : c = d) : Ending.returned (.tuple #[.int j a, .int k c, v]) = .returned (.tuple #[.int j b, .int k d, v]) := by rw [h, h2]

/-- what is no mark -/
def badMarked (x : Int) : Prop := x % 8 ≠ 7 ∨ x / 8 % 8 < 1 ∨ 4 < x / 8 % 8 ∨ 1048576 < x / 64

theorem newAtoms_any (w : World) : Calls Try.prog 28 #[] w fun e w' => e = .returned (.pointer (some ⟨w.heap.size, 0, none⟩)) ∧
    w' = w.alloc (.cells #[.int .u32 0, .int .i32 0, .int .u32 0, .map none, .slice none 0 0] 124) := by
  go_enter Try.func28, Try.ntmps28
  go_wp2
  go_ret
  exact ⟨rfl, rfl⟩

set_option maxHeartbeats 400000 in
theorem awakeW_any (w : World) : Calls Try.prog 33 #[] w fun e w' => e = .returned (.bool true) ∧ Kp (fun _ => False) w w' := by
  go_enter Try.func33, Try.ntmps33
  go_wp2_with fail
  refine (newAtoms_any w).mono ?_
  rintro e w1 ⟨rfl, rfl⟩
  go_wp2_with fail
  refine (small_int (-1) _ _ (by omega) (by omega)).mono ?_
  rintro e w2 ⟨rfl, hk⟩
  have Hk := Lib.hid hk
  clear hk
  go_wp2_with fail
  refine (mark_ok 1 3 w2 (by omega) (by omega) (by omega) (by omega)).mono ?_
  rintro e w3 ⟨rfl, rfl⟩
  go_wp2_with fail
  go_ret
  exact ⟨rfl, ((Kp.refl _ w).alloc _).trans' Hk.out⟩
end Go.Proofs.Ytlnckpjpoaokjaa
