/- A wheel that is new. -/
import Derived.Test.YtmekhijmghddiaaWhCancel
namespace Go.Proofs.Ytmekhijmghddiaa
open Go.RowKit

section
variable {w : World}
set_option maxHeartbeats 1000000 in
theorem new_bad (w : World) (m : Int) (h : m < 1 ∨ 4096 < m) :
    Calls Try.prog 9 #[.int .i64 m] w (EBad w (fun v => .tuple #[.pointer none, v]) [Lk.fault ⟨#[119, 104, 101, 101, 108]⟩ m, Lk.kind 1]) := by
  have HB := Lib.hid (ebad1 w (fun v => .tuple #[.pointer none, v]) ⟨#[119, 104, 101, 101, 108]⟩ m 1 (by decide) 0)
  rcases h with h | h
  · go_enter Try.func9, Try.ntmps9
    go_wp2_with (go_at_call 27; refine (at_any _ _ _ _ _).mono ?_; rintro e w' ⟨rfl, rfl⟩)
    go_ret2
    exact HB.out
  · have h2 : ¬ m < 1 := by omega
    go_enter Try.func9, Try.ntmps9
    go_wp2_with (go_at_call 27; refine (at_any _ _ _ _ _).mono ?_; rintro e w' ⟨rfl, rfl⟩)
    go_ret2
    exact HB.out
def zcells (m : Int) (mb : Nat) : Array Value := #[.int .i64 m, .int .i64 0, .int .i64 0, .map (some mb)] ++ Array.replicate 320 (.pointer none)
theorem zcells_eq (m : Int) (mb : Nat) : (Try.zeroCells85.setIfInBounds 0 (.int .i64 m)).setIfInBounds 3 (.map (some mb)) = zcells m mb := by kernel_rfl
def WNewTo (m : Nat) (w : World) (e : Ending) (w' : World) : Prop :=
  e = .returned (.tuple #[.pointer (some ⟨w.heap.size + 1, 0, none⟩), .nilIface]) ∧ Wh w' (fun q => q = w.heap.size + 1) (w.heap.size + 1) w.heap.size m 0 0 (fun _ => []) [] ∧ Kp (fun _ => False) w w' ∧ w'.heap.size = w.heap.size + 2
theorem new_wh (w : World) (m : Nat) : Wh ((w.alloc (.map #[] 0)).alloc (.cells (zcells (m : Nat) w.heap.size) 85)) (fun q => q = w.heap.size + 1) (w.heap.size + 1) w.heap.size m 0 0 (fun _ => []) [] := by
  have hz : (w.alloc (.map #[] 0)).heap.size = w.heap.size + 1 := by simp
  have hrow := heap_alloc_new (w.alloc (.map #[] 0)) (.cells (zcells (m : Nat) w.heap.size) 85)
  rw [hz] at hrow
  refine ⟨⟨⟨_, hrow, fun i v hi => ?_, fun s hs => ?_⟩, rfl, fun _ _ => trivial, fun _ _ => by simp, fun s s' _ _ t ht => by simp at ht, rfl, fun s _ t ht => by simp at ht, fun q hq => by rw [hq]; simp⟩,
    (Mp.new w).same ((Kp.refl _ _).alloc _), by omega, fun t => ?_, fun s _ t ht => by simp at ht, fun t ht => by simp at ht, fun t ht => by simp at ht, by omega, by omega⟩
  · unfold zcells
    rcases i with _ | _ | _ | _ | i
    · simp [whv] at hi ⊢; exact hi
    · simp [whv] at hi ⊢; exact hi
    · simp [whv] at hi ⊢; exact hi
    · simp [whv] at hi ⊢; exact hi
    · simp [whv] at hi
  · unfold zcells
    rw [Array.getElem?_append_right (by simp)]
    simp [hs, hdOr, tptr]
  · constructor
    · rintro ⟨s, hs, ht⟩
      simp at ht
    · intro ht
      simp at ht
set_option maxRecDepth 100000 in
set_option maxHeartbeats 2000000 in
theorem new_ok (w : World) (m : Nat) (h1 : 1 ≤ m) (h2 : m ≤ 4096) :
    Calls Try.prog 9 #[.int .i64 (m : Nat)] w (WNewTo m w) := by
  have hmm := @run_makeMap Try.prog
  have HB := Lib.hid (new_wh w m)
  have hzc := zcells_eq (m : Int) w.heap.size
  have n1 : ¬ (m : Int) < 1 := by omega
  have n2 : ¬ 4096 < (m : Int) := by omega
  go_enter Try.func9, Try.ntmps9
  go_wp2_with fail
  go_ret2
  exact ⟨rfl, HB.out, ((Kp.refl _ w).alloc _).alloc _, by simp⟩
end
end Go.Proofs.Ytmekhijmghddiaa
