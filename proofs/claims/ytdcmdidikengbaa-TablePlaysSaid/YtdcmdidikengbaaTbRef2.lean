/- The document's own table: New, Live, Slot, Add, All. -/
import Derived.Test.YtdcmdidikengbaaTbRef1
namespace Go.Proofs.Ytdcmdidikengbaa
open Go.RowKit
set_option linter.unusedVariables false

section
variable {F : Nat → Prop} {w w' : World} {b g1 g2 size B : Nat} {v : Value} {sl : List Sg} {ns : List Nm} {p : Int}
theorem bools_set {l : List Bool} {g cap : Nat} (h : Bw w (.slice (some ⟨g, 0, none⟩) l.length cap) l) (k : Nat) (x : Bool) :
    Bw (w.setCell ⟨g, k, none⟩ (.bool x)) (.slice (some ⟨g, 0, none⟩) l.length cap) (l.set k x) ∧ Kp (fun q => q = g) w (w.setCell ⟨g, k, none⟩ (.bool x)) := by
  rcases h.2 with ⟨e, _⟩ | ⟨g', cap', cur, e, hb, hg, h2, h3, h4, h5⟩
  · cases e
  · injection e with e1 _ e2
    injection e1 with e1
    injection e1 with e1
    subst e1 e2
    refine ⟨?_, (Kp.refl _ w).setCell _ _ (.inl rfl)⟩
    unfold Bw
    rw [List.length_set]
    refine ⟨by simp, .inr ⟨g, cap, _, rfl, hb, heap_setT hg _, h2, by simpa using h3, h4, ?_⟩⟩
    rw [Array.toList_setIfInBounds, List.take_set, h5, List.map_set]
theorem bools_fz {l : List Bool} {g cap n : Nat} (h : Bw w (.slice (some ⟨g, 0, none⟩) n cap) l) (o : Nat) : w.frozen? ⟨g, o, none⟩ = false := by
  rcases h.2 with ⟨e, _⟩ | ⟨g', cap', cur, e, hb, hg, _⟩
  · cases e
  · injection e with e1
    injection e1 with e1
    injection e1 with e1
    subst e1
    simp [World.frozen?, hg]
theorem bools_made (n : Nat) (h1 : 1 ≤ n) (hn : n ≤ 64) : Bw (w.alloc (.cells (madeCells #[.bool false] n) 4)) (.slice (some ⟨w.heap.size, 0, none⟩) n n) (List.replicate n false) := by
  refine ⟨by simp, .inr ⟨w.heap.size, n, _, ?_, Nat.zero_le _, heap_alloc_new w _, by simp, by simp [size_madeCells], by unfold maxLen; omega, ?_⟩⟩
  · simp
  · rw [toList_madeCells_one, List.take_of_length_le (by simp)]
    simp
theorem givenL_nil (n : Nat) : givenL n [] = List.replicate n 0 := by
  unfold givenL givenAt
  refine List.ext_getElem? fun j => ?_
  by_cases hj : j < n
  · simp [hj]
  · rw [List.getElem?_eq_none (by simp; omega), List.getElem?_eq_none (by simp; omega)]
theorem onL_nil (n : Nat) : onL n [] = List.replicate n false := by
  unfold onL onAt
  refine List.ext_getElem? fun j => ?_
  by_cases hj : j < n
  · simp [hj]
  · rw [List.getElem?_eq_none (by simp; omega), List.getElem?_eq_none (by simp; omega)]
set_option maxHeartbeats 1000000 in
theorem xtnew_bad (m : Int) (w : World) (h : m < 1 ∨ 64 < m) :
    Calls Try.prog 24 #[.int .i64 m] w (XBad w (fun v => .tuple #[.pointer none, v]) [Lk.fault ⟨#[116, 97, 98, 108, 101]⟩ m, Lk.kind 1]) := by
  have HB := Lib.hid (xbad1 w (fun v => .tuple #[.pointer none, v]) ⟨#[116, 97, 98, 108, 101]⟩ m 1 0)
  rcases h with h | h
  · go_enter Try.func24, Try.ntmps24
    go_wp2_with (first | (go_at_call 47; refine (k_any _ _).mono ?_; rintro e w1 ⟨rfl, rfl⟩) | (go_at_call 46; refine (f14_any _ _ _ _).mono ?_; rintro e w1 ⟨rfl, rfl⟩))
    go_ret2
    exact HB.out
  · have h2 : ¬ m < 1 := by omega
    go_enter Try.func24, Try.ntmps24
    go_wp2_with (first | (go_at_call 47; refine (k_any _ _).mono ?_; rintro e w1 ⟨rfl, rfl⟩) | (go_at_call 46; refine (f14_any _ _ _ _).mono ?_; rintro e w1 ⟨rfl, rfl⟩))
    go_ret2
    exact HB.out
set_option maxHeartbeats 1000000 in
theorem xtlive_any (h : RT w b g1 g2 v size sl ns) (hok : SlOk B sl) (hB : B ≤ 2305843009213693952) (hfit : sl.length ≤ size) (hs64 : size ≤ 64) (p : Int) (hp2 : p ≤ 9223372036854775807) :
    Calls Try.prog 29 #[.pointer (some ⟨b, 0, none⟩), .int .i64 p] w fun e w' => e = .returned (.bool (decide (kindAt sl p = 0))) ∧ w = w' := by
  have HK := xkind_any h hok hB hfit hs64 p hp2
  clear h hok
  rcases kindAt_cases sl p with hk | hk | hk <;> rw [hk] at HK ⊢
  all_goals
    go_enter Try.func29, Try.ntmps29
    go_wp2_with (go_at_call 49; refine HK.mono ?_; rintro e w' ⟨rfl, rfl⟩)
    go_ret
    exact ⟨rfl, rfl⟩
set_option maxHeartbeats 1000000 in
theorem xtslot_ok (h : RT w b g1 g2 v size sl ns) (hok : SlOk B sl) (hB : B ≤ 2305843009213693952) (hfit : sl.length ≤ size) (hs64 : size ≤ 64) (p : Int) (hp2 : p ≤ 9223372036854775807) (hk : kindAt sl p = 0) :
    Calls Try.prog 30 #[.pointer (some ⟨b, 0, none⟩), .int .i64 p] w fun e w' => e = .returned (.tuple #[.int .i64 (slotAt p), .pointer none]) ∧ w = w' := by
  have HK := xkind_any h hok hB hfit hs64 p hp2
  have HS := xtslot_any p w
  rw [hk] at HK
  clear h hok hk
  go_enter Try.func30, Try.ntmps30
  go_wp2_with (first | (go_at_call 49; refine HK.mono ?_; rintro e w' ⟨rfl, rfl⟩) | (go_at_call 50; refine HS.mono ?_; rintro e w' ⟨rfl, rfl⟩))
  go_ret2
  exact ⟨rfl, rfl⟩
set_option maxHeartbeats 1000000 in
theorem xtslot_bad (h : RT w b g1 g2 v size sl ns) (hok : SlOk B sl) (hB : B ≤ 2305843009213693952) (hfit : sl.length ≤ size) (hs64 : size ≤ 64) (p : Int) (hp2 : p ≤ 9223372036854775807) (hk : kindAt sl p ≠ 0) :
    Calls Try.prog 30 #[.pointer (some ⟨b, 0, none⟩), .int .i64 p] w (XBad w (fun v => .tuple #[.int .i64 (-1), v]) [Lk.fault ⟨#[115, 108, 111, 116]⟩ (slotAt p), Lk.kind (kindAt sl p)]) := by
  have HK := xkind_any h hok hB hfit hs64 p hp2
  have HS := xtslot_any p w
  have HB := Lib.hid (xbad1 w (fun v => .tuple #[.int .i64 (-1), v]) ⟨#[115, 108, 111, 116]⟩ (slotAt p) (kindAt sl p) 0)
  clear h hok
  obtain ⟨s, hs⟩ : ∃ s, slotAt p = s := ⟨_, rfl⟩
  rw [hs] at HS HB ⊢
  clear hs
  rcases kindAt_cases sl p with hk2 | hk2 | hk2
  · exact absurd hk2 hk
  all_goals
    rw [hk2] at HK HB ⊢
    clear hk hk2
    go_enter Try.func30, Try.ntmps30
    go_wp2_with (first | (go_at_call 49; refine HK.mono ?_; rintro e w' ⟨rfl, rfl⟩) | (go_at_call 50; refine HS.mono ?_; rintro e w' ⟨rfl, rfl⟩) | (go_at_call 47; refine (k_any _ _).mono ?_; rintro e w1 ⟨rfl, rfl⟩) | (go_at_call 46; refine (f14_any _ _ _ _).mono ?_; rintro e w1 ⟨rfl, rfl⟩))
    go_ret2
    exact HB.out
end
end Go.Proofs.Ytdcmdidikengbaa
