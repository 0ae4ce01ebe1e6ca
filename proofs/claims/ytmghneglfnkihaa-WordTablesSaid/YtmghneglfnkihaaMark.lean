/- Marks, and the statements' common example. -/
import Derived.Test.YtmghneglfnkihaaOp
namespace Go.Proofs.Ytmghneglfnkihaa
open Go.RowKit

/-- an error and nothing else that is new but blocks of errors: the chain of these links -/
def EBad (w : World) (mk : Value → Value) (l : List Lk) (e : Ending) (w' : World) : Prop :=
  ∃ v, e = .returned (mk v) ∧ ChainB w.heap.size w' v l ∧ Kp (fun _ => False) w w'
def XBad (w : World) (mk : Value → Value) (l : List Lk) (e : Ending) (w' : World) : Prop :=
  ∃ v, e = .returned (mk v) ∧ XCh w' v l ∧ Kp (fun _ => False) w w'

theorem ebad1 (w : World) (mk : Value → Value) (op : ByteArray) (n k : Int) (hk : k ≠ 0) (j : Nat) :
    EBad w mk [Lk.fault op n, Lk.kind k] (.returned (mk (.iface 72 (.pointer (some ⟨w.heap.size, 0, none⟩))))) ((w.alloc (.cells #[.string op, .int .i64 n, .iface 73 (.int .i64 k)] 75)).drewN j) := by
  refine ⟨_, rfl, ChainB.cons op n (ChainB.root _ _ hk) (Nat.le_refl _) ?_, ?_⟩
  · exact heap_alloc_new w _
  · have := (Kp.refl (fun _ => False) w).alloc (.cells #[.string op, .int .i64 n, .iface 73 (.int .i64 k)] 75)
    exact ⟨this.os, this.tape, this.output, this.size, this.block⟩

theorem xbad1 (w : World) (mk : Value → Value) (op : ByteArray) (n k : Int) (j : Nat) :
    XBad w mk [Lk.fault op n, Lk.kind k] (.returned (mk (.pointer (some ⟨w.heap.size + 1, 0, none⟩))))
      (((w.alloc (.cells #[.string ByteArray.empty, .int .i64 0, .pointer none, .int .i64 k] 118)).alloc (.cells #[.string op, .int .i64 n, .pointer (some ⟨w.heap.size, 0, none⟩), .int .i64 0] 118)).drewN j) := by
  refine ⟨_, rfl, .inr ⟨rfl, by simp, w.heap.size + 1, w.heap.size, rfl, ?_, .inl ⟨rfl, _, rfl, ?_, rfl, rfl⟩⟩, ?_⟩
  · have := heap_alloc_new (w.alloc (.cells #[.string ByteArray.empty, .int .i64 0, .pointer none, .int .i64 k] 118)) (.cells #[.string op, .int .i64 n, .pointer (some ⟨w.heap.size, 0, none⟩), .int .i64 0] 118)
    have hz : (w.alloc (.cells #[.string ByteArray.empty, .int .i64 0, .pointer none, .int .i64 k] 118)).heap.size = w.heap.size + 1 := by simp
    rw [hz] at this
    exact this
  · have := heap_alloc_new w (.cells #[.string ByteArray.empty, .int .i64 0, .pointer none, .int .i64 k] 118)
    exact (Below.heap_alloc _ _ _ (by simp)).trans this
  · have := ((Kp.refl (fun _ => False) w).alloc (.cells #[.string ByteArray.empty, .int .i64 0, .pointer none, .int .i64 k] 118)).alloc (.cells #[.string op, .int .i64 n, .pointer (some ⟨w.heap.size, 0, none⟩), .int .i64 0] 118)
    exact ⟨this.os, this.tape, this.output, this.size, this.block⟩

theorem ret2 {k : IntKind} {a b : Int} {v : Value} (h : a = b) : Ending.returned (.tuple #[.int k a, v]) = .returned (.tuple #[.int k b, v]) := by rw [h]

theorem mark_ok (k n : Int) (w : World) (h1 : 1 ≤ k) (h2 : k ≤ 4) (h3 : 0 ≤ n) (h4 : n ≤ 1048576) :
    Calls Try.prog 23 #[.int .i64 k, .int .i64 n] w fun e w' => e = .returned (.tuple #[.int .u64 (n * 64 + k * 8 + 7), .nilIface]) ∧ w' = w := by
  go_enter Try.func23, Try.ntmps23
  go_wp2
  go_ret2
  exact ⟨ret2 (mark_bits k n (by omega) (by omega) h3 h4), rfl⟩

theorem xmark_ok (k n : Int) (w : World) (h1 : 1 ≤ k) (h2 : k ≤ 4) (h3 : 0 ≤ n) (h4 : n ≤ 1048576) :
    Calls Try.prog 24 #[.int .i64 k, .int .i64 n] w fun e w' => e = .returned (.tuple #[.int .u64 (n * 64 + k * 8 + 7), .pointer none]) ∧ w' = w := by
  go_enter Try.func24, Try.ntmps24
  go_wp2
  go_ret2
  exact ⟨rfl, rfl⟩

def badMark (k n : Int) : Prop := k < 1 ∨ 4 < k ∨ n < 0 ∨ 1048576 < n

theorem mark_bad (k n : Int) (w : World) (h : badMark k n) :
    Calls Try.prog 23 #[.int .i64 k, .int .i64 n] w (EBad w (fun v => .tuple #[.int .u64 0, v]) [Lk.fault ⟨#[109, 97, 114, 107]⟩ k, Lk.kind 1]) := by
  by_cases h1 : k < 1
  · clear h
    go_enter Try.func23, Try.ntmps23
    go_wp2_with (go_at_call 34; refine (at_any _ _ _ _ _).mono ?_; rintro e w' ⟨rfl, rfl⟩)
    go_ret2
    exact ebad1 w _ _ _ _ (by decide) 0
  · by_cases h2 : 4 < k
    · clear h
      go_enter Try.func23, Try.ntmps23
      go_wp2_with (go_at_call 34; refine (at_any _ _ _ _ _).mono ?_; rintro e w' ⟨rfl, rfl⟩)
      go_ret2
      exact ebad1 w _ _ _ _ (by decide) 0
    · by_cases h3 : n < 0
      · clear h
        go_enter Try.func23, Try.ntmps23
        go_wp2_with (go_at_call 34; refine (at_any _ _ _ _ _).mono ?_; rintro e w' ⟨rfl, rfl⟩)
        go_ret2
        exact ebad1 w _ _ _ _ (by decide) 0
      · have h4 : 1048576 < n := by unfold badMark at h; omega
        clear h
        go_enter Try.func23, Try.ntmps23
        go_wp2_with (go_at_call 34; refine (at_any _ _ _ _ _).mono ?_; rintro e w' ⟨rfl, rfl⟩)
        go_ret2
        exact ebad1 w _ _ _ _ (by decide) 0

theorem xmark_bad (k n : Int) (w : World) (h : badMark k n) :
    Calls Try.prog 24 #[.int .i64 k, .int .i64 n] w (XBad w (fun v => .tuple #[.int .u64 0, v]) [Lk.fault ⟨#[109, 97, 114, 107]⟩ k, Lk.kind 1]) := by
  by_cases h1 : k < 1
  · clear h
    go_enter Try.func24, Try.ntmps24
    go_wp2_with (first | (go_at_call 36; refine (k_any _ _).mono ?_; rintro e w1 ⟨rfl, rfl⟩) | (go_at_call 35; refine (f_any _ _ _ _).mono ?_; rintro e w1 ⟨rfl, rfl⟩))
    go_ret2
    exact xbad1 w _ _ k 1 0
  · by_cases h2 : 4 < k
    · clear h
      go_enter Try.func24, Try.ntmps24
      go_wp2_with (first | (go_at_call 36; refine (k_any _ _).mono ?_; rintro e w1 ⟨rfl, rfl⟩) | (go_at_call 35; refine (f_any _ _ _ _).mono ?_; rintro e w1 ⟨rfl, rfl⟩))
      go_ret2
      exact xbad1 w _ _ k 1 0
    · by_cases h3 : n < 0
      · clear h
        go_enter Try.func24, Try.ntmps24
        go_wp2_with (first | (go_at_call 36; refine (k_any _ _).mono ?_; rintro e w1 ⟨rfl, rfl⟩) | (go_at_call 35; refine (f_any _ _ _ _).mono ?_; rintro e w1 ⟨rfl, rfl⟩))
        go_ret2
        exact xbad1 w _ _ k 1 0
      · have h4 : 1048576 < n := by unfold badMark at h; omega
        clear h
        go_enter Try.func24, Try.ntmps24
        go_wp2_with (first | (go_at_call 36; refine (k_any _ _).mono ?_; rintro e w1 ⟨rfl, rfl⟩) | (go_at_call 35; refine (f_any _ _ _ _).mono ?_; rintro e w1 ⟨rfl, rfl⟩))
        go_ret2
        exact xbad1 w _ _ k 1 0

theorem ret3 {j k : IntKind} {a b c d : Int} {v : Value} (h : a = b) (h2 : c = d) : Ending.returned (.tuple #[.int j a, .int k c, v]) = .returned (.tuple #[.int j b, .int k d, v]) := by rw [h, h2]

theorem marked_ok (x k n : Int) (w : World) (hx : x = n * 64 + k * 8 + 7) (h1 : 1 ≤ k) (h2 : k ≤ 4) (h3 : 0 ≤ n) (h4 : n ≤ 1048576) :
    Calls Try.prog 25 #[.int .u64 x] w fun e w' => e = .returned (.tuple #[.int .i64 k, .int .i64 n, .bool true]) ∧ w' = w := by
  have h5 : 0 ≤ x := by omega
  have h6 : x ≤ 18446744073709551615 := by omega
  have e1 : bits BinOp.and IntKind.u64 x 7 = 7 := by rw [and_low3 x h5 h6]; omega
  have e2 : bits BinOp.and IntKind.u64 (x / 8) 7 = k := by rw [and_low3 _ (by omega) (by omega)]; omega
  have e3 : x / 64 = n := by omega
  clear hx
  go_enter Try.func25, Try.ntmps25
  go_wp2
  go_ret3
  exact ⟨rfl, rfl⟩

/-- what is no mark -/
def badMarked (x : Int) : Prop := x % 8 ≠ 7 ∨ x / 8 % 8 < 1 ∨ 4 < x / 8 % 8 ∨ 1048576 < x / 64

theorem marked_bad (x : Int) (w : World) (h5 : 0 ≤ x) (h6 : x ≤ 18446744073709551615) (h : badMarked x) :
    Calls Try.prog 25 #[.int .u64 x] w fun e w' => e = .returned (.tuple #[.int .i64 0, .int .i64 0, .bool false]) ∧ w' = w := by
  obtain ⟨r, hr, r0, r1⟩ : ∃ r, x % 8 = r ∧ 0 ≤ r ∧ r < 8 := ⟨_, rfl, by omega, by omega⟩
  obtain ⟨k, hk, k0, k1⟩ : ∃ k, x / 8 % 8 = k ∧ 0 ≤ k ∧ k < 8 := ⟨_, rfl, by omega, by omega⟩
  obtain ⟨n, hn, n0, n1⟩ : ∃ n, x / 64 = n ∧ 0 ≤ n ∧ n ≤ 18446744073709551615 := ⟨_, rfl, by omega, by omega⟩
  have e1 : bits BinOp.and IntKind.u64 x 7 = r := by rw [and_low3 x h5 h6]; exact hr
  have e2 : bits BinOp.and IntKind.u64 (x / 8) 7 = k := by rw [and_low3 _ (by omega) (by omega)]; exact hk
  unfold badMarked at h
  rw [hr, hk, hn] at h
  clear hr hk
  by_cases a1 : r = 7
  · subst a1
    have h : k < 1 ∨ 4 < k ∨ 1048576 < n := by omega
    by_cases a2 : k < 1
    · clear h
      go_enter Try.func25, Try.ntmps25
      go_wp2
      go_ret3
      exact ⟨rfl, rfl⟩
    · by_cases a3 : 4 < k
      · clear h
        go_enter Try.func25, Try.ntmps25
        go_wp2
        go_ret3
        exact ⟨rfl, rfl⟩
      · have a4 : 1048576 < n := by omega
        clear h
        go_enter Try.func25, Try.ntmps25
        go_wp2
        go_ret3
        exact ⟨rfl, rfl⟩
  · have a2 : (r != 7) = true := by simpa using a1
    clear h
    go_enter Try.func25, Try.ntmps25
    go_wp2
    go_ret3
    exact ⟨rfl, rfl⟩

theorem xmarked_ok (x k n : Int) (w : World) (hx : x = n * 64 + k * 8 + 7) (h1 : 1 ≤ k) (h2 : k ≤ 4) (h3 : 0 ≤ n) (h4 : n ≤ 1048576) :
    Calls Try.prog 26 #[.int .u64 x] w fun e w' => e = .returned (.tuple #[.int .i64 k, .int .i64 n, .bool true]) ∧ w' = w := by
  have h5 : 0 ≤ x := by omega
  have h6 : x ≤ 18446744073709551615 := by omega
  have e1 : x % 8 = 7 := by omega
  have e2 : x / 8 % 8 = k := by omega
  have e3 : x / 64 = n := by omega
  clear hx
  go_enter Try.func26, Try.ntmps26
  go_wp2
  go_ret3
  exact ⟨rfl, rfl⟩

theorem xmarked_bad (x : Int) (w : World) (h5 : 0 ≤ x) (h6 : x ≤ 18446744073709551615) (h : badMarked x) :
    Calls Try.prog 26 #[.int .u64 x] w fun e w' => e = .returned (.tuple #[.int .i64 0, .int .i64 0, .bool false]) ∧ w' = w := by
  obtain ⟨r, hr, r0, r1⟩ : ∃ r, x % 8 = r ∧ 0 ≤ r ∧ r < 8 := ⟨_, rfl, by omega, by omega⟩
  obtain ⟨k, hk, k0, k1⟩ : ∃ k, x / 8 % 8 = k ∧ 0 ≤ k ∧ k < 8 := ⟨_, rfl, by omega, by omega⟩
  obtain ⟨n, hn, n0, n1⟩ : ∃ n, x / 64 = n ∧ 0 ≤ n ∧ n ≤ 18446744073709551615 := ⟨_, rfl, by omega, by omega⟩
  unfold badMarked at h
  rw [hr, hk, hn] at h
  by_cases a1 : r = 7
  · subst a1
    have h : k < 1 ∨ 4 < k ∨ 1048576 < n := by omega
    by_cases a2 : k < 1
    · clear h
      go_enter Try.func26, Try.ntmps26
      go_wp2
      go_ret3
      exact ⟨rfl, rfl⟩
    · by_cases a3 : 4 < k
      · clear h
        go_enter Try.func26, Try.ntmps26
        go_wp2
        go_ret3
        exact ⟨rfl, rfl⟩
      · have a4 : 1048576 < n := by omega
        clear h
        go_enter Try.func26, Try.ntmps26
        go_wp2
        go_ret3
        exact ⟨rfl, rfl⟩
  · have a2 : (r != 7) = true := by simpa using a1
    clear h
    go_enter Try.func26, Try.ntmps26
    go_wp2
    go_ret3
    exact ⟨rfl, rfl⟩

theorem newAtoms_any (w : World) : Calls Try.prog 27 #[] w fun e w' => e = .returned (.pointer (some ⟨w.heap.size, 0, none⟩)) ∧
    w' = w.alloc (.cells #[.int .u32 0, .int .i32 0, .int .u32 0, .map none, .slice none 0 0] 95) := by
  go_enter Try.func27, Try.ntmps27
  go_wp2
  go_ret
  exact ⟨rfl, rfl⟩

set_option maxHeartbeats 400000 in
theorem awake_any (w : World) : Calls Try.prog 15 #[] w fun e w' => e = .returned (.bool true) ∧ Kp (fun _ => False) w w' := by
  go_enter Try.func15, Try.ntmps15
  go_wp2_with fail
  refine (newAtoms_any w).mono ?_
  rintro e w1 ⟨rfl, rfl⟩
  go_wp2_with fail
  refine (small_int (-1) _ _ (by omega) (by omega)).mono ?_
  rintro e w2 ⟨rfl, hk⟩
  have Hk := Lib.hid hk
  clear hk
  go_wp2_with fail
  refine (mark_ok 1 3 w2 (by omega) (by omega) (by omega) (by omega)).mono ?_
  rintro e w3 ⟨rfl, rfl⟩
  go_wp2_with fail
  go_ret
  exact ⟨rfl, ((Kp.refl _ w).alloc _).trans' Hk.out⟩
end Go.Proofs.Ytmghneglfnkihaa
