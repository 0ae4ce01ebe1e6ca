/- What the arena's method Alloc does where it refuses. -/
import Derived.Test.YthilajdjkglkkaaAlloc
namespace Go.Proofs.Ythilajdjkglkkaa
open Go.RowKit

/-- v is a Fault of this Op and number, around inner, in new memory -/
def Faulty (lo : Nat) (op : ByteArray) (n : Int) (inner v : Value) (w' : World) : Prop :=
  ∃ g, lo ≤ g ∧ v = .iface 46 (.pointer (some ⟨g, 0, none⟩)) ∧ w'.heap[g]? = some (.cells #[.string op, .int .i64 n, inner] 49 (0, 0))
/-- it ended in a Fault, and nothing has turned -/
def EndsBad (F : Nat → Prop) (w : World) (b : Nat) (A : Ar) (mk : Value → Value) (op : ByteArray) (n : Int) (inner : Value) (e : Ending) (w' : World) : Prop :=
  ∃ v, e = .returned (mk v) ∧ Faulty w.heap.size op n inner v w' ∧ Rep w' F b A ∧ Kp F w w' ∧ Kp (fun _ => False) w w'

theorem Rep.kp {w w' : World} {F : Nat → Prop} {b : Nat} {A : Ar} (h : Rep w F b A) (hk : Kp (fun _ => False) w w') : Rep w' F b A := by
  obtain ⟨sl, h⟩ := h
  exact ⟨sl, h.kp hk (fun _ _ e => e)⟩

theorem endsBad {F : Nat → Prop} {w : World} {b : Nat} {A : Ar} {mk : Value → Value} {op : ByteArray} {n : Int} {inner : Value} (h : Rep w F b A) (k : Nat) :
    EndsBad F w b A mk op n inner (.returned (mk (.iface 46 (.pointer (some ⟨w.heap.size, 0, none⟩))))) ((w.alloc (.cells #[.string op, .int .i64 n, inner] 49)).drewN k) := by
  have hk : Kp (fun _ => False) w ((w.alloc (.cells #[.string op, .int .i64 n, inner] 49)).drewN k) := by
    have := (Kp.refl (fun _ => False) w).alloc (.cells #[.string op, .int .i64 n, inner] 49)
    exact ⟨this.os, this.tape, this.output, this.size, this.block⟩
  exact ⟨_, rfl, ⟨w.heap.size, Nat.le_refl _, rfl, heap_alloc_new w _⟩, h.kp hk, hk.mono (fun _ _ e => e.elim), hk⟩

set_option maxHeartbeats 400000 in
theorem alloc_arg {w : World} {F : Nat → Prop} {b : Nat} {A : Ar} (n : Int) (h : Rep w F b A) (hn : n < 0 ∨ 1048576 < n) :
    Calls Try.prog 11 #[.pointer (some ⟨b, 0, none⟩), .int .i64 n] w (EndsBad F w b A (fun v => .tuple #[.int .i64 0, v]) ⟨#[97, 108, 108, 111, 99]⟩ n (.iface 47 (.int .i64 1))) := by
  rcases hn with hn | hn
  · go_enter Try.func11, Try.ntmps11
    go_wp2_with (go_at_call 24; refine (at_any _ _ _ _ _).mono ?_; rintro e w' ⟨rfl, rfl⟩)
    go_ret2
    exact endsBad h 0
  · have h0 : ¬ n < 0 := by omega
    go_enter Try.func11, Try.ntmps11
    go_wp2_with (go_at_call 24; refine (at_any _ _ _ _ _).mono ?_; rintro e w' ⟨rfl, rfl⟩)
    go_ret2
    exact endsBad h 0

set_option maxHeartbeats 400000 in
theorem alloc_quota {w : World} {F : Nat → Prop} {b : Nat} {A : Ar} (n c : Nat) (h : Rep w F b A) (hn : n ≤ 1048576) (hc : cls n = c) (hc2 : c ≤ 21) (hu : A.used ≤ 1048576) (hq : A.quota < A.used + 2 ^ c) :
    Calls Try.prog 11 #[.pointer (some ⟨b, 0, none⟩), .int .i64 n] w (EndsBad F w b A (fun v => .tuple #[.int .i64 0, v]) ⟨#[97, 108, 108, 111, 99]⟩ n (.iface 47 (.int .i64 2))) := by
  have h' := h
  obtain ⟨sl, hR⟩ := h
  have hqc := hR.head 1 _ rfl
  have huc := hR.head 2 _ rfl
  have hb1 := pow_bd c (by omega)
  have hmI : ((2 ^ c : Nat) : Int) = 2 ^ c := by simp
  obtain ⟨m, hm⟩ : ∃ m : Nat, 2 ^ c = m := ⟨_, rfl⟩
  rw [hm] at hq hmI
  rw [← hmI] at hb1
  have hw1 : IntKind.i64.wrap (2 ^ c) = (m : Int) := by rw [← hmI]; exact IntWalk.i64_in _ (by omega)
  have Hm := Lib.hid (And.intro hm hc)
  clear hm hmI hR hc
  have hw2 : IntKind.i64.wrap ((A.used : Int) + m) = (A.used : Int) + m := IntWalk.i64_in _ (by omega)
  have hle : (A.quota : Int) < (A.used : Int) + m := by omega
  go_enter Try.func11, Try.ntmps11
  go_wp2_with (go_at_call 25; refine (class_any n _ hn).mono ?_; rintro e w' ⟨rfl, rfl⟩; rw [Hm.out.2])
  go_region
  go_wp2_with (go_at_call 24; refine (at_any _ _ _ _ _).mono ?_; rintro e w' ⟨rfl, rfl⟩)
  go_ret2
  exact endsBad h' 1

set_option maxHeartbeats 400000 in
theorem alloc_none {w : World} {F : Nat → Prop} {b : Nat} {A : Ar} (n c : Nat) (h : Rep w F b A) (hn : n ≤ 1048576) (hc : cls n = c) (hc2 : c ≤ 21) (hu : A.used ≤ 1048576) (hq : A.used + 2 ^ c ≤ A.quota)
    (htake : ∀ w, Rep w F b A → Calls Try.prog 26 #[.pointer (some ⟨b, 0, none⟩), .int .i64 c] w fun e w' => e = .returned (.tuple #[.int .i64 0, .bool false]) ∧ w' = w.drew) :
    Calls Try.prog 11 #[.pointer (some ⟨b, 0, none⟩), .int .i64 n] w (EndsBad F w b A (fun v => .tuple #[.int .i64 0, v]) ⟨#[97, 108, 108, 111, 99]⟩ n (.iface 47 (.int .i64 2))) := by
  have h' := h
  obtain ⟨sl, hR⟩ := h
  have hqc := hR.head 1 _ rfl
  have huc := hR.head 2 _ rfl
  have hb1 := pow_bd c (by omega)
  have hmI : ((2 ^ c : Nat) : Int) = 2 ^ c := by simp
  obtain ⟨m, hm⟩ : ∃ m : Nat, 2 ^ c = m := ⟨_, rfl⟩
  rw [hm] at hq hmI
  rw [← hmI] at hb1
  have hw1 : IntKind.i64.wrap (2 ^ c) = (m : Int) := by rw [← hmI]; exact IntWalk.i64_in _ (by omega)
  have Hm := Lib.hid (And.intro hm hc)
  clear hm hmI hR hc
  have hw2 : IntKind.i64.wrap ((A.used : Int) + m) = (A.used : Int) + m := IntWalk.i64_in _ (by omega)
  have hle : ¬ (A.quota : Int) < (A.used : Int) + m := by omega
  have Ht := Lib.hid htake
  clear htake
  go_enter Try.func11, Try.ntmps11
  go_wp2_with (go_at_call 25; refine (class_any n _ hn).mono ?_; rintro e w' ⟨rfl, rfl⟩; rw [Hm.out.2])
  go_region
  go_wp2_with fail
  refine (Ht.out w.drew h'.drew).mono ?_
  rintro e w1 ⟨rfl, rfl⟩
  go_wp2_with (go_at_call 24; refine (at_any _ _ _ _ _).mono ?_; rintro e w' ⟨rfl, rfl⟩)
  go_ret2
  exact endsBad h' 2
end Go.Proofs.Ythilajdjkglkkaa
