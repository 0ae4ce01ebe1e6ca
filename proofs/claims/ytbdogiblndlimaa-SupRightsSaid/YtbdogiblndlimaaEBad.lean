/- It ended in an error that is a chain of links. -/
import Derived.Test.YtbdogiblndlimaaXs
namespace Go.Proofs.Ytbdogiblndlimaa
open Go.RowKit

/-- an error and nothing else that is new but blocks of errors: the chain of these links -/
def EBad (w : World) (mk : Value → Value) (l : List Lk) (e : Ending) (w' : World) : Prop :=
  ∃ v, e = .returned (mk v) ∧ ChainB w.heap.size w' v l ∧ Kp (fun _ => False) w w'
def XBad (w : World) (mk : Value → Value) (l : List Lk) (e : Ending) (w' : World) : Prop :=
  ∃ v, e = .returned (mk v) ∧ XCh w' v l ∧ Kp (fun _ => False) w w'

theorem ebad1 (w : World) (mk : Value → Value) (op : ByteArray) (n k : Int) (hk : k ≠ 0) (j : Nat) :
    EBad w mk [Lk.fault op n, Lk.kind k] (.returned (mk (.iface 97 (.pointer (some ⟨w.heap.size, 0, none⟩))))) ((w.alloc (.cells #[.string op, .int .i64 n, .iface 82 (.int .i64 k)] 99)).drewN j) := by
  refine ⟨_, rfl, ChainB.cons op n (ChainB.root _ _ hk) (Nat.le_refl _) ?_, ?_⟩
  · exact heap_alloc_new w _
  · have := (Kp.refl (fun _ => False) w).alloc (.cells #[.string op, .int .i64 n, .iface 82 (.int .i64 k)] 99)
    exact ⟨this.os, this.tape, this.output, this.size, this.block⟩

theorem xbad1 (w : World) (mk : Value → Value) (op : ByteArray) (n k : Int) (j : Nat) :
    XBad w mk [Lk.fault op n, Lk.kind k] (.returned (mk (.pointer (some ⟨w.heap.size + 1, 0, none⟩))))
      (((w.alloc (.cells #[.string ByteArray.empty, .int .i64 0, .pointer none, .int .i64 k] 96)).alloc (.cells #[.string op, .int .i64 n, .pointer (some ⟨w.heap.size, 0, none⟩), .int .i64 0] 96)).drewN j) := by
  refine ⟨_, rfl, .inr ⟨rfl, by simp, w.heap.size + 1, w.heap.size, rfl, ?_, .inl ⟨rfl, _, rfl, ?_, rfl, rfl⟩⟩, ?_⟩
  · have := heap_alloc_new (w.alloc (.cells #[.string ByteArray.empty, .int .i64 0, .pointer none, .int .i64 k] 96)) (.cells #[.string op, .int .i64 n, .pointer (some ⟨w.heap.size, 0, none⟩), .int .i64 0] 96)
    have hz : (w.alloc (.cells #[.string ByteArray.empty, .int .i64 0, .pointer none, .int .i64 k] 96)).heap.size = w.heap.size + 1 := by simp
    rw [hz] at this
    exact this
  · have := heap_alloc_new w (.cells #[.string ByteArray.empty, .int .i64 0, .pointer none, .int .i64 k] 96)
    exact (Below.heap_alloc _ _ _ (by simp)).trans this
  · have := ((Kp.refl (fun _ => False) w).alloc (.cells #[.string ByteArray.empty, .int .i64 0, .pointer none, .int .i64 k] 96)).alloc (.cells #[.string op, .int .i64 n, .pointer (some ⟨w.heap.size, 0, none⟩), .int .i64 0] 96)
    exact ⟨this.os, this.tape, this.output, this.size, this.block⟩

theorem ret2 {k : IntKind} {a b : Int} {v : Value} (h : a = b) : Ending.returned (.tuple #[.int k a, v]) = .returned (.tuple #[.int k b, v]) := by rw [h]


/-- fault.At around an error -/
theorem at_any (op : ByteArray) (n : Int) (t : TypeId) (v : Value) (w : World) :
    Calls Try.prog 46 #[.string op, .int .i64 n, .iface t v] w fun e w' => e = .returned (.iface 97 (.pointer (some ⟨w.heap.size, 0, none⟩))) ∧
      w' = w.alloc (.cells #[.string op, .int .i64 n, .iface t v] 99) := by
  go_enter Try.func46, Try.ntmps46
  go_wp2
  go_ret
  exact ⟨rfl, rfl⟩
theorem EBad.drew {w w1 : World} {mk : Value → Value} {l : List Lk} {e : Ending} {w' : World} (h : EBad w1 mk l e w') (hk : Kp (fun _ => False) w w1) : EBad w mk l e w' := by
  obtain ⟨v, h1, h2, h3⟩ := h
  exact ⟨v, h1, h2.le hk.size, hk.trans' h3⟩
end Go.Proofs.Ytbdogiblndlimaa
