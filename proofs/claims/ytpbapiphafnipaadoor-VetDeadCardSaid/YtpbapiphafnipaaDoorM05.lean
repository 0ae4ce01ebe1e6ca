/- It ended in an error that is a chain of links. fault.At; tree.Right of a small number; a new table of atoms. -/
import Derived.Test.YtpbapiphafnipaaDoorM03
import Derived.Test.YtpbapiphafnipaaDoorM04
import Derived.LoopN
import Derived.RegionTactic
import Derived.RegionCalls
import Derived.BigQuiet
import Derived.Deep.QuietTactic
/- It ended in an error that is a chain of links. -/
namespace Go.Proofs.YtpbapiphafnipaaDoor
open Go.RowKit

/-- an error and nothing else that is new but blocks of errors: the chain of these links -/
def EBad (w : World) (mk : Value → Value) (l : List Lk) (e : Ending) (w' : World) : Prop :=
  ∃ v, e = .returned (mk v) ∧ ChainB w.heap.size w' v l ∧ Kp (fun _ => False) w w'
def XBad (w : World) (mk : Value → Value) (l : List Lk) (e : Ending) (w' : World) : Prop :=
  ∃ v, e = .returned (mk v) ∧ XCh w' v l ∧ Kp (fun _ => False) w w'

theorem ebad1 (w : World) (mk : Value → Value) (op : ByteArray) (n k : Int) (hk : k ≠ 0) (j : Nat) :
    EBad w mk [Lk.fault op n, Lk.kind k] (.returned (mk (.iface 64 (.pointer (some ⟨w.heap.size, 0, none⟩))))) ((w.alloc (.cells #[.string op, .int .i64 n, .iface 42 (.int .i64 k)] 66)).drewN j) := by
  refine ⟨_, rfl, ChainB.cons op n (ChainB.root _ _ hk) (Nat.le_refl _) ?_, ?_⟩
  · exact heap_alloc_new w _
  · have := (Kp.refl (fun _ => False) w).alloc (.cells #[.string op, .int .i64 n, .iface 42 (.int .i64 k)] 66)
    exact ⟨this.os, this.tape, this.output, this.size, this.block⟩

theorem xbad1 (w : World) (mk : Value → Value) (op : ByteArray) (n k : Int) (j : Nat) :
    XBad w mk [Lk.fault op n, Lk.kind k] (.returned (mk (.pointer (some ⟨w.heap.size + 1, 0, none⟩))))
      (((w.alloc (.cells #[.string ByteArray.empty, .int .i64 0, .pointer none, .int .i64 k] 94)).alloc (.cells #[.string op, .int .i64 n, .pointer (some ⟨w.heap.size, 0, none⟩), .int .i64 0] 94)).drewN j) := by
  refine ⟨_, rfl, .inr ⟨rfl, by simp, w.heap.size + 1, w.heap.size, rfl, ?_, .inl ⟨rfl, _, rfl, ?_, rfl, rfl⟩⟩, ?_⟩
  · have := heap_alloc_new (w.alloc (.cells #[.string ByteArray.empty, .int .i64 0, .pointer none, .int .i64 k] 94)) (.cells #[.string op, .int .i64 n, .pointer (some ⟨w.heap.size, 0, none⟩), .int .i64 0] 94)
    have hz : (w.alloc (.cells #[.string ByteArray.empty, .int .i64 0, .pointer none, .int .i64 k] 94)).heap.size = w.heap.size + 1 := by simp
    rw [hz] at this
    exact this
  · have := heap_alloc_new w (.cells #[.string ByteArray.empty, .int .i64 0, .pointer none, .int .i64 k] 94)
    exact (Below.heap_alloc _ _ _ (by simp)).trans this
  · have := ((Kp.refl (fun _ => False) w).alloc (.cells #[.string ByteArray.empty, .int .i64 0, .pointer none, .int .i64 k] 94)).alloc (.cells #[.string op, .int .i64 n, .pointer (some ⟨w.heap.size, 0, none⟩), .int .i64 0] 94)
    exact ⟨this.os, this.tape, this.output, this.size, this.block⟩

theorem ret2 {k : IntKind} {a b : Int} {v : Value} (h : a = b) : Ending.returned (.tuple #[.int k a, v]) = .returned (.tuple #[.int k b, v]) := by rw [h]


/-- fault.At around an error -/
theorem at_any (op : ByteArray) (n : Int) (t : TypeId) (v : Value) (w : World) :
    Calls Tryd.prog 21 #[.string op, .int .i64 n, .iface t v] w fun e w' => e = .returned (.iface 64 (.pointer (some ⟨w.heap.size, 0, none⟩))) ∧
      w' = w.alloc (.cells #[.string op, .int .i64 n, .iface t v] 66) := by
  go_enter Tryd.func21, Tryd.ntmps21
  go_wp2
  go_ret
  exact ⟨rfl, rfl⟩
theorem EBad.drew {w w1 : World} {mk : Value → Value} {l : List Lk} {e : Ending} {w' : World} (h : EBad w1 mk l e w') (hk : Kp (fun _ => False) w w1) : EBad w mk l e w' := by
  obtain ⟨v, h1, h2, h3⟩ := h
  exact ⟨v, h1, h2.le hk.size, hk.trans' h3⟩
end Go.Proofs.YtpbapiphafnipaaDoor

/- fault.At; tree.Right of a small number; a new table of atoms. -/
namespace Go.Proofs.YtpbapiphafnipaaDoor
open Go.RowKit

/-- a term of a number -/
def intT (n : Int) : Value := .agg #[.int .i64 1, .int .i64 n, .string ByteArray.empty, .slice none 0 0, .slice none 0 0, .slice none 0 0]

theorem fits_int (n : Int) (w : World) :
    Calls Tryd.prog 60 #[intT n] w fun e w' => e = .returned (.bool true) ∧ Kp (fun _ => False) w w' := by
  unfold intT
  go_enter Tryd.func60, Tryd.ntmps60
  go_wp2
  go_ret
  exact ⟨rfl, (Kp.refl _ w).alloc _⟩

theorem heap_set_same {w : World} {b i : Nat} {cs : Array Value} {T : TypeId} {fr : Nat × Nat} (hb : w.heap[b]? = some (.cells cs T fr)) (v : Value) :
    (w.setCell ⟨b, i, none⟩ v).heap[b]? = some (.cells (cs.setIfInBounds i v) T fr) := by
  simp [World.setCell, Array.getElem?_modify, hb]

/-- a part is counted, and it is neither too many nor too deep -/
theorem meet_ok (b : Nat) (n t d k : Int) (w : World) (h : w.heap[b]? = some (.cells #[.int .i64 n, .int .i64 t] 110 (0, 0))) (hn : 0 ≤ n) (hn2 : n ≤ 1048576) (ht : 0 ≤ t) (hd : d ≤ 200) (hk : 0 ≤ k) (hs : t + 1 + k ≤ 65536) :
    Calls Tryd.prog 59 #[.pointer (some ⟨b, 0, none⟩), .int .i64 d, .int .i64 k] w fun e w' => e = .returned .nilIface ∧
      w'.heap[b]? = some (.cells #[.int .i64 (n + 1), .int .i64 (t + (1 + k))] 110 (0, 0)) ∧ Kp (fun q => q = b) w w' := by
  have c0 : w.cell? ⟨b, 0, none⟩ = some (.int .i64 n) := by rw [cell_of_row w b 0 _ _ _ h]; rfl
  have c1 : w.cell? ⟨b, 1, none⟩ = some (.int .i64 t) := by rw [cell_of_row w b 1 _ _ _ h]; rfl
  have f0 : ∀ j, w.frozen? ⟨b, j, none⟩ = false := fun j => by simp [World.frozen?, h]
  have H := Lib.hid h
  clear h
  go_enter Tryd.func59, Tryd.ntmps59
  go_wp2
  go_ret
  exact ⟨rfl, heap_set_same (heap_set_same H.out _) _, ((Kp.refl (fun q => q = b) w).setCell _ _ (.inl rfl)).setCell _ _ (.inl rfl)⟩

theorem two0 (x y : Value) (w : World) : (Instr.index 133 (.agg #[x, y]) (.int .i64 0)).run Tryd.prog w = .ok x w := by kernel_rfl
theorem two1 (x y : Value) (w : World) : (Instr.index 133 (.agg #[x, y]) (.int .i64 1)).run Tryd.prog w = .ok y w := by kernel_rfl

set_option maxRecDepth 100000 in
set_option maxHeartbeats 400000 in
theorem right_int (b : Nat) (n : Int) (w : World) (h : w.heap[b]? = some (.cells #[.int .i64 0, .int .i64 0] 110 (0, 0))) :
    Calls Tryd.prog 48 #[.pointer (some ⟨b, 0, none⟩), intT n, .int .i64 1] w fun e w' => e = .returned .nilIface ∧ Kp (fun q => q = b) w w' := by
  have c0 : w.cell? ⟨b, 0, none⟩ = some (.int .i64 0) := by rw [cell_of_row w b 0 _ _ _ h]; rfl
  have hb := (Array.getElem?_eq_some_iff.1 h).1
  obtain ⟨w1, hw1⟩ : ∃ w1, w.alloc (.cells #[.int .i64 1, .int .i64 n, .string ByteArray.empty, .slice none 0 0, .slice none 0 0, .slice none 0 0] 35) = w1 := ⟨_, rfl⟩
  have hk1 : Kp (fun _ => False) w w1 := by rw [← hw1]; exact (Kp.refl _ w).alloc _
  have hb1 : w1.heap[b]? = some (.cells #[.int .i64 0, .int .i64 0] 110 (0, 0)) := (hk1.block b hb (fun e => e)).trans h
  have ht1 : w1.heap[w.heap.size]? = some (.cells #[.int .i64 1, .int .i64 n, .string ByteArray.empty, .slice none 0 0, .slice none 0 0, .slice none 0 0] 35 (0, 0)) := by rw [← hw1]; exact heap_alloc_new w _
  have Hk := Lib.hid (And.intro hk1 (And.intro hb1 (And.intro ht1 hb)))
  have e5 : (w.alloc (.cells #[.int .i64 1, .int .i64 n, .string ByteArray.empty, .slice none 0 0, .slice none 0 0, .slice none 0 0] 35)).cell? ⟨b, 0, none⟩ = some (.int .i64 0) := by rw [World.cell?_alloc_past _ _ _ hb]; exact c0
  have c5 : w1.cell? ⟨w.heap.size, 5, none⟩ = some (.slice none 0 0) := by rw [cell_of_row w1 _ 5 _ _ _ ht1]; rfl
  have c0' : w1.cell? ⟨b, 0, none⟩ = some (.int .i64 0) := by rw [cell_of_row w1 _ 0 _ _ _ hb1]; rfl
  clear h c0 hb1 ht1 hk1
  unfold intT
  go_enter Tryd.func48, Tryd.ntmps48
  go_wp2_with fail
  clear hw1 e5
  refine (meet_ok b 0 0 1 0 w1 Hk.out.2.1 (by omega) (by omega) (by omega) (by omega) (by omega) (by omega)).mono ?_
  rintro e w2 ⟨rfl, hb2, hk2⟩
  have hne : w.heap.size ≠ b := by have := Hk.out.2.2.2; omega
  have hz1 : w.heap.size < w1.heap.size := (Array.getElem?_eq_some_iff.1 Hk.out.2.2.1).1
  have ht2 := (hk2.block w.heap.size hz1 hne).trans Hk.out.2.2.1
  have hl2 : ∀ j v, #[Value.int .i64 1, .int .i64 n, .string ByteArray.empty, .slice none 0 0, .slice none 0 0, .slice none 0 0][j]? = some v → w2.cell? ⟨w.heap.size, j, none⟩ = some v := fun j v hj => by rw [cell_of_row w2 _ j _ _ _ ht2]; exact hj
  have d0 := hl2 0 _ rfl
  have d1 := hl2 1 _ rfl
  have d2 := hl2 2 _ rfl
  have d3 := hl2 3 _ rfl
  have d4 := hl2 4 _ rfl
  have d5 := hl2 5 _ rfl
  have Hh := Lib.hid (And.intro ht2 (And.intro hb2 hk2))
  clear hl2 ht2 hb2 hk2 c0' c5
  go_wp2_with fail
  refine (fits_int n w2).mono ?_
  rintro e w3 ⟨rfl, hk3⟩
  have hlt : w.heap.size < w2.heap.size := (Array.getElem?_eq_some_iff.1 Hh.out.1).1
  have e3 : w3.cell? ⟨w.heap.size, 3, none⟩ = some (.slice none 0 0) := (hk3.cell hlt (fun e => e)).trans d3
  have e4 : w3.cell? ⟨w.heap.size, 4, none⟩ = some (.slice none 0 0) := (hk3.cell hlt (fun e => e)).trans d4
  have Hk3 := Lib.hid hk3
  clear d0 d1 d2 d3 d4 d5 hk3
  have i0 := two0
  have i1 := two1
  go_wp2_with fail
  refine wp_loop_rounds 3 ?_
  rw [rounds_succ]
  go_wp2_with fail
  refine wp_loop_rounds 1 ?_
  rw [rounds_succ]
  go_wp2_with fail
  rw [rounds_succ]
  go_wp2_with fail
  refine wp_loop_rounds 1 ?_
  rw [rounds_succ]
  go_wp2_with fail
  rw [rounds_succ]
  go_wp2_with fail
  go_ret
  exact ⟨rfl, ((Hk.out.1.mono fun _ _ e => e.elim).trans' Hh.out.2.2).trans' (Hk3.out.mono fun _ _ e => e.elim)⟩

set_option maxHeartbeats 400000 in
/-- a number is right -/
theorem tright_int (n : Int) (w : World) :
    Calls Tryd.prog 36 #[intT n] w fun e w' => e = .returned .nilIface ∧ Kp (fun _ => False) w w' := by
  obtain ⟨w2, hw2⟩ : ∃ w2, (w.alloc (.cells #[.int .i64 1, .int .i64 n, .string ByteArray.empty, .slice none 0 0, .slice none 0 0, .slice none 0 0] 35)).alloc (.cells #[.int .i64 0, .int .i64 0] 110) = w2 := ⟨_, rfl⟩
  have hk : Kp (fun _ => False) w w2 := by rw [← hw2]; exact ((Kp.refl _ w).alloc _).alloc _
  have hg : w2.heap[w.heap.size + 1]? = some (.cells #[.int .i64 0, .int .i64 0] 110 (0, 0)) := by
    rw [← hw2]
    have := heap_alloc_new (w.alloc (.cells #[.int .i64 1, .int .i64 n, .string ByteArray.empty, .slice none 0 0, .slice none 0 0, .slice none 0 0] 35)) (.cells #[.int .i64 0, .int .i64 0] 110)
    simpa using this
  have Hw := Lib.hid hw2
  clear hw2
  unfold intT
  go_enter Tryd.func36, Tryd.ntmps36
  go_wp2_with fail
  rw [Hw.out]
  refine (right_int (w.heap.size + 1) n w2 hg).mono ?_
  rintro e w3 ⟨rfl, hk3⟩
  go_wp2_with fail
  go_ret
  exact ⟨rfl, hk.trans (hk3.mono fun q _ e => .inr ⟨by omega, by have := (Array.getElem?_eq_some_iff.1 hg).1; omega⟩)⟩

end Go.Proofs.YtpbapiphafnipaaDoor
