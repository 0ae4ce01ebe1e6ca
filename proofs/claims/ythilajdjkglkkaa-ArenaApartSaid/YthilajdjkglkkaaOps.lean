/- What the functions class, At and the method holds do. -/
import Derived.Test.YthilajdjkglkkaaTake
import Derived.Lib.ItoaNum
namespace Go.Proofs.Ythilajdjkglkkaa
open Go.RowKit

/-- the class of a block -/
def cls (n : Nat) : Nat := max 1 (Lib.bitLen n)

set_option maxHeartbeats 400000 in
theorem class_any (n : Nat) (w : World) (hn : n ≤ 1048576) :
    Calls Try.prog 25 #[.int .i64 n] w fun e w' => e = .returned (.int .i64 (cls n)) ∧ w = w' := by
  go_enter Try.func25, Try.ntmps25
  go_wp2_with (go_at_call 44; refine (Try.bits_Len _ _ (by omega) (by omega)).mono ?_; rintro e w' ⟨rfl, rfl⟩)
  go_ret
  refine ⟨?_, rfl⟩
  simp [cls]
  omega

theorem cls_spec (n : Nat) (hn : n ≤ 1048576) : 1 ≤ cls n ∧ cls n ≤ 21 ∧ n + 1 ≤ 2 ^ cls n ∧ ∀ c, 1 ≤ c → n + 1 ≤ 2 ^ c → cls n ≤ c := by
  by_cases h0 : n = 0
  · subst h0
    have e : cls 0 = 1 := by decide
    rw [e]
    exact ⟨by omega, by omega, by decide, fun c hc _ => hc⟩
  · obtain ⟨h1, h2, h3⟩ := Lib.bitLenAux_bounds 64 n (by omega) h0
    have e : cls n = Lib.bitLenAux 64 n := by unfold cls Lib.bitLen; omega
    rw [e]
    have key : ∀ c, n + 1 ≤ 2 ^ c → Lib.bitLenAux 64 n ≤ c := by
      intro c hc
      rcases Nat.lt_or_ge c (Lib.bitLenAux 64 n) with hlt | hge
      · have := Nat.pow_le_pow_right (n := 2) (by omega) (show c ≤ Lib.bitLenAux 64 n - 1 by omega)
        omega
      · exact hge
    exact ⟨h1, key 21 (by omega), h3, fun c _ hc => key c hc⟩

set_option maxHeartbeats 400000 in
theorem at_any (op : ByteArray) (n : Int) (t : TypeId) (v : Value) (w : World) :
    Calls Try.prog 24 #[.string op, .int .i64 n, .iface t v] w fun e w' => e = .returned (.iface 46 (.pointer (some ⟨w.heap.size, 0, none⟩))) ∧
      w' = w.alloc (.cells #[.string op, .int .i64 n, .iface t v] 49) := by
  go_enter Try.func24, Try.ntmps24
  go_wp2
  go_ret
  exact ⟨rfl, rfl⟩

/-- p is a block that is taken -/
def Ar.holds (A : Ar) (p : Int) : Bool := if 0 < p ∧ p ≤ A.taken.length then A.taken.getD (p - 1).toNat false else false

theorem holds_cells {w : World} {F : Nat → Prop} {b : Nat} {A : Ar} (h : Rep w F b A) :
    ∃ po cap, w.cell? ⟨b, 4, none⟩ = some (.slice po A.taken.length cap) ∧ ∀ q, q < A.taken.length → ∃ g, po = some ⟨g, 0, none⟩ ∧ w.cell? ⟨g, q, none⟩ = some (.bool (A.taken.getD q false)) := by
  obtain ⟨sl, hR⟩ := h
  have ho := hR.own 1 (by omega)
  have hce := hR.cell 1 (by omega)
  rw [show A.rows 1 = A.taken.map Value.bool from rfl, List.length_map] at ho
  obtain ⟨po, cap, hv⟩ := row_form ho
  rw [show A.hd.length + 1 = 4 from rfl, hv] at hce
  refine ⟨po, cap, hce, fun q hq => ?_⟩
  obtain ⟨g, cap', hv', _, _⟩ := row_cons ho (by omega)
  rw [hv] at hv'
  simp only [Value.slice.injEq, true_and] at hv'
  obtain ⟨rfl, rfl⟩ := hv'
  refine ⟨g, rfl, ?_⟩
  rw [hv] at ho
  rw [ho.cellAt q (by omega), List.getElem?_map, List.getD_eq_getElem?_getD]
  rw [List.getElem?_eq_getElem hq]
  rfl

set_option maxHeartbeats 400000 in
theorem holds_any {w : World} {F : Nat → Prop} {b : Nat} {A : Ar} (h : Rep w F b A) (ht : A.taken.length ≤ 1048576) (p : Int) :
    Calls Try.prog 28 #[.pointer (some ⟨b, 0, none⟩), .int .i64 p] w fun e w' => e = .returned (.bool (A.holds p)) ∧ w = w' := by
  obtain ⟨po, cap, hce, hq⟩ := holds_cells h
  by_cases h0 : 0 < p
  · by_cases h1 : p ≤ A.taken.length
    · obtain ⟨q, rfl⟩ : ∃ q : Nat, p = q + 1 := ⟨(p - 1).toNat, by omega⟩
      obtain ⟨g, rfl, hc⟩ := hq q (by omega)
      have e : A.holds ((q : Int) + 1) = A.taken.getD q false := by
        unfold Ar.holds
        rw [if_pos ⟨h0, h1⟩]
        simp
      rw [e]
      have hlt : (q : Int) < A.taken.length := by omega
      clear e h hq
      obtain ⟨x, hx⟩ : ∃ x, A.taken.getD q false = x := ⟨_, rfl⟩
      rw [hx] at hc ⊢
      clear hx
      go_enter Try.func28, Try.ntmps28
      go_wp2
      go_ret
      exact ⟨rfl, rfl⟩
    · have e : A.holds p = false := by unfold Ar.holds; rw [if_neg (by omega)]
      rw [e]
      clear hq e
      go_enter Try.func28, Try.ntmps28
      go_wp2
      go_ret
      exact ⟨rfl, rfl⟩
  · have e : A.holds p = false := by unfold Ar.holds; rw [if_neg (by omega)]
    rw [e]
    clear hq e
    go_enter Try.func28, Try.ntmps28
    go_wp2
    go_ret
    exact ⟨rfl, rfl⟩
end Go.Proofs.Ythilajdjkglkkaa
