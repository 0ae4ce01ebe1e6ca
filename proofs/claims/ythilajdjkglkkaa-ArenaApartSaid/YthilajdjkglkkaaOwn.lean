/- What is new since the call began, in memory. -/
import Derived.Test.YthilajdjkglkkaaInv
namespace Go.Proofs.Ythilajdjkglkkaa
open Go.RowKit

/-! ### from here on: what is new since the call began -/
def Own (B : Nat) (w : World) : Nat → Prop := fun q => B ≤ q ∧ q < w.heap.size
theorem own_step {w w1 w2 : World} {b : Nat} {A : Ar} (k1 : Kp (fun _ => False) w w1) (h : Rep w2 (Ext (Own w.heap.size w1) w1 w2) b A ∧ Kp (Own w.heap.size w1) w1 w2) : Rep w2 (Own w.heap.size w2) b A ∧ Kp (fun _ => False) w w2 := by
  have hz := k1.size
  have hz2 := h.2.size
  refine ⟨h.1.more' ?_ (fun q hq => hq.2), k1.trans (h.2.mono fun q _ hq => .inr ⟨hq.1, by exact hq.2⟩)⟩
  intro q hq
  rcases hq with hq | hq
  · exact ⟨hq.1, by have := hq.2; omega⟩
  · exact ⟨by omega, hq.2⟩
theorem own_same {w w1 w2 : World} {b : Nat} {A : Ar} (k1 : Kp (fun _ => False) w w1) (h : Rep w2 (Own w.heap.size w1) b A) (hk : Kp (Own w.heap.size w1) w1 w2) : Rep w2 (Own w.heap.size w2) b A ∧ Kp (fun _ => False) w w2 :=
  own_step k1 ⟨h.more' (fun q hq => .inl hq) (fun q hq => by rcases hq with hq | hq; exact h.ltF q hq; exact hq.2), hk⟩
theorem own_new {w w1 : World} {A : Ar} (_k1 : Kp (fun _ => False) w w1) (h : Rep w1 (only w.heap.size) w.heap.size A) : Rep w1 (Own w.heap.size w1) w.heap.size A :=
  h.more' (fun q hq => ⟨by rw [hq]; omega, h.ltF q hq⟩) (fun q hq => hq.2)


/-- what a slice of the call's own keeps while the arena turns, and the other way round -/
theorem Rep.besides {w w' : World} {F G : Nat → Prop} {b : Nat} {A : Ar} (h : Rep w F b A) (hk : Kp G w w') (hd : ∀ k, F k → ¬ G k) : Rep w' F b A := by
  obtain ⟨sl, h⟩ := h
  exact ⟨sl, h.kp hk hd⟩

theorem alloc_tk {A A1 : Ar} {own n : Nat} (hI : Inv A []) (hn : n ≤ 1048576) (hc : cls n ≤ 20) (hq : A.used + 2 ^ cls n ≤ A.quota) (hf : Found A (cls n) own A1) :
    Inv (A1.took own (cls n) n) [] ∧ (∀ p m, (A1.took own (cls n) n).tk p m ↔ (p = own ∧ m = n) ∨ (p ≠ own ∧ A.tk p m)) ∧ (∀ m, ¬ A.tk own m) ∧
      (A1.took own (cls n) n).used = A.used + 2 ^ cls n ∧ (A1.took own (cls n) n).quota = A.quota ∧ (A1.took own (cls n) n).size = A.size := by
  have h1 := hf.inv hI (cls_spec n hn).1 hc
  obtain ⟨e1, e2, e3⟩ := hf.same
  refine ⟨h1.took hn (by omega), fun p m => ?_, fun m hm => ?_, ?_, e2, e3⟩
  · rw [took_tk h1 hn, hf.tk hI]
  · have := (hf.tk hI own m).2 hm
    exact (h1.tfr own (cls n) this.1).2 (by simp)
  · show A1.used + 2 ^ cls n = _
    rw [e1]
end Go.Proofs.Ythilajdjkglkkaa
