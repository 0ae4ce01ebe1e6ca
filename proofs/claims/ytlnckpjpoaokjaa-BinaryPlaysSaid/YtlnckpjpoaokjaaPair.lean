/- Two heaps of binaries beside one another. -/
import Derived.Test.YtlnckpjpoaokjaaLoose
namespace Go.Proofs.Ytlnckpjpoaokjaa
open Go.RowKit
section
variable {w wr w2 : World} {b c N M : Nat} {a a' d d' : Bn} {F H : Nat → Prop}

structure Pair (w wr : World) (b : Nat) (N : Nat) (a : Bn) (F : Nat → Prop) (c : Nat) (M : Nat) (d : Bn) (H : Nat → Prop) : Prop where
  one : Solo w wr b N a F
  two : Solo w wr c M d H
  apart : ∀ q, F q → ¬ H q
theorem Pair.same (h : Pair w wr b N a F c M d H) (hk : Kp (fun _ => False) wr w2) : Pair w w2 b N a F c M d H := ⟨h.one.same hk, h.two.same hk, h.apart⟩
theorem Pair.stepA (h : Pair w wr b N a F c M d H) (hg : BGo F wr b a' w2) {N' : Nat} (hI : BInv N' a') : ∃ F', Pair w w2 b N' a' F' c M d H := by
  have hg' := hg
  obtain ⟨hk, F', hn, hB⟩ := hg
  have hnew : ∀ q, F' q → w.heap.size ≤ q := fun q hq => (hn q hq).elim (h.one.new q) (fun e => Nat.le_trans h.one.kp.size e)
  refine ⟨F', ⟨hB, hI, hnew, h.one.kp.trans (hk.mono fun q hq hF => .inr ⟨h.one.new q hF, hq⟩)⟩, h.two.beside hk (fun q hq hF => h.apart q hF hq) h.one.new, fun q hq hH => ?_⟩
  rcases hn q hq with e | e
  · exact h.apart q e hH
  · have := h.two.at'.lt q hH; omega
theorem Pair.swap (h : Pair w wr b N a F c M d H) : Pair w wr c M d H b N a F := ⟨h.two, h.one, fun q hq hF => h.apart q hF hq⟩
theorem Pair.stepB (h : Pair w wr b N a F c M d H) (hg : BGo H wr c d' w2) {M' : Nat} (hI : BInv M' d') : ∃ H', Pair w w2 b N a F c M' d' H' := by
  obtain ⟨H', h'⟩ := h.swap.stepA hg hI
  exact ⟨H', h'.swap⟩
end
end Go.Proofs.Ytlnckpjpoaokjaa
