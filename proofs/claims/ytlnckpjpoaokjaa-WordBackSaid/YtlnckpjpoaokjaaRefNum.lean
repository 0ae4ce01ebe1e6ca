/- The document's own Number. -/
import Derived.Test.YtlnckpjpoaokjaaNames
import Derived.Laws.Closers25b
namespace Go.Proofs.Ytlnckpjpoaokjaa
open Go.RowKit Go.Maps

theorem str_ne {a b : ByteArray} (h : a ≠ b) : (a.toList == b.toList) = false := by
  rw [beq_eq_false_iff_ne, ByteArray.toList_eq, ByteArray.toList_eq]
  exact fun e => h (ByteArray.ext (Array.toList_inj.1 e))
theorem str_empty {s : ByteArray} (h : s.size = 0) : s.toList = [] := by
  rw [toList_nil_iff_emptyBytes]
  exact ByteArray.ext (Array.eq_empty_of_size_eq_zero h)
theorem str_full {s : ByteArray} (h : 1 ≤ s.size) : ¬ s.toList = [] := by
  intro e
  rw [toList_nil_iff_emptyBytes] at e
  rw [e] at h
  exact absurd h (by decide)
theorem str_full2 {s : ByteArray} (h : 1 ≤ s.size) : s.toList.isEmpty = false := by
  rw [Bool.eq_false_iff]
  exact fun e => str_full h (List.isEmpty_iff.1 e)

end Go.Proofs.Ytlnckpjpoaokjaa
