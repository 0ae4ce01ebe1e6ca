/- a word is told as the term that it was made of. -/
import Derived.Test.YtlnckpjpoaokjaaUnlike
namespace Go.Proofs.Ytlnckpjpoaokjaa
open Go.RowKit

theorem plain_word {k n : Int} {s : ByteArray} {i : Nat} {t : List ByteArray} (h : LeafIs k n s) (hr : k = 1 → -1152921504606846976 ≤ n ∧ n ≤ 1152921504606846975) (hi : k = 2 → t[i]? = some s) (hl : i < 1024) :
    PlainIs (WordOf k n i) t (termOf k n s) true [] := by
  unfold PlainIs
  rcases h with ⟨rfl, rfl⟩ | ⟨rfl, rfl, _⟩ | ⟨rfl | rfl, h0, h1, rfl⟩ | ⟨rfl, rfl, rfl⟩
  · exact .inl ⟨n, by simp [WordOf], (hr rfl).1, (hr rfl).2, rfl, rfl, rfl⟩
  · exact .inr (.inl ⟨i, s, by simp [WordOf]; omega, hi rfl, rfl, rfl, rfl⟩)
  · exact .inr (.inr (.inr (.inr (.inr (.inl ⟨n, by simp [WordOf]; omega, h0, h1, rfl, rfl, rfl⟩)))))
  · exact .inr (.inr (.inr (.inl ⟨n, by simp [WordOf]; omega, h0, h1, rfl, rfl, rfl⟩)))
  · exact .inr (.inr (.inr (.inr (.inr (.inr (.inr (.inl ⟨by simp [WordOf], rfl, rfl, rfl⟩)))))))
theorem wordOf_range {k n : Int} {s : ByteArray} {i : Nat} (h : LeafIs k n s) : 0 ≤ WordOf k n i ∧ WordOf k n i ≤ 18446744073709551615 := by
  rcases h with ⟨rfl, rfl⟩ | ⟨rfl, rfl, _⟩ | ⟨rfl | rfl, h0, h1, rfl⟩ | ⟨rfl, rfl, rfl⟩ <;> simp [WordOf] <;> omega
end Go.Proofs.Ytlnckpjpoaokjaa
