/- what a term is that has the fields of its kind; word.Small of any term, in one. -/
import Derived.Test.YtlnckpjpoaokjaaSame
namespace Go.Proofs.Ytlnckpjpoaokjaa
open Go.RowKit

theorem nil_str {s : ByteArray} (h : s.toList = []) : s = ByteArray.empty := by
  rw [ByteArray.toList_eq] at h
  cases s with | mk d =>
    have : d = #[] := by simpa using h
    rw [this]; rfl

/-- the kinds that fit into a word have no parts -/
def LeafIs (k n : Int) (s : ByteArray) : Prop :=
  (k = 1 ∧ s = ByteArray.empty) ∨ (k = 2 ∧ n = 0 ∧ 1 ≤ s.size ∧ s.size ≤ 255) ∨ ((k = 3 ∨ k = 4) ∧ 0 ≤ n ∧ n ≤ 1152921504606846975 ∧ s = ByteArray.empty) ∨ (k = 6 ∧ n = 0 ∧ s = ByteArray.empty)

theorem fits_leaf {F : Nat → Prop} {w : World} {h : Nat} {T : Tm} {k n : Int} {s : ByteArray} {a a2 a3 : Option Addr} {l c l2 d l3 e : Nat} (hT : TermAt F w h T [.int .i64 k, .int .i64 n, .string s, .slice a l c, .slice a2 l2 d, .slice a3 l3 e]) (hf : fitsB T = true) :
    (k = 5 ∨ k = 7 ∨ k = 8) ∨ (l = 0 ∧ l2 = 0 ∧ l3 = 0 ∧ LeafIs k n s) := by
  cases h with
  | zero => exact hT.elim
  | succ h =>
    obtain ⟨k', n', s', it, re, bys⟩ := T
    obtain ⟨vi, vr, vb, he, _, ⟨po, cap, rfl, _⟩, ⟨po2, cap2, rfl, _⟩, ⟨po3, cap3, rfl, _⟩⟩ := hT
    simp only [List.cons.injEq, Value.int.injEq, Value.string.injEq, Value.slice.injEq, true_and, and_true] at he
    obtain ⟨rfl, rfl, rfl, ⟨rfl, rfl, rfl⟩, ⟨rfl, rfl, rfl⟩, rfl, rfl, rfl⟩ := he
    have hf : fitsK k n s it re bys = true := hf
    unfold fitsK LeafIs at *
    by_cases h1 : k = 1
    · subst h1
      simp at hf
      exact .inr ⟨by simp [hf], by simp [hf], by simp [hf], .inl ⟨rfl, nil_str hf.1.1.1⟩⟩
    · by_cases h2 : k = 2
      · subst h2
        simp at hf
        exact .inr ⟨by simp [hf], by simp [hf], by simp [hf], .inr (.inl ⟨rfl, by simp [hf], hf.1.1, hf.1.2⟩)⟩
      · by_cases h3 : k = 3 ∨ k = 4
        · rw [if_neg h1, if_neg h2, if_pos h3] at hf
          simp at hf
          exact .inr ⟨by simp [hf], by simp [hf], by simp [hf], .inr (.inr (.inl ⟨h3, hf.1.1, hf.1.2, nil_str hf.2.1.1.1⟩))⟩
        · by_cases h5 : k = 5 ∨ k = 7 ∨ k = 8
          · exact .inl h5
          · by_cases h6 : k = 6
            · subst h6
              simp at hf
              exact .inr ⟨by simp [hf], by simp [hf], by simp [hf], .inr (.inr (.inr ⟨rfl, by simp [hf], nil_str hf.1.1.1.2⟩))⟩
            · rw [if_neg h1, if_neg h2, if_neg h3, if_neg (by omega), if_neg h6, if_neg (by omega), if_neg (by omega)] at hf
              cases hf
end Go.Proofs.Ytlnckpjpoaokjaa
