/- Two readings of one term: the same head; word.Small's answer in two cases. -/
import Derived.Test.YtlnckpjpoaokjaaBack
import Derived.Test.YtlnckpjpoaokjaaCopy
namespace Go.Proofs.Ytlnckpjpoaokjaa
open Go.RowKit

theorem TermAt.head {F G : Nat → Prop} {w w' : World} {h h' : Nat} {T : Tm} {k n k' n' : Int} {s s' : ByteArray} {a a2 a3 b b2 b3 : Option Addr} {l c l2 d l3 e m g m2 i m3 j : Nat}
    (h1 : TermAt F w h T [.int .i64 k, .int .i64 n, .string s, .slice a l c, .slice a2 l2 d, .slice a3 l3 e]) (h2 : TermAt G w' h' T [.int .i64 k', .int .i64 n', .string s', .slice b m g, .slice b2 m2 i, .slice b3 m3 j]) :
    k = k' ∧ n = n' ∧ s = s' ∧ l = m ∧ l2 = m2 ∧ l3 = m3 := by
  obtain ⟨tk, tn, ts, ti, tr, tb⟩ := T
  match h, h', h1, h2 with
  | h + 1, h' + 1, h1, h2 =>
    obtain ⟨vi, vr, vb, e1, _, ⟨_, _, p1, _⟩, ⟨_, _, p2, _⟩, ⟨_, _, p3, _⟩⟩ := h1
    obtain ⟨ui, ur, ub, e2, _, ⟨_, _, q1, _⟩, ⟨_, _, q2, _⟩, ⟨_, _, q3, _⟩⟩ := h2
    subst p1 p2 p3 q1 q2 q3
    simp only [List.cons.injEq, Value.int.injEq, Value.string.injEq, Value.slice.injEq, and_true, true_and] at e1 e2
    obtain ⟨rfl, rfl, rfl, ⟨_, rfl, _⟩, ⟨_, rfl, _⟩, ⟨_, rfl, _⟩⟩ := e1
    obtain ⟨rfl, rfl, rfl, ⟨_, rfl, _⟩, ⟨_, rfl, _⟩, ⟨_, rfl, _⟩⟩ := e2
    exact ⟨rfl, rfl, rfl, rfl, rfl, rfl⟩

/-- Small has told a word: which one -/
structure Told1 (t' : List ByteArray) (T : Tm) (k n : Int) (s : ByteArray) (i : Nat) : Prop where
  fits : fitsB T = true
  name : k = 2 → t'[i]? = some s
  small : k = 1 → -1152921504606846976 ≤ n ∧ n ≤ 1152921504606846975
  leaf : ¬ (k = 5 ∨ k = 7 ∨ k = 8)
  lt : i < 1024

theorem small_two {w w' : World} {b : Nat} {t : List ByteArray} {G : Nat → Prop} {T : Tm} {k n : Int} {s : ByteArray} {e : Ending} (h : SmallTold w b t G T k n s e w') (hl : t.length ≤ 10) :
    ∃ (t' : List ByteArray) (G' : Nat → Prop), AtRep w' G' b t' ∧ (∀ q, G' q → G q ∨ w.heap.size ≤ q) ∧ (t' = t ∨ (s ∉ t ∧ t' = t ++ [s])) ∧
      ((∃ (i : Nat) (x : Int), e = .returned (.tuple #[.int .u64 x, .bool true, .nilIface]) ∧ x = WordOf k n i ∧ Told1 t' T k n s i) ∨ ∃ ev, e = .returned (.tuple #[.int .u64 0, .bool false, ev])) := by
  obtain ⟨t', G', h1, h2, h3, h4⟩ := h
  refine ⟨t', G', h1, h2, h3, ?_⟩
  rcases h4 with ⟨i, rfl, hf, hn, hr, hk⟩ | rfl | ⟨v, m, kk, rfl, _⟩
  · by_cases hk2 : k = 2
    · have hi := (List.getElem?_eq_some_iff.1 (hn hk2)).1
      have hlen : t'.length ≤ 11 := by
        rcases h3 with rfl | ⟨_, rfl⟩
        · omega
        · simp; omega
      exact .inl ⟨i, _, rfl, rfl, hf, hn, hr, hk, by omega⟩
    · refine .inl ⟨0, _, rfl, ?_, hf, fun e => absurd e hk2, hr, hk, by omega⟩
      unfold WordOf
      simp [hk2]
  · exact .inr ⟨_, rfl⟩
  · exact .inr ⟨_, rfl⟩
theorem Told1.leafIs {t' : List ByteArray} {T : Tm} {k n : Int} {s : ByteArray} {i : Nat} (h : Told1 t' T k n s i) {F : Nat → Prop} {w : World} {hh : Nat} {a a2 a3 : Option Addr} {l c l2 d l3 e : Nat}
    (hT : TermAt F w hh T [.int .i64 k, .int .i64 n, .string s, .slice a l c, .slice a2 l2 d, .slice a3 l3 e]) : l = 0 ∧ l2 = 0 ∧ l3 = 0 ∧ LeafIs k n s := by
  rcases fits_leaf hT h.fits with h1 | h1
  · exact absurd h1 h.leaf
  · exact h1
end Go.Proofs.Ytlnckpjpoaokjaa
