/- unlike terms have unlike words. -/
import Derived.Test.YtlnckpjpoaokjaaWord
namespace Go.Proofs.Ytlnckpjpoaokjaa
open Go.RowKit

/-- two leaves are alike -/
def Alike (k n : Int) (s : ByteArray) (k2 n2 : Int) (s2 : ByteArray) : Prop := k = k2 ∧ ((k = 1 ∨ k = 3 ∨ k = 4) → n = n2) ∧ (k = 2 → s = s2)

theorem comp_all {k k2 n n2 : Int} {s s2 : ByteArray} (h : LeafIs k n s) (a a2 a3 b b2 b3 : Option Addr) (l c l2 d l3 e m g m2 i m3 j : Nat) (w : World) :
    Calls Try.prog 34 #[.agg #[.int .i64 k, .int .i64 n, .string s, .slice a l c, .slice a2 l2 d, .slice a3 l3 e], .agg #[.int .i64 k2, .int .i64 n2, .string s2, .slice b m g, .slice b2 m2 i, .slice b3 m3 j]] w fun e w' => ∃ r, e = .returned (.int .i64 r) ∧ (r = 0 ↔ Alike k n s k2 n2 s2) ∧ Kp (fun _ => False) w w' := by
  by_cases hk : k = k2
  · subst hk
    rcases h with ⟨rfl, _⟩ | ⟨rfl, _⟩ | ⟨rfl | rfl, _⟩ | ⟨rfl, _⟩
    · refine (comp_num n n2 s s2 a a2 a3 b b2 b3 l c l2 d l3 e m g m2 i m3 j w).mono ?_
      rintro e w' ⟨r, he, hr, hK⟩
      exact ⟨r, he, hr.trans ⟨fun h => ⟨rfl, fun _ => h, by omega⟩, fun h => h.2.1 (by omega)⟩, hK⟩
    · refine (comp_atom n n2 s s2 a a2 a3 b b2 b3 l c l2 d l3 e m g m2 i m3 j w).mono ?_
      rintro e w' ⟨r, he, hr, hK⟩
      exact ⟨r, he, hr.trans ⟨fun h => ⟨rfl, by omega, fun _ => h⟩, fun h => h.2.2 rfl⟩, hK⟩
    · refine (comp_ref n n2 s s2 a a2 a3 b b2 b3 l c l2 d l3 e m g m2 i m3 j w).mono ?_
      rintro e w' ⟨r, he, hr, hK⟩
      exact ⟨r, he, hr.trans ⟨fun h => ⟨rfl, fun _ => h, by omega⟩, fun h => h.2.1 (by omega)⟩, hK⟩
    · refine (comp_pid n n2 s s2 a a2 a3 b b2 b3 l c l2 d l3 e m g m2 i m3 j w).mono ?_
      rintro e w' ⟨r, he, hr, hK⟩
      exact ⟨r, he, hr.trans ⟨fun h => ⟨rfl, fun _ => h, by omega⟩, fun h => h.2.1 (by omega)⟩, hK⟩
    · refine (comp_nil n n2 s s2 a a2 a3 b b2 b3 l c l2 d l3 e m g m2 i m3 j w).mono ?_
      rintro e w' ⟨r, he, hr, hK⟩
      exact ⟨r, he, hr.trans ⟨fun h => ⟨rfl, by omega, by omega⟩, fun h => trivial⟩, hK⟩
  · refine (comp_kinds k k2 n n2 s s2 a a2 a3 b b2 b3 l c l2 d l3 e m g m2 i m3 j w hk).mono ?_
    rintro e w' ⟨r, he, hr, hK⟩
    exact ⟨r, he, hr.trans ⟨fun h => absurd h hk, fun h => absurd h.1 hk⟩, hK⟩

theorem word_eq {k k2 n n2 : Int} {s s2 : ByteArray} {i i2 : Nat} (h : LeafIs k n s) (h2 : LeafIs k2 n2 s2) (hr : k = 1 → -1152921504606846976 ≤ n ∧ n ≤ 1152921504606846975) (hr2 : k2 = 1 → -1152921504606846976 ≤ n2 ∧ n2 ≤ 1152921504606846975)
    (hi : i < 1024) (hi2 : i2 < 1024) (hs : k = 2 → k2 = 2 → (i = i2 ↔ s = s2)) : WordOf k n i = WordOf k2 n2 i2 ↔ Alike k n s k2 n2 s2 := by
  unfold Alike
  rcases h with ⟨rfl, _⟩ | ⟨rfl, rfl, _⟩ | ⟨rfl | rfl, h0, h1, _⟩ | ⟨rfl, rfl, _⟩ <;> rcases h2 with ⟨rfl, _⟩ | ⟨rfl, rfl, _⟩ | ⟨rfl | rfl, h3, h4, _⟩ | ⟨rfl, rfl, _⟩ <;> simp [WordOf] at * <;> first | omega | (rw [← hs]; omega) | skip
end Go.Proofs.Ytlnckpjpoaokjaa
