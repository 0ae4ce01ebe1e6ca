/- word.Small of any term, in one. -/
import Derived.Test.YtlnckpjpoaokjaaLeaf
namespace Go.Proofs.Ytlnckpjpoaokjaa
open Go.RowKit

set_option maxHeartbeats 400000 in
theorem small_wrong {F : Nat → Prop} {w : World} {h : Nat} {T : Tm} {k n : Int} {s : ByteArray} {a a2 a3 : Option Addr} {l c l2 d l3 e : Nat} (hT : TermAt F w h T [.int .i64 k, .int .i64 n, .string s, .slice a l c, .slice a2 l2 d, .slice a3 l3 e]) (hn : fitsB T = false) (t : Value) :
    Calls Try.prog 29 #[.agg #[.int .i64 k, .int .i64 n, .string s, .slice a l c, .slice a2 l2 d, .slice a3 l3 e], t] w fun e w' => SBad w e w' ∧ Kp (fun _ => False) w w' := by
  obtain ⟨w1, hw1⟩ : ∃ w1, (w.alloc (.cells #[.int .i64 k, .int .i64 n, .string s, .slice a l c, .slice a2 l2 d, .slice a3 l3 e] 60)) = w1 := ⟨_, rfl⟩
  have hk : Kp (fun _ => False) w w1 := by rw [← hw1]; exact ((Kp.refl _ w).alloc _)
  have hr := tright_any (hT.kp hk (fun _ _ e => e))
  have Hw := Lib.hid (And.intro hw1 hr)
  clear hw1 hr
  go_enter Try.func29, Try.ntmps29
  go_wp2_with fail
  rw [Hw.out.1]
  refine Hw.out.2.mono ?_
  rintro e w3 ⟨⟨rfl, hf⟩ | ⟨v, m, kk, rfl, hch⟩, hk3⟩
  · rw [hn] at hf
    cases hf
  · obtain ⟨gv, rfl⟩ := Chain.form (ChainB.out hch)
    have H3 := Lib.hid (And.intro (ChainB.le hk.size hch) (hk.trans' hk3))
    clear hch hk3 hk
    go_wp2_with (go_at_call 39; refine (at_any _ _ _ _ _).mono ?_; rintro e w' ⟨rfl, rfl⟩)
    go_ret3
    exact ⟨⟨_, _, _, rfl, (ChainB.cons smallS 0 (ChainB.kp ((Kp.refl (fun _ => False) w3).alloc _) (fun _ e => e.elim) H3.out.1) H3.out.2.size (heap_alloc_new w3 _))⟩, H3.out.2.alloc _⟩

/-- the word of a term that has one; i is the number of its name -/
def WordOf (k n : Int) (i : Nat) : Int :=
  if k = 1 then n * 8 % 18446744073709551616 + 0 else if k = 2 then (i : Int) * 8 % 18446744073709551616 + 1 else if k = 3 then n * 8 % 18446744073709551616 + 3 else if k = 4 then n * 8 % 18446744073709551616 + 2 else n * 8 % 18446744073709551616 + 4

/-- what Small tells: the word, or none, or an error; and what becomes of the table -/
def SmallTold (w : World) (b : Nat) (t : List ByteArray) (G : Nat → Prop) (T : Tm) (k n : Int) (s : ByteArray) (e : Ending) (w' : World) : Prop :=
  ∃ (t' : List ByteArray) (G' : Nat → Prop), AtRep w' G' b t' ∧ (∀ q, G' q → G q ∨ w.heap.size ≤ q) ∧ (t' = t ∨ (s ∉ t ∧ t' = t ++ [s])) ∧
    ((∃ i : Nat, e = .returned (.tuple #[.int .u64 (WordOf k n i), .bool true, .nilIface]) ∧ fitsB T = true ∧ (k = 2 → t'[i]? = some s) ∧ (k = 1 → -1152921504606846976 ≤ n ∧ n ≤ 1152921504606846975) ∧ ¬ (k = 5 ∨ k = 7 ∨ k = 8)) ∨
      e = .returned (.tuple #[.int .u64 0, .bool false, .nilIface]) ∨ SBad w e w')

theorem small_all {F G : Nat → Prop} {w : World} {h b : Nat} {T : Tm} {t : List ByteArray} {k n : Int} {s : ByteArray} {a a2 a3 : Option Addr} {l c l2 d l3 e : Nat} (hT : TermAt F w h T [.int .i64 k, .int .i64 n, .string s, .slice a l c, .slice a2 l2 d, .slice a3 l3 e]) (hR : AtRep w G b t) (hl : t.length < 1024) :
    Calls Try.prog 29 #[.agg #[.int .i64 k, .int .i64 n, .string s, .slice a l c, .slice a2 l2 d, .slice a3 l3 e], .pointer (some ⟨b, 0, none⟩)] w fun e w' => SmallTold w b t G T k n s e w' ∧ Kp G w w' := by
  have up : ∀ {w' : World}, Kp (fun _ => False) w w' → Kp G w w' := fun h => h.mono fun _ _ e => e.elim
  have same : ∀ {w' : World}, Kp (fun _ => False) w w' → AtRep w' G b t := fun h => hR.kp h (fun _ _ e => e)
  by_cases hf : fitsB T = true
  · by_cases h2 : k = 2
    · subst h2
      refine (small_atom hT hR hl).mono ?_
      rintro e w' ⟨⟨i, t', G', rfl, _, hi, ht', hR', hG'⟩ | ⟨hb, hR'⟩, hk⟩
      · exact ⟨⟨t', G', hR', hG', ht', .inl ⟨i, rfl, hf, fun _ => hi, by omega, by omega⟩⟩, hk⟩
      · exact ⟨⟨t, G, hR', fun q hq => .inl hq, .inl rfl, .inr (.inr hb)⟩, hk⟩
    · have told : ∀ {r : Value} (_ : r = .tuple #[.int .u64 (WordOf k n 0), .bool true, .nilIface] ∧ (k = 1 → -1152921504606846976 ≤ n ∧ n ≤ 1152921504606846975) ∧ ¬ (k = 5 ∨ k = 7 ∨ k = 8) ∨ r = .tuple #[.int .u64 0, .bool false, .nilIface]) {e : Ending} {w' : World}, ((e = .returned r ∧ fitsB T = true) ∨ SBad w e w') ∧ Kp (fun _ => False) w w' → SmallTold w b t G T k n s e w' ∧ Kp G w w' := by
        rintro r hr e w' ⟨⟨rfl, _⟩ | hb, hk⟩
        · rcases hr with ⟨rfl, h1, h5⟩ | rfl
          · exact ⟨⟨t, G, same hk, fun q hq => .inl hq, .inl rfl, .inl ⟨0, rfl, hf, fun h => absurd h h2, h1, h5⟩⟩, up hk⟩
          · exact ⟨⟨t, G, same hk, fun q hq => .inl hq, .inl rfl, .inr (.inl rfl)⟩, up hk⟩
        · exact ⟨⟨t, G, same hk, fun q hq => .inl hq, .inl rfl, .inr (.inr hb)⟩, up hk⟩
      rcases fits_leaf hT hf with (rfl | rfl | rfl) | ⟨_, _, _, ⟨rfl, _⟩ | ⟨rfl, _⟩ | ⟨rfl | rfl, _⟩ | ⟨rfl, _⟩⟩
      · exact (small_kind5 hT _).mono fun e w' => told (.inr rfl)
      · exact (small_kind7 hT _).mono fun e w' => told (.inr rfl)
      · exact (small_kind8 hT _).mono fun e w' => told (.inr rfl)
      · by_cases h1 : n < -1152921504606846976
        · exact (small_less hT _ h1).mono fun e w' => told (.inr rfl)
        · by_cases h3 : 1152921504606846975 < n
          · exact (small_more hT _ h3).mono fun e w' => told (.inr rfl)
          · exact (small_num hT _ (by omega) (by omega)).mono fun e w' => told (.inl ⟨rfl, fun _ => ⟨by omega, by omega⟩, by omega⟩)
      · exact absurd rfl h2
      · exact (small_ref hT _).mono fun e w' => told (.inl ⟨rfl, by omega, by omega⟩)
      · exact (small_pid hT _).mono fun e w' => told (.inl ⟨rfl, by omega, by omega⟩)
      · exact (small_nil hT _).mono fun e w' => told (.inl ⟨rfl, by omega, by omega⟩)
  · refine (small_wrong hT (by simpa using hf) _).mono ?_
    rintro e w' ⟨hb, hk⟩
    exact ⟨⟨t, G, same hk, fun q hq => .inl hq, .inl rfl, .inr (.inr hb)⟩, up hk⟩
end Go.Proofs.Ytlnckpjpoaokjaa
