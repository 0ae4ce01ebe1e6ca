/- The program's table and the document's, side by side: the same names in both. -/
import Derived.Test.YtlnckpjpoaokjaaRefNum
import Derived.Test.YtlnckpjpoaokjaaIn
namespace Go.Proofs.Ytlnckpjpoaokjaa
open Go.RowKit Go.Maps

/-- what becomes of a table with the names t that is asked for s: the number c, the error l, the names t' -/
def NumIs (t : List ByteArray) (s : ByteArray) (c : Int) (l : List Lk) (t' : List ByteArray) : Prop :=
  ((s.size = 0 ∨ 255 < s.size) ∧ c = -1 ∧ l = [Lk.fault atomS s.size, Lk.kind 1] ∧ t' = t) ∨
  (1 ≤ s.size ∧ s.size ≤ 255 ∧ ((∃ i : Nat, t[i]? = some s ∧ c = i ∧ l = [] ∧ t' = t) ∨
    (s ∉ t ∧ ((t.length = 1024 ∧ c = -1 ∧ l = [Lk.fault atomS s.size, Lk.kind 2] ∧ t' = t) ∨ (t.length < 1024 ∧ c = t.length ∧ l = [] ∧ t' = t ++ [s])))))

theorem numIs_any (t : List ByteArray) (s : ByteArray) (ht : t.length ≤ 1024) : ∃ c l t', NumIs t s c l t' := by
  by_cases h : s.size = 0 ∨ 255 < s.size
  · exact ⟨_, _, _, .inl ⟨h, rfl, rfl, rfl⟩⟩
  · have h1 : 1 ≤ s.size := by omega
    have h2 : s.size ≤ 255 := by omega
    by_cases hm : s ∈ t
    · obtain ⟨i, hi, e⟩ := List.mem_iff_getElem.1 hm
      exact ⟨_, _, _, .inr ⟨h1, h2, .inl ⟨i, by rw [List.getElem?_eq_getElem hi, e], rfl, rfl, rfl⟩⟩⟩
    · by_cases hl : t.length = 1024
      · exact ⟨_, _, _, .inr ⟨h1, h2, .inr ⟨hm, .inl ⟨hl, rfl, rfl, rfl⟩⟩⟩⟩
      · exact ⟨_, _, _, .inr ⟨h1, h2, .inr ⟨hm, .inr ⟨by omega, rfl, rfl, rfl⟩⟩⟩⟩

theorem NumIs.short {t : List ByteArray} {s : ByteArray} {c : Int} {l : List Lk} {t' : List ByteArray} (h : NumIs t s c l t') : l.length ≤ 9000 ∧ -1 ≤ c ∧ (t.length ≤ 1024 → c ≤ 1024) := by
  rcases h with ⟨_, rfl, rfl, _⟩ | ⟨_, _, ⟨i, hi, rfl, rfl, _⟩ | ⟨_, ⟨_, rfl, rfl, _⟩ | ⟨_, rfl, rfl, _⟩⟩⟩
  · simp
  · have := (List.getElem?_eq_some_iff.1 hi).1
    exact ⟨by simp, by omega, fun _ => by omega⟩
  · simp
  · exact ⟨by simp, by omega, fun _ => by omega⟩

theorem AtRep.wide {w w' : World} {F : Nat → Prop} {b : Nat} {names : List ByteArray} (h : AtRep w F b names) (hk : Kp (fun _ => False) w w') : AtRep w' (Ext F w w') b names := by
  rcases h with ⟨h1, h2, h3, h4⟩ | ⟨mb, D, v, h⟩
  · refine .inl ⟨.inl h1, fun k e => ?_, h3, (hk.block b (h2 b h1) (fun e => e)).trans h4⟩
    rcases e with e | e
    · exact Nat.lt_of_lt_of_le (h2 k e) hk.size
    · exact e.2
  · refine .inr ⟨mb, D, v, (h.kp hk (fun _ _ e => e)).more (fun q e => .inl e) (fun k e => ?_)⟩
    rcases e with e | e
    · exact Nat.lt_of_lt_of_le (h.lt k e) hk.size
    · exact e.2
theorem number_any {w : World} {F : Nat → Prop} {b : Nat} {t : List ByteArray} (h : AtRep w F b t) (s : ByteArray) (hs : s.size ≤ maxLen) {c : Int} {l : List Lk} {t' : List ByteArray} (hN : NumIs t s c l t') :
    Calls Try.prog 52 #[.pointer (some ⟨b, 0, none⟩), .string s] w fun e w' => ∃ v, e = .returned (.tuple #[.int .i64 c, v]) ∧ ChainB w.heap.size w' v l ∧ AtRep w' (Ext F w w') b t' ∧ Kp F w w' := by
  rcases hN with ⟨hb, rfl, rfl, rfl⟩ | ⟨h1, h2, ⟨i, hi, rfl, rfl, rfl⟩ | ⟨hn, ⟨hl, rfl, rfl, rfl⟩ | ⟨hl, rfl, rfl, rfl⟩⟩⟩
  · refine (number_bad _ s w hs hb).mono ?_
    rintro e w' ⟨v, he, hc, hk⟩
    exact ⟨v, he, hc, h.wide hk, hk.mono fun _ _ e => e.elim⟩
  · refine (number_old h s h1 h2 i hi).mono ?_
    rintro e w' ⟨he, hr, hk⟩
    exact ⟨.nilIface, he, rfl, hr, hk.mono fun _ _ e => e.elim⟩
  · refine (number_full h s h1 h2 hn hl).mono ?_
    rintro e w' ⟨⟨v, he, hc⟩, hr, hk⟩
    exact ⟨v, he, hc, hr, hk.mono fun _ _ e => e.elim⟩
  · refine (number_new h s h1 h2 hn hl).mono ?_
    rintro e w' ⟨he, hr, hk⟩
    exact ⟨.nilIface, he, rfl, hr, hk⟩

section
variable {w wr w' : World} {F G : Nat → Prop} {pa pb : Nat} {t u t' u' : List ByteArray}
end
/-- a name is put into both: the same comes of it -/
theorem numIs_next {t t' : List ByteArray} {s : ByteArray} {c : Int} {l : List Lk} (h : NumIs t s c l t') (ht : t.length ≤ 1024) : t'.length ≤ 1024 := by
  rcases h with ⟨_, _, _, rfl⟩ | ⟨_, _, ⟨i, _, _, _, rfl⟩ | ⟨_, ⟨_, _, _, rfl⟩ | ⟨hl, _, _, rfl⟩⟩⟩
  · exact ht
  · exact ht
  · exact ht
  · simp; omega

/-- one table, new since w -/
structure SoloS (w wr : World) (F : Nat → Prop) (pa : Nat) (t : List ByteArray) : Prop where
  nf : ∀ q, F q → w.heap.size ≤ q
  ra : AtRep wr F pa t
  kp : Kp (fun _ => False) w wr
theorem SoloS.step {w wr w' : World} {F : Nat → Prop} {pa : Nat} {t t' : List ByteArray} (h : SoloS w wr F pa t) (hr : AtRep w' (Ext F wr w') pa t') (hk : Kp F wr w') : SoloS w w' (Ext F wr w') pa t' := by
  have hz := h.kp.size
  refine ⟨fun q hq => ?_, hr, h.kp.trans (hk.mono fun q hq hF => .inr ⟨h.nf q hF, hq⟩)⟩
  rcases hq with hq | hq
  · exact h.nf q hq
  · omega
theorem SoloS.same {w wr w' : World} {F : Nat → Prop} {pa : Nat} {t : List ByteArray} (h : SoloS w wr F pa t) (hk : Kp (fun _ => False) wr w') : SoloS w w' F pa t :=
  ⟨h.nf, h.ra.kp hk (fun _ _ e => e), h.kp.trans' hk⟩
theorem solo_new (w : World) : SoloS w (w.alloc (.cells #[.int .u32 0, .int .i32 0, .int .u32 0, .map none, .slice none 0 0] 124)) (fun q => q = w.heap.size) w.heap.size [] :=
  ⟨fun q e => by omega, .inl ⟨rfl, fun q e => by simp; omega, rfl, heap_alloc_new w _⟩, (Kp.refl _ w).alloc _⟩

theorem kp_drewN (F : Nat → Prop) (w : World) (n : Nat) : Kp F w (w.drewN n) := ⟨rfl, rfl, rfl, Nat.le_refl _, fun _ _ _ => rfl⟩

end Go.Proofs.Ytlnckpjpoaokjaa
