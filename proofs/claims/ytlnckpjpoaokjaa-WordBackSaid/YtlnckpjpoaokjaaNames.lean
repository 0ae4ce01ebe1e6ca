/- Name and Len of a table; the document's own table in memory. -/
import Derived.Test.YtlnckpjpoaokjaaNumber
namespace Go.Proofs.Ytlnckpjpoaokjaa
open Go.RowKit Go.Maps

theorem str_at {w : World} {base : Nat} {v : Value} {l : List ByteArray} (h : w.ownsRow base 9 1 v l.length (l.map Value.string)) :
    ∃ po cap, v = .slice po l.length cap ∧ ∀ i s, l[i]? = some s → ∃ g, po = some ⟨g, 0, none⟩ ∧ w.cell? ⟨g, i, none⟩ = some (.string s) := by
  have h' := h
  rcases h.2 with ⟨e, h0⟩ | ⟨g, cap, cur, e, _⟩
  · refine ⟨none, 0, by rw [h0]; exact e, fun i a ha => ?_⟩
    have := (List.getElem?_eq_some_iff.1 ha).1
    omega
  · refine ⟨_, cap, e, fun i a ha => ⟨g, rfl, ?_⟩⟩
    have hlt := (List.getElem?_eq_some_iff.1 ha).1
    rw [e] at h'
    rw [h'.cellAt _ (by omega), List.getElem?_map, ha]
    rfl

theorem AtRep.names_at {w : World} {F : Nat → Prop} {b : Nat} {names : List ByteArray} (h : AtRep w F b names) :
    ∃ po cap, w.cell? ⟨b, 4, none⟩ = some (.slice po names.length cap) ∧ ∀ i s, names[i]? = some s → ∃ g, po = some ⟨g, 0, none⟩ ∧ w.cell? ⟨g, i, none⟩ = some (.string s) := by
  rcases h with ⟨fb, lt, rfl, h4⟩ | ⟨mb, D, v, h⟩
  · exact ⟨none, 0, by rw [cell_of_row w b 4 _ _ _ h4]; rfl, fun i s hi => by simp at hi⟩
  · obtain ⟨po, cap, e, hat⟩ := str_at h.row
    exact ⟨po, cap, by rw [cell_of_row w b 4 _ _ _ h.main, ← e]; rfl, hat⟩
theorem AtRep.many {w : World} {F : Nat → Prop} {b : Nat} {names : List ByteArray} (h : AtRep w F b names) : names.length ≤ 1024 ∧ names.Nodup ∧ ∀ s ∈ names, s.size ≤ 255 := by
  rcases h with ⟨_, _, rfl, _⟩ | ⟨mb, D, v, h⟩
  · exact ⟨by simp, by simp, fun s hs => by simp at hs⟩
  · exact ⟨h.many, h.nd, h.len⟩

theorem ret2s {s t : ByteArray} {v : Value} (h : s = t) : Ending.returned (.tuple #[.string s, v]) = .returned (.tuple #[.string t, v]) := by rw [h]

theorem len_any {w : World} {F : Nat → Prop} {b : Nat} {names : List ByteArray} (h : AtRep w F b names) :
    Calls Try.prog 54 #[.pointer (some ⟨b, 0, none⟩)] w fun e w' => e = .returned (.int .i64 names.length) ∧ w = w' := by
  obtain ⟨po, cap, c4, hat⟩ := h.names_at
  clear hat h
  go_enter Try.func54, Try.ntmps54
  go_wp2
  go_ret
  exact ⟨rfl, rfl⟩

end Go.Proofs.Ytlnckpjpoaokjaa
