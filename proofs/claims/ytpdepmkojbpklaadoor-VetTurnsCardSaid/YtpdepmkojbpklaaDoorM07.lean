/- The table's map is made when it is first asked for. Shelf Marks, and the statements' common example. A table of atoms in memory: the map of its numbers, the slice of its names. What the table's methods Number, Name, Len do. Name and Len of a table; the document's own table in memory. The document's own Number. -/
import Derived.Test.YtpdepmkojbpklaaDoorProg
import Derived.Test.YtpdepmkojbpklaaDoorM02
import Derived.Test.YtpdepmkojbpklaaDoorM05
import Derived.Test.YtpdepmkojbpklaaDoorM06
import Derived.Maps.OwnOps
import Derived.Maps.OwnSet
import Derived.Deep.AppendLies
import Derived.Laws.Closers25b
/- The table's map is made when it is first asked for. -/
namespace Go.Proofs.YtpdepmkojbpklaaDoor
open Go.RowKit

/-- the cells of a table -/
def atCells (d : Int) (m v : Value) : Array Value := #[.int .u32 d, .int .i32 0, .int .u32 0, m, v]

end Go.Proofs.YtpdepmkojbpklaaDoor



/- Marks, and the statements' common example. -/
namespace Go.Proofs.YtpdepmkojbpklaaDoor
open Go.RowKit

def badMark (k n : Int) : Prop := k < 1 ∨ 4 < k ∨ n < 0 ∨ 1048576 < n

theorem ret3 {j k : IntKind} {a b c d : Int} {v : Value} (h : a = b) (h2 : c = d) : Ending.returned (.tuple #[.int j a, .int k c, v]) = .returned (.tuple #[.int j b, .int k d, v]) := by rw [h, h2]

/-- what is no mark -/
def badMarked (x : Int) : Prop := x % 8 ≠ 7 ∨ x / 8 % 8 < 1 ∨ 4 < x / 8 % 8 ∨ 1048576 < x / 64

end Go.Proofs.YtpdepmkojbpklaaDoor

/- A table of atoms in memory: the map of its numbers, the slice of its names. -/
namespace Go.Proofs.YtpdepmkojbpklaaDoor
open Go.RowKit Go.Maps

/-- the map says of each name its number, and of no other name one -/
def TabD (D : DataW Unit) (names : List ByteArray) : Prop :=
  ∀ s : ByteArray, (Maps.has D (.string s.data.toList) = true ↔ s ∈ names) ∧ ∀ i, names[i]? = some s → ∀ z, D.atKey (.string s.data.toList) z = .lit (.int .i64 (i : Nat))

theorem lit_ne {s t : ByteArray} (h : s ≠ t) : (Lit.string s.data.toList) ≠ .string t.data.toList := by
  intro e
  injection e with e
  apply h
  apply ByteArray.ext
  apply Array.ext'
  exact e

theorem TabD.empty : TabD (.map []) [] := fun s => ⟨⟨fun h => (by cases h), fun h => (by cases h)⟩, fun i h => (by simp at h)⟩
theorem TabD.put {D : DataW Unit} {names : List ByteArray} (h : TabD D names) (hm : Maps.IsMap D) (s : ByteArray) (hs : s ∉ names) : TabD (D.put (.string s.data.toList) (.lit (.int .i64 names.length))) (names ++ [s]) := by
  intro t
  by_cases e : t = s
  · subst e
    refine ⟨?_, fun i hi z => ?_⟩
    · rw [Maps.has_put_same hm (show WideAt.IsKeyLit (.string _) from trivial)]; simp
    · rw [Maps.atKey_put_same hm (show WideAt.IsKeyLit (.string _) from trivial)]
      have : i = names.length := by
        by_cases hl : i < names.length
        · rw [List.getElem?_append_left hl] at hi
          exact (hs (List.mem_of_getElem? hi)).elim
        · have := (List.getElem?_eq_some_iff.1 hi).1
          simp at this
          omega
      rw [this]
  · obtain ⟨h1, h2⟩ := h t
    refine ⟨?_, fun i hi z => ?_⟩
    · rw [Maps.has_put_other (lit_ne e), h1]
      simp [e]
    · rw [Maps.atKey_put_other (lit_ne e)]
      refine h2 i ?_ z
      by_cases hl : i < names.length
      · rw [List.getElem?_append_left hl] at hi; exact hi
      · have := (List.getElem?_eq_some_iff.1 hi).1
        simp at this
        rw [List.getElem?_append_right (by omega), show i - names.length = 0 by omega] at hi
        simp at hi
        exact (e hi.symm).elim

theorem Tryd.law : Keyed Tryd.prog 9 := string_keyed Tryd.underlying9
theorem Tryd.zeroE (w : World) : (zeroValue 3).run Tryd.prog w = .ok (.int .i64 0) w := by kernel_rfl
theorem Tryd.infoStr : (Tryd.prog.info? 9).map (fun i => (i.zero, i.size, i.bytes)) = some (some (.string ByteArray.empty), 1, 16) := by kernel_rfl

theorem owns_new {w : World} {mb : Nat} (h : w.heap[mb]? = some (.map #[] 0)) : w.ownsMap (H := Unit) Tryd.prog 9 (plainElem Tryd.prog 3) mb 0 (.map []) := by
  obtain ⟨es, clock, hb, F, hs, hD⟩ := World.ownsMap_made (H := Unit) w Tryd.prog 9 (plainElem Tryd.prog 3)
  rw [heap_alloc_new w _] at hb
  injection hb with hb
  injection hb with h1 h2
  subst h1
  subst h2
  exact ⟨#[], 0, h, F, hs, hD⟩

end Go.Proofs.YtpdepmkojbpklaaDoor

/- What the table's methods Number, Name, Len do. -/
namespace Go.Proofs.YtpdepmkojbpklaaDoor
open Go.RowKit Go.Maps

def atomS : ByteArray := ⟨#[97, 116, 111, 109]⟩

theorem key_of (s : ByteArray) (hs : s.size ≤ 255) : keyOf Tryd.prog 9 (.string s) = some (.string s.data.toList) :=
  WideMaps.keyOf_string_mk Tryd.underlying9 (by unfold maxLen; omega)

theorem ownsRow_set {w : World} {base : Nat} {e : TypeId} {size : Nat} {v : Value} {n : Nat} {xs : List Value} (ho : w.ownsRow base e size v n xs) (b j : Nat) (u : Value) (hne : v.ownBlock ≠ some b) :
    (w.setCell ⟨b, j, none⟩ u).ownsRow base e size v n xs :=
  ((Kp.refl (fun q => q = b) w).setCell ⟨b, j, none⟩ u (.inl rfl)).row ho (fun g hg e => hne (by rw [hg, e]))
theorem ownsMap_kp {H : Type} {w w' : World} {P : Program} {k : TypeId} {R : Value → Option (DataW H × List MemPlace)} {mb n : Nat} {D : DataW H} {G : Nat → Prop} (ho : w.ownsMap P k R mb n D) (hk : Kp G w w') (hG : ¬ G mb) : w'.ownsMap P k R mb n D := by
  have hl := ho.lt
  obtain ⟨es, clock, hb, F', hs, hD⟩ := ho
  exact ⟨es, clock, (hk.block mb hl hG).trans hb, F', hs, hD⟩

end Go.Proofs.YtpdepmkojbpklaaDoor

/- Name and Len of a table; the document's own table in memory. -/
namespace Go.Proofs.YtpdepmkojbpklaaDoor
open Go.RowKit Go.Maps

theorem str_at {w : World} {base : Nat} {v : Value} {l : List ByteArray} (h : w.ownsRow base 9 1 v l.length (l.map Value.string)) :
    ∃ po cap, v = .slice po l.length cap ∧ ∀ i s, l[i]? = some s → ∃ g, po = some ⟨g, 0, none⟩ ∧ w.cell? ⟨g, i, none⟩ = some (.string s) := by
  have h' := h
  rcases h.2 with ⟨e, h0⟩ | ⟨g, cap, cur, e, _⟩
  · refine ⟨none, 0, by rw [h0]; exact e, fun i a ha => ?_⟩
    have := (List.getElem?_eq_some_iff.1 ha).1
    omega
  · refine ⟨_, cap, e, fun i a ha => ⟨g, rfl, ?_⟩⟩
    have hlt := (List.getElem?_eq_some_iff.1 ha).1
    rw [e] at h'
    rw [h'.cellAt _ (by omega), List.getElem?_map, ha]
    rfl

theorem ret2s {s t : ByteArray} {v : Value} (h : s = t) : Ending.returned (.tuple #[.string s, v]) = .returned (.tuple #[.string t, v]) := by rw [h]

end Go.Proofs.YtpdepmkojbpklaaDoor

/- The document's own Number. -/
namespace Go.Proofs.YtpdepmkojbpklaaDoor
open Go.RowKit Go.Maps

theorem str_ne {a b : ByteArray} (h : a ≠ b) : (a.toList == b.toList) = false := by
  rw [beq_eq_false_iff_ne, ByteArray.toList_eq, ByteArray.toList_eq]
  exact fun e => h (ByteArray.ext (Array.toList_inj.1 e))
theorem str_empty {s : ByteArray} (h : s.size = 0) : s.toList = [] := by
  rw [toList_nil_iff_emptyBytes]
  exact ByteArray.ext (Array.eq_empty_of_size_eq_zero h)
theorem str_full {s : ByteArray} (h : 1 ≤ s.size) : ¬ s.toList = [] := by
  intro e
  rw [toList_nil_iff_emptyBytes] at e
  rw [e] at h
  exact absurd h (by decide)
theorem str_full2 {s : ByteArray} (h : 1 ≤ s.size) : s.toList.isEmpty = false := by
  rw [Bool.eq_false_iff]
  exact fun e => str_full h (List.isEmpty_iff.1 e)

end Go.Proofs.YtpdepmkojbpklaaDoor
