/- Name and Len of a table; the document's own table in memory. -/
import Derived.Test.YtmghneglfnkihaaNumber
namespace Go.Proofs.Ytmghneglfnkihaa
open Go.RowKit Go.Maps

theorem str_at {w : World} {base : Nat} {v : Value} {l : List ByteArray} (h : w.ownsRow base 9 1 v l.length (l.map Value.string)) :
    ∃ po cap, v = .slice po l.length cap ∧ ∀ i s, l[i]? = some s → ∃ g, po = some ⟨g, 0, none⟩ ∧ w.cell? ⟨g, i, none⟩ = some (.string s) := by
  have h' := h
  rcases h.2 with ⟨e, h0⟩ | ⟨g, cap, cur, e, _⟩
  · refine ⟨none, 0, by rw [h0]; exact e, fun i a ha => ?_⟩
    have := (List.getElem?_eq_some_iff.1 ha).1
    omega
  · refine ⟨_, cap, e, fun i a ha => ⟨g, rfl, ?_⟩⟩
    have hlt := (List.getElem?_eq_some_iff.1 ha).1
    rw [e] at h'
    rw [h'.cellAt _ (by omega), List.getElem?_map, ha]
    rfl

theorem AtRep.names_at {w : World} {F : Nat → Prop} {b : Nat} {names : List ByteArray} (h : AtRep w F b names) :
    ∃ po cap, w.cell? ⟨b, 4, none⟩ = some (.slice po names.length cap) ∧ ∀ i s, names[i]? = some s → ∃ g, po = some ⟨g, 0, none⟩ ∧ w.cell? ⟨g, i, none⟩ = some (.string s) := by
  rcases h with ⟨fb, lt, rfl, h4⟩ | ⟨mb, D, v, h⟩
  · exact ⟨none, 0, by rw [cell_of_row w b 4 _ _ _ h4]; rfl, fun i s hi => by simp at hi⟩
  · obtain ⟨po, cap, e, hat⟩ := str_at h.row
    exact ⟨po, cap, by rw [cell_of_row w b 4 _ _ _ h.main, ← e]; rfl, hat⟩
theorem AtRep.many {w : World} {F : Nat → Prop} {b : Nat} {names : List ByteArray} (h : AtRep w F b names) : names.length ≤ 1024 ∧ names.Nodup ∧ ∀ s ∈ names, s.size ≤ 255 := by
  rcases h with ⟨_, _, rfl, _⟩ | ⟨mb, D, v, h⟩
  · exact ⟨by simp, by simp, fun s hs => by simp at hs⟩
  · exact ⟨h.many, h.nd, h.len⟩

theorem ret2s {s t : ByteArray} {v : Value} (h : s = t) : Ending.returned (.tuple #[.string s, v]) = .returned (.tuple #[.string t, v]) := by rw [h]

theorem name_ok {w : World} {F : Nat → Prop} {b : Nat} {names : List ByteArray} (h : AtRep w F b names) (k : Nat) (s : ByteArray) (hk : names[k]? = some s) :
    Calls Try.prog 12 #[.pointer (some ⟨b, 0, none⟩), .int .i64 k] w fun e w' => e = .returned (.tuple #[.string s, .nilIface]) ∧ w = w' := by
  obtain ⟨po, cap, c4, hat⟩ := h.names_at
  have hm := h.many.1
  have hlt := (List.getElem?_eq_some_iff.1 hk).1
  obtain ⟨g, rfl, hc⟩ := hat k s hk
  have e1 : ¬ ((k : Int) < 0) := by omega
  have e2 : ¬ ((names.length : Int) ≤ k) := by omega
  have hli : (k : Int) < names.length := by omega
  clear hat hk h
  go_enter Try.func12, Try.ntmps12
  go_wp2
  go_ret2
  exact ⟨rfl, rfl⟩

theorem name_bad {w : World} {F : Nat → Prop} {b : Nat} {names : List ByteArray} (h : AtRep w F b names) (n : Int) (hn : n < 0 ∨ names.length ≤ n) :
    Calls Try.prog 12 #[.pointer (some ⟨b, 0, none⟩), .int .i64 n] w (EBad w (fun v => .tuple #[.string ByteArray.empty, v]) [Lk.fault atomS n, Lk.kind 3]) := by
  obtain ⟨po, cap, c4, hat⟩ := h.names_at
  have hm := h.many.1
  clear hat h
  by_cases h1 : n < 0
  · clear hn
    go_enter Try.func12, Try.ntmps12
    go_wp2_with (go_at_call 34; refine (at_any _ _ _ _ _).mono ?_; rintro e w' ⟨rfl, rfl⟩)
    go_ret2
    exact ebad1 w _ _ _ _ (by decide) 0
  · have h2 : (names.length : Int) ≤ n := by omega
    clear hn
    go_enter Try.func12, Try.ntmps12
    go_wp2_with (go_at_call 34; refine (at_any _ _ _ _ _).mono ?_; rintro e w' ⟨rfl, rfl⟩)
    go_ret2
    exact ebad1 w _ _ _ _ (by decide) 0

theorem len_any {w : World} {F : Nat → Prop} {b : Nat} {names : List ByteArray} (h : AtRep w F b names) :
    Calls Try.prog 19 #[.pointer (some ⟨b, 0, none⟩)] w fun e w' => e = .returned (.int .i64 names.length) ∧ w = w' := by
  obtain ⟨po, cap, c4, hat⟩ := h.names_at
  clear hat h
  go_enter Try.func19, Try.ntmps19
  go_wp2
  go_ret
  exact ⟨rfl, rfl⟩

/-- the document's table at b -/
structure XAt (w : World) (G : Nat → Prop) (b : Nat) (v : Value) (names : List ByteArray) : Prop where
  fb : G b
  lt : ∀ k, G k → k < w.heap.size
  main : w.heap[b]? = some (.cells #[v] 50 (0, 0))
  row : w.ownsRow 0 9 1 v names.length (names.map Value.string)
  inn : ∀ g, v.ownBlock = some g → G g ∧ g ≠ b

def XAtRep (w : World) (G : Nat → Prop) (b : Nat) (names : List ByteArray) : Prop := ∃ v, XAt w G b v names

theorem XAt.kp {w w' : World} {F G : Nat → Prop} {b : Nat} {v : Value} {names : List ByteArray} (h : XAt w F b v names) (hk : Kp G w w') (hd : ∀ k, F k → ¬ G k) : XAt w' F b v names :=
  ⟨h.fb, fun k e => Nat.lt_of_lt_of_le (h.lt k e) hk.size, (hk.block b (h.lt b h.fb) (hd b h.fb)).trans h.main, hk.row h.row (fun g hg => hd g (h.inn g hg).1), h.inn⟩
theorem XAtRep.kp {w w' : World} {F G : Nat → Prop} {b : Nat} {names : List ByteArray} (h : XAtRep w F b names) (hk : Kp G w w') (hd : ∀ k, F k → ¬ G k) : XAtRep w' F b names := by
  obtain ⟨v, h⟩ := h; exact ⟨v, h.kp hk hd⟩
theorem XAtRep.names_at {w : World} {F : Nat → Prop} {b : Nat} {names : List ByteArray} (h : XAtRep w F b names) :
    ∃ po cap, w.cell? ⟨b, 0, none⟩ = some (.slice po names.length cap) ∧ ∀ i s, names[i]? = some s → ∃ g, po = some ⟨g, 0, none⟩ ∧ w.cell? ⟨g, i, none⟩ = some (.string s) := by
  obtain ⟨v, h⟩ := h
  obtain ⟨po, cap, e, hat⟩ := str_at h.row
  exact ⟨po, cap, by rw [cell_of_row w b 0 _ _ _ h.main, ← e]; rfl, hat⟩

theorem xname_ok {w : World} {F : Nat → Prop} {b : Nat} {names : List ByteArray} (h : XAtRep w F b names) (_hm : names.length ≤ 1024) (k : Nat) (s : ByteArray) (hk : names[k]? = some s) :
    Calls Try.prog 13 #[.pointer (some ⟨b, 0, none⟩), .int .i64 k] w fun e w' => e = .returned (.tuple #[.string s, .pointer none]) ∧ w = w' := by
  obtain ⟨po, cap, c4, hat⟩ := h.names_at
  have hlt := (List.getElem?_eq_some_iff.1 hk).1
  obtain ⟨g, rfl, hc⟩ := hat k s hk
  have e1 : ¬ ((k : Int) < 0) := by omega
  have e2 : ¬ ((names.length : Int) ≤ k) := by omega
  have hli : (k : Int) < names.length := by omega
  clear hat hk h
  go_enter Try.func13, Try.ntmps13
  go_wp2
  go_ret2
  exact ⟨rfl, rfl⟩

theorem xname_bad {w : World} {F : Nat → Prop} {b : Nat} {names : List ByteArray} (h : XAtRep w F b names) (_hm : names.length ≤ 1024) (n : Int) (hn : n < 0 ∨ names.length ≤ n) :
    Calls Try.prog 13 #[.pointer (some ⟨b, 0, none⟩), .int .i64 n] w (XBad w (fun v => .tuple #[.string ByteArray.empty, v]) [Lk.fault atomS n, Lk.kind 3]) := by
  obtain ⟨po, cap, c4, hat⟩ := h.names_at
  clear hat h
  by_cases h1 : n < 0
  · clear hn
    go_enter Try.func13, Try.ntmps13
    go_wp2_with (first | (go_at_call 36; refine (k_any _ _).mono ?_; rintro e w1 ⟨rfl, rfl⟩) | (go_at_call 35; refine (f_any _ _ _ _).mono ?_; rintro e w1 ⟨rfl, rfl⟩))
    go_ret2
    exact xbad1 w _ _ _ 3 0
  · have h2 : (names.length : Int) ≤ n := by omega
    clear hn
    go_enter Try.func13, Try.ntmps13
    go_wp2_with (first | (go_at_call 36; refine (k_any _ _).mono ?_; rintro e w1 ⟨rfl, rfl⟩) | (go_at_call 35; refine (f_any _ _ _ _).mono ?_; rintro e w1 ⟨rfl, rfl⟩))
    go_ret2
    exact xbad1 w _ _ _ 3 0
end Go.Proofs.Ytmghneglfnkihaa
