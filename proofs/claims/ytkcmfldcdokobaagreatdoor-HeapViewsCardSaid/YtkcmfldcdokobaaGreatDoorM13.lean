/- Name and Len of a table; the document's own table in memory. The document's own Number. Slices of integers and of strings that came in, read element by element. The program's table and the document's, side by side: the same names in both. -/
import Derived.Test.YtkcmfldcdokobaaGreatDoorM02
import Derived.Test.YtkcmfldcdokobaaGreatDoorM12
import Derived.Laws.Closers25b
import Derived.OpenShut
/- Name and Len of a table; the document's own table in memory. -/
namespace Go.Proofs.YtkcmfldcdokobaaGreatDoor
open Go.RowKit Go.Maps

theorem str_at {w : World} {base : Nat} {v : Value} {l : List ByteArray} (h : w.ownsRow base 9 1 v l.length (l.map Value.string)) :
    ∃ po cap, v = .slice po l.length cap ∧ ∀ i s, l[i]? = some s → ∃ g, po = some ⟨g, 0, none⟩ ∧ w.cell? ⟨g, i, none⟩ = some (.string s) := by
  have h' := h
  rcases h.2 with ⟨e, h0⟩ | ⟨g, cap, cur, e, _⟩
  · refine ⟨none, 0, by rw [h0]; exact e, fun i a ha => ?_⟩
    have := (List.getElem?_eq_some_iff.1 ha).1
    omega
  · refine ⟨_, cap, e, fun i a ha => ⟨g, rfl, ?_⟩⟩
    have hlt := (List.getElem?_eq_some_iff.1 ha).1
    rw [e] at h'
    rw [h'.cellAt _ (by omega), List.getElem?_map, ha]
    rfl

theorem AtRep.names_at {w : World} {F : Nat → Prop} {b : Nat} {names : List ByteArray} (h : AtRep w F b names) :
    ∃ po cap, w.cell? ⟨b, 4, none⟩ = some (.slice po names.length cap) ∧ ∀ i s, names[i]? = some s → ∃ g, po = some ⟨g, 0, none⟩ ∧ w.cell? ⟨g, i, none⟩ = some (.string s) := by
  rcases h with ⟨fb, lt, rfl, h4⟩ | ⟨mb, D, v, h⟩
  · exact ⟨none, 0, by rw [cell_of_row w b 4 _ _ _ h4]; rfl, fun i s hi => by simp at hi⟩
  · obtain ⟨po, cap, e, hat⟩ := str_at h.row
    exact ⟨po, cap, by rw [cell_of_row w b 4 _ _ _ h.main, ← e]; rfl, hat⟩
theorem AtRep.many {w : World} {F : Nat → Prop} {b : Nat} {names : List ByteArray} (h : AtRep w F b names) : names.length ≤ 1024 ∧ names.Nodup ∧ ∀ s ∈ names, s.size ≤ 255 := by
  rcases h with ⟨_, _, rfl, _⟩ | ⟨mb, D, v, h⟩
  · exact ⟨by simp, by simp, fun s hs => by simp at hs⟩
  · exact ⟨h.many, h.nd, h.len⟩

theorem ret2s {s t : ByteArray} {v : Value} (h : s = t) : Ending.returned (.tuple #[.string s, v]) = .returned (.tuple #[.string t, v]) := by rw [h]

theorem name_ok {w : World} {F : Nat → Prop} {b : Nat} {names : List ByteArray} (h : AtRep w F b names) (k : Nat) (s : ByteArray) (hk : names[k]? = some s) :
    Calls Tryz.prog 163 #[.pointer (some ⟨b, 0, none⟩), .int .i64 k] w fun e w' => e = .returned (.tuple #[.string s, .nilIface]) ∧ w = w' := by
  obtain ⟨po, cap, c4, hat⟩ := h.names_at
  have hm := h.many.1
  have hlt := (List.getElem?_eq_some_iff.1 hk).1
  obtain ⟨g, rfl, hc⟩ := hat k s hk
  have e1 : ¬ ((k : Int) < 0) := by omega
  have e2 : ¬ ((names.length : Int) ≤ k) := by omega
  have hli : (k : Int) < names.length := by omega
  clear hat hk h
  go_enter Tryz.func163, Tryz.ntmps163
  go_wp2
  go_ret2
  exact ⟨rfl, rfl⟩

theorem name_bad {w : World} {F : Nat → Prop} {b : Nat} {names : List ByteArray} (h : AtRep w F b names) (n : Int) (hn : n < 0 ∨ names.length ≤ n) :
    Calls Tryz.prog 163 #[.pointer (some ⟨b, 0, none⟩), .int .i64 n] w (EBad w (fun v => .tuple #[.string ByteArray.empty, v]) [Lk.fault atomS n, Lk.kind 3]) := by
  obtain ⟨po, cap, c4, hat⟩ := h.names_at
  have hm := h.many.1
  clear hat h
  by_cases h1 : n < 0
  · clear hn
    go_enter Tryz.func163, Tryz.ntmps163
    go_wp2_with (go_at_call 49; refine (at_any _ _ _ _ _).mono ?_; rintro e w' ⟨rfl, rfl⟩)
    go_ret2
    exact ebad1 w _ _ _ _ (by decide) 0
  · have h2 : (names.length : Int) ≤ n := by omega
    clear hn
    go_enter Tryz.func163, Tryz.ntmps163
    go_wp2_with (go_at_call 49; refine (at_any _ _ _ _ _).mono ?_; rintro e w' ⟨rfl, rfl⟩)
    go_ret2
    exact ebad1 w _ _ _ _ (by decide) 0

theorem len_any {w : World} {F : Nat → Prop} {b : Nat} {names : List ByteArray} (h : AtRep w F b names) :
    Calls Tryz.prog 143 #[.pointer (some ⟨b, 0, none⟩)] w fun e w' => e = .returned (.int .i64 names.length) ∧ w = w' := by
  obtain ⟨po, cap, c4, hat⟩ := h.names_at
  clear hat h
  go_enter Tryz.func143, Tryz.ntmps143
  go_wp2
  go_ret
  exact ⟨rfl, rfl⟩

/-- the document's table at b -/
structure XAtW (w : World) (G : Nat → Prop) (b : Nat) (v : Value) (names : List ByteArray) : Prop where
  fb : G b
  lt : ∀ k, G k → k < w.heap.size
  main : w.heap[b]? = some (.cells #[v] 135 (0, 0))
  row : w.ownsRow 0 9 1 v names.length (names.map Value.string)
  inn : ∀ g, v.ownBlock = some g → G g ∧ g ≠ b

def XAtRep (w : World) (G : Nat → Prop) (b : Nat) (names : List ByteArray) : Prop := ∃ v, XAtW w G b v names

theorem XAtW.kp {w w' : World} {F G : Nat → Prop} {b : Nat} {v : Value} {names : List ByteArray} (h : XAtW w F b v names) (hk : Kp G w w') (hd : ∀ k, F k → ¬ G k) : XAtW w' F b v names :=
  ⟨h.fb, fun k e => Nat.lt_of_lt_of_le (h.lt k e) hk.size, (hk.block b (h.lt b h.fb) (hd b h.fb)).trans h.main, hk.row h.row (fun g hg => hd g (h.inn g hg).1), h.inn⟩
theorem XAtRep.kp {w w' : World} {F G : Nat → Prop} {b : Nat} {names : List ByteArray} (h : XAtRep w F b names) (hk : Kp G w w') (hd : ∀ k, F k → ¬ G k) : XAtRep w' F b names := by
  obtain ⟨v, h⟩ := h; exact ⟨v, h.kp hk hd⟩
theorem XAtRep.names_at {w : World} {F : Nat → Prop} {b : Nat} {names : List ByteArray} (h : XAtRep w F b names) :
    ∃ po cap, w.cell? ⟨b, 0, none⟩ = some (.slice po names.length cap) ∧ ∀ i s, names[i]? = some s → ∃ g, po = some ⟨g, 0, none⟩ ∧ w.cell? ⟨g, i, none⟩ = some (.string s) := by
  obtain ⟨v, h⟩ := h
  obtain ⟨po, cap, e, hat⟩ := str_at h.row
  exact ⟨po, cap, by rw [cell_of_row w b 0 _ _ _ h.main, ← e]; rfl, hat⟩

end Go.Proofs.YtkcmfldcdokobaaGreatDoor

/- The document's own Number. -/
namespace Go.Proofs.YtkcmfldcdokobaaGreatDoor
open Go.RowKit Go.Maps

theorem str_ne {a b : ByteArray} (h : a ≠ b) : (a.toList == b.toList) = false := by
  rw [beq_eq_false_iff_ne, ByteArray.toList_eq, ByteArray.toList_eq]
  exact fun e => h (ByteArray.ext (Array.toList_inj.1 e))
theorem str_empty {s : ByteArray} (h : s.size = 0) : s.toList = [] := by
  rw [toList_nil_iff_emptyBytes]
  exact ByteArray.ext (Array.eq_empty_of_size_eq_zero h)
theorem str_full {s : ByteArray} (h : 1 ≤ s.size) : ¬ s.toList = [] := by
  intro e
  rw [toList_nil_iff_emptyBytes] at e
  rw [e] at h
  exact absurd h (by decide)
theorem str_full2 {s : ByteArray} (h : 1 ≤ s.size) : s.toList.isEmpty = false := by
  rw [Bool.eq_false_iff]
  exact fun e => str_full h (List.isEmpty_iff.1 e)

end Go.Proofs.YtkcmfldcdokobaaGreatDoor

/- Slices of integers and of strings that came in, read element by element. -/
namespace Go.Proofs.YtkcmfldcdokobaaGreatDoor
open Go.RowKit

/-- a slice of integers that came in: what its elements read as -/
def InRow (w : World) (a : Option Addr) (len : Nat) (f : Nat → Int) : Prop :=
  len ≤ 9223372036854775807 ∧ ∀ k, k < len → ∃ b off, a = some ⟨b, off, none⟩ ∧ b < w.heap.size ∧ w.cell? ⟨b, off + k, none⟩ = some (.int .i64 (f k)) ∧ -9223372036854775808 ≤ f k ∧ f k ≤ 9223372036854775807

theorem inRow_of {w : World} {a : Option Addr} {len cap : Nat} {zs : List Int}
    (h : (a = none ∧ len = 0 ∧ cap = 0 ∧ zs = []) ∨ ∃ x, a = some x ∧ len ≤ cap ∧ cap ≤ maxLen ∧ zs.length = cap ∧ (∀ i, i < zs.length → w.cell? (x.add i) = some (.int .i64 (zs.getD i 0))) ∧ ∀ n ∈ zs, (Lit.int .i64 n).wf = true) :
    InRow w a len (fun k => zs.getD k 0) := by
  rcases h with ⟨_, h, _⟩ | ⟨x, rfl, h1, h2, h3, h4, h5⟩
  · exact ⟨by omega, fun k hk => by omega⟩
  · refine ⟨by unfold maxLen at h2; omega, fun k hk => ?_⟩
    obtain ⟨b, off, rfl, hc⟩ := ints_at h4 (by omega)
    have hk' := hc k (by omega)
    refine ⟨b, off, rfl, World.block_lt_of_cell? _ _ hk', hk', ?_⟩
    have hm : zs.getD k 0 ∈ zs := by
      have : k < zs.length := by omega
      rw [List.getD_eq_getElem?_getD, List.getElem?_eq_getElem this]
      exact List.getElem_mem this
    exact bounds_i64 (h5 _ hm)

/-- the element is still there, behind whatever made new memory alone -/
theorem InRow.at' {w wr : World} {a : Option Addr} {len : Nat} {f : Nat → Int} (h : InRow w a len f) (hk : Kp (fun _ => False) w wr) (k : Nat) (hlt : k < len) :
    ∃ b off, a = some ⟨b, off, none⟩ ∧ wr.cell? ⟨b, off + k, none⟩ = some (.int .i64 (f k)) ∧ -9223372036854775808 ≤ f k ∧ f k ≤ 9223372036854775807 := by
  obtain ⟨b, off, h1, h2, h3, h4⟩ := h.2 k hlt
  exact ⟨b, off, h1, (hk.cell (p := ⟨b, off + k, none⟩) h2 (fun e => e)).trans h3, h4⟩

/-- a slice of strings that came in -/
def StrIn (w : World) (a : Option Addr) (len : Nat) (f : Nat → ByteArray) : Prop :=
  len ≤ 9223372036854775807 ∧ ∀ k, k < len → ∃ b off, a = some ⟨b, off, none⟩ ∧ b < w.heap.size ∧ w.cell? ⟨b, off + k, none⟩ = some (.string (f k)) ∧ (f k).size ≤ maxLen

theorem strIn_of {w : World} {x : Addr} {len : Nat} {f : Nat → ByteArray} (hm : len ≤ maxLen) (h : ∀ k, k < len → w.cell? (x.add k) = some (.string (f k)) ∧ (f k).size ≤ maxLen) : StrIn w (some x) len f := by
  refine ⟨by unfold maxLen at hm; omega, fun k hk => ?_⟩
  obtain ⟨b, off, spot⟩ := x
  have hspot : spot = none := by simpa [Addr.add] using World.cell?_spot (h 0 (by omega)).1
  subst hspot
  have hc : w.cell? ⟨b, off + k, none⟩ = some (.string (f k)) := by rw [← Go.WideShapes.add_plain]; exact (h k hk).1
  exact ⟨b, off, rfl, World.block_lt_of_cell? _ _ hc, hc, (h k hk).2⟩

theorem StrIn.at' {w wr : World} {a : Option Addr} {len : Nat} {f : Nat → ByteArray} (h : StrIn w a len f) (hk : Kp (fun _ => False) w wr) (k : Nat) (hlt : k < len) :
    ∃ b off, a = some ⟨b, off, none⟩ ∧ wr.cell? ⟨b, off + k, none⟩ = some (.string (f k)) ∧ (f k).size ≤ maxLen := by
  obtain ⟨b, off, h1, h2, h3, h4⟩ := h.2 k hlt
  exact ⟨b, off, h1, (hk.cell (p := ⟨b, off + k, none⟩) h2 (fun e => e)).trans h3, h4⟩
end Go.Proofs.YtkcmfldcdokobaaGreatDoor

/- The program's table and the document's, side by side: the same names in both. -/
namespace Go.Proofs.YtkcmfldcdokobaaGreatDoor
open Go.RowKit Go.Maps

/-- what becomes of a table with the names t that is asked for s: the number c, the error l, the names t' -/
def NumIs (t : List ByteArray) (s : ByteArray) (c : Int) (l : List Lk) (t' : List ByteArray) : Prop :=
  ((s.size = 0 ∨ 255 < s.size) ∧ c = -1 ∧ l = [Lk.fault atomS s.size, Lk.kind 1] ∧ t' = t) ∨
  (1 ≤ s.size ∧ s.size ≤ 255 ∧ ((∃ i : Nat, t[i]? = some s ∧ c = i ∧ l = [] ∧ t' = t) ∨
    (s ∉ t ∧ ((t.length = 1024 ∧ c = -1 ∧ l = [Lk.fault atomS s.size, Lk.kind 2] ∧ t' = t) ∨ (t.length < 1024 ∧ c = t.length ∧ l = [] ∧ t' = t ++ [s])))))

theorem numIs_any (t : List ByteArray) (s : ByteArray) (ht : t.length ≤ 1024) : ∃ c l t', NumIs t s c l t' := by
  by_cases h : s.size = 0 ∨ 255 < s.size
  · exact ⟨_, _, _, .inl ⟨h, rfl, rfl, rfl⟩⟩
  · have h1 : 1 ≤ s.size := by omega
    have h2 : s.size ≤ 255 := by omega
    by_cases hm : s ∈ t
    · obtain ⟨i, hi, e⟩ := List.mem_iff_getElem.1 hm
      exact ⟨_, _, _, .inr ⟨h1, h2, .inl ⟨i, by rw [List.getElem?_eq_getElem hi, e], rfl, rfl, rfl⟩⟩⟩
    · by_cases hl : t.length = 1024
      · exact ⟨_, _, _, .inr ⟨h1, h2, .inr ⟨hm, .inl ⟨hl, rfl, rfl, rfl⟩⟩⟩⟩
      · exact ⟨_, _, _, .inr ⟨h1, h2, .inr ⟨hm, .inr ⟨by omega, rfl, rfl, rfl⟩⟩⟩⟩

theorem NumIs.short {t : List ByteArray} {s : ByteArray} {c : Int} {l : List Lk} {t' : List ByteArray} (h : NumIs t s c l t') : l.length ≤ 9000 ∧ -1 ≤ c ∧ (t.length ≤ 1024 → c ≤ 1024) := by
  rcases h with ⟨_, rfl, rfl, _⟩ | ⟨_, _, ⟨i, hi, rfl, rfl, _⟩ | ⟨_, ⟨_, rfl, rfl, _⟩ | ⟨_, rfl, rfl, _⟩⟩⟩
  · simp
  · have := (List.getElem?_eq_some_iff.1 hi).1
    exact ⟨by simp, by omega, fun _ => by omega⟩
  · simp
  · exact ⟨by simp, by omega, fun _ => by omega⟩

theorem AtRep.wide {w w' : World} {F : Nat → Prop} {b : Nat} {names : List ByteArray} (h : AtRep w F b names) (hk : Kp (fun _ => False) w w') : AtRep w' (Ext F w w') b names := by
  rcases h with ⟨h1, h2, h3, h4⟩ | ⟨mb, D, v, h⟩
  · refine .inl ⟨.inl h1, fun k e => ?_, h3, (hk.block b (h2 b h1) (fun e => e)).trans h4⟩
    rcases e with e | e
    · exact Nat.lt_of_lt_of_le (h2 k e) hk.size
    · exact e.2
  · refine .inr ⟨mb, D, v, (h.kp hk (fun _ _ e => e)).more (fun q e => .inl e) (fun k e => ?_)⟩
    rcases e with e | e
    · exact Nat.lt_of_lt_of_le (h.lt k e) hk.size
    · exact e.2
theorem XAtRep.wide {w w' : World} {F : Nat → Prop} {b : Nat} {names : List ByteArray} (h : XAtRep w F b names) (hk : Kp (fun _ => False) w w') : XAtRep w' (Ext F w w') b names := by
  obtain ⟨v, h⟩ := h
  have h1 := h.kp hk (fun _ _ e => e)
  refine ⟨v, .inl h1.fb, fun k e => ?_, h1.main, h1.row, fun g hg => ⟨.inl (h1.inn g hg).1, (h1.inn g hg).2⟩⟩
  rcases e with e | e
  · exact h1.lt k e
  · exact e.2

theorem number_any {w : World} {F : Nat → Prop} {b : Nat} {t : List ByteArray} (h : AtRep w F b t) (s : ByteArray) (hs : s.size ≤ maxLen) {c : Int} {l : List Lk} {t' : List ByteArray} (hN : NumIs t s c l t') :
    Calls Tryz.prog 92 #[.pointer (some ⟨b, 0, none⟩), .string s] w fun e w' => ∃ v, e = .returned (.tuple #[.int .i64 c, v]) ∧ ChainB w.heap.size w' v l ∧ AtRep w' (Ext F w w') b t' ∧ Kp F w w' := by
  rcases hN with ⟨hb, rfl, rfl, rfl⟩ | ⟨h1, h2, ⟨i, hi, rfl, rfl, rfl⟩ | ⟨hn, ⟨hl, rfl, rfl, rfl⟩ | ⟨hl, rfl, rfl, rfl⟩⟩⟩
  · refine (number_bad _ s w hs hb).mono ?_
    rintro e w' ⟨v, he, hc, hk⟩
    exact ⟨v, he, hc, h.wide hk, hk.mono fun _ _ e => e.elim⟩
  · refine (number_old h s h1 h2 i hi).mono ?_
    rintro e w' ⟨he, hr, hk⟩
    exact ⟨.nilIface, he, rfl, hr, hk.mono fun _ _ e => e.elim⟩
  · refine (number_full h s h1 h2 hn hl).mono ?_
    rintro e w' ⟨⟨v, he, hc⟩, hr, hk⟩
    exact ⟨v, he, hc, hr, hk.mono fun _ _ e => e.elim⟩
  · refine (number_new h s h1 h2 hn hl).mono ?_
    rintro e w' ⟨he, hr, hk⟩
    exact ⟨.nilIface, he, rfl, hr, hk⟩

/-- two tables, apart from one another, both new since w -/
structure PairS (w wr : World) (F G : Nat → Prop) (pa pb : Nat) (t u : List ByteArray) : Prop where
  nf : ∀ q, F q → w.heap.size ≤ q
  ng : ∀ q, G q → w.heap.size ≤ q
  lf : ∀ q, F q → q < wr.heap.size
  lg : ∀ q, G q → q < wr.heap.size
  ap : ∀ q, F q → ¬ G q
  ra : AtRep wr F pa t
  rx : XAtRep wr G pb u
  kp : Kp (fun _ => False) w wr

section
variable {w wr w' : World} {F G : Nat → Prop} {pa pb : Nat} {t u t' u' : List ByteArray}
theorem PairS.stepA (h : PairS w wr F G pa pb t u) (hr : AtRep w' (Ext F wr w') pa t') (hk : Kp F wr w') : PairS w w' (Ext F wr w') G pa pb t' u := by
  have hz := h.kp.size
  refine ⟨?_, h.ng, ?_, fun q e => Nat.lt_of_lt_of_le (h.lg q e) hk.size, ?_, hr, h.rx.kp hk (fun q e e2 => h.ap q e2 e), h.kp.trans (hk.mono fun q hq hF => .inr ⟨h.nf q hF, hq⟩)⟩
  · intro q hq
    rcases hq with hq | hq
    · exact h.nf q hq
    · omega
  · intro q hq
    rcases hq with hq | hq
    · exact Nat.lt_of_lt_of_le (h.lf q hq) hk.size
    · exact hq.2
  · intro q hq hG
    rcases hq with hq | hq
    · exact h.ap q hq hG
    · have := h.lg q hG; omega
theorem PairS.stepX (h : PairS w wr F G pa pb t u) (hr : XAtRep w' (Ext G wr w') pb u') (hk : Kp G wr w') : PairS w w' F (Ext G wr w') pa pb t u' := by
  have hz := h.kp.size
  refine ⟨h.nf, ?_, fun q e => Nat.lt_of_lt_of_le (h.lf q e) hk.size, ?_, ?_, h.ra.kp hk (fun q e e2 => h.ap q e e2), hr, h.kp.trans (hk.mono fun q hq hF => .inr ⟨h.ng q hF, hq⟩)⟩
  · intro q hq
    rcases hq with hq | hq
    · exact h.ng q hq
    · omega
  · intro q hq
    rcases hq with hq | hq
    · exact Nat.lt_of_lt_of_le (h.lg q hq) hk.size
    · exact hq.2
  · intro q hq hG
    rcases hG with hG | hG
    · exact h.ap q hq hG
    · have := h.lf q hq; omega
theorem PairS.same (h : PairS w wr F G pa pb t u) (hk : Kp (fun _ => False) wr w') : PairS w w' F G pa pb t u :=
  ⟨h.nf, h.ng, fun q e => Nat.lt_of_lt_of_le (h.lf q e) hk.size, fun q e => Nat.lt_of_lt_of_le (h.lg q e) hk.size, h.ap, h.ra.kp hk (fun _ _ e => e), h.rx.kp hk (fun _ _ e => e), h.kp.trans' hk⟩
end
def PairW (w wr : World) (pa pb : Nat) (t : List ByteArray) : Prop := ∃ F G, PairS w wr F G pa pb t t

/-- a name is put into both: the same comes of it -/
theorem numIs_next {t t' : List ByteArray} {s : ByteArray} {c : Int} {l : List Lk} (h : NumIs t s c l t') (ht : t.length ≤ 1024) : t'.length ≤ 1024 := by
  rcases h with ⟨_, _, _, rfl⟩ | ⟨_, _, ⟨i, _, _, _, rfl⟩ | ⟨_, ⟨_, _, _, rfl⟩ | ⟨hl, _, _, rfl⟩⟩⟩
  · exact ht
  · exact ht
  · exact ht
  · simp; omega

/-- one table, new since w -/
structure SoloS (w wr : World) (F : Nat → Prop) (pa : Nat) (t : List ByteArray) : Prop where
  nf : ∀ q, F q → w.heap.size ≤ q
  ra : AtRep wr F pa t
  kp : Kp (fun _ => False) w wr
theorem SoloS.step {w wr w' : World} {F : Nat → Prop} {pa : Nat} {t t' : List ByteArray} (h : SoloS w wr F pa t) (hr : AtRep w' (Ext F wr w') pa t') (hk : Kp F wr w') : SoloS w w' (Ext F wr w') pa t' := by
  have hz := h.kp.size
  refine ⟨fun q hq => ?_, hr, h.kp.trans (hk.mono fun q hq hF => .inr ⟨h.nf q hF, hq⟩)⟩
  rcases hq with hq | hq
  · exact h.nf q hq
  · omega
theorem SoloS.same {w wr w' : World} {F : Nat → Prop} {pa : Nat} {t : List ByteArray} (h : SoloS w wr F pa t) (hk : Kp (fun _ => False) wr w') : SoloS w w' F pa t :=
  ⟨h.nf, h.ra.kp hk (fun _ _ e => e), h.kp.trans' hk⟩
theorem solo_new (w : World) : SoloS w (w.alloc (.cells #[.int .u32 0, .int .i32 0, .int .u32 0, .map none, .slice none 0 0] 214)) (fun q => q = w.heap.size) w.heap.size [] :=
  ⟨fun q e => by omega, .inl ⟨rfl, fun q e => by simp; omega, rfl, heap_alloc_new w _⟩, (Kp.refl _ w).alloc _⟩

theorem kp_drewN (F : Nat → Prop) (w : World) (n : Nat) : Kp F w (w.drewN n) := ⟨rfl, rfl, rfl, Nat.le_refl _, fun _ _ _ => rfl⟩

end Go.Proofs.YtkcmfldcdokobaaGreatDoor
