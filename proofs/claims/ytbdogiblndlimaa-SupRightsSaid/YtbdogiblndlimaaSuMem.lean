/- A supervisor in memory: its own block, its children's, its notes'. -/
import Derived.Test.YtbdogiblndlimaaSuRow
import Derived.Test.YtbdogiblndlimaaRun
import Derived.Laws.EntriesVeiled
namespace Go.Proofs.Ytbdogiblndlimaa
open Go.RowKit
set_option linter.unusedVariables false

/-- what is to come -/
def fnv (b th : Nat) : Value := if th = 0 then .nilFunc else .func (.func (if th = 1 then 53 else 52)) #[.pointer (some ⟨b, 0, none⟩)] #[]
def suCells (b gc : Nat) (tv : Value) (S : Su) : Array Value :=
  #[.int .i64 S.sg, .slice (some ⟨gc, 0, none⟩) S.cs.length S.cs.length, .int .i64 (S.m : Nat), .int .i64 (S.tt : Nat), tv, .int .i64 (S.st : Nat), .int .i64 (S.fr : Nat), .int .i64 (S.to : Nat), fnv b S.th, .int .i64 (S.hl : Nat), .int .i64 (S.si : Nat), .bool S.kd]
/-- notes: times in a row, from somewhere in their block on -/
def TmAt (w : World) (tv : Value) (ts : List Nat) : Prop :=
  (tv = .slice none 0 0 ∧ ts = []) ∨ ∃ g off cap cur, tv = .slice (some ⟨g, off, none⟩) ts.length cap ∧ w.heap[g]? = some (.cells cur 3 (0, 0)) ∧ ts.length ≤ cap ∧ off + cap ≤ cur.size ∧ cap ≤ 9223372036854775807 ∧
    ∀ (i : Nat) (x : Nat), ts[i]? = some x → cur[off + i]? = some (.int .i64 (x : Nat))
/-- a supervisor at b; its children are kept at gc, its notes are tv -/
structure SuAt (w : World) (b gc : Nat) (tv : Value) (S : Su) : Prop where
  head : w.heap[b]? = some (.cells (suCells b gc tv S) 73 (0, 0))
  kids : w.heap[gc]? = some (.cells (kdC S.cs).toArray 67 (0, 0))
  tim : TmAt w tv S.ts

section
variable {F : Nat → Prop} {w w' : World} {b gc off i : Nat} {tv : Value} {S S' : Su} {ts : List Nat} {k : Kd} {v : Value}
theorem su_heap_set {w : World} {b i : Nat} {cs : Array Value} {T : TypeId} {fr : Nat × Nat} (hb : w.heap[b]? = some (.cells cs T fr)) (v : Value) :
    (w.setCell ⟨b, i, none⟩ v).heap[b]? = some (.cells (cs.setIfInBounds i v) T fr) := by
  simp [World.setCell, Array.getElem?_modify, hb]
theorem TmAt.kp (h : TmAt w tv ts) (hk : Kp F w w') (hF : ∀ g, tv.ownBlock = some g → ¬ F g) : TmAt w' tv ts := by
  rcases h with h | ⟨g, off, cap, cur, h1, h2, h3⟩
  · exact .inl h
  · subst h1
    exact .inr ⟨g, off, cap, cur, rfl, (hk.block g (Array.getElem?_eq_some_iff.1 h2).1 (hF g rfl)).trans h2, h3⟩
theorem TmAt.same (h : TmAt w tv ts) (hk : Kp (fun _ => False) w w') : TmAt w' tv ts := h.kp hk fun _ _ e => e
theorem TmAt.block (h : TmAt w tv ts) : ∀ g, tv.ownBlock = some g → ∃ cur, w.heap[g]? = some (.cells cur 3 (0, 0)) := by
  intro g hg
  rcases h with ⟨rfl, _⟩ | ⟨g', off, cap, cur, rfl, h2, _⟩
  · cases hg
  · obtain rfl : g' = g := by injection hg
    exact ⟨cur, h2⟩
theorem TmAt.lt (h : TmAt w tv ts) : ∀ g, tv.ownBlock = some g → g < w.heap.size := fun g hg => by
  obtain ⟨cur, h2⟩ := h.block g hg
  exact (Array.getElem?_eq_some_iff.1 h2).1
theorem TmAt.form (h : TmAt w tv ts) : ∃ po cap, tv = .slice po ts.length cap ∧ ts.length ≤ cap ∧ cap ≤ 9223372036854775807 := by
  rcases h with ⟨rfl, rfl⟩ | ⟨g, off, cap, cur, rfl, _, h3, _, h5, _⟩
  · exact ⟨none, 0, rfl, Nat.le_refl _, by omega⟩
  · exact ⟨_, cap, rfl, h3, h5⟩
theorem TmAt.get (h : TmAt w tv ts) {x : Nat} (hi : ts[i]? = some x) : ∃ g off cap, tv = .slice (some ⟨g, off, none⟩) ts.length cap ∧ w.cell? ⟨g, off + i, none⟩ = some (.int .i64 (x : Nat)) := by
  rcases h with ⟨rfl, rfl⟩ | ⟨g, off, cap, cur, rfl, h2, h3, h4, h5, h6⟩
  · simp at hi
  · exact ⟨g, off, cap, rfl, by rw [cell_of_row w g _ _ _ _ h2, h6 i x hi]⟩
theorem SuAt.bt (h : SuAt w b gc tv S) : ∀ g, tv.ownBlock = some g → g ≠ b ∧ g ≠ gc := by
  intro g hg
  obtain ⟨cur, h2⟩ := h.tim.block g hg
  refine ⟨fun e => ?_, fun e => ?_⟩
  · rw [e, h.head] at h2
    injection h2 with h2
    injection h2 with _ h2
    exact absurd h2 (by decide)
  · rw [e, h.kids] at h2
    injection h2 with h2
    injection h2 with _ h2
    exact absurd h2 (by decide)
theorem SuAt.bg (h : SuAt w b gc tv S) : b ≠ gc := by
  intro e
  have h1 := h.head
  rw [e, h.kids] at h1
  injection h1 with h1
  injection h1 with _ h1
  exact absurd h1 (by decide)
theorem SuAt.kp (h : SuAt w b gc tv S) (hk : Kp F w w') (hb : ¬ F b) (hg : ¬ F gc) (ht : ∀ g, tv.ownBlock = some g → ¬ F g) : SuAt w' b gc tv S :=
  ⟨(hk.block b (Array.getElem?_eq_some_iff.1 h.head).1 hb).trans h.head, (hk.block gc (Array.getElem?_eq_some_iff.1 h.kids).1 hg).trans h.kids, h.tim.kp hk ht⟩
theorem SuAt.same (h : SuAt w b gc tv S) (hk : Kp (fun _ => False) w w') : SuAt w' b gc tv S := h.kp hk (fun e => e) (fun e => e) (fun _ _ e => e)
theorem SuAt.lt (h : SuAt w b gc tv S) : b < w.heap.size ∧ gc < w.heap.size := ⟨(Array.getElem?_eq_some_iff.1 h.head).1, (Array.getElem?_eq_some_iff.1 h.kids).1⟩
theorem SuAt.cell (h : SuAt w b gc tv S) (hv : (suCells b gc tv S)[off]? = some v) : w.cell? ⟨b, off, none⟩ = some v := by
  rw [cell_of_row w b off _ _ _ h.head, hv]
theorem SuAt.fz (h : SuAt w b gc tv S) (o : Nat) : w.frozen? ⟨b, o, none⟩ = false := by simp [World.frozen?, h.head]
theorem SuAt.fzk (h : SuAt w b gc tv S) (o : Nat) : w.frozen? ⟨gc, o, none⟩ = false := by simp [World.frozen?, h.kids]
theorem SuAt.kid (h : SuAt w b gc tv S) {j : Nat} (hk : S.cs[i]? = some k) (hv : ([.int .i64 k.r, .int .i64 k.t, .bool k.u] : List Value)[j]? = some v) : w.cell? ⟨gc, i * 3 + j, none⟩ = some v := by
  rw [cell_of_row w gc _ _ _ _ h.kids, List.getElem?_toArray]
  exact kdC_get S.cs i j k v hk hv
theorem SuAt.c0 (h : SuAt w b gc tv S) : w.cell? ⟨b, 0, none⟩ = some (.int .i64 S.sg) := h.cell rfl
theorem SuAt.c1 (h : SuAt w b gc tv S) : w.cell? ⟨b, 1, none⟩ = some (.slice (some ⟨gc, 0, none⟩) S.cs.length S.cs.length) := h.cell rfl
theorem SuAt.c2 (h : SuAt w b gc tv S) : w.cell? ⟨b, 2, none⟩ = some (.int .i64 (S.m : Nat)) := h.cell rfl
theorem SuAt.c3 (h : SuAt w b gc tv S) : w.cell? ⟨b, 3, none⟩ = some (.int .i64 (S.tt : Nat)) := h.cell rfl
theorem SuAt.c4 (h : SuAt w b gc tv S) : w.cell? ⟨b, 4, none⟩ = some (tv) := h.cell rfl
theorem SuAt.c5 (h : SuAt w b gc tv S) : w.cell? ⟨b, 5, none⟩ = some (.int .i64 (S.st : Nat)) := h.cell rfl
theorem SuAt.c6 (h : SuAt w b gc tv S) : w.cell? ⟨b, 6, none⟩ = some (.int .i64 (S.fr : Nat)) := h.cell rfl
theorem SuAt.c7 (h : SuAt w b gc tv S) : w.cell? ⟨b, 7, none⟩ = some (.int .i64 (S.to : Nat)) := h.cell rfl
theorem SuAt.c8 (h : SuAt w b gc tv S) : w.cell? ⟨b, 8, none⟩ = some (fnv b S.th) := h.cell rfl
theorem SuAt.c9 (h : SuAt w b gc tv S) : w.cell? ⟨b, 9, none⟩ = some (.int .i64 (S.hl : Nat)) := h.cell rfl
theorem SuAt.c10 (h : SuAt w b gc tv S) : w.cell? ⟨b, 10, none⟩ = some (.int .i64 (S.si : Nat)) := h.cell rfl
theorem SuAt.c11 (h : SuAt w b gc tv S) : w.cell? ⟨b, 11, none⟩ = some (.bool S.kd) := h.cell rfl
theorem SuAt.k0 (h : SuAt w b gc tv S) (hk : S.cs[i]? = some k) : w.cell? ⟨gc, i * 3, none⟩ = some (.int .i64 k.r) := h.kid (j := 0) hk rfl
theorem SuAt.k1 (h : SuAt w b gc tv S) (hk : S.cs[i]? = some k) : w.cell? ⟨gc, i * 3 + 1, none⟩ = some (.int .i64 k.t) := h.kid (j := 1) hk rfl
theorem SuAt.k2 (h : SuAt w b gc tv S) (hk : S.cs[i]? = some k) : w.cell? ⟨gc, i * 3 + 2, none⟩ = some (.bool k.u) := h.kid (j := 2) hk rfl
/-- a cell of its own is written -/
theorem SuAt.put (h : SuAt w b gc tv S) (off : Nat) (v : Value) (hS : (suCells b gc tv S).setIfInBounds off v = suCells b gc tv S') (hc : S'.cs = S.cs) (ht : S'.ts = S.ts) : SuAt (w.setCell ⟨b, off, none⟩ v) b gc tv S' := by
  have hbg := h.bg
  refine ⟨by rw [su_heap_set h.head v, hS], ?_, ?_⟩
  · rw [hc, Below.heap_setCell _ _ _ _ (fun e => hbg e.symm)]
    exact h.kids
  · rw [ht]
    exact h.tim.kp (F := fun q => q = b) ((Kp.refl _ w).setCell _ _ (.inl rfl)) fun g hg => (h.bt g hg).1
theorem kdC_set : ∀ {cs : List Kd} {i : Nat} {k : Kd}, cs[i]? = some k → ∀ u, (kdC cs).set (i * 3 + 2) (.bool u) = kdC (cs.set i ⟨k.r, k.t, u⟩)
  | [], i, k, h, u => by simp at h
  | a :: cs, 0, k, h, u => by
    obtain rfl : a = k := by simpa using h
    rfl
  | a :: cs, i + 1, k, h, u => by
    have ih := kdC_set (cs := cs) (i := i) (k := k) (by simpa using h) u
    show (([.int .i64 a.r, .int .i64 a.t, .bool a.u] : List Value) ++ kdC cs).set ((i + 1) * 3 + 2) (.bool u) = [.int .i64 a.r, .int .i64 a.t, .bool a.u] ++ kdC (cs.set i ⟨k.r, k.t, u⟩)
    rw [← ih, List.set_append_right _ _ (by simp; omega)]
    congr 2
    simp
    omega
/-- a child comes up, or goes down -/
theorem SuAt.turn (h : SuAt w b gc tv S) (hk : S.cs[i]? = some k) (u : Bool) : SuAt (w.setCell ⟨gc, i * 3 + 2, none⟩ (.bool u)) b gc tv { S with cs := setU S.cs i u } := by
  have hbg := h.bg
  refine ⟨?_, ?_, ?_⟩
  · rw [Below.heap_setCell _ _ _ _ hbg, h.head]
    simp only [suCells, setU_len]
  · rw [su_heap_set h.kids, setU_set hk, ← kdC_set hk u]
    congr 2
    simp
  · exact h.tim.kp (F := fun q => q = gc) ((Kp.refl _ w).setCell _ _ (.inl rfl)) fun g hg => (h.bt g hg).2
/-- one act, as a row of its own -/
theorem act_one (w : World) (k c : Int) : (w.alloc (.cells #[.int .i64 k, .int .i64 c] 40)).ownsS 40 2 (.slice (some ⟨w.heap.size, 0, none⟩) 1 1) [(k, c)].length (acC [(k, c)]) :=
  ⟨rfl, .inr ⟨w.heap.size, 1, _, rfl, heap_alloc_new w _, Nat.le_refl _, by simp, by unfold maxLen; omega, by simp [acC]⟩⟩
/-- what is left of it, and what it said -/
def SuTo (w : World) (b gc : Nat) (tv : Value) (S' : Su) (A : Acts) (e : Ending) (w' : World) : Prop :=
  ∃ v, e = .returned v ∧ SuAt w' b gc tv S' ∧ w'.ownsS 40 2 v A.length (acC A) ∧ (∀ g, v.ownBlock = some g → w.heap.size ≤ g) ∧ Kp (fun q => q = b ∨ q = gc) w w'
theorem SuTo.one (k c : Int) {w1 : World} {g : Nat} (h : SuAt w1 b gc tv S) (hk : Kp (fun q => q = b ∨ q = gc) w w1) (hg : w1.heap.size = g) : SuTo w b gc tv S [(k, c)] (.returned (.slice (some ⟨g, 0, none⟩) 1 1)) (w1.alloc (.cells #[.int .i64 k, .int .i64 c] 40)) := by
  subst hg
  exact ⟨_, rfl, h.same ((Kp.refl _ w1).alloc _), act_one w1 k c, fun g hg => by
    obtain rfl : w1.heap.size = g := by injection hg
    exact hk.size, hk.alloc _⟩
end
end Go.Proofs.Ytbdogiblndlimaa
