/- Terms that are built one in another, in memory: the levels that are not whole. Levels of terms: one is whole, one more is begun. Levels of terms: a part is laid, and is the innermost level. -/
import Derived.Test.YtaeoohjgdkablaaDoorM17
/- Terms that are built one in another, in memory: the levels that are not whole. -/
namespace Go.Proofs.YtaeoohjgdkablaaDoor
open Go.RowKit

/-- a term that is built at (b, o): what is whole of it; ch: where the one stands that is not (1: the last item, 2: the last of Rest, 0: none) -/
structure Bl where
  b : Nat
  o : Nat
  k : Int
  n : Int
  s : ByteArray
  its : List Tm
  res : List Tm
  bys : List UInt8
  vi : Value
  vr : Value
  vb : Value
  ch : Nat
def Bl.tm (L : Bl) : Tm := .mk L.k L.n L.s L.its L.res L.bys

/-- six cells of a row that hold a whole term, each of a list -/
def RowAt (W0 : Nat) (G : Nat → Prop) (w : World) (h : Nat) (v : Value) (m : Nat) (l : List Tm) : Prop :=
  l.length ≤ m ∧ m * 104 ≤ 140737488351232 ∧ ∃ xs, w.ownsRow W0 25 6 v m xs ∧ ∀ i t, l[i]? = some t → ∃ c0 c1 c2 c3 c4 c5, Six xs i c0 c1 c2 c3 c4 c5 ∧ TermAt G w h t [c0, c1, c2, c3, c4, c5]
structure LevOk (W0 : Nat) (G : Nat → Prop) (w : World) (h : Nat) (L : Bl) : Prop where
  blk : ∃ cs, w.heap[L.b]? = some (.cells cs 25 (0, 0))
  c0 : w.cell? ⟨L.b, L.o, none⟩ = some (.int .i64 L.k)
  c1 : w.cell? ⟨L.b, L.o + 1, none⟩ = some (.int .i64 L.n)
  c2 : w.cell? ⟨L.b, L.o + 2, none⟩ = some (.string L.s)
  c3 : w.cell? ⟨L.b, L.o + 3, none⟩ = some L.vi
  c4 : w.cell? ⟨L.b, L.o + 4, none⟩ = some L.vr
  c5 : w.cell? ⟨L.b, L.o + 5, none⟩ = some L.vb
  rng : isI64 L.k ∧ isI64 L.n ∧ L.s.size ≤ maxLen
  ri : RowAt W0 G w h L.vi (L.its.length + if L.ch = 1 then 1 else 0) L.its
  rr : RowAt W0 G w h L.vr (L.res.length + if L.ch = 2 then 1 else 0) L.res
  by' : BytesAt G w L.bys L.vb
/-- the child of P stands where C is -/
def Linked (P C : Bl) : Prop := (P.ch = 1 ∧ P.vi.ownBlock = some C.b ∧ C.o = P.its.length * 6) ∨ (P.ch = 2 ∧ P.vr.ownBlock = some C.b ∧ C.o = P.res.length * 6)
/-- the levels, the innermost first; the outermost is at tb -/
def StkOk (W0 : Nat) (G : Nat → Prop) (w : World) (h tb : Nat) : List Bl → Prop
  | [] => False
  | [L] => LevOk W0 G w h L ∧ L.b = tb ∧ L.o = 0
  | C :: P :: r => LevOk W0 G w h C ∧ Linked P C ∧ StkOk W0 G w h tb (P :: r)
/-- the rows of a level -/
def Bl.rows (L : Bl) : List Nat := L.vi.ownBlock.toList ++ L.vr.ownBlock.toList
def rowsOf (l : List Bl) : List Nat := l.flatMap Bl.rows

theorem six_imp {p : List Value → Prop} {xs : List Value} {i : Nat} (h : ∃ c0 c1 c2 c3 c4 c5, Six xs i c0 c1 c2 c3 c4 c5 ∧ p [c0, c1, c2, c3, c4, c5]) {q : List Value → Prop} (hi : ∀ cs, p cs → q cs) : ∃ c0 c1 c2 c3 c4 c5, Six xs i c0 c1 c2 c3 c4 c5 ∧ q [c0, c1, c2, c3, c4, c5] := by
  obtain ⟨c0, c1, c2, c3, c4, c5, h6, hp⟩ := h
  exact ⟨c0, c1, c2, c3, c4, c5, h6, hi _ hp⟩
section
variable {W0 : Nat} {F G G' : Nat → Prop} {w w' : World} {h tb : Nat}
theorem RowAt.kp {v : Value} {m : Nat} {l : List Tm} (hr : RowAt W0 G w h v m l) (hk : Kp F w w') (hv : ∀ g, v.ownBlock = some g → ¬ F g) (hG : ∀ q, G q → ¬ F q) : RowAt W0 G w' h v m l := by
  obtain ⟨h1, h2, xs, h3, h4⟩ := hr
  exact ⟨h1, h2, xs, hk.row h3 hv, fun i t ht => six_imp (h4 i t ht) fun cs e => e.kp hk hG⟩
theorem RowAt.up {v : Value} {m : Nat} {l : List Tm} (hr : RowAt W0 G w h v m l) (hG : ∀ q, G q → G' q) : RowAt W0 G' w (h + 1) v m l := by
  obtain ⟨h1, h2, xs, h3, h4⟩ := hr
  exact ⟨h1, h2, xs, h3, fun i t ht => six_imp (h4 i t ht) fun cs e => (TermAt.imp hG (fun _ _ _ _ e => e) h t _ e).up⟩
theorem LevOk.kp {L : Bl} (hl : LevOk W0 G w h L) (hk : Kp F w w') (hb : ¬ F L.b) (hv : ∀ g ∈ L.rows, ¬ F g) (hG : ∀ q, G q → ¬ F q) : LevOk W0 G w' h L := by
  obtain ⟨cs, hcs⟩ := hl.blk
  have hlt := (Array.getElem?_eq_some_iff.1 hcs).1
  have hc : ∀ i u, w.cell? ⟨L.b, i, none⟩ = some u → w'.cell? ⟨L.b, i, none⟩ = some u := fun i u e => (hk.cell (p := ⟨L.b, i, none⟩) hlt hb).trans e
  exact ⟨⟨cs, (hk.block _ hlt hb).trans hcs⟩, hc _ _ hl.c0, hc _ _ hl.c1, hc _ _ hl.c2, hc _ _ hl.c3, hc _ _ hl.c4, hc _ _ hl.c5, hl.rng,
    hl.ri.kp hk (fun g e => hv g (by simp [Bl.rows, e])) hG, hl.rr.kp hk (fun g e => hv g (by simp [Bl.rows, e])) hG, bytes_kp hl.by' hk hG⟩
theorem LevOk.up {L : Bl} (hl : LevOk W0 G w h L) (hG : ∀ q, G q → G' q) : LevOk W0 G' w (h + 1) L :=
  ⟨hl.blk, hl.c0, hl.c1, hl.c2, hl.c3, hl.c4, hl.c5, hl.rng, hl.ri.up hG, hl.rr.up hG, hl.by'.imp hG (fun _ _ _ _ e => e)⟩
theorem StkOk.up : ∀ {l : List Bl}, StkOk W0 G w h tb l → (∀ q, G q → G' q) → StkOk W0 G' w (h + 1) tb l
  | [], hs, _ => hs
  | [_], hs, hG => ⟨hs.1.up hG, hs.2⟩
  | _ :: _ :: _, hs, hG => ⟨hs.1.up hG, hs.2.1, StkOk.up hs.2.2 hG⟩
theorem StkOk.head {L : Bl} {r : List Bl} (hs : StkOk W0 G w h tb (L :: r)) : LevOk W0 G w h L := by
  cases r with
  | nil => exact hs.1
  | cons P r => exact hs.1
theorem StkOk.hb : ∀ {L : Bl} {r : List Bl}, StkOk W0 G w h tb (L :: r) → L.b = tb ∨ L.b ∈ rowsOf r
  | L, [], hs => .inl hs.2.1
  | L, P :: r, hs => by
    right
    rcases hs.2.1 with ⟨_, e, _⟩ | ⟨_, e, _⟩ <;> simp [rowsOf, Bl.rows, e]
theorem StkOk.kp : ∀ {l : List Bl}, StkOk W0 G w h tb l → Kp F w w' → ¬ F tb → (∀ g ∈ rowsOf l, ¬ F g) → (∀ q, G q → ¬ F q) → StkOk W0 G w' h tb l
  | [], hs, _, _, _, _ => hs
  | [L], hs, hk, ht, hv, hG => ⟨hs.1.kp hk (by rw [hs.2.1]; exact ht) (fun g e => hv g (by simpa [rowsOf] using e)) hG, hs.2⟩
  | L :: P :: r, hs, hk, ht, hv, hG =>
    ⟨hs.1.kp hk (by
      rcases StkOk.hb hs with e | e
      · rw [e]; exact ht
      · exact hv _ (by simp only [rowsOf, List.flatMap_cons] at e ⊢; exact List.mem_append_right _ e)) (fun g e => hv g (by simp only [rowsOf, List.flatMap_cons]; exact List.mem_append_left _ e)) hG, hs.2.1,
      StkOk.kp hs.2.2 hk ht (fun g e => hv g (by simp only [rowsOf, List.flatMap_cons] at e ⊢; exact List.mem_append_right _ e)) hG⟩

/-- a cell within a row is written -/
theorem row_set {B : Nat} {T : TypeId} {sz g : Nat} {v : Value} {m : Nat} {xs : List Value} (ho : w.ownsRow B T sz v m xs) (hv : v.ownBlock = some g) (i : Nat) (u : Value) : (w.setCell ⟨g, i, none⟩ u).ownsRow B T sz v m (xs.set i u) := by
  refine ⟨by rw [List.length_set]; exact ho.1, ?_⟩
  rcases ho.2 with ⟨e, _⟩ | ⟨g', cap, cur, e, h1, h2, h3, h4, h5, h6⟩
  · rw [e] at hv; cases hv
  · rw [e] at hv
    injection hv with hv
    subst hv
    refine .inr ⟨g', cap, cur.setIfInBounds i u, e, h1, heap_set_same h2 _, h3, h4, by simpa using h5, ?_⟩
    rw [Array.toList_setIfInBounds, ← h6, List.take_set]
/-- six cells of a row, but for one -/
theorem Six.set {xs : List Value} {i : Nat} {c0 c1 c2 c3 c4 c5 : Value} (h : Six xs i c0 c1 c2 c3 c4 c5) {j : Nat} (hj : i * 6 + 6 ≤ j) (u : Value) : Six (xs.set j u) i c0 c1 c2 c3 c4 c5 := by
  obtain ⟨h0, h1, h2, h3, h4, h5⟩ := h
  refine ⟨?_, ?_, ?_, ?_, ?_, ?_⟩ <;> (rw [List.getElem?_set_ne (by omega)]; assumption)
theorem RowAt.set {v : Value} {m : Nat} {l : List Tm} {g i : Nat} {u : Value} (hr : RowAt W0 G w h v m l) (hv : v.ownBlock = some g) (hi : l.length * 6 ≤ i) (hG : ¬ G g) : RowAt W0 G (w.setCell ⟨g, i, none⟩ u) h v m l := by
  obtain ⟨h1, h2, xs, h3, h4⟩ := hr
  refine ⟨h1, h2, _, row_set h3 hv i u, fun j t ht => ?_⟩
  have hj := (List.getElem?_eq_some_iff.1 ht).1
  obtain ⟨c0, c1, c2, c3, c4, c5, h6, hT⟩ := h4 j t ht
  have hk : Kp (fun q => q = g) w (w.setCell ⟨g, i, none⟩ u) := (Kp.refl (fun q => q = g) w).setCell _ _ (.inl rfl)
  exact ⟨c0, c1, c2, c3, c4, c5, h6.set (by omega) u, hT.kp hk (fun q e e2 => hG (e2 ▸ e))⟩
end
end Go.Proofs.YtaeoohjgdkablaaDoor

/- Levels of terms: one is whole, one more is begun. -/
namespace Go.Proofs.YtaeoohjgdkablaaDoor
open Go.RowKit

section
variable {W0 : Nat} {F G G' : Nat → Prop} {w w' : World} {h tb : Nat}

/-- no block stands for two things -/
structure Sep (W0 : Nat) (G : Nat → Prop) (w : World) (tb : Nat) (l : List Bl) : Prop where
  nd : (tb :: rowsOf l).Nodup
  lo : ∀ q ∈ tb :: rowsOf l, W0 ≤ q ∧ q < w.heap.size
  ng : ∀ q ∈ tb :: rowsOf l, ¬ G q
  gl : ∀ q, G q → W0 ≤ q ∧ q < w.heap.size

theorem Sep.size {l : List Bl} (hs : Sep W0 G w tb l) (hz : w.heap.size ≤ w'.heap.size) : Sep W0 G w' tb l :=
  ⟨hs.nd, fun q hq => ⟨(hs.lo q hq).1, Nat.lt_of_lt_of_le (hs.lo q hq).2 hz⟩, hs.ng, fun q hq => ⟨(hs.gl q hq).1, Nat.lt_of_lt_of_le (hs.gl q hq).2 hz⟩⟩
theorem rowsOf_cons (L : Bl) (r : List Bl) : rowsOf (L :: r) = L.rows ++ rowsOf r := by simp [rowsOf]

theorem RowAt.list {v : Value} {l : List Tm} (hr : RowAt W0 G w h v l.length l) (hG : ∀ q, G q → G' q) (hv : ∀ g, v.ownBlock = some g → G' g) : ListAt G' w (TermAt G' w h) l v := by
  obtain ⟨_, h2, xs, ho, hel⟩ := hr
  have hrow := ho
  rcases ho.2 with ⟨e, h0⟩ | ⟨g, cap, cur, e, hb, hg, hn, _⟩
  · refine ⟨none, 0, by rw [h0]; exact e, by omega, by omega, fun i t hi => ?_⟩
    have := (List.getElem?_eq_some_iff.1 hi).1
    omega
  · rw [e] at hrow
    refine ⟨some ⟨g, 0, none⟩, cap, e, hn, by omega, fun i t hi => ?_⟩
    have hil := (List.getElem?_eq_some_iff.1 hi).1
    obtain ⟨c0, c1, c2, c3, c4, c5, ⟨s0, s1, s2, s3, s4, s5⟩, ht⟩ := hel i t hi
    refine ⟨g, 0, c0, c1, c2, c3, c4, c5, rfl, hv g (by rw [e]; rfl), ?_, ?_, ?_, ?_, ?_, ?_, TermAt.imp hG (fun _ _ _ _ e => e) h t _ ht⟩
    all_goals (rw [Nat.zero_add, hrow.cellAt _ (by omega)]; assumption)
/-- a level that is whole is a term -/
theorem LevOk.term {L : Bl} (hl : LevOk W0 G w h L) (hc : L.ch = 0) (hG : ∀ q, G q → G' q) (hv : ∀ g ∈ L.rows, G' g) : TermAt G' w (h + 1) L.tm [.int .i64 L.k, .int .i64 L.n, .string L.s, L.vi, L.vr, L.vb] := by
  have h1 := hl.ri
  have h2 := hl.rr
  rw [hc] at h1 h2
  refine ⟨L.vi, L.vr, L.vb, rfl, ⟨hl.rng.1.1, hl.rng.1.2, hl.rng.2.1.1, hl.rng.2.1.2, hl.rng.2.2⟩, h1.list hG (fun g e => hv g (by simp [Bl.rows, e])), h2.list hG (fun g e => hv g (by simp [Bl.rows, e])), hl.by'.imp hG (fun _ _ _ _ e => e)⟩

/-- the child's six cells in its row -/
theorem six_of {g m i : Nat} {v : Value} {xs : List Value} {c0 c1 c2 c3 c4 c5 : Value} (ho : w.ownsRow W0 25 6 v m xs) (hv : v.ownBlock = some g) (hi : i < m)
    (h0 : w.cell? ⟨g, i * 6, none⟩ = some c0) (h1 : w.cell? ⟨g, i * 6 + 1, none⟩ = some c1) (h2 : w.cell? ⟨g, i * 6 + 2, none⟩ = some c2) (h3 : w.cell? ⟨g, i * 6 + 3, none⟩ = some c3) (h4 : w.cell? ⟨g, i * 6 + 4, none⟩ = some c4) (h5 : w.cell? ⟨g, i * 6 + 5, none⟩ = some c5) :
    Six xs i c0 c1 c2 c3 c4 c5 := by
  obtain ⟨g', cap, e, _⟩ := ho.form (by omega)
  rw [e] at hv ho
  injection hv with hv
  subst hv
  have hx := ho.1
  refine ⟨?_, ?_, ?_, ?_, ?_, ?_⟩
  · rw [← h0, ← ho.cellAt _ (by omega)]
  · rw [← h1, ← ho.cellAt _ (by omega)]
  · rw [← h2, ← ho.cellAt _ (by omega)]
  · rw [← h3, ← ho.cellAt _ (by omega)]
  · rw [← h4, ← ho.cellAt _ (by omega)]
  · rw [← h5, ← ho.cellAt _ (by omega)]
theorem get_snoc {α : Type} {l : List α} {i : Nat} {x t : α} (hi : (l ++ [x])[i]? = some t) : l[i]? = some t ∨ (i = l.length ∧ t = x) := by
  rcases Nat.lt_or_ge i l.length with h | h
  · left; rwa [List.getElem?_append_left h] at hi
  · right
    have := (List.getElem?_eq_some_iff.1 hi).1
    simp at this
    obtain rfl : i = l.length := by omega
    simp at hi
    exact ⟨rfl, hi.symm⟩
/-- the child is whole -/
def Bl.took (P : Bl) (t : Tm) : Bl := if P.ch = 1 then { P with its := P.its ++ [t], ch := 0 } else { P with res := P.res ++ [t], ch := 0 }
theorem Bl.took_b (P : Bl) (t : Tm) : (P.took t).b = P.b ∧ (P.took t).o = P.o ∧ (P.took t).rows = P.rows ∧ (P.took t).ch = 0 := by
  unfold Bl.took; split <;> exact ⟨rfl, rfl, rfl, rfl⟩
theorem LevOk.took {C P : Bl} (hp : LevOk W0 G w h P) (hc : LevOk W0 G w h C) (hl : Linked P C) (h0 : C.ch = 0) (hG : ∀ q, G q → G' q) (hv : ∀ g ∈ C.rows, G' g) : LevOk W0 G' w (h + 1) (P.took C.tm) := by
  have ht := hc.term h0 hG hv
  have hp' := hp.up hG
  unfold Bl.took
  rcases hl with ⟨e, hb, ho⟩ | ⟨e, hb, ho⟩
  · rw [if_pos e]
    have hri := hp'.ri
    have hrr := hp'.rr
    rw [e] at hri hrr
    obtain ⟨r1, r2, xs, r3, r4⟩ := hri
    refine ⟨hp'.blk, hp'.c0, hp'.c1, hp'.c2, hp'.c3, hp'.c4, hp'.c5, hp'.rng, ⟨by simp, by simpa using r2, xs, by simpa using r3, fun i t hi => ?_⟩, hrr, hp'.by'⟩
    rcases get_snoc hi with hi | ⟨rfl, rfl⟩
    · exact r4 i t hi
    · refine ⟨_, _, _, _, _, _, six_of r3 hb (by simp) ?_ ?_ ?_ ?_ ?_ ?_, ht⟩
      · rw [← ho]; exact hc.c0
      · rw [← ho]; exact hc.c1
      · rw [← ho]; exact hc.c2
      · rw [← ho]; exact hc.c3
      · rw [← ho]; exact hc.c4
      · rw [← ho]; exact hc.c5
  · rw [if_neg (by omega)]
    have hri := hp'.ri
    have hrr := hp'.rr
    rw [e] at hri hrr
    obtain ⟨r1, r2, xs, r3, r4⟩ := hrr
    refine ⟨hp'.blk, hp'.c0, hp'.c1, hp'.c2, hp'.c3, hp'.c4, hp'.c5, hp'.rng, hri, ⟨by simp, by simpa using r2, xs, by simpa using r3, fun i t hi => ?_⟩, hp'.by'⟩
    rcases get_snoc hi with hi | ⟨rfl, rfl⟩
    · exact r4 i t hi
    · refine ⟨_, _, _, _, _, _, six_of r3 hb (by simp) ?_ ?_ ?_ ?_ ?_ ?_, ht⟩
      · rw [← ho]; exact hc.c0
      · rw [← ho]; exact hc.c1
      · rw [← ho]; exact hc.c2
      · rw [← ho]; exact hc.c3
      · rw [← ho]; exact hc.c4
      · rw [← ho]; exact hc.c5
/-- what is whole, and the rows of the child -/
def Gx (G : Nat → Prop) (C : Bl) : Nat → Prop := fun q => G q ∨ q ∈ C.rows
theorem StkOk.pop {C P : Bl} {r : List Bl} (hs : StkOk W0 G w h tb (C :: P :: r)) (hx : Sep W0 G w tb (C :: P :: r)) (h0 : C.ch = 0) : StkOk W0 (Gx G C) w (h + 1) tb (P.took C.tm :: r) ∧ Sep W0 (Gx G C) w tb (P.took C.tm :: r) := by
  have hG : ∀ q, G q → Gx G C q := fun q e => .inl e
  have hP := StkOk.head hs.2.2
  have hT := hP.took hs.1 hs.2.1 h0 hG (fun g e => .inr e)
  obtain ⟨tb1, tb2, tb3, tb4⟩ := Bl.took_b P C.tm
  have hrows : rowsOf (P.took C.tm :: r) = rowsOf (P :: r) := by rw [rowsOf_cons, rowsOf_cons, tb3]
  refine ⟨?_, ?_, ?_, ?_, ?_⟩
  · cases r with
    | nil => exact ⟨hT, by rw [tb1]; exact hs.2.2.2.1, by rw [tb2]; exact hs.2.2.2.2⟩
    | cons Q r => exact ⟨hT, by unfold Linked; rw [tb1, tb2]; exact hs.2.2.2.1, hs.2.2.2.2.up hG⟩
  · rw [hrows]
    have := hx.nd
    rw [rowsOf_cons, List.nodup_cons] at this
    rw [List.nodup_cons]
    exact ⟨fun e => this.1 (List.mem_append_right _ e), (List.nodup_append.1 this.2).2.1⟩
  · rw [hrows]
    intro q hq
    refine hx.lo q ?_
    rw [rowsOf_cons C]
    rcases List.mem_cons.1 hq with rfl | hq
    · exact List.mem_cons_self
    · exact List.mem_cons_of_mem _ (List.mem_append_right _ hq)
  · rw [hrows]
    intro q hq hg
    have hnd := hx.nd
    rw [rowsOf_cons C, List.nodup_cons] at hnd
    have hq' : q ∈ tb :: rowsOf (C :: P :: r) := by
      rw [rowsOf_cons C]
      rcases List.mem_cons.1 hq with rfl | hq
      · exact List.mem_cons_self
      · exact List.mem_cons_of_mem _ (List.mem_append_right _ hq)
    rcases hg with hg | hg
    · exact hx.ng q hq' hg
    · rcases List.mem_cons.1 hq with rfl | hq
      · exact hnd.1 (List.mem_append_left _ hg)
      · exact (List.nodup_append.1 hnd.2).2.2 q hg q hq rfl
  · intro q hg
    rcases hg with hg | hg
    · exact hx.gl q hg
    · exact hx.lo q (List.mem_cons_of_mem _ (by rw [rowsOf_cons]; exact List.mem_append_left _ hg))
end
end Go.Proofs.YtaeoohjgdkablaaDoor

/- Levels of terms: a part is laid, and is the innermost level. -/
namespace Go.Proofs.YtaeoohjgdkablaaDoor
open Go.RowKit

section
variable {W0 : Nat} {F G G' : Nat → Prop} {w w' : World} {h tb : Nat}
/-- what is under a level -/
def Under (W0 : Nat) (G : Nat → Prop) (w : World) (h tb : Nat) (T : Bl) : List Bl → Prop
  | [] => T.b = tb ∧ T.o = 0
  | P :: r => Linked P T ∧ StkOk W0 G w h tb (P :: r)
theorem stk_iff {T : Bl} {r : List Bl} : StkOk W0 G w h tb (T :: r) ↔ LevOk W0 G w h T ∧ Under W0 G w h tb T r := by
  cases r <;> exact Iff.rfl
theorem Under.kp {T : Bl} {r : List Bl} (hu : Under W0 G w h tb T r) (hk : Kp F w w') (ht : ¬ F tb) (hv : ∀ g ∈ rowsOf r, ¬ F g) (hG : ∀ q, G q → ¬ F q) : Under W0 G w' h tb T r := by
  cases r with
  | nil => exact hu
  | cons P r => exact ⟨hu.1, hu.2.kp hk ht hv hG⟩
theorem Under.hb {T : Bl} {r : List Bl} (hu : Under W0 G w h tb T r) : T.b = tb ∨ T.b ∈ rowsOf r := by
  cases r with
  | nil => exact .inl hu.1
  | cons P r =>
    right
    rcases hu.1 with ⟨_, e, _⟩ | ⟨_, e, _⟩ <;> simp [rowsOf, Bl.rows, e]
theorem Under.up {T : Bl} {r : List Bl} (hu : Under W0 G w h tb T r) (hG : ∀ q, G q → G' q) : Under W0 G' w (h + 1) tb T r := by
  cases r with
  | nil => exact hu
  | cons P r => exact ⟨hu.1, hu.2.up hG⟩
theorem Sep.tail {T : Bl} {r : List Bl} (hx : Sep W0 G w tb (T :: r)) : Sep W0 G w tb r := by
  have hsub : ∀ q, q ∈ tb :: rowsOf r → q ∈ tb :: rowsOf (T :: r) := fun q hq => by
    rw [rowsOf_cons]
    rcases List.mem_cons.1 hq with rfl | hq
    · exact List.mem_cons_self
    · exact List.mem_cons_of_mem _ (List.mem_append_right _ hq)
  have := hx.nd
  rw [rowsOf_cons, List.nodup_cons] at this
  exact ⟨List.nodup_cons.2 ⟨fun e => this.1 (List.mem_append_right _ e), (List.nodup_append.1 this.2).2.1⟩, fun q hq => hx.lo q (hsub q hq), fun q hq => hx.ng q (hsub q hq), hx.gl⟩
/-- a cell of the level's own six is written: what is under it stays -/
theorem Under.set {T : Bl} {r : List Bl} (hu : Under W0 G w h tb T r) (hx : Sep W0 G w tb r) (j : Nat) (u : Value) : Under W0 G (w.setCell ⟨T.b, T.o + j, none⟩ u) h tb T r := by
  have hk : Kp (fun q => q = T.b) w (w.setCell ⟨T.b, T.o + j, none⟩ u) := (Kp.refl (fun q => q = T.b) w).setCell _ _ (.inl rfl)
  cases r with
  | nil => exact hu
  | cons P r =>
    obtain ⟨hl, hs⟩ := hu
    refine ⟨hl, ?_⟩
    obtain ⟨hP, hU⟩ := stk_iff.1 hs
    have hnd := hx.nd
    rw [rowsOf_cons, List.nodup_cons] at hnd
    have hin : T.b ∈ P.rows := by rcases hl with ⟨_, e, _⟩ | ⟨_, e, _⟩ <;> simp [Bl.rows, e]
    have htb : ¬ tb = T.b := fun e => hnd.1 (List.mem_append_left _ (e ▸ hin))
    have hPb : ¬ P.b = T.b := by
      rcases hU.hb with e | e
      · rw [e]; exact htb
      · exact fun e2 => (List.nodup_append.1 hnd.2).2.2 _ hin _ e e2.symm
    have hGb : ¬ G T.b := hx.ng _ (List.mem_cons_of_mem _ (by rw [rowsOf_cons]; exact List.mem_append_left _ hin))
    have hGq : ∀ q, G q → ¬ q = T.b := fun q e e2 => hGb (e2 ▸ e)
    refine stk_iff.2 ⟨?_, hU.kp hk htb (fun g hg e => (List.nodup_append.1 hnd.2).2.2 _ hin _ hg e.symm) hGq⟩
    obtain ⟨cs, hcs⟩ := hP.blk
    have hlt := (Array.getElem?_eq_some_iff.1 hcs).1
    have hc : ∀ i u', w.cell? ⟨P.b, i, none⟩ = some u' → (w.setCell ⟨T.b, T.o + j, none⟩ u).cell? ⟨P.b, i, none⟩ = some u' := fun i u' e => (hk.cell (p := ⟨P.b, i, none⟩) hlt hPb).trans e
    have hrn : (P.vi.ownBlock.toList ++ P.vr.ownBlock.toList).Nodup := (List.nodup_append.1 hnd.2).1
    have hri : RowAt W0 G (w.setCell ⟨T.b, T.o + j, none⟩ u) h P.vi (P.its.length + if P.ch = 1 then 1 else 0) P.its ∧ RowAt W0 G (w.setCell ⟨T.b, T.o + j, none⟩ u) h P.vr (P.res.length + if P.ch = 2 then 1 else 0) P.res := by
      rcases hl with ⟨_, e, ho⟩ | ⟨_, e, ho⟩
      · exact ⟨hP.ri.set e (by omega) hGb, hP.rr.kp hk (fun g hg e2 => (List.nodup_append.1 hrn).2.2 T.b (by simp [e]) g (by simp [hg]) e2.symm) hGq⟩
      · exact ⟨hP.ri.kp hk (fun g hg e2 => (List.nodup_append.1 hrn).2.2 g (by simp [hg]) T.b (by simp [e]) e2) hGq, hP.rr.set e (by omega) hGb⟩
    exact ⟨⟨cs, (hk.block _ hlt hPb).trans hcs⟩, hc _ _ hP.c0, hc _ _ hP.c1, hc _ _ hP.c2, hc _ _ hP.c3, hc _ _ hP.c4, hc _ _ hP.c5, hP.rng, hri.1, hri.2, bytes_kp hP.by' hk hGq⟩

/-- the level that is laid -/
def newBl (g o : Nat) (d : Hd) (vb : Value) : Bl := ⟨g, o, d.k, d.n, d.s, [], [], d.bys, .slice none 0 0, .slice none 0 0, vb, 0⟩
theorem newLev {g o : Nat} {d : Hd} {vb : Value} (hb : ∃ cs, w.heap[g]? = some (.cells cs 25 (0, 0))) (h0 : w.cell? ⟨g, o, none⟩ = some (.int .i64 d.k)) (h1 : w.cell? ⟨g, o + 1, none⟩ = some (.int .i64 d.n)) (h2 : w.cell? ⟨g, o + 2, none⟩ = some (.string d.s)) (h3 : w.cell? ⟨g, o + 3, none⟩ = some (.slice none 0 0))
    (h4 : w.cell? ⟨g, o + 4, none⟩ = some (.slice none 0 0)) (h5 : w.cell? ⟨g, o + 5, none⟩ = some vb) (hr : isI64 d.k ∧ isI64 d.n ∧ d.s.size ≤ maxLen) (hy : BytesAt G w d.bys vb) : LevOk W0 G w h (newBl g o d vb) :=
  ⟨hb, h0, h1, h2, h3, h4, h5, hr, ⟨by simp [newBl], by simp [newBl], [], World.ownsRow_nil _ _ _ _, fun i t hi => by simp [newBl] at hi⟩, ⟨by simp [newBl], by simp [newBl], [], World.ownsRow_nil _ _ _ _, fun i t hi => by simp [newBl] at hi⟩, hy⟩
theorem row_blk {W0 g m cap : Nat} {xs : List Value} (ho : w.ownsRow W0 25 6 (.slice (some ⟨g, 0, none⟩) m cap) m xs) : ∃ cs, w.heap[g]? = some (.cells cs 25 (0, 0)) := by
  rcases ho.2 with ⟨e, _⟩ | ⟨g', cap', cur, e, _, h2, _⟩
  · cases e
  · injection e with e
    have e := Option.some.inj e
    rw [Addr.mk.injEq] at e
    obtain ⟨rfl, _⟩ := e
    exact ⟨cur, h2⟩
end
end Go.Proofs.YtaeoohjgdkablaaDoor
