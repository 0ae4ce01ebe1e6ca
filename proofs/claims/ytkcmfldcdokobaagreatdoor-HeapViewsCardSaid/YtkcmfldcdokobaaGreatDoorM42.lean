/- Tuples of one small number in an arena, and slots that hold them: as plain data. Store of a tuple of one small number, where there is room. HeapSlots' row of marks beside its heap. The bytes of a binary's block, and View. -/
import Derived.Test.YtkcmfldcdokobaaGreatDoorM16
import Derived.Test.YtkcmfldcdokobaaGreatDoorM19
import Derived.Test.YtkcmfldcdokobaaGreatDoorM24
import Derived.Test.YtkcmfldcdokobaaGreatDoorM30
import Derived.Test.YtkcmfldcdokobaaGreatDoorM35
import Derived.Test.YtkcmfldcdokobaaGreatDoorM39
import Derived.Deep.RegionWith
/- Tuples of one small number in an arena, and slots that hold them: as plain data. -/
namespace Go.Proofs.YtkcmfldcdokobaaGreatDoor
open Go.RowKit Go.Maps

/-- the word of the i-th tuple of one -/
def wordOf (i : Nat) : Int := ((4 * i : Nat) + 1 : Int) * 8 + 5
/-- i tuples of one small number each -/
structure Ones (size quota i : Nat) (A : Ar) : Prop where
  tight : Tight A
  inv : Inv A []
  used : A.used = 4 * i
  size : A.size = size
  quota : A.quota = quota
  tk : ∀ q n, A.tk q n ↔ ∃ j, j < i ∧ q = 4 * j ∧ n = 2
  word : ∀ q n, A.tk q n → ∀ y ∈ blkW A q n, y % 8 ≠ 5
theorem Ones.new (size quota : Nat) (hs : size ≤ 1048576) (hq : quota ≤ size) : Ones size quota 0 (Ar.new size quota) :=
  ⟨Tight.new _ _, Inv.new size quota hs hq, rfl, rfl, rfl, fun q n => ⟨fun h => by simp [Ar.tk, Ar.new] at h, fun ⟨j, h, _⟩ => by omega⟩, fun q n h => by simp [Ar.tk, Ar.new] at h⟩
theorem Ones.step {size quota i : Nat} {A A' : Ar} {own : Nat} {v : Int} (h : Ones size quota i A) (hl : Laid A [79, v * 8 % 18446744073709551616] own A') : own = 4 * i ∧ Ones size quota (i + 1) A' := by
  obtain ⟨h1, h2, h3⟩ := hl.tight h.tight h.inv (by simp)
  have hto := hl.to h.inv (by simp)
  have hu := h.used
  have hc : cls [79, v * 8 % 18446744073709551616].length = 2 := cls_2
  rw [hc] at h3
  have ho : own = 4 * i := by omega
  refine ⟨ho, h2, hto.inv, by omega, hto.size.trans h.size, hto.quota.trans h.quota, fun q n => ?_, fun q n hq => ?_⟩
  · rw [hto.tk, h.tk]
    constructor
    · rintro (⟨e1, e2⟩ | ⟨e1, j, e2, e3⟩)
      · exact ⟨i, by omega, by omega, e2⟩
      · exact ⟨j, by omega, e3⟩
    · rintro ⟨j, e1, e2, e3⟩
      by_cases e : j = i
      · exact .inl ⟨by omega, e3⟩
      · exact .inr ⟨by omega, j, by omega, e2, e3⟩
  · rcases (hto.tk q n).1 hq with ⟨rfl, rfl⟩ | ⟨_, e⟩
    · rw [hto.it]
      intro y hy
      have : y = 79 ∨ y = v * 8 % 18446744073709551616 := by simpa using hy
      omega
    · rw [hto.word q n e]
      exact h.word q n e
theorem Ones.reached {size quota i : Nat} {A : Ar} (h : Ones size quota i A) {xs : List Int} {q : Nat} : Reached A xs q ↔ ∃ y ∈ xs, Nm A y q := by
  constructor
  · intro hr
    cases hr with
    | word h1 h2 => exact ⟨_, h1, h2⟩
    | look _ h2 h3 h4 =>
      have := h.word _ _ h2 _ (List.mem_of_mem_drop (List.mem_of_mem_take h3))
      have := h4.1
      omega
  · rintro ⟨y, h1, h2⟩
    exact .word h1 h2

/-- slots that hold words of such tuples, each but once -/
structure Slots (i : Nat) (sl : List (Int × Bool)) : Prop where
  of : ∀ (k : Nat) (x : Int), sl[k]? = some (x, true) → ∃ j, j < i ∧ x = wordOf j
  inj : ∀ (k m : Nat) (x : Int), sl[k]? = some (x, true) → sl[m]? = some (x, true) → k = m
theorem Slots.none : Slots 0 [] := ⟨fun k x h => by simp at h, fun k m x h => by simp at h⟩
theorem wordOf_inj {i j : Nat} (h : wordOf i = wordOf j) : i = j := by unfold wordOf at h; omega
theorem holdIn_get {sl : List (Int × Bool)} {k : Nat} (hk : k ≤ sl.length) (x : Int) (m : Nat) : (holdIn sl k x)[m]? = if m = k then some (x, true) else sl[m]? := by
  unfold holdIn
  by_cases h : k < sl.length
  · rw [if_pos h]
    by_cases e : m = k
    · subst e
      rw [if_pos rfl, List.getElem?_set_self h]
    · rw [if_neg e, List.getElem?_set_ne (fun e' => e e'.symm)]
  · have hk' : k = sl.length := by omega
    rw [if_neg h]
    by_cases e : m = k
    · subst e
      rw [if_pos rfl, hk', List.getElem?_append_right (Nat.le_refl _), Nat.sub_self]
      rfl
    · rw [if_neg e]
      rcases Nat.lt_or_ge m sl.length with h1 | h1
      · rw [List.getElem?_append_left h1]
      · rw [List.getElem?_eq_none (by rw [List.length_append, List.length_singleton]; omega), List.getElem?_eq_none h1]
theorem Slots.hold {i k : Nat} {sl : List (Int × Bool)} (h : Slots i sl) (hk : k ≤ sl.length) : Slots (i + 1) (holdIn sl k (wordOf i)) := by
  refine ⟨fun m x hm => ?_, fun m n x hm hn => ?_⟩
  · rw [holdIn_get hk] at hm
    by_cases e : m = k
    · rw [if_pos e] at hm
      injection hm with hm
      injection hm with hm
      exact ⟨i, by omega, hm.symm⟩
    · rw [if_neg e] at hm
      obtain ⟨j, h1, h2⟩ := h.of m x hm
      exact ⟨j, by omega, h2⟩
  · rw [holdIn_get hk] at hm hn
    by_cases e : m = k
    · by_cases e2 : n = k
      · omega
      · rw [if_pos e] at hm
        rw [if_neg e2] at hn
        injection hm with hm
        injection hm with hm
        obtain ⟨j, h1, h2⟩ := h.of n x hn
        have := wordOf_inj (hm.trans h2)
        omega
    · by_cases e2 : n = k
      · rw [if_neg e] at hm
        rw [if_pos e2] at hn
        injection hn with hn
        injection hn with hn
        obtain ⟨j, h1, h2⟩ := h.of m x hm
        have := wordOf_inj (hn.trans h2)
        omega
      · rw [if_neg e] at hm
        rw [if_neg e2] at hn
        exact h.inj m n x hm hn
theorem Slots.let {i k : Nat} {sl : List (Int × Bool)} (h : Slots i sl) : Slots i (sl.set k (0, false)) := by
  have key : ∀ (m : Nat) (x : Int), (sl.set k (0, false))[m]? = some (x, true) → sl[m]? = some (x, true) := fun m x hm => by
    by_cases e : k = m
    · subst e
      rcases Nat.lt_or_ge k sl.length with h1 | h1
      · rw [List.getElem?_set_self h1] at hm
        injection hm with hm
        injection hm with _ hm
        cases hm
      · rw [List.getElem?_eq_none (by simpa using h1)] at hm
        cases hm
    · rwa [List.getElem?_set_ne e] at hm
  exact ⟨fun m x hm => h.of m x (key m x hm), fun m n x hm hn => h.inj m n x (key m x hm) (key n x hn)⟩
theorem held_mem {sl : List (Int × Bool)} {x : Int} : x ∈ heldTo sl sl.length ↔ ∃ k : Nat, sl[k]? = some (x, true) := by
  unfold heldTo
  rw [List.take_length, List.mem_filterMap]
  constructor
  · rintro ⟨⟨y, b⟩, h1, h2⟩
    cases b with
    | false => simp at h2
    | true =>
      simp at h2
      subst h2
      exact List.getElem?_of_mem h1
  · rintro ⟨k, h⟩
    exact ⟨_, List.mem_of_getElem? h, by simp⟩
theorem Slots.nodup {i : Nat} {sl : List (Int × Bool)} (h : Slots i sl) : (heldTo sl sl.length).Nodup := by
  unfold heldTo
  rw [List.take_length]
  refine List.Pairwise.filterMap (R := fun p q => p.2 = true → q.2 = true → p.1 ≠ q.1) _ ?_ (List.pairwise_iff_getElem.2 fun m n hm hn hlt h1 h2 e => ?_)
  · rintro ⟨a, c⟩ ⟨b, d⟩ hR x hx y hy
    cases c with
    | false => simp at hx
    | true =>
      cases d with
      | false => simp at hy
      | true =>
        simp at hx hy
        subst hx hy
        exact hR rfl rfl
  · have e1 : sl[m]? = some (sl[m].1, true) := by rw [List.getElem?_eq_getElem hm, ← h1]
    have e2 : sl[n]? = some (sl[m].1, true) := by rw [List.getElem?_eq_getElem hn, e, ← h2]
    have := h.inj m n _ e1 e2
    omega
/-- what is held is what is left -/
theorem slots_left {size quota i : Nat} {A A' : Ar} {a a' : Bn} {sl : List (Int × Bool)} {ds : List Nat} (hA : Ones size quota i A) (hs : Slots i sl) (hd : ∀ q, q ∈ ds ↔ Reached A (heldTo sl sl.length) q) (hg : Gives A a (gone A.names ds) A' a') (hI : Inv A' []) :
    A'.names.length = (heldTo sl sl.length).length := by
  have hn1 : A'.names.Nodup := (namesTo_lt A'.taken A'.taken.length).imp (fun h => Nat.ne_of_lt h)
  have hn2 : ((heldTo sl sl.length).map fun x => (x / 8).toNat).Nodup := by
    rw [List.Nodup, List.pairwise_map]
    have h0 := hs.nodup
    have h1 : ∀ x ∈ heldTo sl sl.length, ∃ j, j < i ∧ x = wordOf j := fun x hx => by
      obtain ⟨k, hk⟩ := held_mem.1 hx
      exact hs.of k x hk
    refine List.Pairwise.imp_of_mem (R := (· ≠ ·)) (fun {x y} hx hy hne e => hne ?_) h0
    obtain ⟨j, _, rfl⟩ := h1 x hx
    obtain ⟨k, _, rfl⟩ := h1 y hy
    unfold wordOf at e ⊢
    omega
  have hp := (List.perm_ext_iff_of_nodup hn1 hn2).2 fun x => by
    rw [names_mem hI, List.mem_map]
    constructor
    · rintro ⟨q, n, rfl, hq⟩
      obtain ⟨hq1, hq2⟩ := (hg.tk.1 q n).1 hq
      have hqd : q ∈ ds := by
        refine Classical.byContradiction fun hno => hq2 ?_
        unfold gone
        rw [List.mem_map]
        exact ⟨q + 1, List.mem_filter.2 ⟨(names_mem hA.inv).2 ⟨q, n, rfl, hq1⟩, by simpa using hno⟩, by omega⟩
      obtain ⟨y, hy, e, _⟩ := hA.reached.1 ((hd q).1 hqd)
      exact ⟨y, hy, by omega⟩
    · rintro ⟨y, hy, rfl⟩
      obtain ⟨k, hk⟩ := held_mem.1 hy
      obtain ⟨j, hj, rfl⟩ := hs.of k y hk
      have ht : A.tk (4 * j) 2 := (hA.tk _ _).2 ⟨j, hj, rfl, rfl⟩
      have hqd : 4 * j ∈ ds := (hd _).2 (hA.reached.2 ⟨_, hy, rfl, 2, ht⟩)
      refine ⟨4 * j, 2, by unfold wordOf; omega, (hg.tk.1 _ _).2 ⟨ht, fun hm => ?_⟩⟩
      unfold gone at hm
      obtain ⟨z, hz, e⟩ := List.mem_map.1 hm
      obtain ⟨hz1, hz2⟩ := List.mem_filter.1 hz
      obtain ⟨q, n, rfl, _⟩ := (names_mem hA.inv).1 hz1
      simp only [Nat.add_sub_cancel] at e hz2
      subst e
      simp [hqd] at hz2
  rw [hp.length_eq, List.length_map]
end Go.Proofs.YtkcmfldcdokobaaGreatDoor

/- Store of a tuple of one small number, where there is room. -/
namespace Go.Proofs.YtkcmfldcdokobaaGreatDoor
open Go.RowKit Go.Maps

def oneT (v : Int) : Tm := tupT [numT v]
theorem oneT_ok (v : Int) : tok 200 (oneT v) := tok_tup fun t ht => by
  rw [List.mem_singleton.1 ht]
  exact tok_num _ _
theorem oneT_cost (v : Int) (i : Nat) : cost 2 (oneT v) i = if i = 0 then 8 else 0 := by
  have h5 : cls (([numT v] : List Tm).length + 1) = 2 := cls_2
  unfold oneT tupT numT at *
  simp only [cost, ownCost, List.map_cons, List.map_nil, List.sum_cons, List.sum_nil, List.length_nil, h5]
  by_cases e : i = 0
  · subst e; simp
  · by_cases e1 : i = 1
    · subst e1; simp
    · by_cases e2 : i = 2
      · subst e2; simp
      · simp [e, e1, e2]
theorem oneT_lays {names : List ByteArray} {S S' : St} {x v : Int} (hl : Lays names 2 S (oneT v) x S') (h0 : -1152921504606846976 ≤ v) (h1 : v ≤ 1152921504606846975) : BlockS S [79, v * 8 % 18446744073709551616] x S' := by
  obtain ⟨ws, S1, h2, h3⟩ := lays_tup hl
  obtain ⟨a, rfl, h4⟩ := laysAll_one h2
  obtain ⟨rfl, rfl⟩ := lays_num h4 h0 h1
  exact h3

section
variable {w0 w : World} {col : Nat → Nat} {hb ab tb bb least N : Nat} {sv : Value} {sl : List (Int × Bool)} {names : List ByteArray} {A : Ar} {a : Bn}
theorem store_one {i : Nat} {v : Int} {wA : World} (hk : Kp (fun _ => False) w wA) (hb1 : wA.heap[w.heap.size]? = some (.cells #[.int .i64 1, .int .i64 v, .string noS, .slice none 0 0, .slice none 0 0, .slice none 0 0] 41 (0, 0))) (hH : Hs w0 w col hb ab tb bb sv least sl A names N a) (hA : Ones 20000 20000 i A) (hi : i < 1000) (hf : a.free = []) (h0 : -1152921504606846976 ≤ v) (h1 : v ≤ 1152921504606846975) (hN : N ≤ 70000000000000) (hN1 : 1 ≤ N) (hg : Laid0 w0) :
    Calls Tryz.prog 14 #[.pointer (some ⟨hb, 0, none⟩), .agg #[.int .i64 5, .int .i64 0, .string noS, .slice (some ⟨w.heap.size, 0, none⟩) 1 1, .slice none 0 0, .slice none 0 0]]
      wA fun e w' => e = .returned (.tuple #[.int .u64 (wordOf i), .nilIface]) ∧
        ∃ col' A', Go1 col w col' w' ∧ Ones 20000 20000 (i + 1) A' ∧ Hs w0 w' col' hb ab tb bb sv least sl A' names (N + 3000000) a := by
  have hT : TermAt (fun q => w.heap.size ≤ q) _ 2 (oneT v) [.int .i64 5, .int .i64 0, .string noS, .slice (some ⟨w.heap.size, 0, none⟩) 1 1, .slice none 0 0, .slice none 0 0] :=
    tupT_at (one_at hb1 (Nat.le_refl _) (numT_at (by omega) (by omega)))
  have h4 := hH.same hk
  have hmany := hH.at'.many
  have hbi1 := hH.bi.le
  have hbi2 := hH.bi.len
  have hu := hA.used
  have hq := hA.quota
  refine (store_any hT h4 (fun q hq _ => recol_new q hq) hN hN1 hg).mono ?_
  rintro e w2 hS
  obtain ⟨col', x, S', rfl, hx, hgo, hst, hla, _, _, hH2, _⟩ := hS.fits hA.tight hf hA.inv (oneT_ok v) (by simp [tsz, oneT, tupT, numT]) (by rw [oneT_cost, if_pos rfl]; omega) (by rw [oneT_cost, if_neg (by omega)]; omega) (by rw [oneT_cost, if_neg (by omega)]; omega) (by rw [oneT_cost, if_neg (by omega)]; omega)
  obtain ⟨own, A', hl, rfl, rfl⟩ := oneT_lays hla h0 h1
  obtain ⟨rfl, hA'⟩ := hA.step hl
  refine ⟨?_, col', A', (Go0.same hk).go1.trans hgo, hA', ?_⟩
  · unfold wordOf
    rfl
  · simpa using hH2
end
end Go.Proofs.YtkcmfldcdokobaaGreatDoor

/- HeapSlots' row of marks beside its heap. -/
namespace Go.Proofs.YtkcmfldcdokobaaGreatDoor
open Go.RowKit Go.Maps

def marks (us : List Bool) : List Value := us.map Value.bool
/-- the statements' pair of heaps, and a row of marks, of no colour -/
structure Side (w wr : World) (o hb bb : Nat) (x : Option Addr) (uv : Value) (us : List Bool) (col : Nat → Nat) : Prop where
  box : wr.heap[o]? = some (.cells #[.pointer (some ⟨hb, 0, none⟩), .pointer x, .pointer (some ⟨bb, 0, none⟩), .slice none 0 0] 36 (0, 0))
  new : w.heap.size ≤ o
  ocol : col o = 0
  row : wr.ownsRow w.heap.size 4 1 uv us.length (marks us)
  rcol : ∀ g, uv.ownBlock = some g → col g = 0 ∧ g ≠ o

section
variable {w wr w' : World} {o hb bb : Nat} {x : Option Addr} {uv : Value} {us : List Bool} {col col' : Nat → Nat}
theorem Side.go (h : Side w wr o hb bb x uv us col) (hg : Go1 col wr col' w') : Side w w' o hb bb x uv us col' := by
  have ho := (Array.getElem?_eq_some_iff.1 h.box).1
  refine ⟨(hg.2.block o ho (fun e => e h.ocol)).trans h.box, h.new, (hg.1 o ho).trans h.ocol, hg.2.row h.row (fun g hgo e => e (h.rcol g hgo).1), fun g hgo => ?_⟩
  obtain ⟨_, _, _, hh, _⟩ := row_blk h.row hgo
  exact ⟨(hg.1 g (Array.getElem?_eq_some_iff.1 hh).1).trans (h.rcol g hgo).1, (h.rcol g hgo).2⟩
theorem go1_recol {i : Nat} (hi : i ≠ 0) (hk : Kp (Fi col wr i) wr w') : Go1 col wr (recol col wr i) w' := ⟨fun q hq => by unfold recol; rw [if_pos hq], hk.mono fun q _ e => by rw [e.1]; exact hi⟩
theorem Side.at' (h : Side w wr o hb bb x uv us col) : ∃ po cap, uv = .slice po us.length cap ∧ ∀ (i : Nat) (b : Bool), us[i]? = some b → ∃ g, po = some ⟨g, 0, none⟩ ∧ wr.cell? ⟨g, i, none⟩ = some (.bool b) ∧ ∀ j, wr.frozen? ⟨g, j, none⟩ = false := by
  have hr := h.row
  obtain ⟨po, cap, rfl⟩ := slice_form h.row
  refine ⟨po, cap, rfl, fun i b hi => ?_⟩
  have hlt := (List.getElem?_eq_some_iff.1 hi).1
  rcases hr.2 with ⟨_, h0⟩ | ⟨g, cap', cur, e, _, hg, _⟩
  · omega
  · injection e with e _ _
    subst e
    refine ⟨g, rfl, (hr.cellAt _ (by omega)).trans ?_, fun j => hr.frozenAt j⟩
    unfold marks
    rw [List.getElem?_map, hi]
    rfl
/-- a mark is written -/
theorem Side.put (h : Side w wr o hb bb x uv us col) {g cap : Nat} (hu : uv = .slice (some ⟨g, 0, none⟩) us.length cap) (k : Nat) (b : Bool) :
    Side w (wr.setCell ⟨g, k, none⟩ (.bool b)) o hb bb x uv (us.set k b) (recol col wr 0) ∧ Kp (fun q => q = g) wr (wr.setCell ⟨g, k, none⟩ (.bool b)) ∧ (∀ q, q = g → q < wr.heap.size → col q = 0 ∧ w.heap.size ≤ q) := by
  have hr := h.row
  have hg := h.rcol g (by rw [hu]; rfl)
  have hlt := h.row.lt g (by rw [hu]; rfl)
  have hkp := (Kp.refl (fun q => q = g) wr).setCell ⟨g, k, none⟩ (.bool b) (.inl rfl)
  have ho := (Array.getElem?_eq_some_iff.1 h.box).1
  refine ⟨⟨(hkp.block o ho (fun e => hg.2 e.symm)).trans h.box, h.new, by unfold recol; rw [if_pos ho]; exact h.ocol, ?_, fun q hq => ?_⟩, hkp, fun q hq _ => by subst hq; exact ⟨hg.1, hlt.1⟩⟩
  · subst hu
    have h2 := (hr.stored k (.bool b)).1
    rw [List.length_set]
    unfold marks at *
    rw [List.map_set]
    exact h2
  · rw [hu] at hq
    have : g = q := by simpa [Value.ownBlock] using hq
    subst this
    unfold recol
    rw [if_pos hlt.2]
    exact hg
/-- the row has grown -/
theorem Side.grown (h : Side w wr o hb bb x uv us col) {uv' : Value} {us' : List Bool} {w3 : World} (hk : Kp (fun q => uv.ownBlock = some q) wr w3) (hr : w3.ownsRow w.heap.size 4 1 uv' us'.length (marks us')) (hat : ∀ g, uv'.ownBlock = some g → uv.ownBlock = some g ∨ wr.heap.size ≤ g) :
    Side w w3 o hb bb x uv' us' (recol col wr 0) := by
  have ho := (Array.getElem?_eq_some_iff.1 h.box).1
  refine ⟨(hk.block o ho (fun e => (h.rcol o e).2 rfl)).trans h.box, h.new, by unfold recol; rw [if_pos ho]; exact h.ocol, hr, fun g hg => ?_⟩
  rcases hat g hg with e | e
  · have hlt := h.row.lt g e
    unfold recol
    rw [if_pos hlt.2]
    exact h.rcol g e
  · unfold recol
    rw [if_neg (by omega)]
    exact ⟨rfl, by omega⟩
theorem Side.asideOk (h : Side w wr o hb bb x uv us col) : ∀ q, uv.ownBlock = some q → q < wr.heap.size → col q = 0 ∧ w.heap.size ≤ q := fun q hq _ => ⟨(h.rcol q hq).1, (h.row.lt q hq).1⟩
end

section
variable {sl : List (Int × Bool)} {k least i : Nat} {x : Int}
theorem FreeIx.uniq {m : Nat} (h : FreeIx sl k) (h2 : FreeIx sl m) : k = m := by
  obtain ⟨a1, a2, a3⟩ := h
  obtain ⟨b1, b2, b3⟩ := h2
  rcases Nat.lt_trichotomy k m with e | e | e
  · have h1 : sl[k]? = some sl[k] := List.getElem?_eq_getElem (by omega)
    have := a3 _ h1
    have := b2 k _ e h1
    simp_all
  · exact e
  · have h1 : sl[m]? = some sl[m] := List.getElem?_eq_getElem (by omega)
    have := b3 _ h1
    have := a2 m _ e h1
    simp_all
theorem FreeIx.full (h : FreeIx sl k) : Full (k + 1) (holdIn sl k x) := by
  obtain ⟨a1, a2, _⟩ := h
  refine ⟨?_, fun i p hi hp => ?_⟩
  · unfold holdIn
    split
    · simp; omega
    · simp; omega
  · rw [holdIn_get a1] at hp
    by_cases e : i = k
    · rw [if_pos e] at hp
      injection hp with hp
      rw [← hp]
    · rw [if_neg e] at hp
      exact a2 i p (by omega) hp
theorem Full.let (h : Full least sl) (i : Nat) : Full (min least i) (sl.set i (0, false)) := by
  refine ⟨by have := h.1; simp; omega, fun j p hj hp => ?_⟩
  rw [List.getElem?_set_ne (by omega)] at hp
  exact h.2 j p (by omega) hp
theorem hold_marks (_hk : k ≤ sl.length) : (holdIn sl k x).map (·.2) = if k < sl.length then (sl.map (·.2)).set k true else sl.map (·.2) ++ [true] := by
  unfold holdIn
  by_cases h : k < sl.length
  · rw [if_pos h, if_pos h, List.map_set]
  · rw [if_neg h, if_neg h, List.map_append]
    rfl
theorem holdIn_len (_hk : k ≤ sl.length) : (holdIn sl k x).length ≤ sl.length + 1 := by
  unfold holdIn
  split <;> simp
theorem Slots.up {j : Nat} (h : Slots i sl) (hij : i ≤ j) : Slots j sl := ⟨fun k x hk => by
  obtain ⟨m, h1, h2⟩ := h.of k x hk
  exact ⟨m, by omega, h2⟩, h.inj⟩
end

/-- what holds behind k rounds -/
def Mid (w wr : World) (o hb ab tb bb : Nat) (x : Option Addr) (k : Nat) (uv : Value) (L : Nat) : Prop :=
  ∃ col sv least sl A a, Hs w wr col hb ab tb bb sv least sl A [] (1 + 3000000 * k) a ∧ a.free = [] ∧ Ones 20000 20000 k A ∧ Slots k sl ∧ Full least sl ∧ sl.length = L ∧ L ≤ k ∧ Side w wr o hb bb x uv (sl.map (·.2)) col
theorem Mid.of {w W : World} {o hb ab tb bb k least : Nat} {x : Option Addr} {uv sv : Value} {sl : List (Int × Bool)} {A : Ar} {a : Bn} {col : Nat → Nat} (h : Hs w W col hb ab tb bb sv least sl A [] (1 + 3000000 * k + 3000000) a) (hf : a.free = []) (hA : Ones 20000 20000 (k + 1) A) (hs : Slots (k + 1) sl) (hfu : Full least sl) (hl : sl.length ≤ k + 1)
    (hS : Side w W o hb bb x uv (sl.map (·.2)) col) : Mid w W o hb ab tb bb x (k + 1) uv sl.length := by
  have e : 1 + 3000000 * (k + 1) = 1 + 3000000 * k + 3000000 := by omega
  unfold Mid
  rw [e]
  exact ⟨col, sv, least, sl, A, a, h, hf, hA, hs, hfu, rfl, hl, hS⟩

section
variable {w0 w wr w' : World} {col col' : Nat → Nat} {o hb ab tb bb least N : Nat} {x : Option Addr} {uv sv : Value} {sl : List (Int × Bool)} {names : List ByteArray} {A : Ar} {a : Bn}
/-- Let of a slot that there is, whether it holds a word or not -/
theorem let_any (h : Hs w0 wr col hb ab tb bb sv least sl A names N a) (hf : Full least sl) (hL : sl.length ≤ 1000000000) (m : Nat) (hm : m < sl.length) (hS : Side w wr o hb bb x uv (sl.map (·.2)) col) :
    Calls Tryz.prog 17 #[.pointer (some ⟨hb, 0, none⟩), .int .i64 m] wr fun e w' => ∃ (b : Bool) (col' : Nat → Nat) (sv' : Value) (least' : Nat) (sl' : List (Int × Bool)), (sl.map (·.2))[m]? = some b ∧ ((b = true ∧ e = .returned .nilIface) ∨ (b = false ∧ ∃ g, e = .returned (.iface 95 (.pointer (some ⟨g, 0, none⟩))))) ∧
      Hs w0 w' col' hb ab tb bb sv' least' sl' A names N a ∧ Side w w' o hb bb x uv (sl.map (·.2)) col' ∧ Full least' sl' ∧ sl'.length = sl.length ∧ sl'.map (·.2) = (sl.map (·.2)).set m false ∧ ∀ i, Slots i sl → Slots i sl' := by
  rcases slot_how sl m with hn | ⟨i, y, e, hi⟩
  · refine (let_bad h.hr hL m hn).mono ?_
    rintro e w' ⟨v, rfl, hc, hk⟩
    obtain ⟨g, rfl⟩ := Chain.form hc.out
    obtain ⟨y, hy⟩ : ∃ y, sl[m]? = some (y, false) := by
      rcases hn with e | e | ⟨y, _, e⟩
      · omega
      · omega
      · exact ⟨y, by simpa using e⟩
    have hmap : (sl.map (·.2))[m]? = some false := by rw [List.getElem?_map, hy]; rfl
    refine ⟨false, _, sv, least, sl, hmap, .inr ⟨rfl, g, rfl⟩, h.same hk, hS.go (Go0.same hk).go1, hf, rfl, ?_, fun i h => h⟩
    apply List.ext_getElem?
    intro j
    by_cases e : m = j
    · subst e
      rw [List.getElem?_set_self (by simpa using hm), hmap]
    · rw [List.getElem?_set_ne e]
  · obtain rfl : m = i := by omega
    refine (let_ok h.hr hf hL m y hi).mono ?_
    rintro e w' ⟨rfl, hg⟩
    obtain ⟨sv', h'⟩ := h.stepH hg
    exact ⟨true, _, sv', _, _, by rw [List.getElem?_map, hi]; rfl, .inl ⟨rfl, rfl⟩, h', hS.go (go1_recol (by omega) hg.1), hf.let m, by simp, by rw [List.map_set], fun i h => h.let⟩
/-- what a Let leaves -/
def LetTo (w0 w : World) (hb ab tb bb N : Nat) (A : Ar) (a : Bn) (names : List ByteArray) (o : Nat) (x : Option Addr) (uv : Value) (sl : List (Int × Bool)) (m : Nat) (w' : World) : Prop :=
  ∃ (col' : Nat → Nat) (sv' : Value) (least' : Nat) (sl' : List (Int × Bool)), Hs w0 w' col' hb ab tb bb sv' least' sl' A names N a ∧ Side w w' o hb bb x uv (sl.map (·.2)) col' ∧ Full least' sl' ∧ sl'.length = sl.length ∧ sl'.map (·.2) = (sl.map (·.2)).set m false ∧ ∀ i, Slots i sl → Slots i sl'
theorem let_side (h : Hs w0 wr col hb ab tb bb sv least sl A names N a) (hf : Full least sl) (hL : sl.length ≤ 1000000000) (m : Nat) (hm : m < sl.length) (hS : Side w wr o hb bb x uv (sl.map (·.2)) col) {g U cap : Nat} (hu : uv = .slice (some ⟨g, 0, none⟩) U cap) (b : Bool) (hb' : (sl.map (·.2))[m]? = some b) :
    Calls Tryz.prog 17 #[.pointer (some ⟨hb, 0, none⟩), .int .i64 m] wr fun e w' => ((b = true ∧ e = .returned .nilIface) ∨ (b = false ∧ ∃ g, e = .returned (.iface 95 (.pointer (some ⟨g, 0, none⟩))))) ∧ w'.cell? ⟨g, m, none⟩ = some (.bool b) ∧ w'.cell? ⟨o, 0, none⟩ = some (.pointer (some ⟨hb, 0, none⟩)) ∧ LetTo w0 w hb ab tb bb N A a names o x uv sl m w' := by
  refine (let_any h hf hL m hm hS).mono ?_
  rintro e w' ⟨b', col', sv', least', sl', h1, h2, h3, h4, h5⟩
  obtain rfl := Option.some.inj (h1.symm.trans hb')
  obtain ⟨po, cap', e1, hel⟩ := h4.at'
  obtain ⟨g', e2, d, _⟩ := hel m b' h1
  rw [hu] at e1
  injection e1 with e1 _ _
  rw [e2] at e1
  have e3 : g = g' := by
    have := Option.some.inj e1
    injection this
  subst e3
  exact ⟨h2, d, cell_of h4.box 0, col', sv', least', sl', h3, h4, h5⟩
end
end Go.Proofs.YtkcmfldcdokobaaGreatDoor

/- The bytes of a binary's block, and View. -/
namespace Go.Proofs.YtkcmfldcdokobaaGreatDoor
open Go.RowKit Go.Maps

section
variable {w0 w w' : World} {col : Nat → Nat} {hb ab tb bb least N : Nat} {sv : Value} {sl : List (Int × Bool)} {A : Ar} {names : List ByteArray} {a : Bn} {q n : Nat}

set_option maxRecDepth 100000 in
set_option maxHeartbeats 4000000 in
theorem hbytes_ok (h : Hs w0 w col hb ab tb bb sv least sl A names N a) (hq : A.tk q n) {x : Int} (hx : handleOf (blkW A q n) = some x) {i : Nat} {s : Sl} (hf : FOk a x i s) (f m : Nat)
    (h2 : (blkW A q n)[2]? = some (f : Int)) (h3 : (blkW A q n)[3]? = some (m : Int)) (hfm : f + m ≤ s.bs.length) (hs : s.bs.length ≤ 1000000000000) :
    Calls Tryz.prog 55 #[.pointer (some ⟨hb, 0, none⟩), .int .i64 (q + 1)] w fun e w' => ∃ po cap, e = .returned (.tuple #[.slice po m cap, .nilIface]) ∧ BytesAt (Own w.heap.size w') w' ((s.bs.drop f).take m) (.slice po m cap) ∧ Kp (fun _ => False) w w' := by
  obtain ⟨x0, x1⟩ := handle_range h.ar hq hx
  have hlen : ((s.bs.drop f).take m).length = m := by simp; omega
  have H := Lib.hid (And.intro h (And.intro hlen (And.intro hf (And.intro hfm (handle_yes h.ar hq hx)))))
  have hf1 : (f : Int) ≤ 1000000000000 := by omega
  have hm1 : (m : Int) ≤ 1000000000000 := by omega
  have hread : ∀ (i : Nat) (y : Int), (blkW A q n)[i]? = some y → ∀ (w1 : World), Kp (fun _ => False) w w1 → ∀ nq : Nat, Calls Tryz.prog 57 #[.pointer (some ⟨hb, 0, none⟩), .int .i64 (q + 1), .int .i64 i] (w1.drewN nq) fun e w' => e = .returned (.int .u64 y) ∧ w' = w1.drewN nq := fun i y hy w1 hk nq => by
    have hd := h.same (hk.trans' (kp_drewN (fun _ => False) w1 nq))
    exact (read_ok hd.ar hq i y hy).mono fun e w' ⟨h1, h2⟩ => ⟨h1, h2.symm⟩
  have hpart : ∀ (w1 : World), Kp (fun _ => False) w w1 → ∀ nq : Nat, Calls Tryz.prog 94 #[.pointer (some ⟨bb, 0, none⟩), .int .i64 x, .int .i64 f, .int .i64 m] (w1.drewN nq) fun e w' => ∃ po cap, e = .returned (.tuple #[.slice po m cap, .nilIface]) ∧ BytesAt (Own w.heap.size w') w' ((s.bs.drop f).take m) (.slice po m cap) ∧ Kp (fun _ => False) w w' := fun w1 hk nq => by
    have hk2 := hk.trans' (kp_drewN (fun _ => False) w1 nq)
    have hd := h.same hk2
    obtain ⟨ss, fs, ps, hB⟩ := hd.bn
    have hL : a.slots.length ≤ 4096 := by have := h.bi.len; have := h.bi.most; omega
    refine (part_ok hB hL hf (by omega) f m hfm).mono ?_
    rintro e w4 ⟨v, rfl, hby, hk4⟩
    obtain ⟨po, cap, rfl, _⟩ := id hby
    rw [hlen] at hby ⊢
    have hz := hk2.size
    exact ⟨po, cap, rfl, hby.imp (fun q e => ⟨Nat.le_trans hz e.1.1, e.1.2⟩) (fun b j u hb e => e), hk2.trans' hk4⟩
  have HR := Lib.hid (And.intro (show ∀ (w1 : World), Kp (fun _ => False) w w1 → ∀ nq : Nat, Calls Tryz.prog 57 #[.pointer (some ⟨hb, 0, none⟩), .int .i64 (q + 1), .int .i64 2] (w1.drewN nq) (fun e w' => e = .returned (.int .u64 f) ∧ w' = w1.drewN nq) from hread 2 (f : Int) h2) (And.intro (show ∀ (w1 : World), Kp (fun _ => False) w w1 → ∀ nq : Nat, Calls Tryz.prog 57 #[.pointer (some ⟨hb, 0, none⟩), .int .i64 (q + 1), .int .i64 3] (w1.drewN nq) (fun e w' => e = .returned (.int .u64 m) ∧ w' = w1.drewN nq) from hread 3 (m : Int) h3) hpart))
  clear h hq hx hf h2 h3 hread hpart hlen
  go_enter Tryz.func55, Tryz.ntmps55
  go_wp2_with fail
  refine H.out.2.2.2.2.mono ?_
  rintro e w1 ⟨rfl, hk1⟩
  have h1 := H.out.1.same hk1
  have c2 := h1.hr.cells.2.2.1
  have H1 := Lib.hid hk1
  clear h1 hk1
  go_wp2_with fail
  refine wp_region_draw 13 _ (by kernel_rfl) (by kernel_rfl) rfl ?_
  simp only [List.take_succ_cons, List.take_zero, List.drop_succ_cons, List.drop_zero]
  repeat (quiet_step ((go_at_call 57; first | (with_reducible exact Calls.quiet_of_same (HR.out.1 _ H1.out _)) | (with_reducible exact Calls.quiet_of_same (HR.out.2.1 _ H1.out _)))))
  refine wpQuiet_nil ?_
  rintro wd ⟨nq, rfl⟩
  go_wp2_with (go_at_call 94; refine (HR.out.2.2 _ H1.out nq).mono ?_; rintro e4 w4 ⟨po, cap, rfl, hby, hk4⟩; refine Hid.out ?_)
  refine Lib.hid ?_
  have HV := Lib.hid (And.intro hby hk4)
  clear hby hk4
  go_wp2_with fail
  simp only [AfterMid]
  repeat (quiet_step (fail))
  refine wpQuiet_nil ?_
  rintro wd ⟨nr, rfl⟩
  go_wp2_with fail
  go_ret2
  exact ⟨po, cap, rfl, HV.out.1.imp (fun q e => e) (cells_kp (kp_drewN (fun _ => False) w4 nr) (fun _ _ e => e)), HV.out.2.trans' (kp_drewN _ _ _)⟩
end
end Go.Proofs.YtkcmfldcdokobaaGreatDoor
