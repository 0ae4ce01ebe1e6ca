/- binary: what always holds of a heap is kept. A process's heap in memory: its header and its slots. What a heap reads of its arena: named, read, extent, form, handle; tagged. -/
import Derived.Test.YtkcmfldcdokobaaGreatDoorM08
import Derived.Test.YtkcmfldcdokobaaGreatDoorM13
import Derived.Test.YtkcmfldcdokobaaGreatDoorM16
/- binary: what always holds of a heap is kept. -/
namespace Go.Proofs.YtkcmfldcdokobaaGreatDoor
open Go.RowKit

theorem sumL_cons (s : Sl) (l : List Sl) : sumL (s :: l) = s.bs.length + sumL l := by simp [sumL]
theorem sumL_snoc (l : List Sl) (s : Sl) : sumL (l ++ [s]) = sumL l + s.bs.length := by simp [sumL]
theorem sumL_set : ∀ (l : List Sl) (i : Nat) (s s' : Sl), l[i]? = some s → sumL (l.set i s') + s.bs.length = sumL l + s'.bs.length
  | [], i, s, s', h => by simp at h
  | t :: l, 0, s, s', h => by simp at h; subst h; simp [sumL_cons]; omega
  | t :: l, i + 1, s, s', h => by
    have ih := sumL_set l i s s' (by simpa using h)
    simp only [List.set_cons_succ, sumL_cons]
    omega
theorem sumL_le : ∀ (l : List Sl) (i : Nat) (s : Sl), l[i]? = some s → s.bs.length ≤ sumL l
  | [], i, s, h => by simp at h
  | t :: l, 0, s, h => by simp at h; subst h; simp [sumL_cons]
  | t :: l, i + 1, s, h => by
    have ih := sumL_le l i s (by simpa using h)
    rw [sumL_cons]; omega

section
variable {N M : Nat} {a a1 : Bn} {i : Nat} {s s' : Sl}
theorem BInv.mono (h : BInv N a) (hm : N ≤ M) : BInv M a := ⟨h.most, h.room, h.len, h.sum, h.le, h.nodup, h.fr, h.em, fun i s hs => by have := h.bd i s hs; omega⟩
theorem inv_new (m r : Nat) (h1 : 1 ≤ m) (h2 : m ≤ 4096) (h3 : r ≤ 1048576) (N : Nat) : BInv N (aNew m r) :=
  ⟨⟨h1, h2⟩, h3, by simp [aNew], by simp [aNew, sumL], by simp [aNew], by simp [aNew], fun i => by simp [aNew], fun i s hs => by simp [aNew] at hs, fun i s hs => by simp [aNew] at hs⟩

theorem getset {l : List Sl} {i j : Nat} {s s' t : Sl} (hs : l[i]? = some s) (h : (l.set i s')[j]? = some t) : (j = i ∧ t = s') ∨ (j ≠ i ∧ l[j]? = some t) := by
  have hl := (List.getElem?_eq_some_iff.1 hs).1
  by_cases e : j = i
  · subst e
    rw [List.getElem?_set_self hl] at h
    injection h with h
    exact .inl ⟨rfl, h.symm⟩
  · rw [List.getElem?_set_ne (fun e' => e e'.symm)] at h
    exact .inr ⟨e, h⟩

/-- a slot that is held is held otherwise -/
theorem BInv.held (h : BInv N a) (hs : a.slots[i]? = some s) (hc : 0 < s.count) (c : Nat) (hc' : 0 < c) (hM : c ≤ M) (hN : N ≤ M) : BInv M { a with slots := a.slots.set i ⟨s.bs, c, s.gen⟩ } := by
  have hl := (List.getElem?_eq_some_iff.1 hs).1
  refine ⟨h.most, h.room, by simpa using h.len, ?_, h.le, h.nodup, fun j => ?_, fun j t ht h0 => ?_, fun j t ht => ?_⟩
  · have := sumL_set a.slots i s ⟨s.bs, c, s.gen⟩ hs
    have := h.sum
    simp only at *
    omega
  · rw [h.fr j]
    refine ⟨fun ⟨t, h1, h2⟩ => ?_, fun ⟨t, h1, h2⟩ => ?_⟩
    · have hij : j ≠ i := fun e => by subst e; rw [hs] at h1; injection h1 with h1; subst h1; omega
      exact ⟨t, by rw [List.getElem?_set_ne (fun e => hij e.symm)]; exact h1, h2⟩
    · rcases getset hs h1 with ⟨_, rfl⟩ | ⟨_, h3⟩
      · simp only at h2; omega
      · exact ⟨t, h3, h2⟩
  · rcases getset hs ht with ⟨_, rfl⟩ | ⟨_, h3⟩
    · simp only at h0; omega
    · exact h.em j t h3 h0
  · rcases getset hs ht with ⟨_, rfl⟩ | ⟨_, h3⟩
    · have := h.bd i s hs; simp only; omega
    · have := h.bd j t h3; omega

/-- a slot is freed -/
theorem BInv.drop (h : BInv N a) (hs : a.slots[i]? = some s) (hc : 0 < s.count) (hM : s.gen + 1 ≤ M) (hN : N ≤ M) : BInv M { a with used := a.used - s.bs.length, slots := a.slots.set i ⟨[], 0, s.gen + 1⟩, free := a.free ++ [i] } := by
  have hl := (List.getElem?_eq_some_iff.1 hs).1
  have hni : i ∉ a.free := fun hm => by
    obtain ⟨t, h1, h2⟩ := (h.fr i).1 hm
    rw [hs] at h1; injection h1 with h1; subst h1; omega
  refine ⟨h.most, h.room, by simpa using h.len, ?_, by have := h.le; simp only; omega, ?_, fun j => ?_, fun j t ht h0 => ?_, fun j t ht => ?_⟩
  · have h1 := sumL_set a.slots i s ⟨[], 0, s.gen + 1⟩ hs
    have h2 := h.sum
    have h3 := sumL_le a.slots i s hs
    simp only [List.length_nil] at *
    omega
  · rw [List.nodup_append]
    exact ⟨h.nodup, by simp, fun x hx y hy => by simp at hy; subst hy; intro e; subst e; exact hni hx⟩
  · rw [List.mem_append, h.fr j]
    refine ⟨fun hh => ?_, fun ⟨t, h1, h2⟩ => ?_⟩
    · rcases hh with ⟨t, h1, h2⟩ | hh
      · have hij : j ≠ i := fun e => by subst e; rw [hs] at h1; injection h1 with h1; subst h1; omega
        exact ⟨t, by rw [List.getElem?_set_ne (fun e => hij e.symm)]; exact h1, h2⟩
      · simp at hh
        subst hh
        exact ⟨⟨[], 0, s.gen + 1⟩, List.getElem?_set_self hl, rfl⟩
    · rcases getset hs h1 with ⟨e, rfl⟩ | ⟨_, h3⟩
      · exact .inr (by simp [e])
      · exact .inl ⟨t, h3, h2⟩
  · rcases getset hs ht with ⟨_, rfl⟩ | ⟨_, h3⟩
    · rfl
    · exact h.em j t h3 h0
  · rcases getset hs ht with ⟨_, rfl⟩ | ⟨_, h3⟩
    · simp only; omega
    · have := h.bd j t h3; omega

/-- a binary is put in -/
theorem BInv.put (h : BInv N a) (ht : Taken a i s a1) {l : List UInt8} (hl : a.used + l.length ≤ a.room) (hN : 1 ≤ N) : BInv N (putIn a1 i s l) := by
  rcases ht.how with ⟨hf, hL, rfl, hg, rfl⟩ | ⟨rest, hf, hs, rfl⟩
  · have hs0 : s = ⟨[], 0, 0⟩ := by
      have := ht.slot
      simp at this
      exact this.symm
    subst hs0
    have he : (a.slots ++ [(⟨[], 0, 0⟩ : Sl)]).set a.slots.length ⟨l, 1, 0⟩ = a.slots ++ [(⟨l, 1, 0⟩ : Sl)] := by simp
    have hp : putIn { a with slots := a.slots ++ [(⟨[], 0, 0⟩ : Sl)] } a.slots.length ⟨[], 0, 0⟩ l = { a with used := a.used + l.length, slots := a.slots ++ [(⟨l, 1, 0⟩ : Sl)] } := by
      unfold putIn
      simp only [he]
    rw [hp]
    clear hp he ht
    have get : ∀ {j : Nat} {t : Sl}, (a.slots ++ [(⟨l, 1, 0⟩ : Sl)])[j]? = some t → (j = a.slots.length ∧ t = ⟨l, 1, 0⟩) ∨ a.slots[j]? = some t := by
      intro j t hj
      by_cases hlt : j < a.slots.length
      · rw [List.getElem?_append_left hlt] at hj
        exact .inr hj
      · have h2 := (List.getElem?_eq_some_iff.1 hj).1
        simp at h2
        obtain rfl : j = a.slots.length := by omega
        simp at hj
        exact .inl ⟨rfl, hj.symm⟩
    refine ⟨h.most, h.room, by simp; omega, by simp only [sumL_snoc]; have := h.sum; omega, by simpa using hl, h.nodup, fun j => ?_, fun j t hj h0 => ?_, fun j t hj => ?_⟩
    · rw [h.fr j]
      refine ⟨fun ⟨t, h1, h2⟩ => ⟨t, ?_, h2⟩, fun ⟨t, h1, h2⟩ => ?_⟩
      · rw [List.getElem?_append_left (List.getElem?_eq_some_iff.1 h1).1]; exact h1
      · rcases get h1 with ⟨_, rfl⟩ | h3
        · simp at h2
        · exact ⟨t, h3, h2⟩
    · rcases get hj with ⟨_, rfl⟩ | h3
      · simp at h0
      · exact h.em j t h3 h0
    · rcases get hj with ⟨_, rfl⟩ | h3
      · simp only; omega
      · exact h.bd j t h3
  · have hli := (List.getElem?_eq_some_iff.1 hs).1
    have hb := ht.bs
    have hc := ht.cnt
    have hnd := h.nodup
    rw [hf, List.nodup_append] at hnd
    unfold putIn
    refine ⟨h.most, h.room, by simpa using h.len, ?_, by simpa using hl, hnd.1, fun j => ?_, fun j t hj h0 => ?_, fun j t hj => ?_⟩
    · have h1 := sumL_set a.slots i s ⟨l, 1, s.gen⟩ hs
      have h2 := h.sum
      rw [hb] at h1
      simp only [List.length_nil] at *
      omega
    · have hj := h.fr j
      rw [hf, List.mem_append] at hj
      refine ⟨fun hm => ?_, fun ⟨t, h1, h2⟩ => ?_⟩
      · obtain ⟨t, h1, h2⟩ := hj.1 (.inl hm)
        have hij : j ≠ i := fun e => hnd.2.2 j hm i (by simp) e
        exact ⟨t, by simp only; rw [List.getElem?_set_ne (fun e => hij e.symm)]; exact h1, h2⟩
      · rcases getset hs h1 with ⟨_, rfl⟩ | ⟨hij, h3⟩
        · simp at h2
        · rcases hj.2 ⟨t, h3, h2⟩ with h4 | h4
          · exact h4
          · simp at h4; exact absurd h4 hij
    · rcases getset hs hj with ⟨_, rfl⟩ | ⟨_, h3⟩
      · simp at h0
      · exact h.em j t h3 h0
    · rcases getset hs hj with ⟨_, rfl⟩ | ⟨_, h3⟩
      · have := h.bd i s hs; simp only; omega
      · exact h.bd j t h3
end

/-- one heap of binaries, and nothing else that is new but what is not looked at any more -/
structure Solo (w wr : World) (b : Nat) (N : Nat) (a : Bn) (F : Nat → Prop) : Prop where
  at' : BAt F wr b a
  inv : BInv N a
  new : ∀ q, F q → w.heap.size ≤ q
  kp : Kp (fun _ => False) w wr

section
variable {w wr w2 : World} {b N M : Nat} {a a' : Bn} {F : Nat → Prop}
theorem Solo.step (h : Solo w wr b N a F) (hg : BGo F wr b a' w2) (hI : BInv M a') : ∃ F', Solo w w2 b M a' F' := by
  obtain ⟨hk, F', hn, hB⟩ := hg
  refine ⟨F', hB, hI, fun q hq => ?_, h.kp.trans (hk.mono fun q hq hF => .inr ⟨h.new q hF, hq⟩)⟩
  rcases hn q hq with e | e
  · exact h.new q e
  · exact Nat.le_trans h.kp.size e
theorem Solo.same (h : Solo w wr b N a F) (hk : Kp (fun _ => False) wr w2) : Solo w w2 b N a F := ⟨h.at'.kp hk (fun _ _ e => e), h.inv, h.new, h.kp.trans' hk⟩
theorem Solo.mono (h : Solo w wr b N a F) (hm : N ≤ M) : Solo w wr b M a F := ⟨h.at', h.inv.mono hm, h.new, h.kp⟩
theorem Solo.below (h : Solo w wr b N a F) : Below w.heap.size w wr := h.kp.below _ (Nat.le_refl _) (fun _ e => e.elim)
end
end Go.Proofs.YtkcmfldcdokobaaGreatDoor

/- A process's heap in memory: its header and its slots. -/
namespace Go.Proofs.YtkcmfldcdokobaaGreatDoor
open Go.RowKit

/-- slots: a word, and whether the slot holds it -/
def pairs (l : List (Int × Bool)) : List Value := l.flatMap fun p => [Value.int .u64 p.1, .bool p.2]
theorem pairs_cons (p : Int × Bool) (l : List (Int × Bool)) : pairs (p :: l) = .int .u64 p.1 :: .bool p.2 :: pairs l := rfl
theorem pairs_len : ∀ (l : List (Int × Bool)), (pairs l).length = l.length * 2
  | [] => rfl
  | p :: l => by rw [pairs_cons]; simp only [List.length_cons, pairs_len l]; omega
theorem pairs_snoc (l : List (Int × Bool)) (p : Int × Bool) : pairs (l ++ [p]) = pairs l ++ [.int .u64 p.1, .bool p.2] := by simp [pairs]
theorem pairs_get : ∀ (l : List (Int × Bool)) (i : Nat) (p : Int × Bool), l[i]? = some p → (pairs l)[i * 2]? = some (.int .u64 p.1) ∧ (pairs l)[i * 2 + 1]? = some (.bool p.2)
  | [], i, p, h => by simp at h
  | q :: l, 0, p, h => by simp at h; subst h; exact ⟨rfl, rfl⟩
  | q :: l, i + 1, p, h => by
    have := pairs_get l i p (by simpa using h)
    rw [pairs_cons, show (i + 1) * 2 = i * 2 + 1 + 1 by omega]
    simpa using this
theorem pairs_set : ∀ (l : List (Int × Bool)) (i : Nat) (x : Int) (b : Bool), i < l.length → ((pairs l).set (i * 2) (.int .u64 x)).set (i * 2 + 1) (.bool b) = pairs (l.set i (x, b))
  | [], i, x, b, h => by simp at h
  | q :: l, 0, x, b, _ => rfl
  | q :: l, i + 1, x, b, h => by
    have := pairs_set l i x b (by simpa using h)
    rw [pairs_cons, show (i + 1) * 2 = i * 2 + 1 + 1 by omega]
    simp only [List.set_cons_succ, pairs_cons, this]

/-- the header and the slots, in blocks of F -/
structure HRep (F : Nat → Prop) (w : World) (hb ab tb bb : Nat) (sv : Value) (least : Nat) (sl : List (Int × Bool)) : Prop where
  inF : F hb
  lt : ∀ k, F k → k < w.heap.size
  hd : w.heap[hb]? = some (.cells #[.pointer (some ⟨ab, 0, none⟩), .pointer (some ⟨tb, 0, none⟩), .pointer (some ⟨bb, 0, none⟩), sv, .int .i64 least] 52 (0, 0))
  row : w.ownsRow 0 100 2 sv sl.length (pairs sl)
  inR : ∀ g, sv.ownBlock = some g → F g ∧ g ≠ hb
/-- none below least is free -/
def Full (least : Nat) (sl : List (Int × Bool)) : Prop := least ≤ sl.length ∧ ∀ (i : Nat) (p : Int × Bool), i < least → sl[i]? = some p → p.2 = true

section
variable {F G : Nat → Prop} {w w' w3 : World} {hb ab tb bb least : Nat} {sv : Value} {sl : List (Int × Bool)}
theorem HRep.kp (h : HRep F w hb ab tb bb sv least sl) (hk : Kp G w w') (hd : ∀ q, F q → ¬ G q) : HRep F w' hb ab tb bb sv least sl :=
  ⟨h.inF, fun k hF => Nat.lt_of_lt_of_le (h.lt k hF) hk.size, (hk.block _ (h.lt _ h.inF) (hd _ h.inF)).trans h.hd, hk.row h.row (fun g hg => hd g (h.inR g hg).1), h.inR⟩
theorem HRep.more (h : HRep F w hb ab tb bb sv least sl) (hFG : ∀ k, F k → G k) (hlt : ∀ k, G k → k < w.heap.size) : HRep G w hb ab tb bb sv least sl :=
  ⟨hFG _ h.inF, hlt, h.hd, h.row, fun g hg => ⟨hFG _ (h.inR g hg).1, (h.inR g hg).2⟩⟩
theorem HRep.cells (h : HRep F w hb ab tb bb sv least sl) : w.cell? ⟨hb, 0, none⟩ = some (.pointer (some ⟨ab, 0, none⟩)) ∧ w.cell? ⟨hb, 1, none⟩ = some (.pointer (some ⟨tb, 0, none⟩)) ∧ w.cell? ⟨hb, 2, none⟩ = some (.pointer (some ⟨bb, 0, none⟩)) ∧
    w.cell? ⟨hb, 3, none⟩ = some sv ∧ w.cell? ⟨hb, 4, none⟩ = some (.int .i64 least) ∧ ∀ j, w.frozen? ⟨hb, j, none⟩ = false :=
  ⟨cell_of h.hd 0, cell_of h.hd 1, cell_of h.hd 2, cell_of h.hd 3, cell_of h.hd 4, fun j => frozen_of h.hd j⟩
theorem HRep.at' (h : HRep F w hb ab tb bb sv least sl) : ∃ po cap, sv = .slice po sl.length cap ∧ ∀ (i : Nat) (p : Int × Bool), sl[i]? = some p → ∃ g, po = some ⟨g, 0, none⟩ ∧ w.cell? ⟨g, i * 2, none⟩ = some (.int .u64 p.1) ∧ w.cell? ⟨g, i * 2 + 1, none⟩ = some (.bool p.2) ∧ (∀ j, w.frozen? ⟨g, j, none⟩ = false) ∧ F g ∧ g ≠ hb := by
  have hr := h.row
  obtain ⟨po, cap, rfl⟩ := slice_form h.row
  refine ⟨po, cap, rfl, fun i p hi => ?_⟩
  have hlt := (List.getElem?_eq_some_iff.1 hi).1
  rcases hr.2 with ⟨_, h0⟩ | ⟨g, cap', cur, e, _, hg, _⟩
  · omega
  · injection e with e _ _
    subst e
    obtain ⟨p1, p2⟩ := pairs_get sl i p hi
    exact ⟨g, rfl, (hr.cellAt _ (by omega)).trans p1, (hr.cellAt _ (by omega)).trans p2, fun j => hr.frozenAt j, h.inR g rfl⟩
end
end Go.Proofs.YtkcmfldcdokobaaGreatDoor

/- What a heap reads of its arena: named, read, extent, form, handle; tagged. -/
namespace Go.Proofs.YtkcmfldcdokobaaGreatDoor
open Go.RowKit

/-- a heap's arena, whose words are words -/
structure AIn (w : World) (hb ab : Nat) (F : Nat → Prop) (A : Ar) : Prop where
  ptr : w.cell? ⟨hb, 0, none⟩ = some (.pointer (some ⟨ab, 0, none⟩))
  rep : Rep w F ab A
  inv : Inv A []
  word : ∀ (i : Nat) (x : Int), A.places[i]? = some x → 0 ≤ x ∧ x ≤ 18446744073709551615

/-- the words of a block -/
def blkW (A : Ar) (q n : Nat) : List Int := (A.places.drop (q + 1)).take n

section
variable {F : Nat → Prop} {w w' : World} {hb ab : Nat} {A : Ar} {q n : Nat}
theorem AIn.same (h : AIn w hb ab F A) (hk : Kp (fun _ => False) w w') : AIn w' hb ab F A :=
  ⟨(hk.cell (World.block_lt_of_cell? _ _ h.ptr) (fun e => e)).trans h.ptr, h.rep.kp hk, h.inv, h.word⟩
theorem AIn.lens (h : AIn w hb ab F A) : A.taken.length ≤ 1048576 ∧ A.places.length ≤ 1048576 := by
  have h1 := h.inv.len
  have h2 := h.inv.top
  have h3 := h.inv.size
  omega
theorem AIn.blk (h : AIn w hb ab F A) (hq : A.tk q n) : A.block q n ∧ q + 1 + n ≤ A.places.length ∧ n ≤ 1048576 := by
  have hb := h.inv.block hq
  exact ⟨hb.1, by omega, hb.1.2.2⟩
theorem AIn.blkW_len (h : AIn w hb ab F A) (hq : A.tk q n) : (blkW A q n).length = n := by
  have := (h.blk hq).2.1
  simp [blkW]
  omega
theorem blkW_get {i : Nat} {x : Int} (hx : (blkW A q n)[i]? = some x) : i < n ∧ A.places[q + 1 + i]? = some x := by
  unfold blkW at hx
  rw [List.getElem?_take] at hx
  split at hx
  · rw [List.getElem?_drop] at hx
    exact ⟨by assumption, hx⟩
  · cases hx
theorem blkW_some {i : Nat} {x : Int} (hi : i < n) (hx : A.places[q + 1 + i]? = some x) : (blkW A q n)[i]? = some x := by
  unfold blkW
  rw [List.getElem?_take, if_pos hi, List.getElem?_drop]
  exact hx

theorem named_how (h : AIn w hb ab F A) (x : Int) : (∃ q n : Nat, x = ((q : Int) + 1) * 8 + 5 ∧ A.tk q n) ∨ x % 8 ≠ 5 ∨ A.holds (x / 8) = false := by
  by_cases h5 : x % 8 = 5
  · cases hh : A.holds (x / 8) with
    | false => exact .inr (.inr rfl)
    | true =>
      unfold Ar.holds at hh
      split at hh
      · rename_i h1
        have hlt : (x / 8 - 1).toNat < A.taken.length := by omega
        rw [List.getD_eq_getElem?_getD, List.getElem?_eq_getElem hlt] at hh
        have ht : A.taken[(x / 8 - 1).toNat]? = some true := by rw [List.getElem?_eq_getElem hlt]; simpa using hh
        obtain ⟨n, hn, _⟩ := h.inv.tk_of ht
        exact .inl ⟨(x / 8 - 1).toNat, n, by omega, hn⟩
      · cases hh
  · exact .inr (.inl h5)

set_option maxHeartbeats 400000 in
theorem named_ok (h : AIn w hb ab F A) (hq : A.tk q n) (x : Int) (hx : x = ((q : Int) + 1) * 8 + 5) :
    Calls Tryz.prog 54 #[.pointer (some ⟨hb, 0, none⟩), .int .u64 x] w fun e w' => e = .returned (.tuple #[.int .i64 (q + 1), .bool true]) ∧ w = w' := by
  have c0 := h.ptr
  have hl := h.lens
  have hb := (h.blk hq).2.1
  have e1 : bits BinOp.and IntKind.u64 x 7 = 5 := by rw [and_low3 x (by omega) (by omega)]; omega
  have e2 : x / 8 = (q : Int) + 1 := by omega
  have hx0 : 0 ≤ x := by omega
  have hx1 : x ≤ 18446744073709551615 := by omega
  have H := Lib.hid (len_ok h.rep hl.1 hl.2 q n (h.blk hq).1)
  clear h hq hx
  go_enter Tryz.func54, Tryz.ntmps54
  go_wp2_with fail
  refine H.out.mono ?_
  rintro e w' ⟨rfl, rfl⟩
  go_wp2_with fail
  go_ret2
  exact ⟨rfl, rfl⟩

set_option maxHeartbeats 400000 in
theorem named_no (h : AIn w hb ab F A) (x : Int) (hx0 : 0 ≤ x) (hx1 : x ≤ 18446744073709551615) (hx : x % 8 ≠ 5 ∨ A.holds (x / 8) = false) :
    Calls Tryz.prog 54 #[.pointer (some ⟨hb, 0, none⟩), .int .u64 x] w fun e w' => e = .returned (.tuple #[.int .i64 0, .bool false]) ∧ Kp (fun _ => False) w w' := by
  have c0 := h.ptr
  have hl := h.lens
  have hr := h.rep
  obtain ⟨r, e1, hr0, hr1, hrx⟩ : ∃ r, bits BinOp.and IntKind.u64 x 7 = r ∧ 0 ≤ r ∧ r < 8 ∧ r = x % 8 := ⟨_, and_low3 x hx0 hx1, by omega, by omega, rfl⟩
  by_cases h5 : r = 5
  · subst h5
    obtain ⟨p, hp, hp0, hp1⟩ : ∃ p, x / 8 = p ∧ 0 ≤ p ∧ p ≤ 2305843009213693951 := ⟨_, rfl, by omega, by omega⟩
    have hh : A.holds p = false := by
      rcases hx with e | e
      · omega
      · rw [← hp]; exact e
    have H := Lib.hid (len_none hr hl.1 p hh)
    clear h hx hh hrx hr
    go_enter Tryz.func54, Tryz.ntmps54
    go_wp2_with fail
    refine H.out.mono ?_
    rintro e w' ⟨v, rfl, ⟨g, _, rfl, _⟩, _, _, hk⟩
    have Hk := Lib.hid hk
    clear hk
    go_wp2_with fail
    go_ret2
    exact ⟨rfl, Hk.out⟩
  · have h5' : (r == 5) = false := by simpa using h5
    clear h hx hrx hr h5
    go_enter Tryz.func54, Tryz.ntmps54
    go_wp2_with fail
    go_ret2
    exact ⟨rfl, Kp.refl _ _⟩

set_option maxHeartbeats 400000 in
theorem read_ok (h : AIn w hb ab F A) (hq : A.tk q n) (i : Nat) (x : Int) (hx : (blkW A q n)[i]? = some x) :
    Calls Tryz.prog 57 #[.pointer (some ⟨hb, 0, none⟩), .int .i64 (q + 1), .int .i64 i] w fun e w' => e = .returned (.int .u64 x) ∧ w = w' := by
  have c0 := h.ptr
  have hl := h.lens
  obtain ⟨hi, hp⟩ := blkW_get hx
  have H := Lib.hid (get_ok h.rep hl.1 hl.2 q n i x (h.blk hq).1 hi hp)
  clear h hq hx hp
  go_enter Tryz.func57, Tryz.ntmps57
  go_wp2_with fail
  refine H.out.mono ?_
  rintro e w' ⟨rfl, rfl⟩
  go_wp2_with fail
  go_ret
  exact ⟨rfl, rfl⟩
set_option maxHeartbeats 400000 in
theorem read_no (h : AIn w hb ab F A) (hq : A.tk q n) (i : Nat) (hi : n ≤ i) (_hi : i ≤ 2000000) :
    Calls Tryz.prog 57 #[.pointer (some ⟨hb, 0, none⟩), .int .i64 (q + 1), .int .i64 i] w fun e w' => e = .returned (.int .u64 0) ∧ Kp (fun _ => False) w w' := by
  have c0 := h.ptr
  have hl := h.lens
  have H := Lib.hid (get_index h.rep hl.1 hl.2 q n i (h.blk hq).1 (.inr (by omega)))
  clear h hq hi
  go_enter Tryz.func57, Tryz.ntmps57
  go_wp2_with fail
  refine H.out.mono ?_
  rintro e w' ⟨v, v1, rfl, ⟨g, _, rfl, _⟩, _, _, _, hk⟩
  have Hk := Lib.hid hk
  clear hk
  go_wp2_with fail
  go_ret
  exact ⟨rfl, Hk.out⟩

set_option maxHeartbeats 400000 in
theorem tagged_any (n tag : Int) (w : World) (h0 : 0 ≤ n) (h1 : n ≤ 1152921504606846975) (h2 : 0 ≤ tag) (h3 : tag < 8) :
    Calls Tryz.prog 98 #[.int .i64 n, .int .u64 tag] w fun e w' => e = .returned (.int .u64 (n * 8 + tag)) ∧ w = w' := by
  have e1 : bits BinOp.or IntKind.u64 (n * 8) tag = n * 8 + tag := or_low3 n tag h0 (by omega) h2 h3
  go_enter Tryz.func98, Tryz.ntmps98
  go_wp2_with fail
  go_ret
  exact ⟨rfl, rfl⟩
end
end Go.Proofs.YtkcmfldcdokobaaGreatDoor
