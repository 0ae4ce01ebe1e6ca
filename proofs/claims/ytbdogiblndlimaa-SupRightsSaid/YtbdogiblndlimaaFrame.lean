/- What a call leaves as it was (Kp), and an object of head cells and slices of its own (Reps), of whatever program. -/
import Derived.WalkKit
import Derived.ChangeAlike
import Derived.Deep.AppendLies
namespace Go
open Go.RowKit

/-- Outside of F nothing that was there has turned. -/
structure Kp (F : Nat → Prop) (w w' : World) : Prop where
  os : w'.os = w.os
  tape : w'.tape = w.tape
  output : w'.output = w.output
  size : w.heap.size ≤ w'.heap.size
  block : ∀ k, k < w.heap.size → ¬ F k → w'.heap[k]? = w.heap[k]?

/-- F, and what is new. -/
def Ext (F : Nat → Prop) (w w' : World) : Nat → Prop := fun k => F k ∨ (w.heap.size ≤ k ∧ k < w'.heap.size)

section
variable {F G : Nat → Prop} {w w' w1 w2 : World}

theorem Kp.refl (F : Nat → Prop) (w : World) : Kp F w w := ⟨rfl, rfl, rfl, Nat.le_refl _, fun _ _ _ => rfl⟩
theorem Kp.trans (h : Kp F w w1) (k : Kp (Ext F w w1) w1 w2) : Kp F w w2 :=
  ⟨k.os.trans h.os, k.tape.trans h.tape, k.output.trans h.output, Nat.le_trans h.size k.size, fun i hi hF =>
    (k.block i (Nat.lt_of_lt_of_le hi h.size) (fun e => e.elim hF (fun e => by omega))).trans (h.block i hi hF)⟩
theorem Kp.mono (h : Kp F w w') (hFG : ∀ k, k < w.heap.size → F k → G k) : Kp G w w' :=
  ⟨h.os, h.tape, h.output, h.size, fun k hk hG => h.block k hk (fun e => hG (hFG k hk e))⟩
theorem Kp.trans' (h : Kp F w w1) (k : Kp F w1 w2) : Kp F w w2 := h.trans (k.mono fun _ _ e => .inl e)
theorem Kp.drew (h : Kp F w w') : Kp F w w'.drew := ⟨h.os, h.tape, h.output, h.size, h.block⟩
theorem Kp.alloc (h : Kp F w w') (o : Obj) : Kp F w (w'.alloc o) :=
  ⟨h.os, h.tape, h.output, by have := h.size; simp; omega, fun k hk hF => (Below.heap_alloc w' o k (Nat.lt_of_lt_of_le hk h.size)).trans (h.block k hk hF)⟩
theorem Kp.setCell (h : Kp F w w') (a : Addr) (u : Value) (ha : F a.block ∨ w.heap.size ≤ a.block) : Kp F w (w'.setCell a u) :=
  ⟨h.os, h.tape, h.output, by have := h.size; simpa [World.setCell] using this, fun k hk hF =>
    (Below.heap_setCell w' a u k (fun e => ha.elim (fun e' => hF (e ▸ e')) (fun e' => by omega))).trans (h.block k hk hF)⟩
theorem Kp.grown (h : Kp F w w1) {row : Option Nat} (hg : w1.grownBy w2 row) (hr : ∀ k, row = some k → F k ∨ w.heap.size ≤ k) : Kp F w w2 :=
  ⟨hg.os.trans h.os, hg.tape.trans h.tape, hg.output.trans h.output, Nat.le_trans h.size hg.size, fun k hk hF =>
    (hg.block k (Nat.lt_of_lt_of_le hk h.size) (fun e => (hr k e.symm).elim hF (fun e' => by omega))).trans (h.block k hk hF)⟩
theorem Kp.cell (h : Kp F w w') {p : Addr} (hp : p.block < w.heap.size) (hF : ¬ F p.block) : w'.cell? p = w.cell? p := World.cell?_of_block (h.block p.block hp hF)
theorem Kp.frozen (h : Kp F w w') {p : Addr} (hp : p.block < w.heap.size) (hF : ¬ F p.block) : w'.frozen? p = w.frozen? p := World.frozen?_of_block (h.block p.block hp hF)
theorem Kp.below (h : Kp F w w') (B : Nat) (hB : B ≤ w.heap.size) (hF : ∀ k, F k → B ≤ k) : Below B w w' :=
  ⟨h.os, h.tape, h.output, h.size, fun k hk => h.block k (by omega) (fun e => by have := hF k e; omega)⟩
theorem Kp.row {base : Nat} {e : TypeId} {size : Nat} {v : Value} {n : Nat} {xs : List Value} (h : Kp F w w') (ho : w.ownsRow base e size v n xs) (hF : ∀ g, v.ownBlock = some g → ¬ F g) : w'.ownsRow base e size v n xs := by
  refine ⟨ho.1, ?_⟩
  rcases ho.2 with hn | ⟨g, cap, cur, rfl, hb, hgg, rest⟩
  · exact .inl hn
  · refine .inr ⟨g, cap, cur, rfl, hb, ?_, rest⟩
    rw [h.block g (Array.getElem?_eq_some_iff.1 hgg).1 (hF g rfl)]
    exact hgg
theorem Kp.alike (h : Kp F w w1) (ha : w2.Alike w1) (ht : w2.tape = w1.tape) : Kp F w w2 :=
  ⟨ha.2.1.trans h.os, ht.trans h.tape, ha.2.2.trans h.output, by rw [ha.1]; exact h.size, fun k hk hF => by rw [ha.1]; exact h.block k hk hF⟩
theorem Ext.ext {k : Nat} (h1 : w.heap.size ≤ w1.heap.size) (h2 : w1.heap.size ≤ w2.heap.size) (h : Ext (Ext F w w1) w1 w2 k) : Ext F w w2 k := by
  rcases h with (h | h) | h
  · exact .inl h
  · exact .inr ⟨h.1, by omega⟩
  · exact .inr ⟨by omega, h.2⟩
end

theorem ownsRow_of_heap {w w' : World} {base : Nat} {e : TypeId} {size : Nat} {v : Value} {n : Nat} {xs : List Value} (h : w'.heap = w.heap) (ho : w.ownsRow base e size v n xs) : w'.ownsRow base e size v n xs := by
  unfold World.ownsRow at *; rw [h]; exact ho
theorem cell_of_heap {w w' : World} (h : w'.heap = w.heap) (a : Addr) : w'.cell? a = w.cell? a := World.cell?_of_block (by rw [h])
theorem frozen_of_heap {w w' : World} (h : w'.heap = w.heap) (a : Addr) : w'.frozen? a = w.frozen? a := World.frozen?_of_block (by rw [h])

def upd {α : Type} (f : Nat → α) (k : Nat) (v : α) : Nat → α := fun j => if j = k then v else f j
theorem upd_same {α : Type} (f : Nat → α) (k : Nat) (v : α) : upd f k v k = v := by simp [upd]
theorem upd_other {α : Type} (f : Nat → α) {k j : Nat} (v : α) (h : j ≠ k) : upd f k v j = f j := by simp [upd, h]

/-- An object: block b holds the cells hd, then n slices, each of which owns a row of its own. F: its blocks. -/
structure Reps (ety : Nat → TypeId) (w : World) (F : Nat → Prop) (b : Nat) (hd : List Value) (n : Nat) (rows : Nat → List Value) (sl : Nat → Value) : Prop where
  inF : F b
  lt : ∀ k, F k → k < w.heap.size
  head : ∀ j v, hd[j]? = some v → w.cell? ⟨b, j, none⟩ = some v
  cell : ∀ k, k < n → w.cell? ⟨b, hd.length + k, none⟩ = some (sl k)
  fz : ∀ j, w.frozen? ⟨b, j, none⟩ = false
  own : ∀ k, k < n → w.ownsRow 0 (ety k) 1 (sl k) (rows k).length (rows k)
  inn : ∀ k g, k < n → (sl k).ownBlock = some g → F g ∧ g ≠ b
  apart : ∀ j k g, j < n → k < n → (sl j).ownBlock = some g → (sl k).ownBlock = some g → j = k

section
variable {ety : Nat → TypeId} {w w' : World} {F G : Nat → Prop} {b : Nat} {hd : List Value} {n : Nat} {rows : Nat → List Value} {sl : Nat → Value}

theorem Reps.heap (h : Reps ety w F b hd n rows sl) (hh : w'.heap = w.heap) : Reps ety w' F b hd n rows sl :=
  ⟨h.inF, by rw [hh]; exact h.lt, fun j v e => by rw [cell_of_heap hh]; exact h.head j v e, fun k e => by rw [cell_of_heap hh]; exact h.cell k e,
    fun j => by rw [frozen_of_heap hh]; exact h.fz j, fun k e => ownsRow_of_heap hh (h.own k e), h.inn, h.apart⟩

theorem Reps.kp (h : Reps ety w F b hd n rows sl) (hk : Kp G w w') (hd' : ∀ k, F k → ¬ G k) : Reps ety w' F b hd n rows sl :=
  ⟨h.inF, fun k e => Nat.lt_of_lt_of_le (h.lt k e) hk.size, fun j v e => by rw [hk.cell (h.lt b h.inF) (hd' b h.inF)]; exact h.head j v e,
    fun k e => by rw [hk.cell (h.lt b h.inF) (hd' b h.inF)]; exact h.cell k e, fun j => by rw [hk.frozen (h.lt b h.inF) (hd' b h.inF)]; exact h.fz j,
    fun k e => hk.row (h.own k e) (fun g hg => hd' g (h.inn k g e hg).1), h.inn, h.apart⟩

theorem Reps.more (h : Reps ety w F b hd n rows sl) (hFG : ∀ k, F k → G k) (hlt : ∀ k, G k → k < w.heap.size) : Reps ety w G b hd n rows sl :=
  ⟨hFG b h.inF, hlt, h.head, h.cell, h.fz, h.own, fun k g e hg => ⟨hFG g (h.inn k g e hg).1, (h.inn k g e hg).2⟩, h.apart⟩

/-- A head cell is written. -/
theorem Reps.setHead (h : Reps ety w F b hd n rows sl) (j : Nat) (u : Value) (hj : j < hd.length) :
    Reps ety (w.setCell ⟨b, j, none⟩ u) F b (hd.set j u) n rows sl ∧ Kp F w (w.setCell ⟨b, j, none⟩ u) := by
  refine ⟨⟨h.inF, fun k e => by simpa [World.setCell] using h.lt k e, ?_, ?_, ?_, ?_, h.inn, h.apart⟩, (Kp.refl F w).setCell _ _ (.inl h.inF)⟩
  · intro i v hi
    by_cases e : i = j
    · subst e
      have hv : u = v := by simpa [hj] using hi
      subst hv
      obtain ⟨v0, hv0⟩ : ∃ v0, hd[i]? = some v0 := ⟨hd[i], by simp [hj]⟩
      exact World.cell?_setCell_same _ _ _ (h.head i v0 hv0)
    · rw [List.getElem?_set_ne (by omega)] at hi
      rw [World.cell?_setCell_other _ _ _ _ (fun e => by have e' := congrArg Addr.off e; simp only at e'; omega)]
      exact h.head i v hi
  · intro k hk
    rw [List.length_set, World.cell?_setCell_other _ _ _ _ (fun e => by have e' := congrArg Addr.off e; simp only at e'; omega)]
    exact h.cell k hk
  · intro i; rw [World.frozen?_setCell]; exact h.fz i
  · intro k hk
    have ho := h.own k hk
    refine ⟨ho.1, ?_⟩
    rcases ho.2 with hn | ⟨g, cap, cur, hv, hb, hgg, rest⟩
    · exact .inl hn
    · refine .inr ⟨g, cap, cur, hv, hb, ?_, rest⟩
      rw [Below.heap_setCell _ _ _ _ (h.inn k g hk (by rw [hv]; rfl)).2]
      exact hgg

/-- Slice k was grown (an append), and is stored. -/
theorem Reps.grow (h : Reps ety w F b hd n rows sl) (k : Nat) (hk : k < n) {xs : List Value} {g cap : Nat} (hown : w'.ownsRow 0 (ety k) 1 (.slice (some ⟨g, 0, none⟩) xs.length cap) xs.length xs)
    (hg : w.grownBy w' (sl k).ownBlock) (hat : (sl k).ownBlock = some g ∨ g = w.heap.size) (hlt : g < w'.heap.size) :
    Reps ety (w'.setCell ⟨b, hd.length + k, none⟩ (.slice (some ⟨g, 0, none⟩) xs.length cap)) (Ext F w w') b hd n (upd rows k xs) (upd sl k (.slice (some ⟨g, 0, none⟩) xs.length cap)) ∧
      Kp F w (w'.setCell ⟨b, hd.length + k, none⟩ (.slice (some ⟨g, 0, none⟩) xs.length cap)) := by
  have hbl := h.lt b h.inF
  have hbne : some b ≠ (sl k).ownBlock := fun e => (h.inn k b hk e.symm).2 rfl
  have hgb : g ≠ b := by
    rcases hat with e | e
    · exact (h.inn k g hk e).2
    · omega
  have hkp1 : Kp F w w' := (Kp.refl F w).grown hg (fun q e => .inl (h.inn k q hk e).1)
  refine ⟨⟨.inl h.inF, ?_, ?_, ?_, ?_, ?_, ?_, ?_⟩, hkp1.setCell _ _ (.inl h.inF)⟩
  · intro q hq
    have h0 := hg.size
    rcases hq with hq | hq
    · have := h.lt q hq; simp [World.setCell]; omega
    · simpa [World.setCell] using hq.2
  · intro i v hi
    have hil : i < hd.length := (List.getElem?_eq_some_iff.1 hi).1
    rw [World.cell?_setCell_other _ _ _ _ (fun e => by have e' := congrArg Addr.off e; simp only at e'; omega), World.cell?_of_block (hg.block b hbl hbne)]
    exact h.head i v hi
  · intro j hj
    by_cases e : j = k
    · subst e
      rw [upd_same]
      refine World.cell?_setCell_same _ _ _ (u := sl j) ?_
      rw [World.cell?_of_block (hg.block b hbl hbne)]
      exact h.cell j hj
    · rw [upd_other _ _ e, World.cell?_setCell_other _ _ _ _ (fun e => by have e' := congrArg Addr.off e; simp only at e'; omega), World.cell?_of_block (hg.block b hbl hbne)]
      exact h.cell j hj
  · intro i
    rw [World.frozen?_setCell, World.frozen?_of_block (hg.block b hbl hbne)]
    exact h.fz i
  · intro j hj
    have key : w'.ownsRow 0 (ety j) 1 (upd sl k (.slice (some ⟨g, 0, none⟩) xs.length cap) j) (upd rows k xs j).length (upd rows k xs j) ∧ (∀ q, (upd sl k (.slice (some ⟨g, 0, none⟩) xs.length cap) j).ownBlock = some q → q ≠ b) := by
      by_cases e : j = k
      · subst e
        rw [upd_same, upd_same]
        refine ⟨hown, fun q hq => ?_⟩
        simp [Value.ownBlock] at hq
        omega
      · rw [upd_other _ _ e, upd_other _ _ e]
        refine ⟨(h.own j hj).kept hg ?_, fun q hq => (h.inn j q hj hq).2⟩
        cases hq : (sl j).ownBlock with
        | none => exact .inl rfl
        | some q => exact .inr fun e' => e (h.apart j k q hj hk hq e'.symm)
    obtain ⟨ho, hne⟩ := key
    refine ⟨ho.1, ?_⟩
    rcases ho.2 with hn | ⟨g', cap', cur, hv, hb, hgg, rest⟩
    · exact .inl hn
    · refine .inr ⟨g', cap', cur, hv, hb, ?_, rest⟩
      rw [Below.heap_setCell _ _ _ _ (hne g' (by rw [hv]; rfl))]
      exact hgg
  · intro j q hj hq
    by_cases e : j = k
    · subst e
      rw [upd_same] at hq
      simp [Value.ownBlock] at hq
      subst hq
      refine ⟨?_, hgb⟩
      rcases hat with e | e
      · exact .inl (h.inn j g hj e).1
      · exact .inr ⟨by omega, hlt⟩
    · rw [upd_other _ _ e] at hq
      exact ⟨.inl (h.inn j q hj hq).1, (h.inn j q hj hq).2⟩
  · intro i j q hi hj hqi hqj
    have old : ∀ i, i < n → i ≠ k → (sl i).ownBlock = some g → False := fun i hi hne e => by
      rcases hat with e' | e'
      · exact hne (h.apart i k g hi hk e e')
      · have := h.lt g (h.inn i g hi e).1; omega
    by_cases ei : i = k <;> by_cases ej : j = k
    · rw [ei, ej]
    · rw [ei, upd_same] at hqi
      rw [upd_other _ _ ej] at hqj
      simp [Value.ownBlock] at hqi
      subst hqi
      exact (old j hj ej hqj).elim
    · rw [ej, upd_same] at hqj
      rw [upd_other _ _ ei] at hqi
      simp [Value.ownBlock] at hqj
      subst hqj
      exact (old i hi ei hqi).elim
    · rw [upd_other _ _ ei] at hqi
      rw [upd_other _ _ ej] at hqj
      exact h.apart i j q hi hj hqi hqj

theorem Reps.push (h : Reps ety w F b hd n rows sl) (k : Nat) (hk : k < n) (o : Obj) {m g cap : Nat} {xs : List Value} (hown : w'.ownsRow 0 (ety k) 1 (.slice (some ⟨g, 0, none⟩) m cap) m xs)
    (hg : (w.alloc o).drew.grownBy w' (sl k).ownBlock) (hat : (sl k).ownBlock = some g ∨ g = w.heap.size + 1) (hlt : g < w'.heap.size) :
    Reps ety (w'.setCell ⟨b, hd.length + k, none⟩ (.slice (some ⟨g, 0, none⟩) m cap)) (Ext F w w') b hd n (upd rows k xs) (upd sl k (.slice (some ⟨g, 0, none⟩) m cap)) ∧
      Kp F w (w'.setCell ⟨b, hd.length + k, none⟩ (.slice (some ⟨g, 0, none⟩) m cap)) := by
  have hm : xs.length = m := by simpa using hown.1
  subst hm
  have hk0 : Kp F w (w.alloc o).drew := ((Kp.refl F w).alloc o).drew
  have h1 : Reps ety (w.alloc o).drew F b hd n rows sl := (h.kp (G := fun _ => False) ((Kp.refl _ w).alloc o).drew (fun _ _ e => e))
  have hz : (w.alloc o).drew.heap.size = w.heap.size + 1 := by show (w.alloc o).heap.size = _; simp
  have hr := h1.grow (w' := w') k hk hown hg (by rw [hz]; exact hat) hlt
  have h0 := hg.size
  rw [hz] at h0
  refine ⟨hr.1.more ?_ ?_, hk0.trans' hr.2⟩
  · intro q hq
    rcases hq with hq | hq
    · exact .inl hq
    · rw [hz] at hq; exact .inr ⟨by omega, hq.2⟩
  · intro q hq
    rcases hq with hq | hq
    · have := h.lt q hq; simp [World.setCell]; omega
    · simpa [World.setCell] using hq.2

theorem grownBy_refl (w : World) (row : Option Nat) : w.grownBy w row := ⟨rfl, rfl, rfl, Nat.le_refl _, fun _ _ _ => rfl⟩

/-- Slice k is cut to a shorter one, and stored. -/
theorem Reps.shrink (h : Reps ety w F b hd n rows sl) (k : Nat) (hk : k < n) (g m m' cap : Nat) (hs : sl k = .slice (some ⟨g, 0, none⟩) m cap) (hm : m' ≤ m) :
    Reps ety (w.setCell ⟨b, hd.length + k, none⟩ (.slice (some ⟨g, 0, none⟩) m' cap)) F b hd n (upd rows k ((rows k).take m')) (upd sl k (.slice (some ⟨g, 0, none⟩) m' cap)) ∧
      Kp F w (w.setCell ⟨b, hd.length + k, none⟩ (.slice (some ⟨g, 0, none⟩) m' cap)) := by
  have ho := h.own k hk
  have hm0 : m = (rows k).length := by
    rcases ho.2 with ⟨h', h''⟩ | ⟨g', cap', cur, h', _⟩
    · rw [hs] at h'; simp at h'
    · rw [hs] at h'; simp at h'; omega
  have hlen : ((rows k).take m').length = m' := by simp; omega
  have hown : w.ownsRow 0 (ety k) 1 (.slice (some ⟨g, 0, none⟩) ((rows k).take m').length cap) ((rows k).take m').length ((rows k).take m') := by
    rw [hlen]
    refine ⟨by simp; omega, ?_⟩
    rcases ho.2 with ⟨h', h''⟩ | ⟨g', cap', cur, h', hb, hgg, h1, h2, h3, h4⟩
    · rw [hs] at h'; simp at h'
    · rw [hs] at h'
      simp at h'
      obtain ⟨rfl, h'', rfl⟩ := h'
      refine .inr ⟨g, cap, cur, rfl, hb, hgg, by omega, h2, h3, ?_⟩
      rw [← h4, List.take_take, Nat.mul_one, Nat.mul_one, Nat.min_eq_left (by omega)]
  have hr := h.grow (w' := w) k hk hown (grownBy_refl w _) (.inl (by rw [hs]; rfl)) (by have := (h.lt g (h.inn k g hk (by rw [hs]; rfl)).1); exact this)
  rw [hlen] at hr
  refine ⟨hr.1.more ?_ ?_, hr.2⟩
  · intro q hq; rcases hq with hq | hq
    · exact hq
    · omega
  · intro q hq; have := h.lt q hq; simpa [World.setCell] using this

/-- An element of slice k is written. -/
theorem Reps.store (h : Reps ety w F b hd n rows sl) (k : Nat) (hk : k < n) (g m cap : Nat) (hs : sl k = .slice (some ⟨g, 0, none⟩) m cap) (j : Nat) (u : Value) :
    Reps ety (w.setCell ⟨g, j, none⟩ u) F b hd n (upd rows k ((rows k).set j u)) sl ∧ Kp F w (w.setCell ⟨g, j, none⟩ u) := by
  have hin := h.inn k g hk (by rw [hs]; rfl)
  have ho := h.own k hk
  have hm0 : m = (rows k).length := by
    rcases ho.2 with ⟨h', h''⟩ | ⟨g', cap', cur, h', _⟩
    · rw [hs] at h'; simp at h'
    · rw [hs] at h'; simp at h'; omega
  rw [hs, ← hm0] at ho
  obtain ⟨hst, hgr⟩ := ho.stored j u
  refine ⟨⟨h.inF, fun q hq => by simpa [World.setCell] using h.lt q hq, ?_, ?_, ?_, ?_, h.inn, h.apart⟩, (Kp.refl F w).setCell _ _ (.inl hin.1)⟩
  · intro i v hi
    rw [World.cell?_setCell_other _ _ _ _ (fun e => hin.2 (congrArg Addr.block e))]
    exact h.head i v hi
  · intro i hi
    rw [World.cell?_setCell_other _ _ _ _ (fun e => hin.2 (congrArg Addr.block e))]
    exact h.cell i hi
  · intro i; rw [World.frozen?_setCell]; exact h.fz i
  · intro i hi
    by_cases e : i = k
    · subst e
      rw [upd_same, List.length_set, hs, ← hm0]
      exact hst
    · rw [upd_other _ _ e]
      refine (h.own i hi).kept hgr ?_
      cases hq : (sl i).ownBlock with
      | none => exact .inl rfl
      | some q => exact .inr fun e' => e (h.apart i k g hi hk (hq.trans e') (by rw [hs]; rfl))

/-- A slice that owns something: the row that it lies in. -/
theorem Reps.row (h : Reps ety w F b hd n rows sl) (k : Nat) (hk : k < n) (hn : 0 < (rows k).length) :
    ∃ g cap cur, sl k = .slice (some ⟨g, 0, none⟩) (rows k).length cap ∧ w.heap[g]? = some (.cells cur (ety k) (0, 0)) ∧ (rows k).length ≤ cap ∧ cap ≤ maxLen ∧ cur.size = cap ∧ cur.toList.take (rows k).length = rows k := by
  rcases (h.own k hk).2 with ⟨_, h0⟩ | ⟨g, cap, cur, h1, _, h2, h3, h4, h5, h6⟩
  · omega
  · exact ⟨g, cap, cur, h1, h2, h3, h4, by omega, by simpa using h6⟩

/-- The row of slice k is written. -/
theorem Reps.setRow (h : Reps ety w F b hd n rows sl) (k : Nat) (hk : k < n) (g m cap : Nat) (hs : sl k = .slice (some ⟨g, 0, none⟩) m cap) (cur cs : Array Value) (hg : w.heap[g]? = some (.cells cur (ety k) (0, 0)))
    (hsz : cs.size = cur.size) :
    Reps ety (w.setRow g cs) F b hd n (upd rows k (cs.toList.take m)) sl ∧ Kp F w (w.setRow g cs) := by
  have hin := h.inn k g hk (by rw [hs]; rfl)
  have ho := h.own k hk
  have hm0 : m = (rows k).length := by
    rcases ho.2 with ⟨h', h''⟩ | ⟨g', cap', cur, h', _⟩
    · rw [hs] at h'; simp at h'
    · rw [hs] at h'; simp at h'; omega
  have hgr : w.grownBy (w.setRow g cs) (some g) := ⟨rfl, rfl, rfl, by simp [World.setRow], fun q _ hq => setRow_other w g q cs (fun e => hq (by rw [e]))⟩
  have hbne : some b ≠ some g := fun e => hin.2 (Option.some.inj e).symm
  refine ⟨⟨h.inF, fun q hq => by simpa [World.setRow] using h.lt q hq, ?_, ?_, ?_, ?_, h.inn, h.apart⟩, (Kp.refl F w).grown hgr (fun q e => .inl (by injection e with e; exact e ▸ hin.1))⟩
  · intro i v hi
    rw [World.cell?_of_block (hgr.block b (h.lt b h.inF) hbne)]
    exact h.head i v hi
  · intro i hi
    rw [World.cell?_of_block (hgr.block b (h.lt b h.inF) hbne)]
    exact h.cell i hi
  · intro i
    rw [World.frozen?_of_block (hgr.block b (h.lt b h.inF) hbne)]
    exact h.fz i
  · intro i hi
    by_cases e : i = k
    · subst e
      rw [upd_same]
      rcases ho.2 with ⟨h', h''⟩ | ⟨g', cap', cur', h', hb', hg', h1, h2, h3, h4⟩
      · rw [hs] at h'; simp at h'
      · rw [hs] at h'
        simp at h'
        obtain ⟨rfl, h5, rfl⟩ := h'
        rw [hg] at hg'
        simp at hg'
        obtain rfl := hg'
        have hlen : (cs.toList.take m).length = m := by simp; omega
        rw [hlen]
        refine ⟨by simp; omega, .inr ⟨g, cap, cs, hs, by omega, setRow_heap w g cur cs (ety i) (0, 0) hg, by omega, h2, by omega, ?_⟩⟩
        rw [Nat.mul_one]
    · rw [upd_other _ _ e]
      refine (h.own i hi).kept hgr ?_
      cases hq : (sl i).ownBlock with
      | none => exact .inl rfl
      | some q => exact .inr fun e' => e (h.apart i k g hi hk (hq.trans e') (by rw [hs]; rfl))
end
end Go
