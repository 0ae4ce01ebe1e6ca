/- An arena beside several slices of one-cell values, all the call's own and apart from one another. -/
import Derived.Test.YthilajdjkglkkaaNames
namespace Go.Proofs.Ythilajdjkglkkaa
open Go.RowKit

structure Many (w wr : World) (F : Nat → Prop) (b : Nat) (A : Ar) (n : Nat) (et : Nat → TypeId) (rows : Nat → List Value) (sl : Nat → Value) : Prop where
  new : ∀ q, F q → w.heap.size ≤ q
  rep : Rep wr F b A
  out : ∀ i g, i < n → (sl i).ownBlock = some g → ¬ F g
  row : ∀ i, i < n → wr.ownsRow w.heap.size (et i) 1 (sl i) (rows i).length (rows i)
  apart : ∀ i j g, i < n → j < n → (sl i).ownBlock = some g → (sl j).ownBlock = some g → i = j
  kp : Kp (fun _ => False) w wr

section
variable {w wr w' : World} {F : Nat → Prop} {b : Nat} {A A' : Ar} {n : Nat} {et : Nat → TypeId} {rows : Nat → List Value} {sl : Nat → Value}

theorem Many.start (hk : Kp (fun _ => False) w wr) (h : Rep wr (only b) b A) (hb : w.heap.size ≤ b) (n : Nat) (et : Nat → TypeId) : Many w wr (only b) b A n et (fun _ => []) (fun _ => .slice none 0 0) :=
  ⟨fun q hq => by rw [hq]; exact hb, h, fun i g _ hg => by simp [Value.ownBlock] at hg, fun i _ => World.ownsRow_nil _ _ _ _, fun i j g _ _ hg => by simp [Value.ownBlock] at hg, hk⟩

theorem Many.step (h : Many w wr F b A n et rows sl) (hR : Rep w' (Ext F wr w') b A') (hk : Kp F wr w') : Many w w' (Ext F wr w') b A' n et rows sl := by
  have hz := h.kp.size
  refine ⟨?_, hR, ?_, fun i hi => hk.row (h.row i hi) (fun g hg => h.out i g hi hg), h.apart, h.kp.trans (hk.mono fun q hq hF => .inr ⟨h.new q hF, hq⟩)⟩
  · intro q hq
    rcases hq with hq | hq
    · exact h.new q hq
    · omega
  · intro i g hi hg hF
    rcases hF with hF | hF
    · exact h.out i g hi hg hF
    · have := ((h.row i hi).lt g hg).2; omega

theorem Many.same (h : Many w wr F b A n et rows sl) (hR : Rep w' F b A') (hk : Kp F wr w') : Many w w' F b A' n et rows sl :=
  ⟨h.new, hR, h.out, fun i hi => hk.row (h.row i hi) (fun g hg => h.out i g hi hg), h.apart, h.kp.trans (hk.mono fun q hq hF => .inr ⟨h.new q hF, hq⟩)⟩

theorem Many.bad (h : Many w wr F b A n et rows sl) (hR : Rep w' F b A) (hk : Kp (fun _ => False) wr w') : Many w w' F b A n et rows sl :=
  h.same hR (hk.mono fun _ _ e => e.elim)

/-- slice i becomes another, in its own row or in a new one -/
theorem Many.turn (h : Many w wr F b A n et rows sl) (i : Nat) (hi : i < n) {xs : List Value} {v : Value} {w2 : World} (hown : w2.ownsRow w.heap.size (et i) 1 v xs.length xs)
    (hk : Kp (fun q => (sl i).ownBlock = some q) wr w2) (hat : ∀ g, v.ownBlock = some g → (sl i).ownBlock = some g ∨ wr.heap.size ≤ g) : Many w w2 F b A n et (upd rows i xs) (upd sl i v) := by
  refine ⟨h.new, h.rep.besides hk (fun q hF hv => h.out i q hi hv hF), ?_, ?_, ?_, h.kp.trans (hk.mono fun q hq hv => .inr ((h.row i hi).lt q hv))⟩
  · intro j g hj hg hF
    by_cases e : j = i
    · subst e
      rw [upd_same] at hg
      rcases hat g hg with e | e
      · exact h.out j g hj e hF
      · have := h.rep.ltF g hF; omega
    · rw [upd_other _ _ e] at hg
      exact h.out j g hj hg hF
  · intro j hj
    by_cases e : j = i
    · subst e
      rw [upd_same, upd_same]; exact hown
    · rw [upd_other _ _ e, upd_other _ _ e]
      exact hk.row (h.row j hj) (fun g hg hv => e (h.apart j i g hj hi hg hv))
  · intro j k g hj hk' hg1 hg2
    have far : ∀ j, j < n → j ≠ i → (sl j).ownBlock = some g → v.ownBlock = some g → False := by
      intro j hj e hg hv
      rcases hat g hv with e2 | e2
      · exact e (h.apart j i g hj hi hg e2)
      · have := ((h.row j hj).lt g hg).2; omega
    by_cases e1 : j = i <;> by_cases e2 : k = i
    · rw [e1, e2]
    · rw [e1, upd_same] at hg1
      rw [upd_other _ _ e2] at hg2
      exact (far k hk' e2 hg2 hg1).elim
    · rw [e2, upd_same] at hg2
      rw [upd_other _ _ e1] at hg1
      exact (far j hj e1 hg1 hg2).elim
    · rw [upd_other _ _ e1] at hg1
      rw [upd_other _ _ e2] at hg2
      exact h.apart j k g hj hk' hg1 hg2

/-- a value is appended to slice i -/
theorem Many.push (h : Many w wr F b A n et rows sl) (i : Nat) (hi : i < n) {o : Obj} {g cap m : Nat} {x : Value} {w2 : World} (k : Nat) (hm : (rows i).length + 1 = m)
    (hown : w2.ownsRow w.heap.size (et i) 1 (.slice (some ⟨g, 0, none⟩) m cap) m (rows i ++ [x]))
    (hg : ((wr.alloc o).drewN k).grownBy w2 (sl i).ownBlock) (hat : (sl i).ownBlock = some g ∨ g = wr.heap.size + 1) :
    Many w w2 F b A n et (upd rows i (rows i ++ [x])) (upd sl i (.slice (some ⟨g, 0, none⟩) m cap)) := by
  subst hm
  have hk0 : Kp (fun _ => False) wr ((wr.alloc o).drewN k) := by
    have := (Kp.refl (fun _ => False) wr).alloc o
    exact ⟨this.os, this.tape, this.output, this.size, this.block⟩
  have hk : Kp (fun q => (sl i).ownBlock = some q) wr w2 := (hk0.mono fun _ _ e => e.elim).grown hg (fun q hq => .inl hq)
  refine h.turn i hi (by simpa using hown) hk ?_
  intro g' hg'
  simp [Value.ownBlock] at hg'
  subst hg'
  rcases hat with e | e
  · exact .inl e
  · exact .inr (by omega)

/-- what an append to slice i asks -/
theorem Many.app (h : Many w wr F b A n et rows sl) (i : Nat) (hi : i < n) (x : Value) (hx : x.oneCell' = true) (hl : (rows i).length ≤ 17592186044415) :
    (∀ o, (wr.alloc o).ownsRow w.heap.size (et i) 1 (sl i) (rows i).length (rows i)) ∧ (∀ j u, [x][j]? = some u → (wr.alloc (.cells #[x] (et i))).cell? ((⟨wr.heap.size, 0, none⟩ : Addr).add j) = some u) ∧
      (∀ u ∈ [x], u.oneCell' = true) ∧ (∀ o, w.heap.size ≤ (wr.alloc o).heap.size) ∧ Hid ((rows i).length + 1 ≤ maxLen ∧ ((rows i).length + 1) * 8 ≤ 140737488355328) := by
  have hz := h.kp.size
  refine ⟨fun o => (h.row i hi).alloc o, World.news_of_block (cs := #[x]) (heap_alloc_new wr _), fun u hu => ?_, fun o => by simp; omega, by unfold maxLen; omega, by omega⟩
  simp at hu; subst hu; exact hx

/-- an element of slice i -/
theorem Many.get (h : Many w wr F b A n et rows sl) (i : Nat) (hi : i < n) (j : Nat) (x : Value) (hj : (rows i)[j]? = some x) : ∃ g cap, sl i = .slice (some ⟨g, 0, none⟩) (rows i).length cap ∧ wr.cell? ⟨g, j, none⟩ = some x := by
  have hlt := (List.getElem?_eq_some_iff.1 hj).1
  have hr := h.row i hi
  have ho : wr.ownsRow 0 (et i) 1 (sl i) (rows i).length (rows i) := by
    refine ⟨hr.1, ?_⟩
    rcases hr.2 with hn | ⟨g, cap, cur, h1, _, h2⟩
    · exact .inl hn
    · exact .inr ⟨g, cap, cur, h1, by omega, h2⟩
  obtain ⟨g, cap, hv, _, _⟩ := row_cons ho (by omega)
  refine ⟨g, cap, hv, ?_⟩
  rw [hv] at ho
  rw [ho.cellAt j (by omega), hj]
theorem Many.form (h : Many w wr F b A n et rows sl) (i : Nat) (hi : i < n) : ∃ po cap, sl i = .slice po (rows i).length cap := by
  rcases (h.row i hi).2 with ⟨e, h0⟩ | ⟨g, cap, _, e, _⟩
  · rw [h0]; exact ⟨_, _, e⟩
  · exact ⟨_, _, e⟩
end

/-! ### how many blocks are taken -/
theorem subset_len : ∀ (l m : List Nat), l.Nodup → (∀ x ∈ l, x ∈ m) → l.length ≤ m.length := by
  intro l
  induction l with
  | nil => intro m _ _; simp
  | cons a l ih =>
    intro m hd hs
    simp only [List.nodup_cons] at hd
    have ha := hs a (by simp)
    have := ih (m.erase a) hd.2 (fun x hx => by
      have hxm := hs x (List.mem_cons_of_mem _ hx)
      have hne : x ≠ a := fun e => hd.1 (e ▸ hx)
      exact (List.mem_erase_of_ne hne).2 hxm)
    rw [List.length_erase_of_mem ha] at this
    have : 0 < m.length := List.length_pos_of_mem ha
    simp
    omega

theorem namesTo_nodup (l : List Bool) (k : Nat) : (namesTo l k).Nodup ∧ ∀ x ∈ namesTo l k, x ≤ k := by
  induction k with
  | zero => exact ⟨by simp [namesTo], fun x hx => by simp [namesTo] at hx⟩
  | succ k ih =>
    rw [namesTo_succ]
    by_cases hx : l.getD k false = true
    · rw [if_pos hx]
      constructor
      · rw [List.nodup_append]
        refine ⟨ih.1, by simp, ?_⟩
        intro a ha b hb e
        simp at hb
        have := ih.2 a ha
        omega
      · intro x hx
        rw [List.mem_append] at hx
        rcases hx with hx | hx
        · have := ih.2 x hx; omega
        · simp at hx; omega
    · rw [if_neg hx, List.append_nil]
      exact ⟨ih.1, fun x hx => by have := ih.2 x hx; omega⟩

theorem mem_names (A : Ar) (x : Nat) : x ∈ A.names ↔ ∃ q, A.taken[q]? = some true ∧ x = q + 1 := by
  unfold Ar.names namesTo
  rw [List.mem_filterMap]
  constructor
  · rintro ⟨q, hq, h⟩
    have hlt := List.mem_range.1 hq
    split at h
    · rename_i ht
      simp at h
      refine ⟨q, ?_, h.symm⟩
      rw [List.getD_eq_getElem?_getD, List.getElem?_eq_getElem hlt] at ht
      rw [List.getElem?_eq_getElem hlt]
      simpa using ht
    · simp at h
  · rintro ⟨q, hq, rfl⟩
    have hlt := (List.getElem?_eq_some_iff.1 hq).1
    refine ⟨q, List.mem_range.2 hlt, ?_⟩
    rw [List.getD_eq_getElem?_getD, hq]
    rfl

theorem names_len {A : Ar} {L : List (Nat × Nat)} (hI : Inv A L) (owns : List Nat) (hd : owns.Nodup) (h : ∀ q : Nat, (∃ n, A.tk q n) ↔ q ∈ owns) : A.names.length = owns.length := by
  have hn := (namesTo_nodup A.taken A.taken.length).1
  have h1 : A.names.length ≤ (owns.map (· + 1)).length := subset_len _ _ hn (fun x hx => by
    obtain ⟨q, hq, rfl⟩ := (mem_names A x).1 hx
    obtain ⟨n, hn, _⟩ := hI.tkn q hq
    exact List.mem_map.2 ⟨q, (h q).1 ⟨n, hq, hn⟩, rfl⟩)
  have hd2 : (owns.map (· + 1)).Nodup := by
    rw [List.nodup_iff_pairwise_ne] at hd ⊢
    rw [List.pairwise_map]
    exact hd.imp (fun hab e => hab (by omega))
  have h2 : (owns.map (· + 1)).length ≤ A.names.length := subset_len _ _ hd2 (fun x hx => by
    obtain ⟨q, hq, rfl⟩ := List.mem_map.1 hx
    obtain ⟨n, hn⟩ := (h q).2 hq
    exact (mem_names A _).2 ⟨q, hn.1, rfl⟩)
  simp at h1 h2
  omega
end Go.Proofs.Ythilajdjkglkkaa
