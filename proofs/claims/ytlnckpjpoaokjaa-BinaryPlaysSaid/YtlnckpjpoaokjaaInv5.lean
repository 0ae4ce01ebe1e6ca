/- binary: what always holds of a heap is kept. -/
import Derived.Test.YtlnckpjpoaokjaaPart
import Derived.Test.YtlnckpjpoaokjaaDrop
namespace Go.Proofs.Ytlnckpjpoaokjaa
open Go.RowKit

theorem sumL_cons (s : Sl) (l : List Sl) : sumL (s :: l) = s.bs.length + sumL l := by simp [sumL]
theorem sumL_snoc (l : List Sl) (s : Sl) : sumL (l ++ [s]) = sumL l + s.bs.length := by simp [sumL]
theorem sumL_set : ∀ (l : List Sl) (i : Nat) (s s' : Sl), l[i]? = some s → sumL (l.set i s') + s.bs.length = sumL l + s'.bs.length
  | [], i, s, s', h => by simp at h
  | t :: l, 0, s, s', h => by simp at h; subst h; simp [sumL_cons]; omega
  | t :: l, i + 1, s, s', h => by
    have ih := sumL_set l i s s' (by simpa using h)
    simp only [List.set_cons_succ, sumL_cons]
    omega
theorem sumL_le : ∀ (l : List Sl) (i : Nat) (s : Sl), l[i]? = some s → s.bs.length ≤ sumL l
  | [], i, s, h => by simp at h
  | t :: l, 0, s, h => by simp at h; subst h; simp [sumL_cons]
  | t :: l, i + 1, s, h => by
    have ih := sumL_le l i s (by simpa using h)
    rw [sumL_cons]; omega

section
variable {N M : Nat} {a a1 : Bn} {i : Nat} {s s' : Sl}
theorem BInv.mono (h : BInv N a) (hm : N ≤ M) : BInv M a := ⟨h.most, h.room, h.len, h.sum, h.le, h.nodup, h.fr, h.em, fun i s hs => by have := h.bd i s hs; omega⟩
theorem inv_new (m r : Nat) (h1 : 1 ≤ m) (h2 : m ≤ 4096) (h3 : r ≤ 1048576) (N : Nat) : BInv N (aNew m r) :=
  ⟨⟨h1, h2⟩, h3, by simp [aNew], by simp [aNew, sumL], by simp [aNew], by simp [aNew], fun i => by simp [aNew], fun i s hs => by simp [aNew] at hs, fun i s hs => by simp [aNew] at hs⟩

theorem getset {l : List Sl} {i j : Nat} {s s' t : Sl} (hs : l[i]? = some s) (h : (l.set i s')[j]? = some t) : (j = i ∧ t = s') ∨ (j ≠ i ∧ l[j]? = some t) := by
  have hl := (List.getElem?_eq_some_iff.1 hs).1
  by_cases e : j = i
  · subst e
    rw [List.getElem?_set_self hl] at h
    injection h with h
    exact .inl ⟨rfl, h.symm⟩
  · rw [List.getElem?_set_ne (fun e' => e e'.symm)] at h
    exact .inr ⟨e, h⟩

/-- a slot that is held is held otherwise -/
theorem BInv.held (h : BInv N a) (hs : a.slots[i]? = some s) (hc : 0 < s.count) (c : Nat) (hc' : 0 < c) (hM : c ≤ M) (hN : N ≤ M) : BInv M { a with slots := a.slots.set i ⟨s.bs, c, s.gen⟩ } := by
  have hl := (List.getElem?_eq_some_iff.1 hs).1
  refine ⟨h.most, h.room, by simpa using h.len, ?_, h.le, h.nodup, fun j => ?_, fun j t ht h0 => ?_, fun j t ht => ?_⟩
  · have := sumL_set a.slots i s ⟨s.bs, c, s.gen⟩ hs
    have := h.sum
    simp only at *
    omega
  · rw [h.fr j]
    refine ⟨fun ⟨t, h1, h2⟩ => ?_, fun ⟨t, h1, h2⟩ => ?_⟩
    · have hij : j ≠ i := fun e => by subst e; rw [hs] at h1; injection h1 with h1; subst h1; omega
      exact ⟨t, by rw [List.getElem?_set_ne (fun e => hij e.symm)]; exact h1, h2⟩
    · rcases getset hs h1 with ⟨_, rfl⟩ | ⟨_, h3⟩
      · simp only at h2; omega
      · exact ⟨t, h3, h2⟩
  · rcases getset hs ht with ⟨_, rfl⟩ | ⟨_, h3⟩
    · simp only at h0; omega
    · exact h.em j t h3 h0
  · rcases getset hs ht with ⟨_, rfl⟩ | ⟨_, h3⟩
    · have := h.bd i s hs; simp only; omega
    · have := h.bd j t h3; omega

/-- a slot is freed -/
theorem BInv.drop (h : BInv N a) (hs : a.slots[i]? = some s) (hc : 0 < s.count) (hM : s.gen + 1 ≤ M) (hN : N ≤ M) : BInv M { a with used := a.used - s.bs.length, slots := a.slots.set i ⟨[], 0, s.gen + 1⟩, free := a.free ++ [i] } := by
  have hl := (List.getElem?_eq_some_iff.1 hs).1
  have hni : i ∉ a.free := fun hm => by
    obtain ⟨t, h1, h2⟩ := (h.fr i).1 hm
    rw [hs] at h1; injection h1 with h1; subst h1; omega
  refine ⟨h.most, h.room, by simpa using h.len, ?_, by have := h.le; simp only; omega, ?_, fun j => ?_, fun j t ht h0 => ?_, fun j t ht => ?_⟩
  · have h1 := sumL_set a.slots i s ⟨[], 0, s.gen + 1⟩ hs
    have h2 := h.sum
    have h3 := sumL_le a.slots i s hs
    simp only [List.length_nil] at *
    omega
  · rw [List.nodup_append]
    exact ⟨h.nodup, by simp, fun x hx y hy => by simp at hy; subst hy; intro e; subst e; exact hni hx⟩
  · rw [List.mem_append, h.fr j]
    refine ⟨fun hh => ?_, fun ⟨t, h1, h2⟩ => ?_⟩
    · rcases hh with ⟨t, h1, h2⟩ | hh
      · have hij : j ≠ i := fun e => by subst e; rw [hs] at h1; injection h1 with h1; subst h1; omega
        exact ⟨t, by rw [List.getElem?_set_ne (fun e => hij e.symm)]; exact h1, h2⟩
      · simp at hh
        subst hh
        exact ⟨⟨[], 0, s.gen + 1⟩, List.getElem?_set_self hl, rfl⟩
    · rcases getset hs h1 with ⟨e, rfl⟩ | ⟨_, h3⟩
      · exact .inr (by simp [e])
      · exact .inl ⟨t, h3, h2⟩
  · rcases getset hs ht with ⟨_, rfl⟩ | ⟨_, h3⟩
    · rfl
    · exact h.em j t h3 h0
  · rcases getset hs ht with ⟨_, rfl⟩ | ⟨_, h3⟩
    · simp only; omega
    · have := h.bd j t h3; omega

/-- a binary is put in -/
theorem BInv.put (h : BInv N a) (ht : Taken a i s a1) {l : List UInt8} (hl : a.used + l.length ≤ a.room) (hN : 1 ≤ N) : BInv N (putIn a1 i s l) := by
  rcases ht.how with ⟨hf, hL, rfl, hg, rfl⟩ | ⟨rest, hf, hs, rfl⟩
  · have hs0 : s = ⟨[], 0, 0⟩ := by
      have := ht.slot
      simp at this
      exact this.symm
    subst hs0
    have he : (a.slots ++ [(⟨[], 0, 0⟩ : Sl)]).set a.slots.length ⟨l, 1, 0⟩ = a.slots ++ [(⟨l, 1, 0⟩ : Sl)] := by simp
    have hp : putIn { a with slots := a.slots ++ [(⟨[], 0, 0⟩ : Sl)] } a.slots.length ⟨[], 0, 0⟩ l = { a with used := a.used + l.length, slots := a.slots ++ [(⟨l, 1, 0⟩ : Sl)] } := by
      unfold putIn
      simp only [he]
    rw [hp]
    clear hp he ht
    have get : ∀ {j : Nat} {t : Sl}, (a.slots ++ [(⟨l, 1, 0⟩ : Sl)])[j]? = some t → (j = a.slots.length ∧ t = ⟨l, 1, 0⟩) ∨ a.slots[j]? = some t := by
      intro j t hj
      by_cases hlt : j < a.slots.length
      · rw [List.getElem?_append_left hlt] at hj
        exact .inr hj
      · have h2 := (List.getElem?_eq_some_iff.1 hj).1
        simp at h2
        obtain rfl : j = a.slots.length := by omega
        simp at hj
        exact .inl ⟨rfl, hj.symm⟩
    refine ⟨h.most, h.room, by simp; omega, by simp only [sumL_snoc]; have := h.sum; omega, by simpa using hl, h.nodup, fun j => ?_, fun j t hj h0 => ?_, fun j t hj => ?_⟩
    · rw [h.fr j]
      refine ⟨fun ⟨t, h1, h2⟩ => ⟨t, ?_, h2⟩, fun ⟨t, h1, h2⟩ => ?_⟩
      · rw [List.getElem?_append_left (List.getElem?_eq_some_iff.1 h1).1]; exact h1
      · rcases get h1 with ⟨_, rfl⟩ | h3
        · simp at h2
        · exact ⟨t, h3, h2⟩
    · rcases get hj with ⟨_, rfl⟩ | h3
      · simp at h0
      · exact h.em j t h3 h0
    · rcases get hj with ⟨_, rfl⟩ | h3
      · simp only; omega
      · exact h.bd j t h3
  · have hli := (List.getElem?_eq_some_iff.1 hs).1
    have hb := ht.bs
    have hc := ht.cnt
    have hnd := h.nodup
    rw [hf, List.nodup_append] at hnd
    unfold putIn
    refine ⟨h.most, h.room, by simpa using h.len, ?_, by simpa using hl, hnd.1, fun j => ?_, fun j t hj h0 => ?_, fun j t hj => ?_⟩
    · have h1 := sumL_set a.slots i s ⟨l, 1, s.gen⟩ hs
      have h2 := h.sum
      rw [hb] at h1
      simp only [List.length_nil] at *
      omega
    · have hj := h.fr j
      rw [hf, List.mem_append] at hj
      refine ⟨fun hm => ?_, fun ⟨t, h1, h2⟩ => ?_⟩
      · obtain ⟨t, h1, h2⟩ := hj.1 (.inl hm)
        have hij : j ≠ i := fun e => hnd.2.2 j hm i (by simp) e
        exact ⟨t, by simp only; rw [List.getElem?_set_ne (fun e => hij e.symm)]; exact h1, h2⟩
      · rcases getset hs h1 with ⟨_, rfl⟩ | ⟨hij, h3⟩
        · simp at h2
        · rcases hj.2 ⟨t, h3, h2⟩ with h4 | h4
          · exact h4
          · simp at h4; exact absurd h4 hij
    · rcases getset hs hj with ⟨_, rfl⟩ | ⟨_, h3⟩
      · simp at h0
      · exact h.em j t h3 h0
    · rcases getset hs hj with ⟨_, rfl⟩ | ⟨_, h3⟩
      · have := h.bd i s hs; simp only; omega
      · exact h.bd j t h3
end

/-- one heap of binaries, and nothing else that is new but what is not looked at any more -/
structure Solo (w wr : World) (b : Nat) (N : Nat) (a : Bn) (F : Nat → Prop) : Prop where
  at' : BAt F wr b a
  inv : BInv N a
  new : ∀ q, F q → w.heap.size ≤ q
  kp : Kp (fun _ => False) w wr

section
variable {w wr w2 : World} {b N M : Nat} {a a' : Bn} {F : Nat → Prop}
theorem Solo.step (h : Solo w wr b N a F) (hg : BGo F wr b a' w2) (hI : BInv M a') : ∃ F', Solo w w2 b M a' F' := by
  obtain ⟨hk, F', hn, hB⟩ := hg
  refine ⟨F', hB, hI, fun q hq => ?_, h.kp.trans (hk.mono fun q hq hF => .inr ⟨h.new q hF, hq⟩)⟩
  rcases hn q hq with e | e
  · exact h.new q e
  · exact Nat.le_trans h.kp.size e
theorem Solo.same (h : Solo w wr b N a F) (hk : Kp (fun _ => False) wr w2) : Solo w w2 b N a F := ⟨h.at'.kp hk (fun _ _ e => e), h.inv, h.new, h.kp.trans' hk⟩
theorem Solo.mono (h : Solo w wr b N a F) (hm : N ≤ M) : Solo w wr b M a F := ⟨h.at', h.inv.mono hm, h.new, h.kp⟩
theorem Solo.below (h : Solo w wr b N a F) : Below w.heap.size w wr := h.kp.below _ (Nat.le_refl _) (fun _ e => e.elim)
end
end Go.Proofs.Ytlnckpjpoaokjaa
