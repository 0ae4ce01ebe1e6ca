/- The invariant of ArenaHalves: the blocks that are free lie one behind the other, from the place of the next one up to the end, each twice as long or more than the one ahead of it. -/
import Derived.Test.YthilajdjkglkkaaMany
import Derived.Test.YthilajdjkglkkaaErr
namespace Go.Proofs.Ythilajdjkglkkaa
open Go.RowKit

/-- from class d on (n classes more), the free blocks fill the places from pos to E -/
def Tile (f : Nat → List Nat) (E : Nat) : Nat → Nat → Nat → Prop
  | 0, d, pos => (f d = [] ∧ pos = E) ∨ (f d = [pos] ∧ pos + 2 ^ d = E)
  | n + 1, d, pos => (f d = [] ∧ Tile f E n (d + 1) pos) ∨ (f d = [pos] ∧ Tile f E n (d + 1) (pos + 2 ^ d))

theorem Tile.congr {f g : Nat → List Nat} {E : Nat} : ∀ n d pos, (∀ k, d ≤ k → f k = g k) → Tile f E n d pos → Tile g E n d pos
  | 0, d, pos, h, t => by
    have := h d (Nat.le_refl _)
    unfold Tile at t ⊢
    rw [← this]; exact t
  | n + 1, d, pos, h, t => by
    have := h d (Nat.le_refl _)
    unfold Tile at t ⊢
    rw [← this]
    rcases t with ⟨a, b⟩ | ⟨a, b⟩
    · exact .inl ⟨a, Tile.congr n (d + 1) pos (fun k hk => h k (by omega)) b⟩
    · exact .inr ⟨a, Tile.congr n (d + 1) _ (fun k hk => h k (by omega)) b⟩

/-- nothing free: at the end -/
theorem Tile.empty {f : Nat → List Nat} {E : Nat} : ∀ n d pos, Tile f E n d pos → (∀ k, d ≤ k → k ≤ d + n → f k = []) → pos = E
  | 0, d, pos, t, h => by
    unfold Tile at t
    rcases t with ⟨_, a⟩ | ⟨a, _⟩
    · exact a
    · rw [h d (Nat.le_refl _) (by omega)] at a; simp at a
  | n + 1, d, pos, t, h => by
    unfold Tile at t
    rcases t with ⟨_, a⟩ | ⟨a, _⟩
    · exact Tile.empty n (d + 1) pos a (fun k h1 h2 => h k (by omega) (by omega))
    · rw [h d (Nat.le_refl _) (by omega)] at a; simp at a

/-- the first class that has one has just the one at pos; what is behind goes on -/
theorem Tile.first {f : Nat → List Nat} {E : Nat} : ∀ n d pos e, Tile f E n d pos → d ≤ e → (∀ k, d ≤ k → k < e → f k = []) → f e ≠ [] → e ≤ d + n →
    f e = [pos] ∧ ((e = d + n ∧ pos + 2 ^ e = E) ∨ ∃ m, e + 1 + m = d + n ∧ Tile f E m (e + 1) (pos + 2 ^ e))
  | 0, d, pos, e, t, h1, h2, h3, h4 => by
    obtain rfl : e = d := by omega
    unfold Tile at t
    rcases t with ⟨a, _⟩ | ⟨a, b⟩
    · exact absurd a h3
    · exact ⟨a, .inl ⟨rfl, b⟩⟩
  | n + 1, d, pos, e, t, h1, h2, h3, h4 => by
    unfold Tile at t
    by_cases he : e = d
    · subst he
      rcases t with ⟨a, _⟩ | ⟨a, b⟩
      · exact absurd a h3
      · exact ⟨a, .inr ⟨n, by omega, b⟩⟩
    · have h0 := h2 d (Nat.le_refl _) (by omega)
      rcases t with ⟨_, b⟩ | ⟨a, _⟩
      · have := Tile.first n (d + 1) pos e b (by omega) (fun k a b => h2 k (by omega) b) h3 (by omega)
        refine ⟨this.1, ?_⟩
        rcases this.2 with ⟨a, b⟩ | ⟨m, a, b⟩
        · exact .inl ⟨by omega, b⟩
        · exact .inr ⟨m, by omega, b⟩
      · rw [h0] at a; simp at a

/-- a block of class e at pos is cut down to class d: what is left fills the places from pos + 2^d on -/
theorem Tile.cut {f : Nat → List Nat} {E e pos : Nat} (he : f e = []) (n : Nat) (hrest : (n = 0 ∧ pos + 2 ^ e = E) ∨ (∃ m, n = m + 1 ∧ Tile f E m (e + 1) (pos + 2 ^ e))) :
    ∀ j d, d + j = e → (∀ k, d ≤ k → k < e → f k = [pos + 2 ^ k]) → Tile f E (j + n) d (pos + 2 ^ d)
  | 0, d, hd, _ => by
    obtain rfl : d = e := by omega
    rw [Nat.zero_add]
    rcases hrest with ⟨rfl, a⟩ | ⟨m, rfl, a⟩
    · unfold Tile; exact .inl ⟨he, a⟩
    · unfold Tile; exact .inl ⟨he, a⟩
  | j + 1, d, hd, hf => by
    have ih := Tile.cut he n hrest j (d + 1) (by omega) (fun k h1 h2 => hf k (by omega) h2)
    rw [show j + 1 + n = (j + n) + 1 by omega]
    unfold Tile
    refine .inr ⟨hf d (Nat.le_refl _) (by omega), ?_⟩
    rw [show pos + 2 ^ d + 2 ^ d = pos + 2 ^ (d + 1) by rw [Nat.pow_succ]; omega]
    exact ih

structure Hv (A : Ar) (c s E m i : Nat) : Prop where
  inv : Inv A []
  size : A.size = E
  quota : A.quota = E
  top : A.places.length = E
  used : A.used = i * m
  tile : Tile A.free E (c - s) s (i * m)
  out : ∀ k, c < k → A.free k = []
  pe : 2 ^ c = E
  pm : 2 ^ s = m
  s1 : 1 ≤ s
  sc : s ≤ c
  c9 : c ≤ 9

theorem cls_pow (d : Nat) (h1 : 1 ≤ d) (h2 : d ≤ 20) : cls (2 ^ d - 1) = d := by
  have hp := two_pow_pos d
  have hle := Nat.pow_le_pow_right (n := 2) (by omega) h2
  have hs := cls_spec (2 ^ d - 1) (by omega)
  have h3 := hs.2.2.2 d h1 (by omega)
  rcases Nat.lt_or_ge (cls (2 ^ d - 1)) d with h | h
  · have := Nat.pow_le_pow_right (n := 2) (by omega) (show cls (2 ^ d - 1) ≤ d - 1 by omega)
    have e : 2 ^ d = 2 * 2 ^ (d - 1) := by
      obtain ⟨k, rfl⟩ : ∃ k, d = k + 1 := ⟨d - 1, by omega⟩
      rw [Nat.pow_succ]; simp; omega
    omega
  · omega

theorem Hv.next {A A1 : Ar} {c s E m i own : Nat} (h : Hv A c s E m i) (hi : (i + 1) * m ≤ E) (hf : Found A s own A1) : own = i * m ∧ Hv (A1.took own s (2 ^ s - 1)) c s E m (i + 1) := by
  have hpm := h.pm
  have hsz := h.size
  have hqu := h.quota
  have htp := h.top
  have hus := h.used
  have hcl := cls_pow s h.s1 (by have := h.sc; have := h.c9; omega)
  have hpos := two_pow_pos s
  have hc9 := h.c9
  have hsc := h.sc
  have hs1 := h.s1
  have hm9 : m ≤ 512 := by
    rw [← hpm]
    exact Nat.pow_le_pow_right (n := 2) (by omega) (show s ≤ 9 by omega)
  have him : (i + 1) * m = i * m + m := by rw [Nat.add_mul]; omega
  have base : ∀ A1 : Ar, Found A s own A1 → own = i * m → Tile A1.free E (c - s) s (i * m + m) → (∀ k, c < k → A1.free k = []) → own = i * m ∧ Hv (A1.took own s (2 ^ s - 1)) c s E m (i + 1) := by
    intro A1 hf ho ht hout
    have hf' : Found A (cls (2 ^ s - 1)) own A1 := by rw [hcl]; exact hf
    obtain ⟨g1, g2, g3, g4, g5, g6⟩ := alloc_tk (n := 2 ^ s - 1) h.inv (by omega) (by omega) (by rw [hcl]; omega) hf'
    rw [hcl] at g1 g4 g5 g6
    refine ⟨ho, g1, g6.trans hsz, g5.trans hqu, ?_, ?_, ?_, hout, h.pe, hpm, hs1, hsc, hc9⟩
    · have h1 := (hf.inv h.inv hs1 (by omega)).bnd own s (.inr (.inr (by simp)))
      rw [took_len (by omega)]
      rcases hf with ⟨l, _, rfl⟩ | ⟨_, h2, _⟩ | ⟨_, _, d, l, _, _, _, _, rfl⟩
      · exact htp
      · omega
      · exact htp
    · rw [g4, hus, hpm, him]
    · rw [him]; exact ht
  rcases hf with ⟨l, h1, rfl⟩ | ⟨h1, h2, _⟩ | ⟨h1, h2, d, l, h3, h4, h5, h6, rfl⟩
  · have hfi := h.tile.first _ _ _ s (Nat.le_refl _) (fun k a b => by omega) (by rw [h1]; simp) (by omega)
    rw [h1] at hfi
    obtain ⟨e1, e2⟩ := List.append_inj' (show l ++ [own] = [] ++ [i * m] from hfi.1) rfl
    simp at e2
    subst e1
    refine base _ (.inl ⟨[], h1, rfl⟩) e2 ?_ ?_
    · have hrest : (c - s = 0 ∧ i * m + 2 ^ s = E) ∨ (∃ m', c - s = m' + 1 ∧ Tile (WithFree A s []).free E m' (s + 1) (i * m + 2 ^ s)) := by
        rcases hfi.2 with ⟨a, b⟩ | ⟨m', a, b⟩
        · exact .inl ⟨by omega, b⟩
        · refine .inr ⟨m', by omega, b.congr _ _ _ (fun k hk => ?_)⟩
          show A.free k = upd A.free s [] k
          rw [upd_other _ _ (by omega)]
      have := Tile.cut (f := (WithFree A s []).free) (e := s) (pos := i * m) (upd_same _ _ _) (c - s) hrest 0 s rfl (fun k a b => by omega)
      rw [Nat.zero_add, hpm] at this
      exact this
    · intro k hk
      show upd A.free s [] k = []
      rw [upd_other _ _ (by omega)]; exact h.out k hk
  · omega
  · have hdc : d ≤ c := by
      rcases Nat.lt_or_ge c d with h' | h'
      · have := h.out d h'; rw [h5] at this; simp at this
      · exact h'
    have hfi := h.tile.first _ _ _ d (by omega) (fun k a b => by
      by_cases e : k = s
      · rw [e]; exact h1
      · exact h6 k (by omega) b) (by rw [h5]; simp) (by omega)
    rw [h5] at hfi
    obtain ⟨e1, e2⟩ := List.append_inj' (show l ++ [own] = [] ++ [i * m] from hfi.1) rfl
    simp at e2
    subst e1
    have hfr : ∀ k, (CutA (WithFree A d []) s d own).free k = if s ≤ k ∧ k < d then A.free k ++ [own + 2 ^ k] else if k = d then [] else A.free k := by
      intro k
      show (if s ≤ k ∧ k < d then upd A.free d [] k ++ [own + 2 ^ k] else upd A.free d [] k) = _
      unfold upd
      by_cases h7 : s ≤ k ∧ k < d
      · rw [if_pos h7, if_pos h7, if_neg (by omega)]
      · rw [if_neg h7, if_neg h7]
    refine base _ (.inr (.inr ⟨h1, h2, d, [], h3, h4, h5, h6, rfl⟩)) e2 ?_ ?_
    · have hrest : (c - d = 0 ∧ i * m + 2 ^ d = E) ∨ (∃ m', c - d = m' + 1 ∧ Tile (CutA (WithFree A d []) s d own).free E m' (d + 1) (i * m + 2 ^ d)) := by
        rcases hfi.2 with ⟨a, b⟩ | ⟨m', a, b⟩
        · exact .inl ⟨by omega, b⟩
        · refine .inr ⟨m', by omega, b.congr _ _ _ (fun k hk => ?_)⟩
          rw [hfr k, if_neg (by omega), if_neg (by omega)]
      have := Tile.cut (f := (CutA (WithFree A d []) s d own).free) (e := d) (pos := i * m) (by rw [hfr d, if_neg (by omega), if_pos rfl]) (c - d) hrest (d - s) s (by omega) (fun k a b => by
        rw [hfr k, if_pos ⟨a, b⟩, e2]
        by_cases e : k = s
        · rw [e, h1]; rfl
        · rw [h6 k (by omega) b]; rfl)
      rw [show d - s + (c - d) = c - s by omega, hpm] at this
      exact this
    · intro k hk
      rw [hfr k, if_neg (by omega), if_neg (by omega)]
      exact h.out k hk

theorem Hv.never {A : Ar} {c s E m i : Nat} (h : Hv A c s E m i) (hi : (i + 1) * m ≤ E) : ¬ (A.quota < A.used + 2 ^ s ∨ Nowhere A s) := by
  have him : (i + 1) * m = i * m + m := by rw [Nat.add_mul]; omega
  have hpos := two_pow_pos s
  have hsc := h.sc
  have hc9 := h.c9
  rw [h.quota, h.used, h.pm]
  rw [h.pm] at hpos
  rintro (h1 | ⟨h1, h2, h3⟩)
  · omega
  · have := h.tile.empty _ _ _ (fun k a b => by
      by_cases e : k = s
      · rw [e]; exact h1
      · exact h3 k (by omega) (by omega))
    omega

theorem whole (c : Nat) (h1 : 1 ≤ c) (h3 : c ≤ 9) : Inv (((Ar.new (2 ^ c) (2 ^ c)).up (2 ^ c)).took 0 c (2 ^ c - 1)) [] ∧ (((Ar.new (2 ^ c) (2 ^ c)).up (2 ^ c)).took 0 c (2 ^ c - 1)).tk 0 (2 ^ c - 1) := by
  have hc9 := Nat.pow_le_pow_right (n := 2) (by omega) h3
  have hcl := cls_pow c (by omega) (by omega)
  have hf : Found (Ar.new (2 ^ c) (2 ^ c)) (cls (2 ^ c - 1)) 0 ((Ar.new (2 ^ c) (2 ^ c)).up (2 ^ c)) := by
    rw [hcl]
    exact .inr (.inl ⟨rfl, by simp [Ar.new], rfl, rfl⟩)
  obtain ⟨g1, g2, g3, g4, g5, g6⟩ := alloc_tk (n := 2 ^ c - 1) (Inv.new (2 ^ c) (2 ^ c) (by omega) (Nat.le_refl _)) (by omega) (by omega) (by rw [hcl]; simp [Ar.new]) hf
  rw [hcl] at g1 g2
  exact ⟨g1, (g2 0 (2 ^ c - 1)).2 (.inl ⟨rfl, rfl⟩)⟩

theorem Hv.start (c s : Nat) (h1 : 1 ≤ s) (h2 : s ≤ c) (h3 : c ≤ 9) : Hv ((((Ar.new (2 ^ c) (2 ^ c)).up (2 ^ c)).took 0 c (2 ^ c - 1)).freed 0 c) c s (2 ^ c) (2 ^ s) 0 := by
  have hpos := two_pow_pos c
  have hc9 := Nat.pow_le_pow_right (n := 2) (by omega) h3
  have hcl := cls_pow c (by omega) (by omega)
  have hf : Found (Ar.new (2 ^ c) (2 ^ c)) (cls (2 ^ c - 1)) 0 ((Ar.new (2 ^ c) (2 ^ c)).up (2 ^ c)) := by
    rw [hcl]
    exact .inr (.inl ⟨rfl, by simp [Ar.new], rfl, rfl⟩)
  obtain ⟨g1, g2, g3, g4, g5, g6⟩ := alloc_tk (n := 2 ^ c - 1) (Inv.new (2 ^ c) (2 ^ c) (by omega) (Nat.le_refl _)) (by omega) (by omega) (by rw [hcl]; simp [Ar.new]) hf
  rw [hcl] at g1 g2 g4
  have htk := (g2 0 (2 ^ c - 1)).2 (.inl ⟨rfl, rfl⟩)
  obtain ⟨f1, f2⟩ := g1.freed htk
  rw [hcl] at f1 f2
  have hfree : ∀ k, ((((Ar.new (2 ^ c) (2 ^ c)).up (2 ^ c)).took 0 c (2 ^ c - 1)).freed 0 c).free k = if k = c then [0] else [] := by
    intro k
    show upd (fun _ => []) c ([] ++ [0]) k = _
    unfold upd
    rfl
  refine ⟨f1, rfl, rfl, ?_, ?_, ?_, ?_, rfl, rfl, h1, h2, h3⟩
  · show (((Ar.new (2 ^ c) (2 ^ c)).up (2 ^ c)).took 0 c (2 ^ c - 1)).places.length = _
    rw [took_len (by simp [Ar.up, Ar.new]; omega)]
    simp [Ar.up, Ar.new]
  · show (((Ar.new (2 ^ c) (2 ^ c)).up (2 ^ c)).took 0 c (2 ^ c - 1)).used - 2 ^ c = 0 * 2 ^ s
    rw [g4]
    simp [Ar.new]
  · rw [Nat.zero_mul]
    have key : ∀ n d, d + n = c → Tile ((((Ar.new (2 ^ c) (2 ^ c)).up (2 ^ c)).took 0 c (2 ^ c - 1)).freed 0 c).free (2 ^ c) n d 0 := by
      intro n
      induction n with
      | zero =>
        intro d hd
        obtain rfl : d = c := by omega
        unfold Tile
        exact .inr ⟨by rw [hfree, if_pos rfl], by omega⟩
      | succ n ih =>
        intro d hd
        unfold Tile
        exact .inl ⟨by rw [hfree, if_neg (by omega)], ih (d + 1) (by omega)⟩
    exact key (c - s) s (by omega)
  · intro k hk
    rw [hfree, if_neg (by omega)]
end Go.Proofs.Ythilajdjkglkkaa
