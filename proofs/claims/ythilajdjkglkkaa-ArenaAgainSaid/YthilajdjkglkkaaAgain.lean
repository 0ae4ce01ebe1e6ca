/- The invariant of ArenaAgain: all blocks are of one class; those that were given back lie in its list, the last one last. -/
import Derived.Test.YthilajdjkglkkaaMany
namespace Go.Proofs.Ythilajdjkglkkaa
open Go.RowKit

structure Ag (A : Ar) (owns fr : List Nat) (x m : Nat) : Prop where
  inv : Inv A []
  size : A.size = 2000
  quota : A.quota = 2000
  tk : ∀ p y, A.tk p y ↔ y = x ∧ p ∈ owns ∧ p ∉ fr
  fc : A.free (cls x) = fr
  nd : owns.Nodup
  sub : ∀ y ∈ fr, y ∈ owns
  used : A.used + fr.length * m = owns.length * m
  x30 : x < 30
  pw : 2 ^ cls x = m
  len : owns.length ≤ 20

theorem Ag.bd {A : Ar} {owns fr : List Nat} {x m : Nat} (h : Ag A owns fr x m) : 1 ≤ cls x ∧ cls x ≤ 5 ∧ m ≤ 32 ∧ 2 ≤ m := by
  have hx := h.x30
  have hs := cls_spec x (by omega)
  have h5 := hs.2.2.2 5 (by omega) (by omega)
  have hp := h.pw
  have h1 := Nat.pow_le_pow_right (n := 2) (by omega) h5
  have h2 := Nat.pow_le_pow_right (n := 2) (by omega) hs.1
  rw [hp] at h1 h2
  exact ⟨hs.1, h5, h1, h2⟩
theorem Ag.frlen {A : Ar} {owns fr : List Nat} {x m : Nat} (h : Ag A owns fr x m) : fr.length ≤ owns.length := by
  have hn : fr.Nodup := by rw [← h.fc]; exact h.inv.ndp _
  exact subset_len _ _ hn h.sub
theorem Ag.mul {A : Ar} {owns fr : List Nat} {x m : Nat} (h : Ag A owns fr x m) : owns.length * m ≤ 640 := by
  have h1 := h.len
  have h2 := h.bd.2.2.1
  exact Nat.mul_le_mul h1 h2

theorem Ag.new (x : Nat) (hx : x < 30) : Ag (Ar.new 2000 2000) [] [] x (2 ^ cls x) :=
  ⟨Inv.new 2000 2000 (by omega) (by omega), rfl, rfl, fun p y => by simp [Ar.tk, Ar.new], rfl, by simp, by simp, by simp [Ar.new], hx, rfl, by simp⟩

/-- while nothing was given back: the blocks come from the top -/
theorem Ag.add {A A1 : Ar} {owns : List Nat} {x m own : Nat} (h : Ag A owns [] x m) (h0 : ∀ c, A.free c = []) (ht : A.places.length = owns.length * m) (_hl : owns.length < 20) (hf : Found A (cls x) own A1) :
    own = A.places.length ∧ Ag (A1.took own (cls x) x) (owns ++ [own]) [] x m ∧ (∀ c, (A1.took own (cls x) x).free c = []) ∧ (A1.took own (cls x) x).places.length = (owns ++ [own]).length * m := by
  have hb := h.bd
  have hm := h.mul
  have hx := h.x30
  have hu := h.used
  have hq := h.quota
  have hs := h.size
  have hpw := h.pw
  simp at hu
  rcases hf with ⟨l, h1, _⟩ | ⟨h1, h2, rfl, rfl⟩ | ⟨h1, h2, d, l, h3, h4, h5, h6, _⟩
  · rw [h0] at h1; exact absurd h1 (by simp)
  · have hf : Found A (cls x) A.places.length (A.up (2 ^ cls x)) := .inr (.inl ⟨h1, h2, rfl, rfl⟩)
    obtain ⟨g1, g2, g3, g4, g5, g6⟩ := alloc_tk h.inv (by omega) (by omega) (by rw [hpw]; omega) hf
    have hno : A.places.length ∉ owns := fun hm => g3 x ((h.tk _ x).2 ⟨rfl, hm, by simp⟩)
    refine ⟨rfl, ⟨g1, g6.trans hs, g5.trans hq, fun p y => ?_, h1, ?_, by simp, ?_, hx, hpw, by simp; omega⟩, h0, ?_⟩
    · rw [g2, h.tk]
      simp only [List.mem_append, List.mem_singleton, List.not_mem_nil, not_false_eq_true, and_true]
      constructor
      · rintro (⟨rfl, rfl⟩ | ⟨_, rfl, hp⟩)
        · exact ⟨rfl, .inr rfl⟩
        · exact ⟨rfl, .inl hp⟩
      · rintro ⟨rfl, hp | rfl⟩
        · exact .inr ⟨fun e => hno (e ▸ hp), rfl, hp⟩
        · exact .inl ⟨rfl, rfl⟩
    · rw [List.nodup_append]
      exact ⟨h.nd, by simp, fun a ha b hb e => by simp at hb; subst hb; subst e; exact hno ha⟩
    · rw [g4, hpw]; simp [Nat.add_mul]; omega
    · have hfit : A.places.length + 1 + x ≤ (A.up (2 ^ cls x)).places.length := by
        have := (cls_spec x (by omega)).2.2.1
        simp [Ar.up]; omega
      rw [took_len hfit]
      simp [Ar.up, ht, hpw, Nat.add_mul]
  · rw [ht, hpw] at h2; omega

theorem Ag.never {A : Ar} {owns fr : List Nat} {x m : Nat} (h : Ag A owns fr x m) (_hl : owns.length < 20 ∨ fr ≠ []) (h0 : fr ≠ [] ∨ A.places.length = owns.length * m) : ¬ (A.quota < A.used + 2 ^ cls x ∨ Nowhere A (cls x)) := by
  have hb := h.bd
  have hm := h.mul
  have hq := h.quota
  have hs := h.size
  have hu := h.used
  rw [h.pw]
  rintro (h1 | ⟨h1, h2, _⟩)
  · omega
  · rw [h.fc] at h1
    rcases h0 with h0 | h0
    · exact h0 h1
    · rw [h.pw] at h2; omega

/-- a block is given back -/
theorem Ag.free {A : Ar} {owns fr : List Nat} {x m own : Nat} (h : Ag A owns fr x m) (ho : own ∈ owns) (hn : own ∉ fr) : A.tk own x ∧ Ag (A.freed own (cls x)) owns (fr ++ [own]) x m := by
  have hq := (h.tk own x).2 ⟨rfl, ho, hn⟩
  obtain ⟨g1, g2⟩ := h.inv.freed hq
  refine ⟨hq, g1, h.size, h.quota, fun p y => ?_, ?_, h.nd, ?_, ?_, h.x30, h.pw, h.len⟩
  · rw [freed_tk hq, h.tk]
    simp only [List.mem_append, List.mem_singleton, not_or]
    constructor
    · rintro ⟨a, b, c, d⟩; exact ⟨b, c, d, a⟩
    · rintro ⟨b, c, d, a⟩; exact ⟨a, b, c, d⟩
  · show upd A.free (cls x) _ (cls x) = _
    rw [upd_same, h.fc]
  · intro y hy
    rcases List.mem_append.1 hy with hy | hy
    · exact h.sub y hy
    · simp at hy; rw [hy]; exact ho
  · show A.used - 2 ^ cls x + _ = _
    have hu := h.used
    have hpw := h.pw
    rw [hpw] at g2
    rw [hpw]
    simp [Nat.add_mul]
    omega
theorem Ag.twice {A : Ar} {owns fr : List Nat} {x m own : Nat} (h : Ag A owns fr x m) (hn : own ∈ fr) : A.holds ((own : Int) + 1) = false := by
  unfold Ar.holds
  split
  · have hnt : A.taken[own]? ≠ some true := by
      intro ht
      obtain ⟨y, hy, _⟩ := h.inv.tkn own ht
      exact ((h.tk own y).1 ⟨ht, hy⟩).2.2 hn
    rw [show ((own : Int) + 1 - 1).toNat = own by omega, List.getD_eq_getElem?_getD]
    cases he : A.taken[own]? with
    | none => rfl
    | some b =>
      cases b with
      | false => rfl
      | true => exact absurd he hnt
  · rfl

/-- the one that was given back last comes first -/
theorem Ag.back {A A1 : Ar} {owns l : List Nat} {x m y own : Nat} (h : Ag A owns (l ++ [y]) x m) (hf : Found A (cls x) own A1) : own = y ∧ Ag (A1.took own (cls x) x) owns l x m := by
  have hb := h.bd
  have hm := h.mul
  have hx := h.x30
  have hu := h.used
  have hq := h.quota
  have hs := h.size
  have hpw := h.pw
  simp [Nat.add_mul] at hu
  have hfc := h.fc
  rcases hf with ⟨l', h1, rfl⟩ | ⟨h1, _⟩ | ⟨h1, _⟩
  · have hf : Found A (cls x) own (WithFree A (cls x) l') := .inl ⟨l', h1, rfl⟩
    rw [hfc] at h1
    obtain ⟨rfl, e2⟩ := List.append_inj' h1 rfl
    simp at e2
    subst e2
    obtain ⟨g1, g2, g3, g4, g5, g6⟩ := alloc_tk h.inv (by omega) (by omega) (by rw [hpw]; omega) hf
    have hnd : (l ++ [y]).Nodup := by rw [← hfc]; exact h.inv.ndp _
    have hyl : y ∉ l := by
      rw [List.nodup_append] at hnd
      exact fun hm => hnd.2.2 y hm y (by simp) rfl
    refine ⟨rfl, g1, g6.trans hs, g5.trans hq, fun p z => ?_, ?_, h.nd, fun z hz => h.sub z (by simp [hz]), ?_, hx, hpw, h.len⟩
    · rw [g2, h.tk]
      simp only [List.mem_append, List.mem_singleton, not_or]
      constructor
      · rintro (⟨rfl, rfl⟩ | ⟨h1, rfl, h2, h3, _⟩)
        · exact ⟨rfl, h.sub p (by simp), hyl⟩
        · exact ⟨rfl, h2, h3⟩
      · rintro ⟨rfl, h2, h3⟩
        by_cases e : p = y
        · exact .inl ⟨e, rfl⟩
        · exact .inr ⟨e, rfl, h2, h3, e⟩
    · show upd A.free (cls x) l (cls x) = l
      rw [upd_same]
    · rw [g4, hpw]; omega
  · rw [hfc] at h1; simp at h1
  · rw [hfc] at h1; simp at h1
end Go.Proofs.Ythilajdjkglkkaa
