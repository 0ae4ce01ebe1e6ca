/- The arena's invariant, on the data alone: blocks that are taken, free or loose share no place, and lie below the top; Used is the sum of the classes of what is taken. -/
import Derived.Test.YtkcmfldcdokobaaGreatDoorM07
/- The arena's invariant, on the data alone: blocks that are taken, free or loose share no place, and lie below the top; Used is the sum of the classes of what is taken. -/
namespace Go.Proofs.YtkcmfldcdokobaaGreatDoor
open Go.RowKit

/-- q is the own place of a block that is taken, for n words -/
def Ar.tk (A : Ar) (q n : Nat) : Prop := A.taken[q]? = some true ∧ A.places[q]? = some (n : Int)

/-- a block of class c at q: taken, free, or loose -/
def Ar.blk (A : Ar) (L : List (Nat × Nat)) (q c : Nat) : Prop := (∃ n, A.tk q n ∧ cls n = c) ∨ q ∈ A.free c ∨ (q, c) ∈ L

def usum (t : List Bool) (p : List Int) : Nat := ((List.range t.length).map fun q => if t.getD q false then 2 ^ cls (p.getD q 0).toNat else 0).sum

structure Inv (A : Ar) (L : List (Nat × Nat)) : Prop where
  size : A.size ≤ 1048576
  quota : A.quota ≤ A.size
  len : A.taken.length = A.places.length
  top : A.places.length ≤ A.size
  bnd : ∀ q c, A.blk L q c → 1 ≤ c ∧ c ≤ 20 ∧ q + 2 ^ c ≤ A.places.length
  dis : ∀ q c q' c', A.blk L q c → A.blk L q' c' → (q ≠ q' ∨ c ≠ c') → q + 2 ^ c ≤ q' ∨ q' + 2 ^ c' ≤ q
  tkn : ∀ q : Nat, A.taken[q]? = some true → ∃ n : Nat, A.places[q]? = some (n : Int) ∧ n ≤ 1048576
  tfr : ∀ q c : Nat, A.taken[q]? = some true → q ∉ A.free c ∧ (q, c) ∉ L
  ndp : ∀ c, (A.free c).Nodup
  lfr : ∀ q c, (q, c) ∈ L → q ∉ A.free c
  ndl : L.Nodup
  used : A.used = usum A.taken A.places
  uq : A.used ≤ A.quota

theorem two_pow_pos (c : Nat) : 0 < 2 ^ c := Nat.pow_pos (by omega)

theorem Inv.tk_of {A : Ar} {L : List (Nat × Nat)} (h : Inv A L) {q : Nat} (hq : A.taken[q]? = some true) : ∃ n, A.tk q n ∧ n ≤ 1048576 ∧ n + 1 ≤ 2 ^ cls n ∧ 1 ≤ cls n ∧ cls n ≤ 20 ∧ q + 2 ^ cls n ≤ A.places.length := by
  obtain ⟨n, h1, h2⟩ := h.tkn q hq
  have hb := h.bnd q (cls n) (.inl ⟨n, ⟨hq, h1⟩, rfl⟩)
  exact ⟨n, ⟨hq, h1⟩, h2, (cls_spec n h2).2.2.1, hb⟩

theorem Inv.block {A : Ar} {L : List (Nat × Nat)} (h : Inv A L) {q n : Nat} (hq : A.tk q n) : A.block q n ∧ n + 1 ≤ 2 ^ cls n ∧ 1 ≤ cls n ∧ cls n ≤ 20 ∧ q + 2 ^ cls n ≤ A.places.length := by
  obtain ⟨m, h1, h2, h3, h4⟩ := h.tk_of hq.1
  have : (m : Int) = n := by
    have e := h1.2.symm.trans hq.2
    exact Option.some.inj e
  have e : m = n := by omega
  subst e
  exact ⟨⟨hq.1, hq.2, h2⟩, h3, h4⟩

/-! ### sums -/
theorem le_sum {x : Nat} : ∀ {l : List Nat}, x ∈ l → x ≤ l.sum
  | y :: l, h => by
    rw [List.sum_cons]
    rcases List.mem_cons.1 h with h | h
    · omega
    · have := le_sum h; omega
theorem usum_pow (t : List Bool) (p : List Int) (q : Nat) (hq : t[q]? = some true) : 2 ^ cls (p.getD q 0).toNat ≤ usum t p := by
  have hlt : q < t.length := (List.getElem?_eq_some_iff.1 hq).1
  have hm : (2 ^ cls (p.getD q 0).toNat) ∈ (List.range t.length).map fun q => if t.getD q false then 2 ^ cls (p.getD q 0).toNat else 0 := by
    rw [List.mem_map]
    refine ⟨q, List.mem_range.2 hlt, ?_⟩
    rw [List.getD_eq_getElem?_getD, hq]
    rfl
  exact le_sum hm

theorem sum_map_congr {l : List Nat} {f g : Nat → Nat} (h : ∀ x ∈ l, f x = g x) : (l.map f).sum = (l.map g).sum := by
  rw [List.map_congr_left h]

theorem sum_range_point (n q v : Nat) (f g : Nat → Nat) (hq : q < n) (hf : f q = v) (hg : g q = 0) (h : ∀ x, x < n → x ≠ q → f x = g x) : ((List.range n).map f).sum = ((List.range n).map g).sum + v := by
  induction n with
  | zero => omega
  | succ n ih =>
    rw [List.range_succ, List.map_append, List.map_append, List.sum_append, List.sum_append]
    simp only [List.map_cons, List.map_nil, List.sum_cons, List.sum_nil]
    by_cases e : q = n
    · subst e
      have : ((List.range q).map f).sum = ((List.range q).map g).sum := sum_map_congr (fun x hx => h x (by have := List.mem_range.1 hx; omega) (by have := List.mem_range.1 hx; omega))
      omega
    · have := ih (by omega) (fun x hx => h x (by omega))
      have := h n (by omega) (fun e' => e e'.symm)
      omega

theorem sum_range_ext (n m : Nat) (f : Nat → Nat) (hnm : n ≤ m) (h : ∀ x, n ≤ x → x < m → f x = 0) : ((List.range m).map f).sum = ((List.range n).map f).sum := by
  induction m with
  | zero =>
    obtain rfl : n = 0 := by omega
    rfl
  | succ m ih =>
    by_cases e : n = m + 1
    · rw [e]
    · rw [List.range_succ, List.map_append, List.sum_append, ih (by omega) (fun x h1 h2 => h x h1 (by omega))]
      simp [h m (by omega) (by omega)]

theorem sum_zeros (l : List Nat) : (l.map fun _ => 0).sum = 0 := by
  induction l with
  | nil => rfl
  | cons a l ih => simp [ih]

/-- nothing is taken: the sum is 0 -/
theorem usum_zero (t : List Bool) (p : List Int) (h : ∀ q : Nat, t[q]? ≠ some true) : usum t p = 0 := by
  unfold usum
  have : (List.range t.length).map (fun q => if t.getD q false then 2 ^ cls (p.getD q 0).toNat else 0) = (List.range t.length).map (fun _ => 0) := by
    apply List.map_congr_left
    intro q hq
    have hlt := List.mem_range.1 hq
    have := h q
    rw [List.getD_eq_getElem?_getD]
    rw [List.getElem?_eq_getElem hlt] at this ⊢
    simp at this
    simp [this]
  rw [this]
  exact sum_zeros _

/-! ### the steps -/
theorem Inv.up {A : Ar} (h : Inv A []) (c : Nat) (h1 : 1 ≤ c) (h2 : c ≤ 20) (hr : A.places.length + 2 ^ c ≤ A.size) : Inv (A.up (2 ^ c)) [(A.places.length, c)] := by
  have hpos := two_pow_pos c
  have htl : ∀ q : Nat, (A.taken ++ List.replicate (2 ^ c) false)[q]? = some true ↔ A.taken[q]? = some true := by
    intro q
    by_cases hq : q < A.taken.length
    · rw [List.getElem?_append_left hq]
    · rw [List.getElem?_append_right (by omega), List.getElem?_eq_none (show A.taken.length ≤ q by omega), List.getElem?_replicate]
      split <;> simp
  have htk : ∀ q n, (A.up (2 ^ c)).tk q n ↔ A.tk q n := by
    intro q n
    unfold Ar.tk
    show (A.taken ++ _)[q]? = _ ∧ (A.places ++ _)[q]? = _ ↔ _
    rw [htl]
    constructor
    · rintro ⟨a, b⟩
      have := (List.getElem?_eq_some_iff.1 a).1
      rw [List.getElem?_append_left (by rw [← h.len]; exact this)] at b
      exact ⟨a, b⟩
    · rintro ⟨a, b⟩
      have := (List.getElem?_eq_some_iff.1 a).1
      rw [List.getElem?_append_left (by rw [← h.len]; exact this)]
      exact ⟨a, b⟩
  have hpl : (A.up (2 ^ c)).places.length = A.places.length + 2 ^ c := by simp [Ar.up]
  have hbl : ∀ q d, (A.up (2 ^ c)).blk [(A.places.length, c)] q d → A.blk [] q d ∨ (q = A.places.length ∧ d = c) := by
    rintro q d (⟨n, a, b⟩ | a | a)
    · exact .inl (.inl ⟨n, (htk q n).1 a, b⟩)
    · exact .inl (.inr (.inl a))
    · simp at a; exact .inr a
  refine ⟨h.size, h.quota, by simp [Ar.up, h.len], by rw [hpl]; exact hr, ?_, ?_, ?_, ?_, h.ndp, ?_, by simp, ?_, h.uq⟩
  · intro q d hb
    rw [hpl]
    rcases hbl q d hb with hb | ⟨rfl, rfl⟩
    · have := h.bnd q d hb; omega
    · exact ⟨h1, h2, Nat.le_refl _⟩
  · intro q d q' d' hb hb' hne
    rcases hbl q d hb with g1 | ⟨e1, e2⟩ <;> rcases hbl q' d' hb' with g2 | ⟨e3, e4⟩
    · exact h.dis q d q' d' g1 g2 hne
    · have := h.bnd q d g1; omega
    · have := h.bnd q' d' g2; omega
    · omega
  · intro q hq
    have hq' := (htl q).1 hq
    obtain ⟨n, a, b⟩ := h.tkn q hq'
    have hlt := (List.getElem?_eq_some_iff.1 a).1
    exact ⟨n, by show (A.places ++ _)[q]? = _; rw [List.getElem?_append_left hlt]; exact a, b⟩
  · intro q d hq
    have hq' := (htl q).1 hq
    have hlt := (List.getElem?_eq_some_iff.1 hq').1
    refine ⟨(h.tfr q d hq').1, ?_⟩
    have hl := h.len
    simp; omega
  · intro q d hm
    simp at hm
    intro hf
    have := h.bnd q d (.inr (.inl hf))
    have := two_pow_pos d
    omega
  · show A.used = usum (A.taken ++ List.replicate (2 ^ c) false) (A.places ++ List.replicate (2 ^ c) 0)
    rw [h.used]
    unfold usum
    rw [sum_range_ext A.taken.length (A.taken ++ List.replicate (2 ^ c) false).length _ (by simp)]
    · apply sum_map_congr
      intro q hq
      have hlt := List.mem_range.1 hq
      have hl := h.len
      simp only [List.getD_eq_getElem?_getD]
      rw [List.getElem?_append_left hlt, List.getElem?_append_left (by omega)]
    · intro x hx hx2
      simp only [List.getD_eq_getElem?_getD]
      rw [List.getElem?_append_right hx, List.getElem?_replicate]
      split <;> simp

theorem Inv.pop {A : Ar} (h : Inv A []) (c x : Nat) (l : List Nat) (hf : A.free c = l ++ [x]) : Inv (WithFree A c l) [(x, c)] := by
  have hx : x ∈ A.free c := by rw [hf]; simp
  have hb := h.bnd x c (.inr (.inl hx))
  have hnd := h.ndp c
  rw [hf] at hnd
  have hxl : x ∉ l := by
    rw [List.nodup_append] at hnd
    intro hm
    exact hnd.2.2 x hm x (by simp) rfl
  have hsub : ∀ q d, q ∈ (WithFree A c l).free d → q ∈ A.free d := by
    intro q d
    show q ∈ upd A.free c l d → _
    by_cases e : d = c
    · subst e; rw [upd_same, hf]; intro hm; simp [hm]
    · rw [upd_other _ _ e]; exact id
  have hbl : ∀ q d, (WithFree A c l).blk [(x, c)] q d → A.blk [] q d := by
    rintro q d (a | a | a)
    · exact .inl a
    · exact .inr (.inl (hsub q d a))
    · simp at a
      obtain ⟨rfl, rfl⟩ := a
      exact .inr (.inl hx)
  refine ⟨h.size, h.quota, h.len, h.top, fun q d hb => h.bnd q d (hbl q d hb), fun q d q' d' a b => h.dis q d q' d' (hbl q d a) (hbl q' d' b), h.tkn, ?_, ?_, ?_, by simp, h.used, h.uq⟩
  · intro q d hq
    refine ⟨fun hm => (h.tfr q d hq).1 (hsub q d hm), fun hm => ?_⟩
    simp at hm
    obtain ⟨rfl, rfl⟩ := hm
    exact (h.tfr q d hq).1 hx
  · intro d
    show (upd A.free c l d).Nodup
    by_cases e : d = c
    · subst e; rw [upd_same]; rw [List.nodup_append] at hnd; exact hnd.1
    · rw [upd_other _ _ e]; exact h.ndp d
  · intro q d hm
    simp at hm
    obtain ⟨rfl, rfl⟩ := hm
    show q ∉ upd A.free d l d
    rw [upd_same]
    exact hxl

/-- a loose block is cut in halves; the upper one goes to its list -/
theorem Inv.half {A : Ar} {x d : Nat} (h : Inv A [(x, d + 1)]) (hd : 1 ≤ d) : Inv (WithFree A d (A.free d ++ [x + 2 ^ d])) [(x, d)] := by
  have hL : A.blk [(x, d + 1)] x (d + 1) := .inr (.inr (by simp))
  have hb := h.bnd x (d + 1) hL
  have hp : 2 ^ (d + 1) = 2 ^ d + 2 ^ d := by rw [Nat.pow_succ]; omega
  have hpos := two_pow_pos d
  have hfree : ∀ q k, q ∈ (WithFree A d (A.free d ++ [x + 2 ^ d])).free k → q ∈ A.free k ∨ (k = d ∧ q = x + 2 ^ d) := by
    intro q k
    show q ∈ upd A.free d _ k → _
    by_cases e : k = d
    · subst e; rw [upd_same]; intro hm; simp at hm; exact hm.imp id (fun h => ⟨rfl, h⟩)
    · rw [upd_other _ _ e]; exact .inl
  have hbl : ∀ q k, (WithFree A d (A.free d ++ [x + 2 ^ d])).blk [(x, d)] q k → (A.blk [(x, d + 1)] q k ∧ (q, k) ≠ (x, d + 1)) ∨ (k = d ∧ (q = x + 2 ^ d ∨ q = x)) := by
    rintro q k (⟨n, a, b⟩ | a | a)
    · refine .inl ⟨.inl ⟨n, a, b⟩, fun e => ?_⟩
      simp at e
      exact (h.tfr q k a.1).2 (by simp [e])
    · rcases hfree q k a with a2 | ⟨rfl, rfl⟩
      · refine .inl ⟨.inr (.inl a2), fun e => ?_⟩
        simp at e
        rw [e.1, e.2] at a2
        exact h.lfr x (d + 1) (by simp) a2
      · exact .inr ⟨rfl, .inl rfl⟩
    · simp at a
      exact .inr ⟨a.2, .inr a.1⟩
  have far : ∀ q k, A.blk [(x, d + 1)] q k → (q, k) ≠ (x, d + 1) → q + 2 ^ k ≤ x ∨ x + 2 ^ (d + 1) ≤ q := by
    intro q k hq hne
    refine h.dis q k x (d + 1) hq hL ?_
    by_cases e : q = x
    · right; intro e2; exact hne (by rw [e, e2])
    · exact .inl e
  refine ⟨h.size, h.quota, h.len, h.top, ?_, ?_, h.tkn, ?_, ?_, ?_, by simp, h.used, h.uq⟩
  · intro q k hq
    rcases hbl q k hq with ⟨hq, _⟩ | ⟨rfl, rfl | rfl⟩
    · exact h.bnd q k hq
    · exact ⟨hd, by omega, by show _ ≤ A.places.length; omega⟩
    · exact ⟨hd, by omega, by show _ ≤ A.places.length; omega⟩
  · intro q k q' k' hq hq' hne
    rcases hbl q k hq with ⟨hq, n1⟩ | ⟨rfl, e1⟩ <;> rcases hbl q' k' hq' with ⟨hq', n2⟩ | ⟨rfl, e2⟩
    · exact h.dis q k q' k' hq hq' hne
    · have := far q k hq n1
      rcases e2 with rfl | rfl <;> omega
    · have := far q' k' hq' n2
      rcases e1 with rfl | rfl <;> omega
    · rcases e1 with rfl | rfl <;> rcases e2 with rfl | rfl <;> omega
  · intro q k hq
    constructor
    · intro hm
      rcases hfree q k hm with a | ⟨rfl, rfl⟩
      · exact (h.tfr q k hq).1 a
      · obtain ⟨n, ht, hn, h3, h4, h5, h6⟩ := h.tk_of hq
        have := far _ _ (.inl ⟨n, ht, rfl⟩) (fun e => by simp at e <;> omega)
        have := two_pow_pos (cls n)
        omega
    · intro hm
      simp at hm
      obtain ⟨rfl, rfl⟩ := hm
      obtain ⟨n, ht, hn, h3, h4, h5, h6⟩ := h.tk_of hq
      have := far _ _ (.inl ⟨n, ht, rfl⟩) (fun e => by
        simp at e
        exact (h.tfr q (k + 1) hq).2 (by simp))
      have := two_pow_pos (cls n)
      omega
  · intro k
    show (upd A.free d _ k).Nodup
    by_cases e : k = d
    · subst e
      rw [upd_same, List.nodup_append]
      refine ⟨h.ndp k, by simp, ?_⟩
      intro a ha b hb' e
      simp at hb'
      subst hb'
      subst e
      have := far _ _ (.inr (.inl ha)) (fun e => by simp at e <;> omega)
      omega
    · rw [upd_other _ _ e]; exact h.ndp k
  · intro q k hm
    simp at hm
    obtain ⟨rfl, rfl⟩ := hm
    intro hf
    rcases hfree q k hf with a | ⟨_, e⟩
    · have := far _ _ (.inr (.inl a)) (fun e => by simp at e)
      omega
    · omega

theorem Inv.cuts {A : Ar} {x : Nat} (c : Nat) (hc : 1 ≤ c) : ∀ d, c ≤ d → Inv A [(x, d)] → Inv (CutA A c d x) [(x, c)] := by
  intro d hcd
  obtain ⟨m, rfl⟩ : ∃ m, d = c + m := ⟨d - c, by omega⟩
  clear hcd
  induction m generalizing A with
  | zero => intro h; rw [Nat.add_zero, cutA_top]; exact h
  | succ m ih =>
    intro h
    have h2 := ih (A := WithFree A (c + m) (A.free (c + m) ++ [x + 2 ^ (c + m)])) (Inv.half (d := c + m) h (by omega))
    have e : CutA (WithFree A (c + m) (A.free (c + m) ++ [x + 2 ^ (c + m)])) c (c + m) x = CutA A c (c + (m + 1)) x := by
      unfold CutA WithFree upd
      simp only [Ar.mk.injEq, true_and]
      funext k
      by_cases h1 : c ≤ k ∧ k < c + m
      · rw [if_pos h1, if_neg (by omega), if_pos (by omega)]
      · rw [if_neg h1]
        by_cases h3 : k = c + m
        · subst h3
          rw [if_pos rfl, if_pos (by omega)]
        · rw [if_neg h3, if_neg (by omega)]
    rw [e] at h2
    exact h2

theorem zeroed_get (l : List Int) (p n j : Nat) (h : p + n ≤ l.length) (hj : j < n) : (zeroed l p n)[p + j]? = some 0 := by
  unfold zeroed
  have e : (l.take p).length = p := by simp; omega
  rw [List.append_assoc, List.getElem?_append_right (by rw [e]; omega), e, Nat.add_sub_cancel_left, List.getElem?_append_left (by simpa using hj), List.getElem?_replicate, if_pos hj]
theorem zeroed_len (l : List Int) (p n : Nat) (h : p + n ≤ l.length) : (zeroed l p n).length = l.length := by
  unfold zeroed; simp; omega
theorem zeroed_below (l : List Int) (p n j : Nat) (h : p + n ≤ l.length) (hj : j < p) : (zeroed l p n)[j]? = l[j]? := by
  unfold zeroed
  rw [List.append_assoc, List.getElem?_append_left (by simp; omega), List.getElem?_take, if_pos hj]

theorem took_len {A : Ar} {own c n : Nat} (h : own + 1 + n ≤ A.places.length) : (A.took own c n).places.length = A.places.length := by
  show (zeroed (A.places.set own (n : Int)) (own + 1) n).length = _
  rw [zeroed_len _ _ _ (by simpa using h)]; simp
theorem took_own {A : Ar} {own c n : Nat} (h : own + 1 + n ≤ A.places.length) : (A.took own c n).tk own n ∨ A.taken.length ≤ own := by
  by_cases hl : own < A.taken.length
  · refine .inl ⟨?_, ?_⟩
    · show (A.taken.set own true)[own]? = _
      rw [List.getElem?_set_self hl]
    · show (zeroed (A.places.set own (n : Int)) (own + 1) n)[own]? = _
      rw [zeroed_below _ _ _ _ (by simpa using h) (by omega), List.getElem?_set_self (by omega)]
  · exact .inr (by omega)
theorem zeroed_above (l : List Int) (p n j : Nat) (h : p + n ≤ l.length) (hj : p + n ≤ j) : (zeroed l p n)[j]? = l[j]? := by
  unfold zeroed
  have e : (l.take p ++ List.replicate n (0 : Int)).length = p + n := by simp; omega
  rw [List.getElem?_append_right (by omega), e, List.getElem?_drop]
  congr 1; omega
/-- outside of the block the places are as they were -/
theorem took_far {A : Ar} {own c n j : Nat} (h : own + 1 + n ≤ A.places.length) (hj : j < own ∨ own + 1 + n ≤ j) : (A.took own c n).places[j]? = A.places[j]? := by
  show (zeroed (A.places.set own (n : Int)) (own + 1) n)[j]? = _
  rcases hj with hj | hj
  · rw [zeroed_below _ _ _ _ (by simpa using h) (by omega), List.getElem?_set_ne (by omega)]
  · rw [zeroed_above _ _ _ _ (by simpa using h) (by omega), List.getElem?_set_ne (by omega)]
theorem took_zero {A : Ar} {own c n j : Nat} (h : own + 1 + n ≤ A.places.length) (hj : j < n) : (A.took own c n).places[own + 1 + j]? = some 0 := by
  show (zeroed (A.places.set own (n : Int)) (own + 1) n)[own + 1 + j]? = _
  exact zeroed_get _ _ _ _ (by simpa using h) hj

/-- who is taken behind it, and for how many words -/
theorem took_tk {A : Ar} {own n : Nat} (h : Inv A [(own, cls n)]) (hn : n ≤ 1048576) (q m : Nat) : (A.took own (cls n) n).tk q m ↔ (q = own ∧ m = n) ∨ (q ≠ own ∧ A.tk q m) := by
  have hb := h.bnd own (cls n) (.inr (.inr (by simp)))
  have hs := (cls_spec n hn).2.2.1
  have hl := h.len
  have hfit : own + 1 + n ≤ A.places.length := by omega
  have hself : (A.took own (cls n) n).tk own n := (took_own hfit).resolve_right (by omega)
  by_cases e : q = own
  · subst e
    constructor
    · intro hq
      have := hself.2.symm.trans hq.2
      exact .inl ⟨rfl, by have := Option.some.inj this; omega⟩
    · rintro (⟨_, rfl⟩ | ⟨h, _⟩)
      · exact hself
      · exact absurd rfl h
  · have ht : (A.took own (cls n) n).taken[q]? = A.taken[q]? := by
      show (A.taken.set own true)[q]? = _
      rw [List.getElem?_set_ne (fun h => e h.symm)]
    have hp : A.taken[q]? = some true → (A.took own (cls n) n).places[q]? = A.places[q]? := by
      intro hq
      obtain ⟨m', h1, h2, h3, h4, h5, h6⟩ := h.tk_of hq
      have := h.dis q (cls m') own (cls n) (.inl ⟨m', h1, rfl⟩) (.inr (.inr (by simp))) (.inl e)
      have := two_pow_pos (cls m')
      exact took_far hfit (by omega)
    constructor
    · rintro ⟨h1, h2⟩
      rw [ht] at h1
      rw [hp h1] at h2
      exact .inr ⟨e, h1, h2⟩
    · rintro (⟨h, _⟩ | ⟨_, h1, h2⟩)
      · exact absurd h e
      · exact ⟨ht.trans h1, (hp h1).trans h2⟩

theorem Inv.took {A : Ar} {own n : Nat} (h : Inv A [(own, cls n)]) (hn : n ≤ 1048576) (hq : A.used + 2 ^ cls n ≤ A.quota) : Inv (A.took own (cls n) n) [] := by
  have hL : A.blk [(own, cls n)] own (cls n) := .inr (.inr (by simp))
  have hb := h.bnd own (cls n) hL
  have hs := (cls_spec n hn).2.2.1
  have hl := h.len
  have hfit : own + 1 + n ≤ A.places.length := by omega
  have hpl := took_len (c := cls n) hfit
  have hnt : A.taken[own]? ≠ some true := fun e => (h.tfr own (cls n) e).2 (by simp)
  have hbl : ∀ q c, (A.took own (cls n) n).blk [] q c → A.blk [(own, cls n)] q c := by
    rintro q c (⟨m, a, b⟩ | a | a)
    · rcases (took_tk h hn q m).1 a with ⟨rfl, rfl⟩ | ⟨_, a⟩
      · rw [← b]; exact hL
      · exact .inl ⟨m, a, b⟩
    · exact .inr (.inl a)
    · simp at a
  refine ⟨h.size, h.quota, by rw [hpl]; show (A.taken.set own true).length = _; simpa using hl, by rw [hpl]; exact h.top, fun q c a => by rw [hpl]; exact h.bnd q c (hbl q c a), fun q c q' c' a b => h.dis q c q' c' (hbl q c a) (hbl q' c' b), ?_, ?_, h.ndp, by simp, by simp, ?_, hq⟩
  · intro q hq
    by_cases e : q = own
    · subst e
      exact ⟨n, ((took_tk h hn q n).2 (.inl ⟨rfl, rfl⟩)).2, hn⟩
    · have hq' : A.taken[q]? = some true := by
        have : (A.taken.set own true)[q]? = some true := hq
        rw [List.getElem?_set_ne (fun h => e h.symm)] at this
        exact this
      obtain ⟨m, a, b⟩ := h.tkn q hq'
      exact ⟨m, ((took_tk h hn q m).2 (.inr ⟨e, hq', a⟩)).2, b⟩
  · intro q c hq
    refine ⟨?_, by simp⟩
    show q ∉ A.free c
    by_cases e : q = own
    · subst e
      intro hf
      by_cases ec : c = cls n
      · subst ec
        exact h.lfr q (cls n) (by simp) hf
      · have := h.dis q c q (cls n) (.inr (.inl hf)) hL (.inr ec)
        have := two_pow_pos c
        have := two_pow_pos (cls n)
        omega
    · have hq' : A.taken[q]? = some true := by
        have : (A.taken.set own true)[q]? = some true := hq
        rw [List.getElem?_set_ne (fun h => e h.symm)] at this
        exact this
      exact (h.tfr q c hq').1
  · show A.used + 2 ^ cls n = usum (A.taken.set own true) (A.took own (cls n) n).places
    rw [h.used]
    symm
    unfold usum
    rw [List.length_set]
    refine sum_range_point A.taken.length own (2 ^ cls n) _ _ (by omega) ?_ ?_ ?_
    · have hself := (took_tk h hn own n).2 (.inl ⟨rfl, rfl⟩)
      have h1 : (A.taken.set own true)[own]? = some true := hself.1
      simp only [List.getD_eq_getElem?_getD]
      rw [h1, hself.2]
      simp
    · simp only [List.getD_eq_getElem?_getD]
      have : A.taken[own]? = some false := by
        rw [List.getElem?_eq_getElem (by omega)] at hnt ⊢
        simpa using hnt
      rw [this]; rfl
    · intro q hq hne
      simp only [List.getD_eq_getElem?_getD]
      rw [List.getElem?_set_ne (fun h => hne h.symm)]
      by_cases ht : A.taken[q]? = some true
      · obtain ⟨m, a, b⟩ := h.tkn q ht
        have := ((took_tk h hn q m).2 (.inr ⟨hne, ht, a⟩)).2
        rw [this, a]
      · have : A.taken[q]? = some false := by
          rw [List.getElem?_eq_getElem hq] at ht ⊢
          simpa using ht
        rw [this]; rfl

/-! ### a block is given back -/
theorem freed_tk {A : Ar} {q n : Nat} (_hq : A.tk q n) (p m : Nat) : (A.freed q (cls n)).tk p m ↔ p ≠ q ∧ A.tk p m := by
  unfold Ar.tk
  show (A.taken.set q false)[p]? = _ ∧ _ ↔ _
  by_cases e : p = q
  · subst e
    simp [List.getElem?_set]
  · rw [List.getElem?_set_ne (fun h => e h.symm)]
    simp [e, Ar.freed]

theorem Inv.freed {A : Ar} {q n : Nat} (h : Inv A []) (hq : A.tk q n) : Inv (A.freed q (cls n)) [] ∧ 2 ^ cls n ≤ A.used := by
  have hB : A.blk [] q (cls n) := .inl ⟨n, hq, rfl⟩
  have hqlt := (List.getElem?_eq_some_iff.1 hq.1).1
  have hfree : ∀ p c, p ∈ (A.freed q (cls n)).free c → p ∈ A.free c ∨ (p = q ∧ c = cls n) := by
    intro p c
    show p ∈ upd A.free (cls n) _ c → _
    by_cases e : c = cls n
    · subst e; rw [upd_same]; intro hm; simp at hm; exact hm.imp id (fun h => ⟨h, rfl⟩)
    · rw [upd_other _ _ e]; exact .inl
  have hbl : ∀ p c, (A.freed q (cls n)).blk [] p c → A.blk [] p c := by
    rintro p c (⟨m, a, b⟩ | a | a)
    · exact .inl ⟨m, ((freed_tk hq p m).1 a).2, b⟩
    · rcases hfree p c a with a | ⟨rfl, rfl⟩
      · exact .inr (.inl a)
      · exact hB
    · simp at a
  have hsum : usum A.taken A.places = usum (A.taken.set q false) A.places + 2 ^ cls n := by
    unfold usum
    rw [List.length_set]
    refine sum_range_point A.taken.length q (2 ^ cls n) _ _ hqlt ?_ ?_ ?_
    · simp only [List.getD_eq_getElem?_getD]
      rw [hq.1, hq.2]
      simp
    · simp only [List.getD_eq_getElem?_getD]
      rw [List.getElem?_set_self hqlt]
      rfl
    · intro p hp hne
      simp only [List.getD_eq_getElem?_getD]
      rw [List.getElem?_set_ne (fun h => hne h.symm)]
  have hus := h.used
  have htk : ∀ p : Nat, (A.taken.set q false)[p]? = some true → p ≠ q ∧ A.taken[p]? = some true := by
    intro p hp
    by_cases e : p = q
    · subst e; rw [List.getElem?_set_self hqlt] at hp; simp at hp
    · rw [List.getElem?_set_ne (fun h => e h.symm)] at hp; exact ⟨e, hp⟩
  refine ⟨⟨h.size, h.quota, by show (A.taken.set q false).length = A.places.length; simpa using h.len, h.top, fun p c a => h.bnd p c (hbl p c a), fun p c p' c' a b => h.dis p c p' c' (hbl p c a) (hbl p' c' b), ?_, ?_, ?_, by simp, by simp, ?_, ?_⟩, by omega⟩
  · intro p hp
    exact h.tkn p (htk p hp).2
  · intro p c hp
    refine ⟨fun hm => ?_, by simp⟩
    have h2 := htk p hp
    rcases hfree p c hm with a | ⟨e, _⟩
    · exact (h.tfr p c h2.2).1 a
    · exact h2.1 e
  · intro c
    show (upd A.free (cls n) _ c).Nodup
    by_cases e : c = cls n
    · subst e
      rw [upd_same, List.nodup_append]
      refine ⟨h.ndp _, by simp, ?_⟩
      intro a ha b hb e
      simp at hb
      subst hb
      subst e
      exact (h.tfr a (cls n) hq.1).1 ha
    · rw [upd_other _ _ e]; exact h.ndp c
  · show A.used - 2 ^ cls n = usum (A.taken.set q false) A.places
    omega
  · exact Nat.le_trans (Nat.sub_le _ _) h.uq

/-! ### a word is written -/
theorem put_tk {A : Ar} {q n i : Nat} {x : Int} (h : Inv A []) (hq : A.tk q n) (hi : i < n) (p m : Nat) : (A.put (q + 1 + i) x).tk p m ↔ A.tk p m := by
  have key : A.taken[p]? = some true → (A.places.set (q + 1 + i) x)[p]? = A.places[p]? := by
    intro hp
    obtain ⟨m', h1, h2, h3, h4, h5, h6⟩ := h.tk_of hp
    obtain ⟨_, g1, g2, g3, g4⟩ := h.block hq
    rw [List.getElem?_set_ne ?_]
    intro e
    have := h.dis q (cls n) p (cls m') (.inl ⟨n, hq, rfl⟩) (.inl ⟨m', h1, rfl⟩) (.inl (by omega))
    have := two_pow_pos (cls m')
    omega
  unfold Ar.tk
  show A.taken[p]? = _ ∧ (A.places.set (q + 1 + i) x)[p]? = _ ↔ _
  constructor
  · rintro ⟨a, b⟩
    rw [key a] at b
    exact ⟨a, b⟩
  · rintro ⟨a, b⟩
    exact ⟨a, (key a).trans b⟩

theorem Inv.put {A : Ar} {q n i : Nat} {x : Int} (h : Inv A []) (hq : A.tk q n) (hi : i < n) : Inv (A.put (q + 1 + i) x) [] := by
  have htk := put_tk (x := x) h hq hi
  have hpl : (A.put (q + 1 + i) x).places.length = A.places.length := by simp [Ar.put]
  have hbl : ∀ p c, (A.put (q + 1 + i) x).blk [] p c → A.blk [] p c := by
    rintro p c (⟨m, a, b⟩ | a | a)
    · exact .inl ⟨m, (htk p m).1 a, b⟩
    · exact .inr (.inl a)
    · simp at a
  refine ⟨h.size, h.quota, by rw [hpl]; exact h.len, by rw [hpl]; exact h.top, fun p c a => by rw [hpl]; exact h.bnd p c (hbl p c a), fun p c p' c' a b => h.dis p c p' c' (hbl p c a) (hbl p' c' b), ?_, h.tfr, h.ndp, h.lfr, h.ndl, ?_, h.uq⟩
  · intro p hp
    obtain ⟨m, a, b⟩ := h.tkn p hp
    exact ⟨m, ((htk p m).2 ⟨hp, a⟩).2, b⟩
  · show A.used = usum A.taken (A.places.set (q + 1 + i) x)
    rw [h.used]
    unfold usum
    apply sum_map_congr
    intro p hp
    have hlt := List.mem_range.1 hp
    simp only [List.getD_eq_getElem?_getD]
    by_cases ht : A.taken[p]? = some true
    · obtain ⟨m, a, b⟩ := h.tkn p ht
      have := ((htk p m).2 ⟨ht, a⟩).2
      have e : (A.places.set (q + 1 + i) x)[p]? = some (m : Int) := this
      rw [e, a]
    · have : A.taken[p]? = some false := by
        rw [List.getElem?_eq_getElem hlt] at ht ⊢
        simpa using ht
      rw [this]
      simp

/-! ### Alloc: what it may come to -/
/-- a block of class c is found at own; the arena is A1 then -/
def Found (A : Ar) (c own : Nat) (A1 : Ar) : Prop :=
  (∃ l, A.free c = l ++ [own] ∧ A1 = WithFree A c l) ∨
  (A.free c = [] ∧ A.places.length + 2 ^ c ≤ A.size ∧ own = A.places.length ∧ A1 = A.up (2 ^ c)) ∨
  (A.free c = [] ∧ A.size < A.places.length + 2 ^ c ∧ ∃ d l, c < d ∧ d < 21 ∧ A.free d = l ++ [own] ∧ (∀ k, c < k → k < d → A.free k = []) ∧ A1 = CutA (WithFree A d l) c d own)
def Nowhere (A : Ar) (c : Nat) : Prop := A.free c = [] ∧ A.size < A.places.length + 2 ^ c ∧ ∀ k, c < k → k < 21 → A.free k = []

theorem snoc_of {α : Type} (l : List α) (h : l ≠ []) : ∃ l' x, l = l' ++ [x] := ⟨l.dropLast, l.getLast h, (List.dropLast_concat_getLast h).symm⟩

theorem found_or (A : Ar) (c : Nat) : (∃ own A1, Found A c own A1) ∨ Nowhere A c := by
  by_cases h0 : A.free c = []
  · by_cases h1 : A.places.length + 2 ^ c ≤ A.size
    · exact .inl ⟨_, _, .inr (.inl ⟨h0, h1, rfl, rfl⟩)⟩
    · have key : ∀ n, c + n ≤ 21 → (∀ k, c < k → k < c + n → A.free k = []) → (∃ own A1, Found A c own A1) ∨ (∀ k, c < k → k < 21 → A.free k = []) := by
        intro n hn
        obtain ⟨m, hm⟩ : ∃ m, m = 21 - (c + n) := ⟨_, rfl⟩
        induction m generalizing n with
        | zero => intro h; exact .inr fun k h1 h2 => h k h1 (by omega)
        | succ m ih =>
          intro h
          by_cases hk : c < c + n ∧ A.free (c + n) ≠ []
          · obtain ⟨l, x, hl⟩ := snoc_of _ hk.2
            exact .inl ⟨x, _, .inr (.inr ⟨h0, by omega, c + n, l, hk.1, by omega, hl, h, rfl⟩)⟩
          · refine ih (n + 1) (by omega) (by omega) ?_
            intro k h1 h2
            by_cases e : k = c + n
            · subst e
              by_cases e2 : A.free (c + n) = []
              · exact e2
              · exact absurd ⟨h1, e2⟩ hk
            · exact h k h1 (by omega)
      by_cases hc : c ≤ 21
      · rcases key 0 (by omega) (fun k h1 h2 => by omega) with h | h
        · exact .inl h
        · exact .inr ⟨h0, by omega, h⟩
      · exact .inr ⟨h0, by omega, fun k h1 h2 => by omega⟩
  · obtain ⟨l, x, hl⟩ := snoc_of _ h0
    exact .inl ⟨x, _, .inl ⟨l, hl, rfl⟩⟩

theorem Found.inv {A A1 : Ar} {c own : Nat} (h : Inv A []) (hc : 1 ≤ c) (hc2 : c ≤ 20) (hf : Found A c own A1) : Inv A1 [(own, c)] := by
  rcases hf with ⟨l, h1, rfl⟩ | ⟨h1, h2, rfl, rfl⟩ | ⟨h1, h2, d, l, h3, h4, h5, h6, rfl⟩
  · exact h.pop c own l h1
  · exact h.up c hc hc2 h2
  · exact Inv.cuts c hc d (by omega) (h.pop d own l h5)
theorem Found.same {A A1 : Ar} {c own : Nat} (hf : Found A c own A1) : A1.used = A.used ∧ A1.quota = A.quota ∧ A1.size = A.size := by
  rcases hf with ⟨l, h1, rfl⟩ | ⟨h1, h2, rfl, rfl⟩ | ⟨h1, h2, d, l, h3, h4, h5, h6, rfl⟩ <;> exact ⟨rfl, rfl, rfl⟩
/-- what was there is there -/
theorem Found.old {A A1 : Ar} {c own : Nat} (_h : Inv A []) (hf : Found A c own A1) (q : Nat) : (q < A.places.length → A1.places[q]? = A.places[q]?) ∧ (A1.taken[q]? = some true ↔ A.taken[q]? = some true) := by
  rcases hf with ⟨l, h1, rfl⟩ | ⟨h1, h2, rfl, rfl⟩ | ⟨h1, h2, d, l, h3, h4, h5, h6, rfl⟩
  · exact ⟨fun _ => rfl, Iff.rfl⟩
  · refine ⟨fun hq => ?_, ?_⟩
    · show (A.places ++ _)[q]? = _
      rw [List.getElem?_append_left hq]
    · show (A.taken ++ List.replicate (2 ^ c) false)[q]? = _ ↔ _
      by_cases hq : q < A.taken.length
      · rw [List.getElem?_append_left hq]
      · rw [List.getElem?_append_right (by omega), List.getElem?_eq_none (show A.taken.length ≤ q by omega), List.getElem?_replicate]
        split <;> simp
  · exact ⟨fun _ => rfl, Iff.rfl⟩
theorem Found.tk {A A1 : Ar} {c own : Nat} (h : Inv A []) (hf : Found A c own A1) (q n : Nat) : A1.tk q n ↔ A.tk q n := by
  have h1 := hf.old h q
  have hl := h.len
  unfold Ar.tk
  rw [h1.2]
  constructor
  · rintro ⟨a, b⟩
    have := (List.getElem?_eq_some_iff.1 a).1
    rw [h1.1 (by omega)] at b
    exact ⟨a, b⟩
  · rintro ⟨a, b⟩
    have := (List.getElem?_eq_some_iff.1 a).1
    exact ⟨a, (h1.1 (by omega)).trans b⟩

theorem nodup_len : ∀ (n : Nat) (l : List Nat), l.Nodup → (∀ x ∈ l, x < n) → l.length ≤ n := by
  intro n
  induction n with
  | zero =>
    intro l _ h
    cases l with
    | nil => simp
    | cons a l => exact absurd (h a (by simp)) (by omega)
  | succ n ih =>
    intro l hd h
    have h2 := ih (l.erase n) (hd.erase n) (fun x hx => by
      have h3 := (hd.mem_erase_iff).1 hx
      have := h x h3.2
      omega)
    have : l.length ≤ (l.erase n).length + 1 := by
      by_cases hm : n ∈ l
      · rw [List.length_erase_of_mem hm]; omega
      · rw [List.erase_of_not_mem hm]; omega
    omega

theorem Inv.free_len {A : Ar} {L : List (Nat × Nat)} (h : Inv A L) (c : Nat) : (A.free c).length ≤ 1048576 := by
  have hsub : ∀ x ∈ A.free c, x < A.places.length := fun x hx => by
    have := h.bnd x c (.inr (.inl hx))
    have := two_pow_pos c
    omega
  have := nodup_len _ _ (h.ndp c) hsub
  have h1 := h.top
  have h2 := h.size
  omega

/-- Alloc of so many words: the two ends -/
theorem alloc_any {w : World} {F : Nat → Prop} {b : Nat} {A : Ar} (h : Rep w F b A) (hI : Inv A []) (n : Nat) (hn : n ≤ 1048576) :
    Calls Tryz.prog 96 #[.pointer (some ⟨b, 0, none⟩), .int .i64 n] w fun e w' =>
      (∃ own A1, A.used + 2 ^ cls n ≤ A.quota ∧ cls n ≤ 20 ∧ Found A (cls n) own A1 ∧ Ends F w b (.tuple #[.int .i64 ((own : Nat) + 1), .nilIface]) (A1.took own (cls n) n) e w') ∨
      ((A.quota < A.used + 2 ^ cls n ∨ Nowhere A (cls n)) ∧ EndsBad F w b A (fun v => .tuple #[.int .i64 0, v]) ⟨#[97, 108, 108, 111, 99]⟩ n (.iface 67 (.int .i64 2)) e w') := by
  have hcs := cls_spec n hn
  have hsz := hI.size
  have hqu := hI.quota
  have huq := hI.uq
  have htop := hI.top
  by_cases hq : A.used + 2 ^ cls n ≤ A.quota
  · have hc20 : cls n ≤ 20 := by
      rcases Nat.lt_or_ge 20 (cls n) with h1 | h1
      · have : cls n = 21 := by omega
        rw [this] at hq
        omega
      · exact h1
    rcases found_or A (cls n) with ⟨own, A1, hf⟩ | hno
    · have key : Calls Tryz.prog 96 #[.pointer (some ⟨b, 0, none⟩), .int .i64 n] w (Ends F w b (.tuple #[.int .i64 ((own : Nat) + 1), .nilIface]) (A1.took own (cls n) n)) := by
        rcases hf with ⟨l, h1, rfl⟩ | ⟨h1, h2, rfl, rfl⟩ | ⟨h1, h2, d, l, h3, h4, h5, h6, rfl⟩
        · have hb := hI.bnd own (cls n) (.inr (.inl (by rw [h1]; simp)))
          exact alloc_list n (cls n) h hn rfl (by omega) hq (by omega) l own h1 hb.2.2 (by omega) hI.len
        · exact alloc_top n (cls n) h hn rfl (by omega) hq (by omega) (by omega) h1 h2 hI.len
        · have hb := hI.bnd own d (.inr (.inl (by rw [h5]; simp)))
          exact alloc_cut n (cls n) d h hn rfl h3 h4 hq (by omega) (by omega) h1 h2 l own h5 h6 hI.free_len hb.2.2 (by omega) hI.len
      exact key.mono fun e w' h => .inl ⟨own, A1, hq, hc20, hf, h⟩
    · exact (alloc_noroom n (cls n) h hn rfl (by omega) (by omega) hq (by omega) (by omega) hno.1 hno.2.1 hno.2.2).mono fun e w' h => .inr ⟨.inr hno, h⟩
  · exact (alloc_quota n (cls n) h hn rfl hcs.2.1 (by omega) (by omega)).mono fun e w' h => .inr ⟨.inl (by omega), h⟩

/-- Free of a block that is taken -/
theorem free_any {w : World} {F : Nat → Prop} {b : Nat} {A : Ar} (h : Rep w F b A) (hI : Inv A []) (q n : Nat) (hq : A.tk q n) :
    Calls Tryz.prog 91 #[.pointer (some ⟨b, 0, none⟩), .int .i64 (q + 1)] w (Ends F w b .nilIface (A.freed q (cls n))) := by
  have hb := hI.block hq
  have hsz := hI.size
  have hqu := hI.quota
  have huq := hI.uq
  have htop := hI.top
  have hl := hI.len
  exact free_ok h (by omega) hl q n (cls n) hq.1 hq.2 hb.1.2.2 rfl (by omega) (by omega) (hI.freed hq).2 (hI.free_len _)

theorem Inv.new (size quota : Nat) (h1 : size ≤ 1048576) (h2 : quota ≤ size) : Inv (Ar.new size quota) [] := by
  have hno : ∀ q c, ¬ (Ar.new size quota).blk [] q c := by
    rintro q c (⟨n, a, _⟩ | a | a)
    · simp [Ar.tk, Ar.new] at a
    · simp [Ar.new] at a
    · simp at a
  refine ⟨h1, h2, rfl, by simp [Ar.new], fun q c h => (hno q c h).elim, fun q c _ _ h => (hno q c h).elim, ?_, ?_, fun c => by simp [Ar.new], by simp, by simp, rfl, by simp [Ar.new]⟩
  · intro q hq; simp [Ar.new] at hq
  · intro q c hq; simp [Ar.new] at hq
end Go.Proofs.YtkcmfldcdokobaaGreatDoor
