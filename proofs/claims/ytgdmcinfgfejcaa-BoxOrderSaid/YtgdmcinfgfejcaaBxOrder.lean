/- Who takes the first of the sort that he looks for: as plain data. -/
import Derived.Test.YtgdmcinfgfejcaaBxOwn
namespace Go.Proofs.Ytgdmcinfgfejcaa
open Go.RowKit
/-- the messages: each is its number's threefold and its sort -/
def ord (l : List Int) (j : Nat) : List Int := (List.range j).map fun (i : Nat) => 3 * (i : Int) + l.getD i 0 % 3
theorem ord_succ {l : List Int} {j : Nat} {x : Int} (h : l[j]? = some x) : ord l (j + 1) = ord l j ++ [3 * (j : Int) + x % 3] := by
  simp [ord, List.range_succ, List.getD_eq_getElem?_getD, h]
theorem q_bd {j : Nat} (h : j ≤ 300) : 2 * j * j ≤ 180000 := Nat.mul_le_mul (Nat.mul_le_mul_left 2 h) h
theorem ord_len (l : List Int) (j : Nat) : (ord l j).length = j := by simp [ord]
theorem ord_mem {l : List Int} {j : Nat} {y : Int} (h : y ∈ ord l j) : 0 ≤ y ∧ y ≤ 3 * (j : Int) + 3 := by
  unfold ord at h
  obtain ⟨i, hi, rfl⟩ := List.mem_map.1 h
  have := List.mem_range.1 hi
  omega
def yes (k : Int) (l : List Int) : List Int := l.filter fun x => decide (x % 3 = k)
def noo (k : Int) (l : List Int) : List Int := l.filter fun x => !decide (x % 3 = k)
section
variable {k x : Int} {l ms : List Int} {p : Nat}
theorem yes_in (h : x % 3 = k) : yes k (l ++ [x]) = yes k l ++ [x] ∧ noo k (l ++ [x]) = noo k l := by simp [yes, noo, h]
theorem yes_out (h : ¬ x % 3 = k) : yes k (l ++ [x]) = yes k l ∧ noo k (l ++ [x]) = noo k l ++ [x] := by simp [yes, noo, h]
theorem noo_len (k : Int) (l : List Int) : (noo k l).length ≤ l.length ∧ (yes k l).length ≤ l.length := ⟨List.length_filter_le _ _, List.length_filter_le _ _⟩
/-- looking on: got, what is left, the place; all ahead of the place are of another sort -/
def Lk (k : Int) (all got ms : List Int) (p : Nat) : Prop := yes k all = got ++ yes k ms ∧ noo k all = noo k ms ∧ yes k (ms.take p) = [] ∧ p ≤ ms.length ∧ ms.length ≤ all.length
theorem lk_start (k : Int) (l : List Int) : Lk k l [] l 0 := ⟨by simp, rfl, by simp [yes], by simp, Nat.le_refl _⟩
theorem split_at' (h : ms[p]? = some x) : ms = ms.take p ++ x :: ms.drop (p + 1) := by
  have hp := (List.getElem?_eq_some_iff.1 h).1
  have hx := (List.getElem?_eq_some_iff.1 h).2
  conv => lhs; rw [← List.take_append_drop p ms]
  rw [List.drop_eq_getElem_cons hp, hx]
theorem Lk.next {all got : List Int} (h : Lk k all got ms p) (hx : ms[p]? = some x) (hk : ¬ x % 3 = k) : Lk k all got ms (p + 1) := by
  have hp := (List.getElem?_eq_some_iff.1 hx).1
  refine ⟨h.1, h.2.1, ?_, hp, h.2.2.2.2⟩
  rw [List.take_succ_eq_append_getElem hp, (List.getElem?_eq_some_iff.1 hx).2, (yes_out hk).1]
  exact h.2.2.1
theorem Lk.take {all got : List Int} (h : Lk k all got ms p) (hx : ms[p]? = some x) (hk : x % 3 = k) : Lk k all (got ++ [x]) (ms.eraseIdx p) 0 ∧ (yes k ms).length = (yes k (ms.eraseIdx p)).length + 1 := by
  have hp := (List.getElem?_eq_some_iff.1 hx).1
  have e1 := split_at' hx
  have e2 : ms.eraseIdx p = ms.take p ++ ms.drop (p + 1) := List.eraseIdx_eq_take_drop_succ ms p
  have e3 : yes k ms = x :: yes k (ms.eraseIdx p) := by
    have h3 := h.2.2.1
    rw [e2]
    conv => lhs; rw [e1]
    unfold yes at h3 ⊢
    rw [List.filter_append, List.filter_append, h3, List.filter_cons, if_pos (by simpa using hk), List.nil_append, List.nil_append]
  have e4 : noo k ms = noo k (ms.eraseIdx p) := by
    rw [e2]
    conv => lhs; rw [e1]
    unfold noo
    rw [List.filter_append, List.filter_append, List.filter_cons, if_neg (by simpa using hk)]
  refine ⟨⟨by rw [h.1, e3, List.append_assoc]; rfl, by rw [h.2.1, e4], by simp [yes], Nat.zero_le _, ?_⟩, by rw [e3]; rfl⟩
  have h5 := h.2.2.2.2
  rw [List.length_eraseIdx_of_lt hp]
  omega
theorem Lk.last {all got : List Int} (h : Lk k all got ms p) (hp : ms.length ≤ p) : got = yes k all ∧ ms = noo k all ∧ p = (noo k all).length := by
  have h3 := h.2.2.1
  rw [List.take_of_length_le hp] at h3
  have e1 : noo k ms = ms := by
    unfold noo
    rw [List.filter_eq_self]
    intro a ha
    have : a ∉ yes k ms := by rw [h3]; simp
    simp [yes, ha] at this
    simpa using this
  refine ⟨by rw [h.1, h3, List.append_nil], by rw [h.2.1, e1], ?_⟩
  rw [h.2.1, e1]
  have := h.2.2.2.1
  omega
/-- how many steps are left at most -/
def stp (k : Int) (L : Nat) (ms : List Int) (p : Nat) : Nat := (yes k ms).length * (L + 1) + (ms.length - p) + 1
theorem stp_next (L : Nat) (hp : p < ms.length) : stp k L ms (p + 1) + 1 = stp k L ms p := by unfold stp; omega
theorem stp_take {all got : List Int} (h : Lk k all got ms p) (hx : ms[p]? = some x) (hk : x % 3 = k) : stp k all.length (ms.eraseIdx p) 0 + 1 ≤ stp k all.length ms p := by
  have h1 := (h.take hx hk).2
  have hp := (List.getElem?_eq_some_iff.1 hx).1
  have h5 := h.2.2.2.2
  unfold stp
  rw [h1, List.length_eraseIdx_of_lt hp, Nat.add_mul]
  omega
theorem stp_start (k : Int) (l : List Int) : stp k l.length l 0 ≤ 2 * l.length * l.length + 5 := by
  unfold stp
  have h1 := (noo_len k l).2
  have h2 : (yes k l).length * (l.length + 1) ≤ l.length * (l.length + 1) := Nat.mul_le_mul_right _ h1
  rw [Nat.mul_add l.length] at h2
  have h3 : 2 * l.length ≤ l.length * l.length + 1 := by
    rcases Nat.lt_or_ge l.length 2 with h | h
    · rcases Nat.lt_or_ge l.length 1 with h' | h'
      · have : l.length = 0 := by omega
        simp [this]
      · have : l.length = 1 := by omega
        simp [this]
    · have := Nat.mul_le_mul_right l.length h
      omega
  have h4 : 2 * l.length * l.length = l.length * l.length + l.length * l.length := by rw [Nat.mul_assoc, Nat.two_mul]
  omega
end
end Go.Proofs.Ytgdmcinfgfejcaa
