/- The invariant of ArenaClean: nothing is taken, and each class has at the most one free block. -/
import Derived.Test.YthilajdjkglkkaaOwn
namespace Go.Proofs.Ythilajdjkglkkaa
open Go.RowKit

/-! ### the invariant of ArenaClean -/
def Sm (f : Nat → List Nat) : Nat := (if f 1 = [] then 0 else 2) + (if f 2 = [] then 0 else 4) + (if f 3 = [] then 0 else 8) + (if f 4 = [] then 0 else 16) + (if f 5 = [] then 0 else 32) + (if f 6 = [] then 0 else 64) + (if f 7 = [] then 0 else 128)
theorem Sm_le (f : Nat → List Nat) : Sm f ≤ 254 := by
  unfold Sm
  repeat' split
  all_goals omega
theorem Sm_upd (f : Nat → List Nat) (c x : Nat) (h1 : 1 ≤ c) (h2 : c ≤ 7) (hf : f c = []) : Sm (upd f c [x]) = Sm f + 2 ^ c := by
  have hc : c = 1 ∨ c = 2 ∨ c = 3 ∨ c = 4 ∨ c = 5 ∨ c = 6 ∨ c = 7 := by omega
  unfold Sm upd
  rcases hc with rfl | rfl | rfl | rfl | rfl | rfl | rfl
  all_goals
    simp [hf] <;> omega
theorem Sm_same (f : Nat → List Nat) (c x y : Nat) (hf : f c = [y]) : Sm (upd f c [x]) = Sm f := by
  have : ∀ j, (upd f c [x] j = [] ↔ f j = []) := by
    intro j
    unfold upd
    by_cases h : j = c
    · subst h; simp [hf]
    · rw [if_neg h]
  unfold Sm
  simp only [this]

structure Cl (A : Ar) : Prop where
  size : A.size = 500
  quota : A.quota = 500
  used : A.used = 0
  tk : A.taken = List.replicate A.places.length false
  fr : ∀ c, A.free c = [] ∨ (1 ≤ c ∧ c ≤ 7 ∧ ∃ x, A.free c = [x] ∧ x + 2 ^ c ≤ A.places.length)
  top : A.places.length = Sm A.free

structure Cl1 (A : Ar) (q c n k : Nat) : Prop where
  size : A.size = 500
  quota : A.quota = 500
  used : A.used = 2 ^ c
  tk : A.taken = (List.replicate A.places.length false).set q true
  fr : ∀ c, A.free c = [] ∨ (1 ≤ c ∧ c ≤ 7 ∧ ∃ x, A.free c = [x] ∧ x + 2 ^ c ≤ A.places.length)
  frc : A.free c = []
  top : A.places.length = Sm (upd A.free c [q])
  hq : q + 2 ^ c ≤ A.places.length
  pq : A.places[q]? = some (n : Int)
  z : ∀ j, k ≤ j → j < n → A.places[q + 1 + j]? = some 0
  c1 : 1 ≤ c
  c2 : c ≤ 7
  nc : n + 1 ≤ 2 ^ c
  cl : cls n = c

theorem cl_top {A : Ar} (h : Cl A) {c n : Nat} (h1 : 1 ≤ c) (h2 : c ≤ 7) (hnc : n + 1 ≤ 2 ^ c) (hcl : cls n = c) (hf : A.free c = []) : Cl1 ((A.up (2 ^ c)).took A.places.length c n) A.places.length c n 0 := by
  have hlen : (A.places ++ List.replicate (2 ^ c) (0 : Int)).length = A.places.length + 2 ^ c := by simp
  have hsl : ((A.places ++ List.replicate (2 ^ c) (0 : Int)).set A.places.length (n : Int)).length = A.places.length + 2 ^ c := by simp
  have hpl : ((A.up (2 ^ c)).took A.places.length c n).places.length = A.places.length + 2 ^ c := by
    show (zeroed ((A.places ++ List.replicate (2 ^ c) (0 : Int)).set A.places.length (n : Int)) (A.places.length + 1) n).length = _
    rw [zeroed_len _ _ _ (by rw [hsl]; omega), hsl]
  refine ⟨h.size, h.quota, ?_, ?_, ?_, hf, ?_, ?_, ?_, ?_, h1, h2, hnc, hcl⟩
  · show A.used + 2 ^ c = 2 ^ c
    rw [h.used]; omega
  · rw [hpl]
    show (A.taken ++ List.replicate (2 ^ c) false).set A.places.length true = _
    rw [h.tk, List.replicate_append_replicate]
  · intro d
    rcases h.fr d with e | ⟨e1, e2, x, e3, e4⟩
    · exact .inl e
    · exact .inr ⟨e1, e2, x, e3, by rw [hpl]; omega⟩
  · rw [hpl]
    show A.places.length + 2 ^ c = Sm (upd A.free c [A.places.length])
    rw [Sm_upd _ _ _ h1 h2 hf, ← h.top]
  · rw [hpl]; omega
  · show (zeroed ((A.places ++ List.replicate (2 ^ c) (0 : Int)).set A.places.length (n : Int)) (A.places.length + 1) n)[A.places.length]? = _
    rw [zeroed_below _ _ _ _ (by rw [hsl]; omega) (by omega), List.getElem?_set_self (by rw [hlen]; omega)]
  · intro j _ hj
    show (zeroed ((A.places ++ List.replicate (2 ^ c) (0 : Int)).set A.places.length (n : Int)) (A.places.length + 1) n)[A.places.length + 1 + j]? = _
    exact zeroed_get _ _ _ _ (by rw [hsl]; omega) hj

theorem cl_list {A : Ar} (h : Cl A) {c n x : Nat} (h1 : 1 ≤ c) (h2 : c ≤ 7) (hnc : n + 1 ≤ 2 ^ c) (hcl : cls n = c) (hf : A.free c = [x]) (hx : x + 2 ^ c ≤ A.places.length) : Cl1 ((WithFree A c []).took x c n) x c n 0 := by
  have hpl : ((WithFree A c []).took x c n).places.length = A.places.length := by
    show (zeroed (A.places.set x (n : Int)) (x + 1) n).length = _
    rw [zeroed_len _ _ _ (by simp; omega)]; simp
  refine ⟨h.size, h.quota, ?_, ?_, ?_, ?_, ?_, ?_, ?_, ?_, h1, h2, hnc, hcl⟩
  · show A.used + 2 ^ c = 2 ^ c
    rw [h.used]; omega
  · rw [hpl]
    show A.taken.set x true = _
    rw [h.tk]
  · intro d
    show upd A.free c [] d = [] ∨ _
    by_cases e : d = c
    · subst e; exact .inl (upd_same _ _ _)
    · rw [upd_other _ _ e]
      rcases h.fr d with e | ⟨e1, e2, x, e3, e4⟩
      · exact .inl e
      · refine .inr ⟨e1, e2, x, ?_, by rw [hpl]; omega⟩
        show upd A.free c [] d = _
        rw [upd_other _ _ ‹_›]; exact e3
  · exact upd_same _ _ _
  · rw [hpl, h.top]
    show _ = Sm (upd (upd A.free c []) c [x])
    have : upd (upd A.free c []) c [x] = upd A.free c [x] := by
      funext j; unfold upd; split <;> rfl
    rw [this, Sm_same _ _ _ _ hf]
  · rw [hpl]; exact hx
  · show (zeroed (A.places.set x (n : Int)) (x + 1) n)[x]? = _
    rw [zeroed_below _ _ _ _ (by simp; omega) (by omega), List.getElem?_set_self (by omega)]
  · intro j _ hj
    show (zeroed (A.places.set x (n : Int)) (x + 1) n)[x + 1 + j]? = _
    exact zeroed_get _ _ _ _ (by simp; omega) hj

theorem cl_put {A : Ar} {q c n k : Nat} {x : Int} (h : Cl1 A q c n k) : Cl1 (A.put (q + 1 + k) x) q c n (k + 1) := by
  have hpl : (A.put (q + 1 + k) x).places.length = A.places.length := by simp [Ar.put]
  refine ⟨h.size, h.quota, h.used, by rw [hpl]; exact h.tk, by rw [hpl]; exact h.fr, h.frc, by rw [hpl]; exact h.top, by rw [hpl]; exact h.hq, ?_, ?_, h.c1, h.c2, h.nc, h.cl⟩
  · show (A.places.set (q + 1 + k) x)[q]? = _
    rw [List.getElem?_set_ne (by omega)]; exact h.pq
  · intro j h1 h2
    show (A.places.set (q + 1 + k) x)[q + 1 + j]? = _
    rw [List.getElem?_set_ne (by omega)]; exact h.z j (by omega) h2

theorem cl_free {A : Ar} {q c n k : Nat} (h : Cl1 A q c n k) : Cl (A.freed q c) := by
  refine ⟨h.size, h.quota, ?_, ?_, ?_, ?_⟩
  · show A.used - 2 ^ c = 0
    rw [h.used]; omega
  · show A.taken.set q false = List.replicate A.places.length false
    rw [h.tk, List.set_set]
    apply List.ext_getElem
    · simp
    · intro i h1 h2
      simp
  · intro d
    show upd A.free c (A.free c ++ [q]) d = [] ∨ _ ∧ _ ∧ ∃ x, upd A.free c (A.free c ++ [q]) d = [x] ∧ x + 2 ^ d ≤ A.places.length
    by_cases e : d = c
    · subst e
      rw [upd_same, h.frc]
      exact .inr ⟨h.c1, h.c2, q, rfl, h.hq⟩
    · rw [upd_other _ _ e]
      exact h.fr d
  · show A.places.length = Sm (upd A.free c (A.free c ++ [q]))
    rw [h.frc]
    exact h.top

theorem cl_block {A : Ar} {q c n k : Nat} (h : Cl1 A q c n k) : A.block q n ∧ A.taken.length = A.places.length ∧ A.places.length ≤ 254 := by
  have hc2 := h.c2
  have hpow : 2 ^ c ≤ 2 ^ 7 := Nat.pow_le_pow_right (by omega) h.c2
  have hnc := h.nc
  have hl : A.taken.length = A.places.length := by rw [h.tk]; simp
  have h0 : 0 < 2 ^ c := Nat.pow_pos (by omega)
  have hq := h.hq
  refine ⟨⟨?_, h.pq, by omega⟩, hl, by rw [h.top]; exact Sm_le _⟩
  rw [h.tk, List.getElem?_set_self (by simp; omega)]

/-- Alloc, when nothing is taken -/
theorem clean_alloc {w : World} {F : Nat → Prop} {b : Nat} {A : Ar} (h : Rep w F b A) (hI : Cl A) (n : Nat) (hn : n < 100) :
    Calls Try.prog 11 #[.pointer (some ⟨b, 0, none⟩), .int .i64 n] w fun e w' => ∃ q A1, e = .returned (.tuple #[.int .i64 ((q : Nat) + 1), .nilIface]) ∧ Cl1 A1 q (cls n) n 0 ∧ Rep w' (Ext F w w') b A1 ∧ Kp F w w' := by
  have hcs := cls_spec n (by omega)
  have hc7 := hcs.2.2.2 7 (by omega) (by omega)
  have hpow : 2 ^ cls n ≤ 2 ^ 7 := Nat.pow_le_pow_right (by omega) hc7
  have hsm := Sm_le A.free
  have htop := hI.top
  have hte : A.taken.length = A.places.length := by rw [hI.tk]; simp
  have hsz := hI.size
  have hqu := hI.quota
  have hus := hI.used
  rcases hI.fr (cls n) with e | ⟨e1, e2, x, e3, e4⟩
  · refine (alloc_top n (cls n) h (by omega) rfl (by omega) (by omega) (by omega) (by omega) e (by omega) hte).mono ?_
    rintro e' w' ⟨rfl, h1, h2⟩
    exact ⟨_, _, rfl, cl_top hI hcs.1 hc7 hcs.2.2.1 rfl e, h1, h2⟩
  · refine (alloc_list n (cls n) h (by omega) rfl (by omega) (by omega) (by omega) [] x e3 e4 (by omega) hte).mono ?_
    rintro e' w' ⟨rfl, h1, h2⟩
    exact ⟨_, _, rfl, cl_list hI hcs.1 hc7 hcs.2.2.1 rfl e3 e4, h1, h2⟩

theorem cl_new : Cl (Ar.new 500 500) := by
  refine ⟨rfl, rfl, rfl, rfl, fun c => .inl rfl, ?_⟩
  show 0 = Sm fun _ => []
  rfl
end Go.Proofs.Ythilajdjkglkkaa
