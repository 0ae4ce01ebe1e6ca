/- Tables whose slots were given one after the other. -/
import Derived.Test.YtdcmdidikengbaaTbLaw
import Derived.Test.YtdcmdidikengbaaPlace
namespace Go.Proofs.Ytdcmdidikengbaa
open Go.RowKit
set_option linter.unusedVariables false

/-- the first n slots, given once, all living -/
def firstN (n : Nat) : List Sg := (List.range n).map fun j => ⟨j, true⟩
theorem firstN_len (n : Nat) : (firstN n).length = n := by simp [firstN]
theorem firstN_get {n j : Nat} (h : j < n) : (firstN n)[j]? = some ⟨j, true⟩ := by simp [firstN, h]
theorem firstN_free (n : Nat) : freeAt (firstN n) = n := by
  have := freeAt_end (sl := firstN n) (fun j x hj hx => by
    rw [firstN_len] at hj
    rw [firstN_get hj] at hx
    obtain rfl := Option.some.inj hx
    rfl)
  rw [this, firstN_len]
theorem firstN_end (n : Nat) : (firstN n)[freeAt (firstN n)]? = none := by
  rw [firstN_free, List.getElem?_eq_none_iff, firstN_len]
  exact Nat.le_refl _
theorem firstN_add (n : Nat) : addTo (firstN n) = firstN (n + 1) := by
  unfold addTo
  rw [firstN_end]
  simp only [firstN_len]
  simp [firstN, List.range_succ]
theorem firstN_pid (n : Nat) : addPid (firstN n) = n := by
  unfold addPid
  rw [firstN_end]
  exact firstN_len n
theorem firstN_kind {n : Nat} (hn : n ≤ 64) (p : Int) : kindAt (firstN n) p = if 0 ≤ p ∧ p < n then 0 else 3 := by
  by_cases hp : p < 0
  · rw [kindAt_neg _ hp, if_neg (by omega)]
  · by_cases hs : (n : Int) ≤ slotAt p
    · rw [kindAt_out _ (by rw [firstN_len]; exact hs), if_neg]
      have : slotAt p = p % 64 := by unfold slotAt; rw [if_neg hp]
      omega
    · have h0 := slotAt_range p
      have hsl : slotAt p = p % 64 := by unfold slotAt; rw [if_neg hp]
      have hlt : (slotAt p).toNat < n := by omega
      rw [kindAt_in hp (firstN_get hlt)]
      simp only []
      by_cases h1 : p < n
      · rw [if_neg (by omega), if_neg (by simp; omega), if_pos (by omega)]
      · rw [if_pos (by omega), if_neg (by omega)]
section
variable {C : Nat → Prop} {w0 w w' : World} {b size B : Nat} {ns : List Nm}
theorem ts_add_first {n : Nat} (h : TS w0 C w b size B (firstN n) ns) (hf : n < size) (hB : B + 64 ≤ 2305843009213693952) :
    Calls Try.prog 11 #[.pointer (some ⟨b, 0, none⟩)] w (fun e w' => e = .returned (.tuple #[.int .i64 (n : Nat), .nilIface]) ∧ TS w0 C w' b size (B + 64) (firstN (n + 1)) ns ∧ Kp (fun q => ¬ C q) w w') := by
  have := ts_add h (by rw [firstN_free]; exact hf) hB
  rw [firstN_pid, firstN_add] at this
  exact this
end
end Go.Proofs.Ytdcmdidikengbaa
