/- Numbers that follow one another. -/
import Derived.Test.YtgdmcinfgfejcaaBxAwake
namespace Go.Proofs.Ytgdmcinfgfejcaa
open Go.RowKit
theorem u64_in (x : Int) (h0 : 0 ≤ x) (h1 : x ≤ 18446744073709551615) : IntKind.u64.wrap x = x := by
  simp [IntKind.wrap, IntKind.signed, IntKind.bits]
  omega
theorem slice_po {p q : Option Addr} {a b c d : Nat} (h : Value.slice p a b = Value.slice q c d) : p = q := by injection h
def ups (k n : Nat) : List Int := (List.range n).map fun i => ((k + i : Nat) : Int)
theorem ups_len (k n : Nat) : (ups k n).length = n := by simp [ups]
theorem ups_succ (k n : Nat) : ups k (n + 1) = ups k n ++ [((k + n : Nat) : Int)] := by simp [ups, List.range_succ]
theorem ups_get {k n i : Nat} (h : i < n) : (ups k n)[i]? = some ((k + i : Nat) : Int) := by simp [ups, h]
theorem ups_tail (k n : Nat) : (ups k (n + 1)).eraseIdx 0 = ups (k + 1) n := by
  apply List.ext_getElem?
  intro i
  rw [List.getElem?_eraseIdx]
  by_cases hi : i < n
  · rw [if_neg (by omega), ups_get (by omega), ups_get hi]
    congr 2; omega
  · rw [if_neg (by omega), List.getElem?_eq_none (by rw [ups_len]; omega), List.getElem?_eq_none (by rw [ups_len]; omega)]
theorem ups_erase {n p i : Nat} (hi : i < n - 1) : ((ups 0 n).eraseIdx p)[i]? = some (((if i < p then i else i + 1 : Nat) : Nat) : Int) := by
  rw [List.getElem?_eraseIdx]
  split
  · rw [ups_get (by omega)]; congr 2; omega
  · rw [ups_get (by omega)]; congr 2; omega
end Go.Proofs.Ytgdmcinfgfejcaa
