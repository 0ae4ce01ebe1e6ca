/- Arithmetic of words: three bits put together, and cut off. -/
import Derived.WalkKit
import Derived.Laws.Bits64b
namespace Go
open Go.RowKit

theorem u64_in (n : Int) (h0 : 0 ≤ n) (h1 : n ≤ 18446744073709551615) : IntKind.u64.wrap n = n := by
  rw [IntKind.wrap_u64]; omega

/-- x * 8 | y -/
theorem or_low (x y : Int) (k : Nat) (h0 : 0 ≤ x) (h1 : x * 2 ^ k < 18446744073709551616) (h2 : 0 ≤ y) (h3 : y < 2 ^ k) (hk : k ≤ 64) : bits BinOp.or IntKind.u64 (x * 2 ^ k) y = x * 2 ^ k + y := by
  obtain ⟨a, rfl⟩ := Int.eq_ofNat_of_zero_le h0
  obtain ⟨b, rfl⟩ := Int.eq_ofNat_of_zero_le h2
  have e2 : ((2 ^ k : Nat) : Int) = 2 ^ k := by simp
  have e3 : ((a * 2 ^ k : Nat) : Int) = (a : Int) * 2 ^ k := by simp
  have h3' : b < 2 ^ k := by rw [← e2] at h3; omega
  have h1' : a * 2 ^ k < 18446744073709551616 := by rw [← e3] at h1; omega
  have hlt : b < 18446744073709551616 := by
    have : 2 ^ k ≤ 2 ^ 64 := Nat.pow_le_pow_right (by omega) hk
    omega
  have h := bits_or_u64_nat (a * 2 ^ k) b h1' hlt
  have e := Nat.two_pow_add_eq_or_of_lt h3' a
  rw [Nat.mul_comm] at e
  rw [← e] at h
  rw [Int.natCast_add, e3] at h
  exact h
theorem or_low3 (x y : Int) (h0 : 0 ≤ x) (h1 : x ≤ 2305843009213693951) (h2 : 0 ≤ y) (h3 : y < 8) : bits BinOp.or IntKind.u64 (x * 8) y = x * 8 + y :=
  or_low x y 3 h0 (by omega) h2 h3 (by omega)

theorem and_low (x : Int) (k : Nat) (h0 : 0 ≤ x) (h1 : x ≤ 18446744073709551615) (hk : k < 64) : bits BinOp.and IntKind.u64 x (2 ^ k - 1) = x % 2 ^ k := by
  obtain ⟨a, rfl⟩ := Int.eq_ofNat_of_zero_le h0
  have h2 : 2 ^ k ≤ 2 ^ 63 := Nat.pow_le_pow_right (by omega) (by omega)
  have hp : 0 < 2 ^ k := Nat.two_pow_pos k
  have h := bits_and_u64_nat a (2 ^ k - 1) (by omega) (by omega)
  rw [Nat.and_two_pow_sub_one_eq_mod] at h
  have e : ((2 ^ k - 1 : Nat) : Int) = 2 ^ k - 1 := by
    rw [Int.ofNat_sub hp]; simp
  rw [← e]
  refine h.trans ?_
  simp
theorem and_low3 (x : Int) (h0 : 0 ≤ x) (h1 : x ≤ 18446744073709551615) : bits BinOp.and IntKind.u64 x 7 = x % 8 := and_low x 3 h0 h1 (by omega)

/-- a tag is put behind a number -/
theorem tagged (n tag : Int) (h2 : 0 ≤ tag) (h3 : tag < 8) : bits BinOp.or IntKind.u64 (IntKind.u64.wrap (IntKind.u64.wrap n * 8)) tag = n * 8 % 18446744073709551616 + tag := by
  have e : IntKind.u64.wrap (IntKind.u64.wrap n * 8) = (n % 2305843009213693952) * 8 := by
    rw [IntKind.wrap_u64, IntKind.wrap_u64]; omega
  rw [e, or_low3 _ _ (by omega) (by omega) h2 h3]
  omega
theorem mark_bits (k n : Int) (h1 : 0 ≤ k) (h2 : k ≤ 7) (h3 : 0 ≤ n) (h4 : n ≤ 1048576) : bits BinOp.or IntKind.u64 (bits BinOp.or IntKind.u64 (n * 64) (k * 8)) 7 = n * 64 + k * 8 + 7 := by
  have a := or_low n (k * 8) 6 h3 (by omega) (by omega) (by omega) (by omega)
  simp only [show (2 : Int) ^ 6 = 64 from rfl] at a
  rw [a, show n * 64 + k * 8 = (n * 8 + k) * 8 by omega]
  exact or_low3 _ _ (by omega) (by omega) (by omega) (by omega)
end Go
