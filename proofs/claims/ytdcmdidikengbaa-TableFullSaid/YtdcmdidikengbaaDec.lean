/- A number's digits, as the statements write them. -/
import Derived.Test.YtdcmdidikengbaaFrame
import Derived.Test.YtdcmdidikengbaaProg
import Derived.WalkSpells
import Derived.WalkLawsBesides
import Derived.Deep.LoopGhost
import Derived.Laws.Closers25b
import Derived.Lib.Hide
namespace Go.Proofs.Ytdcmdidikengbaa
open Go.RowKit

def decF : Nat → Nat → List UInt8 → List UInt8
  | 0, _, s => s
  | f + 1, u, s => if u = 0 ∧ s ≠ [] then s else decF f (u / 10) (UInt8.ofNat (48 + u % 10) :: s)
/-- the digits of a number -/
def dec (v : Nat) : List UInt8 := decF 21 v []
def val : List UInt8 → Nat
  | [] => 0
  | c :: s => (c.toNat - 48) * 10 ^ s.length + val s

theorem val_decF : ∀ (f u : Nat) (s : List UInt8), u < 10 ^ f → val (decF f u s) = u * 10 ^ s.length + val s
  | 0, u, s, h => by
    have : u = 0 := by simpa using h
    subst this
    simp [decF]
  | f + 1, u, s, h => by
    unfold decF
    split
    · rename_i h0
      rw [h0.1]; simp
    · have h1 : u / 10 < 10 ^ f := by rw [Nat.pow_succ] at h; omega
      rw [val_decF f _ _ h1]
      have e : (UInt8.ofNat (48 + u % 10)).toNat - 48 = u % 10 := by
        rw [UInt8.toNat_ofNat', Nat.mod_eq_of_lt (by omega)]; omega
      show _ + (_ * _ + val s) = _
      rw [e, List.length_cons, Nat.pow_succ, ← Nat.add_assoc]
      congr 1
      have h2 : u = u / 10 * 10 + u % 10 := by omega
      conv => rhs; rw [h2]
      rw [Nat.add_mul, Nat.mul_comm (10 ^ s.length) 10, ← Nat.mul_assoc]
theorem len_decF : ∀ (f u : Nat) (s : List UInt8), (decF f u s).length ≤ f + s.length
  | 0, _, s => by simp [decF]
  | f + 1, u, s => by
    unfold decF
    split
    · omega
    · have := len_decF f (u / 10) (UInt8.ofNat (48 + u % 10) :: s)
      rw [List.length_cons] at this
      omega
theorem dec_inj {a b : Nat} (ha : a < 10 ^ 21) (hb : b < 10 ^ 21) (h : dec a = dec b) : a = b := by
  have h1 := val_decF 21 a [] ha
  have h2 := val_decF 21 b [] hb
  unfold dec at h
  rw [h] at h1
  rw [h1] at h2
  simpa [val] using h2

theorem digit (r : Nat) (hr : r < 10) (l : List UInt8) : (⟨#[48, 49, 50, 51, 52, 53, 54, 55, 56, 57]⟩ : ByteArray).extract r (r + 1) ++ ⟨l.toArray⟩ = ⟨(UInt8.ofNat (48 + r) :: l).toArray⟩ := by
  have e : (⟨#[48, 49, 50, 51, 52, 53, 54, 55, 56, 57]⟩ : ByteArray).extract r (r + 1) = ⟨#[UInt8.ofNat (48 + r)]⟩ := by
    have : r = 0 ∨ r = 1 ∨ r = 2 ∨ r = 3 ∨ r = 4 ∨ r = 5 ∨ r = 6 ∨ r = 7 ∨ r = 8 ∨ r = 9 := by omega
    rcases this with rfl | rfl | rfl | rfl | rfl | rfl | rfl | rfl | rfl | rfl <;> rfl
  rw [e]
  apply ByteArray.ext
  rw [ByteArray.data_append]
  simp

theorem pow_lt {x j : Nat} (hx : 1 ≤ x) (h : x * 10 ^ j ≤ 9223372036854775807) : j ≤ 18 := by
  refine Nat.le_of_not_lt fun hj => ?_
  have h1 : 10 ^ 19 ≤ 10 ^ j := Nat.pow_le_pow_right (by omega) (by omega)
  have h2 : 10 ^ j ≤ x * 10 ^ j := Nat.le_mul_of_pos_left _ hx
  have h3 : 10 ^ 19 = 10000000000000000000 := by decide
  omega

set_option maxHeartbeats 1000000 in
set_option maxRecDepth 100000 in
theorem dec_any (v : Nat) (w : World) (hv : (v : Int) ≤ 9223372036854775807) :
    Calls Try.prog 19 #[.int .i64 v] w fun e w' => e = .returned (.string ⟨(dec v).toArray⟩) ∧ w' = w := by
  have hw : IntKind.u64.wrap (v : Int) = v := by rw [IntKind.wrap_u64]; omega
  go_enter Try.func19, Try.ntmps19
  go_wp2_with fail
  go_loopg [3, 4] 21 (fun gk u s wr => ∃ (j x : Nat) (l : List UInt8), j ≤ 20 ∧ gk = 21 - j ∧ u = Value.int .u64 x ∧ s = Value.string ⟨l.toArray⟩ ∧ decF (21 - j) x l = dec v ∧ (x : Int) ≤ 9223372036854775807 ∧ l.length = j ∧ x * 10 ^ j ≤ 9223372036854775807 ∧ wr = w)
  case atStart => exact ⟨0, v, [], by omega, rfl, rfl, rfl, rfl, hv, rfl, by rw [Nat.pow_zero, Nat.mul_one]; omega, rfl⟩
  case round =>
    obtain ⟨j, x, l, hj, rfl, rfl, rfl, hd, hx, hl, hp, rfl⟩ := hrel
    by_cases hx0 : x = 0
    · subst hx0
      by_cases hl0 : l = []
      · subst hl0
        obtain rfl : j = 0 := hl.symm
        have Hd := Lib.hid (And.intro hd hl)
        clear hd hl
        go_wp2_with fail
        go_roundg 20
        case measure => omega
        case rel => exact ⟨1, 0, [48], by omega, rfl, rfl, rfl, Hd.out.1, by omega, rfl, by omega, rfl⟩
      · have f3 : l.isEmpty = false := by rw [Bool.eq_false_iff]; exact fun e => hl0 (List.isEmpty_iff.1 e)
        have f4 : ¬ l = [] := hl0
        have hfin : decF (21 - j) 0 l = l := by
          rw [show 21 - j = (20 - j) + 1 by omega]
          unfold decF
          rw [if_pos ⟨rfl, hl0⟩]
        rw [hfin] at hd
        have Hd := Lib.hid (And.intro hd hl)
        clear hd hl hl0 hfin
        go_wp2_with fail
        go_ret
        obtain rfl := Hd.out.1
        exact ⟨rfl, rfl⟩
    · have hxi : (0 : Int) < x := by omega
      have hj18 := pow_lt (by omega) hp
      have hdg := digit (x % 10) (by omega) l
      have hsz : (⟨l.toArray⟩ : ByteArray).size ≤ 20 := by show l.toArray.size ≤ 20; simp; omega
      have hsz2 : ((⟨#[48, 49, 50, 51, 52, 53, 54, 55, 56, 57]⟩ : ByteArray).extract (x % 10) (x % 10 + 1)).size ≤ 10 := by rw [ByteArray.size_extract]; omega
      have Hd := Lib.hid (And.intro hd (And.intro hl (And.intro hp hdg)))
      clear hd hl hp hdg
      go_wp2_with fail
      rw [Hd.out.2.2.2]
      go_roundg (20 - j)
      case measure => omega
      case rel =>
        refine ⟨j + 1, x / 10, _, by omega, by omega, rfl, rfl, ?_, by omega, by rw [List.length_cons, Hd.out.2.1], ?_, rfl⟩
        · rw [← Hd.out.1, show 21 - j = (21 - (j + 1)) + 1 by omega]
          conv => rhs; unfold decF
          rw [if_neg (fun e => hx0 e.1)]
        · have h1 := Hd.out.2.2.1
          rw [Nat.pow_succ, Nat.mul_comm (10 ^ j) 10, ← Nat.mul_assoc]
          exact Nat.le_trans (Nat.mul_le_mul_right _ (by omega)) h1
end Go.Proofs.Ytdcmdidikengbaa
