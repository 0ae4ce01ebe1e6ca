/- Place: a number as one from 0 to below n. -/
import Derived.Test.YtbdogiblndlimaaFrame
import Derived.Test.YtbdogiblndlimaaProg
import Derived.WalkSpells
import Derived.WalkLawsBesides
import Derived.Lib.Hide
namespace Go.Proofs.Ytbdogiblndlimaa
open Go.RowKit

theorem place_emod (v n : Int) (hn : 0 < n) : (v.tmod n < 0 → v.tmod n + n = v % n) ∧ (0 ≤ v.tmod n → v.tmod n = v % n) := by
  have h1 := Int.tmod_eq_emod (a := v) (b := n)
  have h2 := Int.emod_nonneg v (b := n) (by omega)
  have h3 := Int.emod_lt_of_pos v hn
  split at h1
  · omega
  · omega

set_option maxHeartbeats 400000 in
theorem place_any (w : World) (v n : Int) (_h1 : -9223372036854775808 ≤ v) (_h2 : v ≤ 9223372036854775807) (hn : 0 < n) (hn2 : n ≤ 1048576) :
    Calls Try.prog 10 #[.int .i64 v, .int .i64 n] w fun e w' => e = .returned (.int .i64 (v % n)) ∧ w = w' := by
  have HE := Lib.hid (place_emod v n hn)
  have h3 := Int.lt_tmod_of_pos v hn
  have h4 := Int.tmod_lt_of_pos v hn
  by_cases hneg : v.tmod n < 0
  · go_enter Try.func10, Try.ntmps10
    go_wp2_with fail
    go_ret
    exact ⟨by rw [HE.out.1 hneg]; rfl, rfl⟩
  · go_enter Try.func10, Try.ntmps10
    go_wp2_with fail
    go_ret
    exact ⟨by rw [HE.out.2 (by omega)]; rfl, rfl⟩
end Go.Proofs.Ytbdogiblndlimaa
