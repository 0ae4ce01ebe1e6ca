/- Two rows of the same integers. -/
import Derived.Test.YtlnckpjpoaokjaaFrame
import Derived.Test.YtlnckpjpoaokjaaProg
import Derived.WalkKit
import Derived.Lib.Hide
import Derived.RegionTactic
import Derived.Deep.LoopGhost
import Derived.LoopN
import Derived.BigQuiet
import Derived.Deep.QuietTactic
namespace Go.Proofs.Ytlnckpjpoaokjaa
open Go.RowKit

set_option maxHeartbeats 400000 in
/-- two rows of the same integers -/
theorem sameInts_any (l : List Int) (s1 s2 : Value) (w : World) (base : Nat) (hl : l.length ≤ 1048576) (h1 : w.ownsRow base 3 1 s1 l.length (l.map (Value.int .i64))) (h2 : w.ownsRow base 3 1 s2 l.length (l.map (Value.int .i64))) :
    Calls Try.prog 25 #[s1, s2] w fun e w' => e = .returned (.bool true) ∧ Kp (fun _ => False) w w' := by
  have key : ∀ s, w.ownsRow base 3 1 s l.length (l.map (Value.int .i64)) → ∃ po cap, s = .slice po l.length cap ∧ ∀ (i : Nat) (x : Int), l[i]? = some x → ∃ g, po = some ⟨g, 0, none⟩ ∧ w.cell? ⟨g, i, none⟩ = some (.int .i64 x) := by
    intro s h
    have h' := h
    rcases h.2 with ⟨e, h0⟩ | ⟨g, cap, cur, e, _⟩
    · refine ⟨none, 0, by rw [h0]; exact e, fun i a ha => ?_⟩
      have := (List.getElem?_eq_some_iff.1 ha).1
      omega
    · refine ⟨_, cap, e, fun i a ha => ⟨g, rfl, ?_⟩⟩
      have hlt := (List.getElem?_eq_some_iff.1 ha).1
      rw [e] at h'
      rw [h'.cellAt _ (by omega), List.getElem?_map, ha]; rfl
  obtain ⟨p1, c1, rfl, g1⟩ := key s1 h1
  obtain ⟨p2, c2, rfl, g2⟩ := key s2 h2
  clear h1 h2 key
  go_enter Try.func25, Try.ntmps25
  go_wp2_with fail
  go_loopg [5] l.length (fun gk i wr => ∃ (j k : Nat), j ≤ l.length ∧ gk = l.length - j ∧ i = .int .i64 j ∧ wr = w.drewN k)
  case atStart => exact ⟨0, 0, by omega, rfl, rfl, rfl⟩
  case round =>
    obtain ⟨j, k, hj, rfl, rfl, rfl⟩ := hrel
    by_cases hlt : j < l.length
    · obtain ⟨ga, rfl, a1⟩ := g1 j l[j] (List.getElem?_eq_getElem hlt)
      obtain ⟨gb, rfl, b1⟩ := g2 j l[j] (List.getElem?_eq_getElem hlt)
      obtain ⟨a, ha⟩ : ∃ a, l[j] = a := ⟨_, rfl⟩
      rw [ha] at a1 b1
      clear ha g1 g2
      have hli : (j : Int) < l.length := by omega
      go_wp2_with fail
      go_region
      all_goals go_wp2_with fail
      all_goals go_roundg (l.length - (j + 1))
      case measure => omega
      case rel => exact ⟨j + 1, k + 1, by omega, rfl, by go_num, rfl⟩
    · obtain rfl : j = l.length := by omega
      clear g1 g2
      go_wp2_with fail
      go_ret
      exact ⟨rfl, ⟨rfl, rfl, rfl, Nat.le_refl _, fun _ _ _ => rfl⟩⟩
end Go.Proofs.Ytlnckpjpoaokjaa
