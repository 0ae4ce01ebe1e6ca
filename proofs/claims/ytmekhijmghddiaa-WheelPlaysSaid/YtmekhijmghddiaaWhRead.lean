/- A wheel's slots: the slot of a time, the next one that holds timers. -/
import Derived.Test.YtmekhijmghddiaaWhDrop

namespace Go.Proofs.Ytmekhijmghddiaa
open Go.RowKit

section
variable {F G : Nat → Prop} {w w1 w' : World} {b : Nat} {hv : List Value} {ch : Nat → List Tm}
set_option maxHeartbeats 1000000 in
theorem at_q (w : World) (b o time L : Nat) (hL : 0 < L) (hL2 : L ≤ 16777216) (ht : time ≤ 4611686018427387904) :
    Calls Try.prog 42 #[.pointer (some ⟨b, o, none⟩), .int .i64 (time : Nat), .int .i64 (L : Nat)] w fun e w' => e = .returned (.pointer (some ⟨b, o + time / L % 64, none⟩)) ∧ ∃ m, w' = w.drewN m := by
  have h1 : (0 : Int) ≤ (time : Int) := by omega
  have h2 : (0 : Int) < (L : Int) := by omega
  have hq0 : time / L ≤ time := Nat.div_le_self _ _
  obtain ⟨Q, hQ⟩ : ∃ Q, time / L = Q := ⟨_, rfl⟩
  have hq1 : ((time : Int) / (L : Int)) = (Q : Int) := by rw [← hQ]; rfl
  have hq2 : (time : Int).tdiv (L : Int) = (Q : Int) := by rw [Int.tdiv_eq_ediv_of_nonneg h1]; exact hq1
  rw [hQ] at hq0 ⊢
  obtain ⟨R, hR⟩ : ∃ R, Q % 64 = R := ⟨_, rfl⟩
  have hr1 : ((Q : Int) % 64) = (R : Int) := by omega
  have hr2 : (Q : Int).tmod 64 = (R : Int) := by rw [Int.tmod_eq_emod_of_nonneg (by omega)]; exact hr1
  have hr3 : R < 64 := by omega
  have hQ2 : (Q : Int) ≤ 4611686018427387904 := by omega
  have hL3 : ¬ (L : Int) = 0 := by omega
  have hL4 : ¬ L = 0 := by omega
  rw [hR]
  clear hQ hR hL hL2
  go_enter Try.func42, Try.ntmps42
  go_wp2_with fail
  go_quiet (fail)
  go_wp2_with fail
  go_ret
  exact ⟨rfl, _, rfl⟩
/-- n is how many slots on in wheel j the next one is that holds timers; 0: there is none -/
def IsAhead (ch : Nat → List Tm) (j this n : Nat) : Prop :=
  (n = 0 ∧ ∀ m, 1 ≤ m → m ≤ 64 → ch (64 * j + (this + m) % 64) = []) ∨ (1 ≤ n ∧ n ≤ 64 ∧ ch (64 * j + (this + n) % 64) ≠ [] ∧ ∀ m, 1 ≤ m → m < n → ch (64 * j + (this + m) % 64) = [])
def AheadIs (ch : Nat → List Tm) (j this : Nat) (w : World) (e : Ending) (w' : World) : Prop := ∃ n : Nat, e = .returned (.int .i64 (n : Nat)) ∧ IsAhead ch j this n ∧ w = w'

set_option maxHeartbeats 1000000 in
theorem ahead_any (h : Chn w F b hv ch) {j this : Nat} (hj : j < 5) (hthis : this ≤ 4611686018427387904) :
    Calls Try.prog 45 #[.pointer (some ⟨b, 4 + 64 * j, none⟩), .int .i64 (this : Nat)] w (AheadIs ch j this w) := by
  have fb := h.fz
  have H := Lib.hid h
  obtain ⟨o, ho⟩ : ∃ o, 4 + 64 * j = o := ⟨_, rfl⟩
  have HO := Lib.hid ho
  have ht2 : (this : Int) ≤ 4611686018427387904 := by omega
  rw [ho]
  clear h ho
  go_enter Try.func45, Try.ntmps45
  go_wp2_with fail
  go_loopg [5] 64 (fun gk i wr => ∃ m : Nat, 1 ≤ m ∧ m ≤ 65 ∧ gk = 65 - m ∧ i = .int .i64 (m : Nat) ∧ Hid (∀ m', 1 ≤ m' → m' < m → ch (64 * j + (this + m') % 64) = []) ∧ w = wr)
  case atStart => exact ⟨1, by omega, by omega, rfl, rfl, Lib.hid (fun m' h1 h2 => by omega), rfl⟩
  case round =>
    obtain ⟨m, hm1, hm2, rfl, rfl, HM, rfl⟩ := hrel
    by_cases hm : m = 65
    · subst hm
      go_wp2_with fail
      go_ret
      exact ⟨0, rfl, .inl ⟨rfl, fun m' h1 h2 => HM.out m' h1 (by omega)⟩, rfl⟩
    · obtain ⟨R, hR⟩ : ∃ R, (this + m) % 64 = R := ⟨_, rfl⟩
      have hr1 : ((this : Int) + (m : Int)) % 64 = (R : Int) := by omega
      have hr2 : ((this : Int) + (m : Int)).tmod 64 = (R : Int) := by rw [Int.tmod_eq_emod_of_nonneg (by omega)]; exact hr1
      have hr3 : R < 64 := by omega
      have hm3 : (m : Int) ≤ 64 := by omega
      have hc := H.out.slot (s := 64 * j + R) (by omega)
      rw [show 4 + (64 * j + R) = o + R by have := HO.out; omega] at hc
      have HR := Lib.hid hR
      cases hl : ch (64 * j + R) with
      | nil =>
        rw [hl, show tptr (hdOr [] none) = .pointer none from rfl] at hc
        have HL := Lib.hid hl
        clear hl hR
        go_wp2_with fail
        go_roundg (65 - (m + 1))
        case measure => omega
        case rel =>
          refine ⟨m + 1, by omega, by omega, rfl, by go_num, Lib.hid ?_, rfl⟩
          intro m' h1 h2
          by_cases e : m' = m
          · subst e; rw [HR.out]; exact HL.out
          · exact HM.out m' h1 (by omega)
      | cons a l =>
        rw [hl, show tptr (hdOr (a :: l) none) = .pointer (some ⟨a.blk, 0, none⟩) from rfl] at hc
        have HL := Lib.hid hl
        clear hl hR
        go_wp2_with fail
        go_ret
        exact ⟨m, rfl, .inr ⟨hm1, by omega, by rw [HR.out, HL.out]; simp, HM.out⟩, rfl⟩
/-- what the search finds -/
def NextIs (ch : Nat → List Tm) (now : Nat) (w : World) (e : Ending) (w' : World) : Prop :=
  (∃ m, w' = w.drewN m) ∧
  ((e = .returned (.tuple #[.int .i64 0, .bool false]) ∧ ∀ k, k < 5 → IsAhead ch k (now / whLg k) 0) ∨
    ∃ k n, k < 5 ∧ 1 ≤ n ∧ IsAhead ch k (now / whLg k) n ∧ (∀ k', k' < k → IsAhead ch k' (now / whLg k') 0) ∧ e = .returned (.tuple #[.int .i64 (((now / whLg k + n) * whLg k : Nat) : Int), .bool true]))

set_option maxRecDepth 100000 in
set_option maxHeartbeats 4000000 in
theorem next_any (h : Chn w F b hv ch) {now : Nat} (hnow : hv[1]? = some (.int .i64 (now : Nat))) (hnow2 : now ≤ 2305843009213693952) :
    Calls Try.prog 40 #[.pointer (some ⟨b, 0, none⟩)] w (NextIs ch now w) := by
  have c1 := h.head hnow
  have fb := h.fz
  have HA := Lib.hid (fun (k : Nat) (hk : k < 5) (this : Nat) (ht : this ≤ 4611686018427387904) (m : Nat) => ahead_any (h.drewN m) hk ht)
  have hn2 : (now : Int) ≤ 2305843009213693952 := by omega
  clear h hnow
  go_enter Try.func40, Try.ntmps40
  go_wp2_with fail
  go_quiet (fail)
  go_wp2_with fail
  obtain ⟨wq, hwq⟩ : ∃ wq, w.drewN nq = wq := ⟨_, rfl⟩
  have HW := Lib.hid hwq
  have HA2 := Lib.hid (fun (k : Nat) (hk : k < 5) (this : Nat) (ht : this ≤ 4611686018427387904) => HA.out k hk this ht nq)
  rw [hwq] at HA2
  have c1q : wq.cell? ⟨b, 1, none⟩ = some (.int .i64 (now : Nat)) := by rw [← hwq]; exact c1
  have fbq : ∀ o, wq.frozen? ⟨b, o, none⟩ = false := by rw [← hwq]; exact fb
  rw [hwq]
  clear hwq HA c1 fb
  go_loopg [4, 6, 7, 8, 40] 5 (fun gk s4 s6 s7 s8 s40 wr => ∃ k : Nat, k ≤ 5 ∧ gk = 5 - k ∧ s40 = .int .i64 (k : Nat) ∧ s4 = .int .i64 ((64 ^ k : Nat) : Int) ∧ Hid (∀ k', k' < k → IsAhead ch k' (now / whLg k') 0) ∧ wq = wr)
  case atStart => exact ⟨0, by omega, rfl, rfl, rfl, Lib.hid (fun k' h => by omega), rfl⟩
  case round =>
    obtain ⟨k, hk, rfl, rfl, rfl, HE, rfl⟩ := hrel
    have hkk : k = 0 ∨ k = 1 ∨ k = 2 ∨ k = 3 ∨ k = 4 ∨ k = 5 := by omega
    rcases hkk with rfl | rfl | rfl | rfl | rfl | rfl
    · have hi := fun w => show (Instr.index 117 (.agg #[.pointer (some ⟨b, 4, none⟩), .pointer (some ⟨b, 68, none⟩), .pointer (some ⟨b, 132, none⟩), .pointer (some ⟨b, 196, none⟩), .pointer (some ⟨b, 260, none⟩)]) (.int .i64 0)).run Try.prog w = .ok (.pointer (some ⟨b, 4, none⟩)) w from by kernel_rfl
      have HC := Lib.hid (HA2.out 0 (by omega) (now / 1) (by omega))
      obtain ⟨Q, hQ⟩ : ∃ Q, now / 1 = Q := ⟨_, rfl⟩
      have hq1 : ((now : Int) / 1) = (Q : Int) := by omega
      have hq2 : (now : Int).tdiv 1 = (Q : Int) := by rw [Int.tdiv_eq_ediv_of_nonneg (by omega)]; exact hq1
      have hqb : (Q : Int) ≤ 2305843009213693952 := by omega
      have HQ := Lib.hid (show now / whLg 0 = Q from hQ)
      rw [hQ] at HC
      obtain rfl : now = Q := by omega
      clear hQ hq1 hq2
      go_wp2_with fail
      refine HC.out.mono ?_
      rintro e w1 ⟨n, rfl, hn, rfl⟩
      have hn64 : n ≤ 64 := by rcases hn with ⟨h, _⟩ | ⟨_, h, _⟩ <;> omega
      have HN := Lib.hid hn
      clear hn
      by_cases hn0 : n = 0
      · subst hn0
        go_wp2_with fail
        go_roundg (5 - (0 + 1))
        case measure => omega
        case rel =>
          refine ⟨0 + 1, by omega, rfl, rfl, rfl, Lib.hid ?_, rfl⟩
          intro k' hk'
          by_cases e : k' = 0
          · subst e; rw [HQ.out]; exact HN.out
          · exact HE.out k' (by omega)
      · have hnp : (0 : Int) < (n : Int) := by omega
        go_wp2_with fail
        go_ret2
        refine ⟨⟨nq, HW.out.symm⟩, .inr ⟨0, n, by omega, by omega, by rw [HQ.out]; exact HN.out, HE.out, ?_⟩⟩
        rw [HQ.out]
        simp [whLg]
    · have hi := fun w => show (Instr.index 117 (.agg #[.pointer (some ⟨b, 4, none⟩), .pointer (some ⟨b, 68, none⟩), .pointer (some ⟨b, 132, none⟩), .pointer (some ⟨b, 196, none⟩), .pointer (some ⟨b, 260, none⟩)]) (.int .i64 1)).run Try.prog w = .ok (.pointer (some ⟨b, 68, none⟩)) w from by kernel_rfl
      have HC := Lib.hid (HA2.out 1 (by omega) (now / 64) (by omega))
      obtain ⟨Q, hQ⟩ : ∃ Q, now / 64 = Q := ⟨_, rfl⟩
      have hq1 : ((now : Int) / 64) = (Q : Int) := by omega
      have hq2 : (now : Int).tdiv 64 = (Q : Int) := by rw [Int.tdiv_eq_ediv_of_nonneg (by omega)]; exact hq1
      have hqb : (Q : Int) ≤ 2305843009213693952 := by omega
      have HQ := Lib.hid (show now / whLg 1 = Q from hQ)
      rw [hQ] at HC
      clear hQ
      go_wp2_with fail
      refine HC.out.mono ?_
      rintro e w1 ⟨n, rfl, hn, rfl⟩
      have hn64 : n ≤ 64 := by rcases hn with ⟨h, _⟩ | ⟨_, h, _⟩ <;> omega
      have HN := Lib.hid hn
      clear hn
      by_cases hn0 : n = 0
      · subst hn0
        go_wp2_with fail
        go_roundg (5 - (1 + 1))
        case measure => omega
        case rel =>
          refine ⟨1 + 1, by omega, rfl, rfl, rfl, Lib.hid ?_, rfl⟩
          intro k' hk'
          by_cases e : k' = 1
          · subst e; rw [HQ.out]; exact HN.out
          · exact HE.out k' (by omega)
      · have hnp : (0 : Int) < (n : Int) := by omega
        go_wp2_with fail
        go_ret2
        refine ⟨⟨nq, HW.out.symm⟩, .inr ⟨1, n, by omega, by omega, by rw [HQ.out]; exact HN.out, HE.out, ?_⟩⟩
        rw [HQ.out]
        simp [whLg]
    · have hi := fun w => show (Instr.index 117 (.agg #[.pointer (some ⟨b, 4, none⟩), .pointer (some ⟨b, 68, none⟩), .pointer (some ⟨b, 132, none⟩), .pointer (some ⟨b, 196, none⟩), .pointer (some ⟨b, 260, none⟩)]) (.int .i64 2)).run Try.prog w = .ok (.pointer (some ⟨b, 132, none⟩)) w from by kernel_rfl
      have HC := Lib.hid (HA2.out 2 (by omega) (now / 4096) (by omega))
      obtain ⟨Q, hQ⟩ : ∃ Q, now / 4096 = Q := ⟨_, rfl⟩
      have hq1 : ((now : Int) / 4096) = (Q : Int) := by omega
      have hq2 : (now : Int).tdiv 4096 = (Q : Int) := by rw [Int.tdiv_eq_ediv_of_nonneg (by omega)]; exact hq1
      have hqb : (Q : Int) ≤ 2305843009213693952 := by omega
      have HQ := Lib.hid (show now / whLg 2 = Q from hQ)
      rw [hQ] at HC
      clear hQ
      go_wp2_with fail
      refine HC.out.mono ?_
      rintro e w1 ⟨n, rfl, hn, rfl⟩
      have hn64 : n ≤ 64 := by rcases hn with ⟨h, _⟩ | ⟨_, h, _⟩ <;> omega
      have HN := Lib.hid hn
      clear hn
      by_cases hn0 : n = 0
      · subst hn0
        go_wp2_with fail
        go_roundg (5 - (2 + 1))
        case measure => omega
        case rel =>
          refine ⟨2 + 1, by omega, rfl, rfl, rfl, Lib.hid ?_, rfl⟩
          intro k' hk'
          by_cases e : k' = 2
          · subst e; rw [HQ.out]; exact HN.out
          · exact HE.out k' (by omega)
      · have hnp : (0 : Int) < (n : Int) := by omega
        go_wp2_with fail
        go_ret2
        refine ⟨⟨nq, HW.out.symm⟩, .inr ⟨2, n, by omega, by omega, by rw [HQ.out]; exact HN.out, HE.out, ?_⟩⟩
        rw [HQ.out]
        simp [whLg]
    · have hi := fun w => show (Instr.index 117 (.agg #[.pointer (some ⟨b, 4, none⟩), .pointer (some ⟨b, 68, none⟩), .pointer (some ⟨b, 132, none⟩), .pointer (some ⟨b, 196, none⟩), .pointer (some ⟨b, 260, none⟩)]) (.int .i64 3)).run Try.prog w = .ok (.pointer (some ⟨b, 196, none⟩)) w from by kernel_rfl
      have HC := Lib.hid (HA2.out 3 (by omega) (now / 262144) (by omega))
      obtain ⟨Q, hQ⟩ : ∃ Q, now / 262144 = Q := ⟨_, rfl⟩
      have hq1 : ((now : Int) / 262144) = (Q : Int) := by omega
      have hq2 : (now : Int).tdiv 262144 = (Q : Int) := by rw [Int.tdiv_eq_ediv_of_nonneg (by omega)]; exact hq1
      have hqb : (Q : Int) ≤ 2305843009213693952 := by omega
      have HQ := Lib.hid (show now / whLg 3 = Q from hQ)
      rw [hQ] at HC
      clear hQ
      go_wp2_with fail
      refine HC.out.mono ?_
      rintro e w1 ⟨n, rfl, hn, rfl⟩
      have hn64 : n ≤ 64 := by rcases hn with ⟨h, _⟩ | ⟨_, h, _⟩ <;> omega
      have HN := Lib.hid hn
      clear hn
      by_cases hn0 : n = 0
      · subst hn0
        go_wp2_with fail
        go_roundg (5 - (3 + 1))
        case measure => omega
        case rel =>
          refine ⟨3 + 1, by omega, rfl, rfl, rfl, Lib.hid ?_, rfl⟩
          intro k' hk'
          by_cases e : k' = 3
          · subst e; rw [HQ.out]; exact HN.out
          · exact HE.out k' (by omega)
      · have hnp : (0 : Int) < (n : Int) := by omega
        go_wp2_with fail
        go_ret2
        refine ⟨⟨nq, HW.out.symm⟩, .inr ⟨3, n, by omega, by omega, by rw [HQ.out]; exact HN.out, HE.out, ?_⟩⟩
        rw [HQ.out]
        simp [whLg]
    · have hi := fun w => show (Instr.index 117 (.agg #[.pointer (some ⟨b, 4, none⟩), .pointer (some ⟨b, 68, none⟩), .pointer (some ⟨b, 132, none⟩), .pointer (some ⟨b, 196, none⟩), .pointer (some ⟨b, 260, none⟩)]) (.int .i64 4)).run Try.prog w = .ok (.pointer (some ⟨b, 260, none⟩)) w from by kernel_rfl
      have HC := Lib.hid (HA2.out 4 (by omega) (now / 16777216) (by omega))
      obtain ⟨Q, hQ⟩ : ∃ Q, now / 16777216 = Q := ⟨_, rfl⟩
      have hq1 : ((now : Int) / 16777216) = (Q : Int) := by omega
      have hq2 : (now : Int).tdiv 16777216 = (Q : Int) := by rw [Int.tdiv_eq_ediv_of_nonneg (by omega)]; exact hq1
      have hqb : (Q : Int) ≤ 2305843009213693952 := by omega
      have HQ := Lib.hid (show now / whLg 4 = Q from hQ)
      rw [hQ] at HC
      clear hQ
      go_wp2_with fail
      refine HC.out.mono ?_
      rintro e w1 ⟨n, rfl, hn, rfl⟩
      have hn64 : n ≤ 64 := by rcases hn with ⟨h, _⟩ | ⟨_, h, _⟩ <;> omega
      have HN := Lib.hid hn
      clear hn
      by_cases hn0 : n = 0
      · subst hn0
        go_wp2_with fail
        go_roundg (5 - (4 + 1))
        case measure => omega
        case rel =>
          refine ⟨4 + 1, by omega, rfl, rfl, rfl, Lib.hid ?_, rfl⟩
          intro k' hk'
          by_cases e : k' = 4
          · subst e; rw [HQ.out]; exact HN.out
          · exact HE.out k' (by omega)
      · have hnp : (0 : Int) < (n : Int) := by omega
        go_wp2_with fail
        go_ret2
        refine ⟨⟨nq, HW.out.symm⟩, .inr ⟨4, n, by omega, by omega, by rw [HQ.out]; exact HN.out, HE.out, ?_⟩⟩
        rw [HQ.out]
        simp [whLg]
    · go_wp2_with fail
      go_ret2
      exact ⟨⟨nq, HW.out.symm⟩, .inl ⟨rfl, HE.out⟩⟩
end
end Go.Proofs.Ytmekhijmghddiaa
