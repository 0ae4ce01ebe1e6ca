/- Links from both sides: whether a number is in a row; what an end leaves. -/
import Derived.Test.YtmfhmnlgffgcgaaLkStars
namespace Go.Proofs.Ytmfhmnlgffgcgaa
open Go.RowKit Go.Maps
set_option linter.unusedVariables false

set_option maxRecDepth 100000 in
set_option maxHeartbeats 1000000 in
theorem has_any {w : World} {s : Value} {l : List Int} (h : Lr w s l) (v : Int) : Calls Try.prog 17 #[s, .int .i64 v] w fun e w' => e = .returned (.bool (decide (v ∈ l))) ∧ ∃ k, w' = w.drewN k := by
  obtain ⟨p1, c1, rfl, g1, g2, g3⟩ := h
  have hm : l.length ≤ 9223372036854775807 := by unfold maxLen at g2; omega
  clear g1 g2
  go_enter Try.func17, Try.ntmps17
  go_wp2_with fail
  go_loopg [5] l.length (fun gk i wr => ∃ (j k : Nat), j ≤ l.length ∧ gk = l.length - j ∧ i = .int .i64 j ∧ wr = w.drewN k ∧ Hid (v ∉ l.take j))
  case atStart => exact ⟨0, 0, by omega, rfl, rfl, rfl, Lib.hid (by simp)⟩
  case round =>
    obtain ⟨j, k, hj, rfl, rfl, rfl, HN⟩ := hrel
    by_cases hlt : j < l.length
    · obtain ⟨ga, oa, rfl, a1⟩ := g3 j l[j] (List.getElem?_eq_getElem hlt)
      obtain ⟨a, ha⟩ : ∃ a, l[j] = a := ⟨_, rfl⟩
      have HA := Lib.hid ha
      rw [ha] at a1
      have hli : (j : Int) < l.length := by omega
      by_cases hav : a = v
      · subst hav
        have hmem : a ∈ l := by rw [← HA.out]; exact List.getElem_mem hlt
        have HM := Lib.hid hmem
        clear hmem ha g3 HN
        go_wp2_with fail
        go_ret
        exact ⟨by rw [decide_eq_true HM.out]; rfl, k, rfl⟩
      · have hb : (a == v) = false := by rw [beq_eq_false_iff_ne]; exact hav
        have HF : Hid (v ∉ l.take (j + 1)) := Lib.hid (by
          rw [List.take_succ_eq_append_getElem hlt, List.mem_append]
          rintro (e | e)
          · exact HN.out e
          · simp at e
            exact hav (by rw [← HA.out, e]))
        clear ha g3 HN hav
        go_wp2_with fail
        go_roundg (l.length - (j + 1))
        case measure => omega
        case rel => exact ⟨j + 1, k, by omega, rfl, by go_num, rfl, HF⟩
    · obtain rfl : j = l.length := by omega
      have hno : v ∉ l := by have := HN.out; rwa [List.take_length] at this
      have HM := Lib.hid hno
      clear g3 hno HN
      go_wp2_with fail
      go_ret
      exact ⟨by rw [decide_eq_false HM.out]; rfl, k, rfl⟩
/-- links among the first eight -/
def Eight (ls : List (Int × Int)) : Prop := ∀ p ∈ ls, (0 ≤ p.1 ∧ p.1 < 8) ∧ (0 ≤ p.2 ∧ p.2 < 8)
section
variable {ls : List (Int × Int)} {ms : List Mo} {a x r : Int} {next : Nat}
theorem eight_len (h : Eight ls) (hn : ls.Nodup) : ls.length ≤ 64 := by
  have := nodup_len_le' (M := (List.range 8).flatMap fun i => (List.range 8).map fun j => (((i : Nat) : Int), ((j : Nat) : Int))) hn fun p hp => by
    obtain ⟨h1, h2⟩ := h p hp
    refine List.mem_flatMap.2 ⟨p.1.toNat, List.mem_range.2 (by omega), List.mem_map.2 ⟨p.2.toNat, List.mem_range.2 (by omega), ?_⟩⟩
    exact Prod.ext (by simp; omega) (by simp; omega)
  exact this
theorem eight_add (h : Eight ls) (ha : 0 ≤ a ∧ a < 8) (hx : 0 ≤ x ∧ x < 8) : Eight (addLk ls a x) := by
  unfold addLk
  split
  · exact h
  · intro p hp
    rcases List.mem_append.1 hp with hp | hp
    · exact h p hp
    · simp at hp
      rw [hp]
      unfold lk
      split
      · exact ⟨ha, hx⟩
      · exact ⟨hx, ha⟩
theorem nbs_symm (h : LkOk ls) : decide (x ∈ nbs ls a) = decide (a ∈ nbs ls x) := by
  rw [Bool.eq_iff_iff, decide_eq_true_iff, decide_eq_true_iff, mem_nbs h, mem_nbs h, lk_comm]
theorem nbs_self (h : LkOk ls) : decide (a ∈ nbs ls a) = false := by
  rw [decide_eq_false_iff_not, mem_nbs h]
  intro hm
  have := h.2 _ hm
  unfold lk at this
  split at this
  · omega
  · exact absurd this (Int.lt_irrefl _)
theorem endLs_ok (h : LkOk ls) (a : Int) : LkOk (endLs ls a) := ⟨h.1.filter _, fun p hp => h.2 p (List.mem_filter.1 hp).1⟩
theorem endMs_ok (h : MoOk next ms) (a : Int) : MoOk next (endMs ms a) := h.filter _
theorem nbs_end (h : LkOk ls) : a ∉ nbs (endLs ls a) x ∧ nbs (endLs ls a) a = [] := by
  have key : ∀ y z : Int, lk y z ∈ endLs ls a → y ≠ a ∧ z ≠ a := by
    intro y z hm
    have h2 := (List.mem_filter.1 hm).2
    unfold lk at h2
    split at h2 <;> simp at h2
    · exact ⟨h2.1, h2.2⟩
    · exact ⟨h2.2, h2.1⟩
  refine ⟨fun hm => (key x a ((mem_nbs (endLs_ok h a)).1 hm)).2 rfl, ?_⟩
  rw [List.eq_nil_iff_forall_not_mem]
  intro y hy
  exact (key a y ((mem_nbs (endLs_ok h a)).1 hy)).1 rfl
theorem obs_end (ms : List Mo) (a : Int) : obs (endMs ms a) a = [] := by
  rw [List.eq_nil_iff_forall_not_mem]
  intro y hy
  obtain ⟨m, hm, h1, -⟩ := mem_obs.1 hy
  have h2 := (List.mem_filter.1 hm).2
  simp at h2
  exact h2.2 h1
theorem end_watch {m : Mo} (hm : moOf (endMs ms a) r = some m) : m.who ≠ a ∧ m.whom ≠ a := by
  have h2 := (List.mem_filter.1 (moOf_some hm).1).2
  simpa using h2
end
end Go.Proofs.Ytmfhmnlgffgcgaa
