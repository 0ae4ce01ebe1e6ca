/- A wheel's slots: a fall, from one wheel to the next. -/
import Derived.Test.YtmekhijmghddiaaWhPour
import Derived.Test.YtmekhijmghddiaaCdDraw
namespace Go.Proofs.Ytmekhijmghddiaa
open Go.RowKit

section
variable {F G : Nat → Prop} {w w1 w' wa : World} {b : Nat} {hv : List Value} {ch ch0 : Nat → List Tm} {now : Nat}
/-- t stands in some slot -/
def ChMem (ch : Nat → List Tm) (t : Tm) : Prop := ∃ s, s < 320 ∧ t ∈ ch s
/-- each timer stands where it may; from level k on beyond now -/
def ChInv (k now : Nat) (ch : Nat → List Tm) : Prop := ∀ s, s < 320 → ∀ t ∈ ch s, TmPl now s t.due ∧ TmSt k now s t.due
def Falling (F : Nat → Prop) (b : Nat) (hv : List Value) (ch0 : Nat → List Tm) (now k : Nat) (w wa : World) : Prop :=
  ∃ ch, Chn wa F b hv ch ∧ Kp F w wa ∧ wa.heap.size = w.heap.size ∧ ChInv k now ch ∧ ∀ t, ChMem ch t ↔ ChMem ch0 t
theorem Falling.drewN {k : Nat} (h : Falling F b hv ch0 now k w wa) (n : Nat) : Falling F b hv ch0 now k w (wa.drewN n) := by
  obtain ⟨ch, h1, h2, h3, h4⟩ := h
  exact ⟨ch, h1.drewN n, kp_drewN h2 n, h3, h4⟩
theorem Falling.start {k : Nat} (h : Chn w F b hv ch) (hpl : ∀ s, s < 320 → ∀ t ∈ ch s, TmPl now s t.due) (hst : ∀ s, s < 320 → ∀ t ∈ ch s, TmSt k now s t.due) : Falling F b hv ch now k w w :=
  ⟨ch, h, Kp.refl F w, rfl, fun s hs t ht => ⟨hpl s hs t ht, hst s hs t ht⟩, fun _ => Iff.rfl⟩
theorem whLg_pos (k : Nat) : 0 < whLg k ∧ whLg k ≤ 16777216 := by unfold whLg; split <;> omega
theorem fall_pour {k : Nat} (h : Falling F b hv ch0 now (k + 1) w wa) (hk : 1 ≤ k) (hk4 : k ≤ 4) (hm : now % whLg k = 0) (hdue : ∀ t, ChMem ch0 t → t.due ≤ 2305843009213693952) :
    Calls Try.prog 46 #[.pointer (some ⟨b, 4 + (64 * k + now / whLg k % 64), none⟩), .pointer (some ⟨b, 4 + 64 * (k - 1), none⟩), .int .i64 (whLg (k - 1) : Nat)] wa fun e w' =>
      e = .returned (.tuple #[]) ∧ Falling F b hv ch0 now k w w' := by
  obtain ⟨ch, h1, h2, h3, h4, h5⟩ := h
  have hs : 64 * k + now / whLg k % 64 < 320 := by omega
  refine (pour_any h1 hs (d := 64 * (k - 1)) (L := whLg (k - 1)) (fun i hi => by omega) (whLg_pos _).1 (whLg_pos _).2 (fun t ht => hdue t ((h5 t).1 ⟨_, hs, ht⟩))).mono ?_
  rintro e w' ⟨rfl, ch', g1, g2, g3, g4⟩
  refine ⟨rfl, ch', g1, h2.trans' g2, g3.trans h3, fun s' hs' t ht => ?_, fun t => ?_⟩
  · rcases (g4 s' hs' t).1 ht with ⟨hne, hin⟩ | ⟨hin, rfl⟩
    · have := h4 s' hs' t hin
      exact ⟨this.1, fall_stay hk hk4 this.1 this.2 hs' hne⟩
    · have := h4 _ hs t hin
      exact fall_go hk hk4 hm this.1 this.2
  · rw [← h5 t]
    constructor
    · rintro ⟨s', hs', ht⟩
      rcases (g4 s' hs' t).1 ht with ⟨hne, hin⟩ | ⟨hin, rfl⟩
      · exact ⟨s', hs', hin⟩
      · exact ⟨_, hs, hin⟩
    · rintro ⟨s', hs', ht⟩
      by_cases e : s' = 64 * k + now / whLg k % 64
      · subst e
        have hlt : 64 * (k - 1) + t.due / whLg (k - 1) % 64 < 320 := by omega
        exact ⟨_, hlt, (g4 _ hlt t).2 (.inr ⟨ht, rfl⟩)⟩
      · exact ⟨s', hs', (g4 s' hs' t).2 (.inl ⟨e, ht⟩)⟩

set_option maxRecDepth 100000 in
set_option maxHeartbeats 8000000 in
theorem fall_any (h : Chn w F b hv ch) (hnow : hv[1]? = some (.int .i64 (now : Nat))) (hnow2 : now ≤ 2305843009213693952) (hdue : ∀ t, ChMem ch t → t.due ≤ 2305843009213693952) (hpl : ∀ s, s < 320 → ∀ t ∈ ch s, TmPl now s t.due ∧ TmFa now s t.due) :
    Calls Try.prog 41 #[.pointer (some ⟨b, 0, none⟩)] w fun e w' => e = .returned (.tuple #[]) ∧ Falling F b hv ch now 1 w w' := by
  have c1 := h.head hnow
  have fb := h.fz
  have hn2 : (now : Int) ≤ 2305843009213693952 := by omega
  have HST := Lib.hid (fun k (hst : ∀ s, s < 320 → ∀ t ∈ ch s, TmSt k now s t.due) => Falling.start (k := k) h (fun s hs t ht => (hpl s hs t ht).1) hst)
  have HFA := Lib.hid (fun s hs t ht => wh_fa_st (hpl s hs t ht).2 hs)
  obtain ⟨R1, hR1⟩ : ∃ Q, now % 64 = Q := ⟨_, rfl⟩
  have r1 : ((now : Int) % 64) = (R1 : Int) := by omega
  have r1' : (now : Int).tmod 64 = (R1 : Int) := by rw [Int.tmod_eq_emod_of_nonneg (by omega)]; exact r1
  obtain ⟨A1, hA1⟩ : ∃ Q, 68 + now / 64 % 64 = Q := ⟨_, rfl⟩
  have HA1 := Lib.hid (fun w => at_q w b 68 now 64 (by omega) (by omega) (by omega))
  rw [hA1] at HA1
  have HP1 := Lib.hid (fun (hz : R1 = 0) (wa : World) (hf : Falling F b hv ch now 2 w wa) => show Calls Try.prog 46 #[.pointer (some ⟨b, A1, none⟩), .pointer (some ⟨b, 4, none⟩), .int .i64 1] wa fun e w' =>
      e = .returned (.tuple #[]) ∧ Falling F b hv ch now 1 w w' from by
    have := fall_pour (k := 1) hf (by omega) (by omega) (by rw [show whLg 1 = 64 from rfl, hR1]; exact hz) hdue
    rw [show 4 + (64 * 1 + now / whLg 1 % 64) = A1 from by rw [← hA1]; show 4 + (64 * 1 + now / 64 % 64) = _; omega] at this
    exact this)
  obtain ⟨R2, hR2⟩ : ∃ Q, now % 4096 = Q := ⟨_, rfl⟩
  have r2 : ((now : Int) % 4096) = (R2 : Int) := by omega
  have r2' : (now : Int).tmod 4096 = (R2 : Int) := by rw [Int.tmod_eq_emod_of_nonneg (by omega)]; exact r2
  obtain ⟨A2, hA2⟩ : ∃ Q, 132 + now / 4096 % 64 = Q := ⟨_, rfl⟩
  have HA2 := Lib.hid (fun w => at_q w b 132 now 4096 (by omega) (by omega) (by omega))
  rw [hA2] at HA2
  have HP2 := Lib.hid (fun (hz : R2 = 0) (wa : World) (hf : Falling F b hv ch now 3 w wa) => show Calls Try.prog 46 #[.pointer (some ⟨b, A2, none⟩), .pointer (some ⟨b, 68, none⟩), .int .i64 64] wa fun e w' =>
      e = .returned (.tuple #[]) ∧ Falling F b hv ch now 2 w w' from by
    have := fall_pour (k := 2) hf (by omega) (by omega) (by rw [show whLg 2 = 4096 from rfl, hR2]; exact hz) hdue
    rw [show 4 + (64 * 2 + now / whLg 2 % 64) = A2 from by rw [← hA2]; show 4 + (64 * 2 + now / 4096 % 64) = _; omega] at this
    exact this)
  obtain ⟨R3, hR3⟩ : ∃ Q, now % 262144 = Q := ⟨_, rfl⟩
  have r3 : ((now : Int) % 262144) = (R3 : Int) := by omega
  have r3' : (now : Int).tmod 262144 = (R3 : Int) := by rw [Int.tmod_eq_emod_of_nonneg (by omega)]; exact r3
  obtain ⟨A3, hA3⟩ : ∃ Q, 196 + now / 262144 % 64 = Q := ⟨_, rfl⟩
  have HA3 := Lib.hid (fun w => at_q w b 196 now 262144 (by omega) (by omega) (by omega))
  rw [hA3] at HA3
  have HP3 := Lib.hid (fun (hz : R3 = 0) (wa : World) (hf : Falling F b hv ch now 4 w wa) => show Calls Try.prog 46 #[.pointer (some ⟨b, A3, none⟩), .pointer (some ⟨b, 132, none⟩), .int .i64 4096] wa fun e w' =>
      e = .returned (.tuple #[]) ∧ Falling F b hv ch now 3 w w' from by
    have := fall_pour (k := 3) hf (by omega) (by omega) (by rw [show whLg 3 = 262144 from rfl, hR3]; exact hz) hdue
    rw [show 4 + (64 * 3 + now / whLg 3 % 64) = A3 from by rw [← hA3]; show 4 + (64 * 3 + now / 262144 % 64) = _; omega] at this
    exact this)
  obtain ⟨R4, hR4⟩ : ∃ Q, now % 16777216 = Q := ⟨_, rfl⟩
  have r4 : ((now : Int) % 16777216) = (R4 : Int) := by omega
  have r4' : (now : Int).tmod 16777216 = (R4 : Int) := by rw [Int.tmod_eq_emod_of_nonneg (by omega)]; exact r4
  obtain ⟨A4, hA4⟩ : ∃ Q, 260 + now / 16777216 % 64 = Q := ⟨_, rfl⟩
  have HA4 := Lib.hid (fun w => at_q w b 260 now 16777216 (by omega) (by omega) (by omega))
  rw [hA4] at HA4
  have HP4 := Lib.hid (fun (hz : R4 = 0) (wa : World) (hf : Falling F b hv ch now 5 w wa) => show Calls Try.prog 46 #[.pointer (some ⟨b, A4, none⟩), .pointer (some ⟨b, 196, none⟩), .int .i64 262144] wa fun e w' =>
      e = .returned (.tuple #[]) ∧ Falling F b hv ch now 4 w w' from by
    have := fall_pour (k := 4) hf (by omega) (by omega) (by rw [show whLg 4 = 16777216 from rfl, hR4]; exact hz) hdue
    rw [show 4 + (64 * 4 + now / whLg 4 % 64) = A4 from by rw [← hA4]; show 4 + (64 * 4 + now / 16777216 % 64) = _; omega] at this
    exact this)
  have HR := Lib.hid (And.intro hR1 (And.intro hR2 (And.intro hR3 hR4)))
  rw [hR1, hR2, hR3, hR4] at HFA
  clear h hnow hdue hpl hA1 hA2 hA3 hA4 hR1 hR2 hR3 hR4
  by_cases e4 : R4 = 0
  · subst e4
    have hz3 : R3 = 0 := by have := HR.out; omega
    have hz2 : R2 = 0 := by have := HR.out; omega
    have hz1 : R1 = 0 := by have := HR.out; omega
    have FI5 := Lib.hid (HST.out 5 (fun s hs t ht => (HFA.out s hs t ht).1 rfl))
    have HQ4 := Lib.hid (HP4.out rfl)
    have HQ3 := Lib.hid (HP3.out hz3)
    have HQ2 := Lib.hid (HP2.out hz2)
    have HQ1 := Lib.hid (HP1.out hz1)
    clear hz3 hz2 hz1
    clear HST HFA HR HP1 HP2 HP3 HP4
    go_enter Try.func41, Try.ntmps41
    go_wp2_with fail
    refine wp_region_draw 17 _ (by kernel_rfl) (by kernel_rfl) rfl ?_
    simp only [List.take_succ_cons, List.take_zero, List.drop_succ_cons, List.drop_zero]
    repeat (quiet_step ((go_at_call 42; exact Calls.quiet_of (HA4.out _))))
    refine wpQuiet_nil ?_
    rintro wd ⟨nq4, rfl⟩
    go_wp2_with fail
    refine (HQ4.out _ (FI5.out.drewN nq4)).mono ?_
    rintro e w14 ⟨rfl, hf4⟩
    have FI4 := Lib.hid hf4
    clear hf4
    go_wp2_with fail
    simp only [AfterMid]
    refine wpQuiet_nil ?_
    rintro wd4 ⟨nr4, hwd⟩
    have FI4 := Lib.hid (FI4.out.drewN nr4)
    rw [← hwd] at FI4
    clear hwd
    go_wp2_with fail
    refine wp_region_draw 15 _ (by kernel_rfl) (by kernel_rfl) rfl ?_
    simp only [List.take_succ_cons, List.take_zero, List.drop_succ_cons, List.drop_zero]
    repeat (quiet_step ((go_at_call 42; exact Calls.quiet_of (HA3.out _))))
    refine wpQuiet_nil ?_
    rintro wd ⟨nq3, rfl⟩
    go_wp2_with fail
    refine (HQ3.out _ (FI4.out.drewN nq3)).mono ?_
    rintro e w13 ⟨rfl, hf3⟩
    have FI3 := Lib.hid hf3
    clear hf3
    go_wp2_with fail
    simp only [AfterMid]
    refine wpQuiet_nil ?_
    rintro wd3 ⟨nr3, hwd⟩
    have FI3 := Lib.hid (FI3.out.drewN nr3)
    rw [← hwd] at FI3
    clear hwd
    go_wp2_with fail
    refine wp_region_draw 13 _ (by kernel_rfl) (by kernel_rfl) rfl ?_
    simp only [List.take_succ_cons, List.take_zero, List.drop_succ_cons, List.drop_zero]
    repeat (quiet_step ((go_at_call 42; exact Calls.quiet_of (HA2.out _))))
    refine wpQuiet_nil ?_
    rintro wd ⟨nq2, rfl⟩
    go_wp2_with fail
    refine (HQ2.out _ (FI3.out.drewN nq2)).mono ?_
    rintro e w12 ⟨rfl, hf2⟩
    have FI2 := Lib.hid hf2
    clear hf2
    go_wp2_with fail
    simp only [AfterMid]
    refine wpQuiet_nil ?_
    rintro wd2 ⟨nr2, hwd⟩
    have FI2 := Lib.hid (FI2.out.drewN nr2)
    rw [← hwd] at FI2
    clear hwd
    go_wp2_with fail
    refine wp_region_draw 11 _ (by kernel_rfl) (by kernel_rfl) rfl ?_
    simp only [List.take_succ_cons, List.take_zero, List.drop_succ_cons, List.drop_zero]
    repeat (quiet_step ((go_at_call 42; exact Calls.quiet_of (HA1.out _))))
    refine wpQuiet_nil ?_
    rintro wd ⟨nq1, rfl⟩
    go_wp2_with fail
    refine (HQ1.out _ (FI2.out.drewN nq1)).mono ?_
    rintro e w11 ⟨rfl, hf1⟩
    have FI1 := Lib.hid hf1
    clear hf1
    go_wp2_with fail
    simp only [AfterMid]
    refine wpQuiet_nil ?_
    rintro wd1 ⟨nr1, hwd⟩
    have FI1 := Lib.hid (FI1.out.drewN nr1)
    rw [← hwd] at FI1
    clear hwd
    go_wp2_with fail
    go_end0
    exact ⟨rfl, FI1.out⟩
  · have f4 : ¬ (R4 : Int) = 0 := by omega
    by_cases e3 : R3 = 0
    · subst e3
      have hz2 : R2 = 0 := by have := HR.out; omega
      have hz1 : R1 = 0 := by have := HR.out; omega
      have FI4 := Lib.hid (HST.out 4 (fun s hs t ht => (HFA.out s hs t ht).2.1 e4 rfl))
      have HQ3 := Lib.hid (HP3.out rfl)
      have HQ2 := Lib.hid (HP2.out hz2)
      have HQ1 := Lib.hid (HP1.out hz1)
      clear hz2 hz1
      clear HST HFA HR HP1 HP2 HP3 HP4
      go_enter Try.func41, Try.ntmps41
      go_wp2_with fail
      refine wp_region_draw 15 _ (by kernel_rfl) (by kernel_rfl) rfl ?_
      simp only [List.take_succ_cons, List.take_zero, List.drop_succ_cons, List.drop_zero]
      repeat (quiet_step ((go_at_call 42; exact Calls.quiet_of (HA3.out _))))
      refine wpQuiet_nil ?_
      rintro wd ⟨nq3, rfl⟩
      go_wp2_with fail
      refine (HQ3.out _ (FI4.out.drewN nq3)).mono ?_
      rintro e w13 ⟨rfl, hf3⟩
      have FI3 := Lib.hid hf3
      clear hf3
      go_wp2_with fail
      simp only [AfterMid]
      refine wpQuiet_nil ?_
      rintro wd3 ⟨nr3, hwd⟩
      have FI3 := Lib.hid (FI3.out.drewN nr3)
      rw [← hwd] at FI3
      clear hwd
      go_wp2_with fail
      refine wp_region_draw 13 _ (by kernel_rfl) (by kernel_rfl) rfl ?_
      simp only [List.take_succ_cons, List.take_zero, List.drop_succ_cons, List.drop_zero]
      repeat (quiet_step ((go_at_call 42; exact Calls.quiet_of (HA2.out _))))
      refine wpQuiet_nil ?_
      rintro wd ⟨nq2, rfl⟩
      go_wp2_with fail
      refine (HQ2.out _ (FI3.out.drewN nq2)).mono ?_
      rintro e w12 ⟨rfl, hf2⟩
      have FI2 := Lib.hid hf2
      clear hf2
      go_wp2_with fail
      simp only [AfterMid]
      refine wpQuiet_nil ?_
      rintro wd2 ⟨nr2, hwd⟩
      have FI2 := Lib.hid (FI2.out.drewN nr2)
      rw [← hwd] at FI2
      clear hwd
      go_wp2_with fail
      refine wp_region_draw 11 _ (by kernel_rfl) (by kernel_rfl) rfl ?_
      simp only [List.take_succ_cons, List.take_zero, List.drop_succ_cons, List.drop_zero]
      repeat (quiet_step ((go_at_call 42; exact Calls.quiet_of (HA1.out _))))
      refine wpQuiet_nil ?_
      rintro wd ⟨nq1, rfl⟩
      go_wp2_with fail
      refine (HQ1.out _ (FI2.out.drewN nq1)).mono ?_
      rintro e w11 ⟨rfl, hf1⟩
      have FI1 := Lib.hid hf1
      clear hf1
      go_wp2_with fail
      simp only [AfterMid]
      refine wpQuiet_nil ?_
      rintro wd1 ⟨nr1, hwd⟩
      have FI1 := Lib.hid (FI1.out.drewN nr1)
      rw [← hwd] at FI1
      clear hwd
      go_wp2_with fail
      go_end0
      exact ⟨rfl, FI1.out⟩
    · have f3 : ¬ (R3 : Int) = 0 := by omega
      by_cases e2 : R2 = 0
      · subst e2
        have hz1 : R1 = 0 := by have := HR.out; omega
        have FI3 := Lib.hid (HST.out 3 (fun s hs t ht => (HFA.out s hs t ht).2.2.1 e3 rfl))
        have HQ2 := Lib.hid (HP2.out rfl)
        have HQ1 := Lib.hid (HP1.out hz1)
        clear hz1
        clear HST HFA HR HP1 HP2 HP3 HP4
        go_enter Try.func41, Try.ntmps41
        go_wp2_with fail
        refine wp_region_draw 13 _ (by kernel_rfl) (by kernel_rfl) rfl ?_
        simp only [List.take_succ_cons, List.take_zero, List.drop_succ_cons, List.drop_zero]
        repeat (quiet_step ((go_at_call 42; exact Calls.quiet_of (HA2.out _))))
        refine wpQuiet_nil ?_
        rintro wd ⟨nq2, rfl⟩
        go_wp2_with fail
        refine (HQ2.out _ (FI3.out.drewN nq2)).mono ?_
        rintro e w12 ⟨rfl, hf2⟩
        have FI2 := Lib.hid hf2
        clear hf2
        go_wp2_with fail
        simp only [AfterMid]
        refine wpQuiet_nil ?_
        rintro wd2 ⟨nr2, hwd⟩
        have FI2 := Lib.hid (FI2.out.drewN nr2)
        rw [← hwd] at FI2
        clear hwd
        go_wp2_with fail
        refine wp_region_draw 11 _ (by kernel_rfl) (by kernel_rfl) rfl ?_
        simp only [List.take_succ_cons, List.take_zero, List.drop_succ_cons, List.drop_zero]
        repeat (quiet_step ((go_at_call 42; exact Calls.quiet_of (HA1.out _))))
        refine wpQuiet_nil ?_
        rintro wd ⟨nq1, rfl⟩
        go_wp2_with fail
        refine (HQ1.out _ (FI2.out.drewN nq1)).mono ?_
        rintro e w11 ⟨rfl, hf1⟩
        have FI1 := Lib.hid hf1
        clear hf1
        go_wp2_with fail
        simp only [AfterMid]
        refine wpQuiet_nil ?_
        rintro wd1 ⟨nr1, hwd⟩
        have FI1 := Lib.hid (FI1.out.drewN nr1)
        rw [← hwd] at FI1
        clear hwd
        go_wp2_with fail
        go_end0
        exact ⟨rfl, FI1.out⟩
      · have f2 : ¬ (R2 : Int) = 0 := by omega
        by_cases e1 : R1 = 0
        · subst e1
          have FI2 := Lib.hid (HST.out 2 (fun s hs t ht => (HFA.out s hs t ht).2.2.2.1 e2 rfl))
          have HQ1 := Lib.hid (HP1.out rfl)
          clear HST HFA HR HP1 HP2 HP3 HP4
          go_enter Try.func41, Try.ntmps41
          go_wp2_with fail
          refine wp_region_draw 11 _ (by kernel_rfl) (by kernel_rfl) rfl ?_
          simp only [List.take_succ_cons, List.take_zero, List.drop_succ_cons, List.drop_zero]
          repeat (quiet_step ((go_at_call 42; exact Calls.quiet_of (HA1.out _))))
          refine wpQuiet_nil ?_
          rintro wd ⟨nq1, rfl⟩
          go_wp2_with fail
          refine (HQ1.out _ (FI2.out.drewN nq1)).mono ?_
          rintro e w11 ⟨rfl, hf1⟩
          have FI1 := Lib.hid hf1
          clear hf1
          go_wp2_with fail
          simp only [AfterMid]
          refine wpQuiet_nil ?_
          rintro wd1 ⟨nr1, hwd⟩
          have FI1 := Lib.hid (FI1.out.drewN nr1)
          rw [← hwd] at FI1
          clear hwd
          go_wp2_with fail
          go_end0
          exact ⟨rfl, FI1.out⟩
        · have f1 : ¬ (R1 : Int) = 0 := by omega
          have FI1 := Lib.hid (HST.out 1 (fun s hs t ht => (HFA.out s hs t ht).2.2.2.2 e1))
          clear HST HFA HR HP1 HP2 HP3 HP4
          go_enter Try.func41, Try.ntmps41
          go_wp2_with fail
          go_end0
          exact ⟨rfl, FI1.out⟩
end
end Go.Proofs.Ytmekhijmghddiaa
