/- Links are the same from both sides, and behind an end nobody is linked to, watches, or is watched by, who ended, for any pairs of numbers below eight. -/
import Derived.Test.YtmfhmnlgffgcgaaRows
import Derived.Test.YtmfhmnlgffgcgaaLkSides
import Derived.Test.YtmfhmnlgffgcgaaLkIn
import Derived.Test.YtmfhmnlgffgcgaaCdDraw
import Derived.WalkKit
import Derived.ProofKit
import Derived.OpenShut
import Derived.ShutString
import Derived.ChangeOld
import Derived.Below
import Derived.Deep.Strs
namespace Go.Proofs.Ytmfhmnlgffgcgaa.linksSides
open Go.ChangeShapes Go.WideShapes Go.ChangeAt Go.RowKit
open Go.ChangeMaps (open_string shut_string)
set_option linter.unusedVariables false

theorem own : ownKnob Try.prog.godebug = none := by kernel_rfl
theorem laidOut : laidOutB Try.prog = true := by kernel_rfl

set_option maxHeartbeats 8000000 in
set_option maxRecDepth 100000 in
theorem walk (a0 : Option Addr) (len0 cap0 : Nat) (z0 y0 : Nat → Int) (a1 : Option Addr) (len1 cap1 : Nat) (z1 y1 : Nat → Int) (a2 : Int) (w : World) (h0 : PairsIn w a0 len0 cap0 z0 y0) (h1 : PairsIn w a1 len1 cap1 z1 y1) (h2 : (Lit.int .i64 a2).wf = true) :
    Calls Try.prog 5 #[.slice a0 len0 cap0, .slice a1 len1 cap1, .int .i64 a2] w fun e w' => e = .returned (.bool true) ∧ Below w.heap.size w w' := by
  obtain ⟨e1, e2⟩ := bounds_i64 h2
  have HI0 := Lib.hid h0
  have HI1 := Lib.hid h1
  have hl0 : len0 ≤ 9223372036854775807 := by have := h0.1; have := h0.2.1; omega
  have hl1 : len1 ≤ 8796093021952 := h1.2.2.1
  obtain ⟨b, hb⟩ : ∃ b, w.heap.size = b := ⟨_, rfl⟩
  have hN := ns_new (C := noLk) w (fun _ e => e.elim)
  obtain ⟨w1, hw1⟩ : ∃ w1, w.alloc (.cells #[.map none, .map none, .map none, .map none, .map none, .map none, .map none, .int .i64 0] 31) = w1 := ⟨_, rfl⟩
  rw [hw1, hb] at hN
  have HT : Hid (∃ ls, Eight ls ∧ NS w noLk w1 b ls [] 0) := Lib.hid ⟨[], fun p hp => (by cases hp), hN⟩
  have HP := Lib.hid (fun w' => place_any w' a2 8 e1 e2 (by omega) (by omega))
  obtain ⟨E, hE, hE1, hE2⟩ : ∃ E, a2 % 8 = E ∧ 0 ≤ E ∧ E < 8 := ⟨_, rfl, by omega, by omega⟩
  rw [hE] at HP
  clear h0 h1 h2 hN e1 e2 hE
  go_enter Try.func5, Try.ntmps5
  go_wp2_with fail
  go_loopg [8] len0 (fun gk s8 wr => ∃ (i : Nat), i ≤ len0 ∧ gk = len0 - i ∧ s8 = .int .i64 (i : Nat) ∧ Hid (∃ ls, Eight ls ∧ NS w noLk wr b ls [] 0))
  case atStart => exact ⟨0, by omega, rfl, rfl, HT⟩
  case round =>
    obtain ⟨i, hi, rfl, rfl, HR⟩ := hrel
    clear HT hw1 hb
    obtain ⟨ls, h8, hR⟩ := HR.out
    by_cases hlt : i < len0
    · have hli : (i : Int) < len0 := by omega
      obtain ⟨b0, off0, rfl, c0, c1, ⟨f1, f2⟩, ⟨f3, f4⟩⟩ := HI0.out.at' hR.kp0 i hlt
      obtain ⟨u, hu⟩ : ∃ u, z0 i = u := ⟨_, rfl⟩
      obtain ⟨v, hv⟩ : ∃ v, y0 i = v := ⟨_, rfl⟩
      rw [hu] at c0 f1 f2
      rw [hv] at c1 f3 f4
      have HPu := Lib.hid (fun n => (place_any (wr.drewN n) u 8 f1 f2 (by omega) (by omega)).mono (fun e w' ⟨q1, q2⟩ => (⟨q1, q2.symm⟩ : e = Ending.returned (.int .i64 (u % 8)) ∧ w' = wr.drewN n)))
      have HPv := Lib.hid (fun n => (place_any (wr.drewN n) v 8 f3 f4 (by omega) (by omega)).mono (fun e w' ⟨q1, q2⟩ => (⟨q1, q2.symm⟩ : e = Ending.returned (.int .i64 (v % 8)) ∧ w' = wr.drewN n)))
      obtain ⟨U, hU, hU1, hU2⟩ : ∃ U, u % 8 = U ∧ 0 ≤ U ∧ U < 8 := ⟨_, rfl, by omega, by omega⟩
      obtain ⟨V, hV, hV1, hV2⟩ : ∃ V, v % 8 = V ∧ 0 ≤ V ∧ V < 8 := ⟨_, rfl, by omega, by omega⟩
      rw [hU] at HPu
      rw [hV] at HPv
      have HL := Lib.hid (fun n => ns_link (hR.same (kp_drewN (Kp.refl (fun _ => False) wr) n)) (a := U) (x := V) (by unfold I64; omega) (by unfold I64; omega) (by have := eight_len h8 hR.ok.1; omega))
      have H8 := Lib.hid (eight_add h8 ⟨hU1, hU2⟩ ⟨hV1, hV2⟩)
      clear hu hv hU hV h8 hR f1 f2 f3 f4 HR hU1 hU2 hV1 hV2
      go_wp2_with fail
      refine wp_region_draw 13 _ (by kernel_rfl) (by kernel_rfl) rfl ?_
      simp only [List.take_succ_cons, List.take_zero, List.drop_succ_cons, List.drop_zero]
      repeat (quiet_step ((go_at_call 7; first | (with_reducible exact Calls.quiet_of_same (HPu.out _)) | (with_reducible exact Calls.quiet_of_same (HPv.out _)))))
      refine wpQuiet_nil ?_
      rintro wd ⟨nq, rfl⟩
      go_wp2_with fail
      refine (HL.out nq).mono ?_
      rintro e w3 ⟨rfl, h3, -⟩
      have HF : Hid (∃ ls, Eight ls ∧ NS w noLk w3 b ls [] 0) := Lib.hid ⟨_, H8.out, h3⟩
      clear h3 HL H8 HPu HPv c0 c1
      go_wp2_with fail
      simp only [AfterMid]
      refine wpQuiet_nil ?_
      rintro wd2 ⟨nr, rfl⟩
      have HF2 : Hid (∃ ls, Eight ls ∧ NS w noLk (w3.drewN nr) b ls [] 0) := Lib.hid (by obtain ⟨l9, q1, q2⟩ := HF.out; exact ⟨l9, q1, q2.same (kp_drewN (Kp.refl (fun _ => False) w3) nr)⟩)
      go_wp2_with fail
      go_roundg (len0 - (i + 1))
      case measure => omega
      case rel => exact ⟨i + 1, by omega, rfl, by go_num, HF2⟩
    · obtain rfl : i = len0 := by omega
      have HT2 : Hid (∃ ms, NS w noLk wr b ls ms 0) := Lib.hid ⟨[], hR⟩
      clear h8 hR HR
      go_wp2_with fail
      go_loopg [9] len1 (fun gk s9 wr => ∃ (j : Nat), j ≤ len1 ∧ gk = len1 - j ∧ s9 = .int .i64 (j : Nat) ∧ Hid (∃ ms, NS w noLk wr b ls ms j))
      case atStart => exact ⟨0, by omega, rfl, rfl, HT2⟩
      case round =>
        obtain ⟨j, hj, rfl, rfl, HR⟩ := hrel
        clear HT2
        obtain ⟨ms, hR⟩ := HR.out
        by_cases hlt2 : j < len1
        · have hli : (j : Int) < len1 := by omega
          obtain ⟨b0, off0, rfl, c0, c1, ⟨f1, f2⟩, ⟨f3, f4⟩⟩ := HI1.out.at' hR.kp0 j hlt2
          obtain ⟨u, hu⟩ : ∃ u, z1 j = u := ⟨_, rfl⟩
          obtain ⟨v, hv⟩ : ∃ v, y1 j = v := ⟨_, rfl⟩
          rw [hu] at c0 f1 f2
          rw [hv] at c1 f3 f4
          obtain ⟨U, hU, hU1, hU2⟩ : ∃ U, u % 8 = U ∧ 0 ≤ U ∧ U < 8 := ⟨_, rfl, by omega, by omega⟩
          obtain ⟨V, hV, hV1, hV2⟩ : ∃ V, v % 8 = V ∧ 0 ≤ V ∧ V < 8 := ⟨_, rfl, by omega, by omega⟩
          have HPu1 := Lib.hid (place_any wr.drew u 8 f1 f2 (by omega) (by omega))
          have HPv1 := Lib.hid (place_any wr.drew v 8 f3 f4 (by omega) (by omega))
          rw [hU] at HPu1
          rw [hV] at HPv1
          have HL := Lib.hid (fun n => ns_monitor (hR.same (kp_drewN (Kp.refl (fun _ => False) wr) n)) (a := U) (x := V) (by unfold I64; omega) (by unfold I64; omega) (by omega))
          clear hu hv hU hV hR f1 f2 f3 f4 HR hU1 hU2 hV1 hV2
          go_wp2_with fail
          go_region_with (first
            | (go_at_call 7; (first | (with_reducible refine HPu1.out.mono ?_) | (with_reducible refine HPv1.out.mono ?_)); rintro e w' ⟨rfl, rfl⟩)
            | (go_at_call 8; refine (HL.out 1).mono ?_; rintro e w3 ⟨rfl, h3, -⟩; have HF := Lib.hid h3; clear h3))
          all_goals
            have HF2 : Hid (∃ ms, NS w noLk w3 b ls ms (j + 1)) := Lib.hid ⟨_, HF.out⟩
            clear HL HPu1 HPv1 c0 c1
            go_wp2_with fail
            go_roundg (len1 - (j + 1))
            case measure => omega
            case rel => exact ⟨j + 1, by omega, rfl, by go_num, HF2⟩
        · obtain rfl : j = len1 := by omega
          have HZ := Lib.hid hR
          clear hR HR
          go_wp2_with fail
          go_loopg [10, 11] 8 (fun gk s10 s11 wr => ∃ (i : Nat) (y11 : Value), i ≤ 8 ∧ gk = 8 - i ∧ s10 = .int .i64 (i : Nat) ∧ s11 = y11 ∧ Hid (NS w noLk wr b ls ms j))
          case atStart => exact ⟨0, _, by omega, rfl, rfl, rfl, HZ⟩
          case round =>
            obtain ⟨i2, y11, hi2, rfl, rfl, rfl, HR⟩ := hrel
            clear HZ
            by_cases hlt3 : i2 < 8
            · have hli : (i2 : Int) < 8 := by omega
              go_wp2_with fail
              go_loopg [11] 8 (fun gk s11 wr => ∃ (k : Nat), k ≤ 8 ∧ gk = 8 - k ∧ s11 = .int .i64 (k : Nat) ∧ Hid (NS w noLk wr b ls ms j))
              case atStart => exact ⟨0, by omega, rfl, rfl, HR⟩
              case round =>
                obtain ⟨k, hk, rfl, rfl, HR2⟩ := hrel
                clear HR
                by_cases hlt4 : k < 8
                · have hki : (k : Int) < 8 := by omega
                  have HL1 := Lib.hid (ns_linked HR2.out (a := (i2 : Nat)) (by unfold I64; omega))
                  obtain ⟨D, hD⟩ : ∃ D, decide ((k : Int) ∈ nbs ls (i2 : Nat)) = D := ⟨_, rfl⟩
                  have hD2 : decide ((i2 : Int) ∈ nbs ls (k : Nat)) = D := by rw [← nbs_symm HR2.out.ok]; exact hD
                  have HDD := Lib.hid (And.intro hD hD2)
                  clear hD hD2
                  go_wp2_with fail
                  refine HL1.out.mono ?_
                  rintro e w3 ⟨u1, rfl, l1, l2, l3⟩
                  have HH1 := Lib.hid (has_any l1.rd (k : Nat))
                  rw [HDD.out.1] at HH1
                  have HK1 := Lib.hid l3
                  clear l1 l2 l3 HL1
                  go_wp2_with fail
                  refine HH1.out.mono ?_
                  rintro e w4 ⟨rfl, n4, hn4⟩
                  have k4 : Kp (fun _ => False) wr w4 := by rw [hn4]; exact kp_drewN HK1.out n4
                  have HL2 := Lib.hid (ns_linked (HR2.out.same k4) (a := (k : Nat)) (by unfold I64; omega))
                  have HK4 := Lib.hid k4
                  clear hn4 k4 HH1 HK1
                  go_wp2_with fail
                  refine HL2.out.mono ?_
                  rintro e w5 ⟨u2, rfl, m1, m2, m3⟩
                  have HH2 := Lib.hid (has_any m1.rd (i2 : Nat))
                  rw [HDD.out.2] at HH2
                  have HK5 := Lib.hid (HK4.out.trans' m3)
                  clear m1 m2 m3 HL2 HK4
                  go_wp2_with fail
                  refine HH2.out.mono ?_
                  rintro e w6 ⟨rfl, n6, hn6⟩
                  have k6 : Kp (fun _ => False) wr w6 := by rw [hn6]; exact kp_drewN HK5.out n6
                  have HR6 := Lib.hid (HR2.out.same k6)
                  have HS := Lib.hid (nbs_self (a := (i2 : Nat)) HR2.out.ok)
                  clear hn6 k6 HH2 HK5 HDD HR2
                  have hDD : (D == D) = true := by simp
                  by_cases hik : i2 = k
                  · have HL3 := Lib.hid (ns_linked HR6.out (a := (i2 : Nat)) (by unfold I64; omega))
                    subst hik
                    cases D
                    all_goals
                      go_wp2_with fail
                      refine HL3.out.mono ?_
                      rintro e w7 ⟨u3, rfl, p1, p2, p3⟩
                      have HH3 := Lib.hid (has_any p1.rd (i2 : Nat))
                      rw [HS.out] at HH3
                      have HK7 := Lib.hid p3
                      clear p1 p2 p3 HL3
                      go_wp2_with fail
                      refine HH3.out.mono ?_
                      rintro e w8 ⟨rfl, n8, hn8⟩
                      have HR8 : Hid (NS w noLk w8 b ls ms j) := Lib.hid (HR6.out.same (by rw [hn8]; exact kp_drewN HK7.out n8))
                      clear hn8 HH3 HK7
                      go_wp2_with fail
                      go_roundg (8 - (i2 + 1))
                      case measure => omega
                      case rel => exact ⟨i2 + 1, by omega, rfl, by go_num, HR8⟩
                  · have hikb : ((i2 : Int) == (k : Int)) = false := by rw [beq_eq_false_iff_ne]; omega
                    cases D
                    all_goals
                      go_wp2_with fail
                      go_roundg (8 - (k + 1))
                      case measure => omega
                      case rel => exact ⟨k + 1, by omega, rfl, by go_num, HR6⟩
                · obtain rfl : k = 8 := by omega
                  go_wp2_with fail
                  go_roundg (8 - (i2 + 1))
                  case measure => omega
                  case rel => exact ⟨i2 + 1, _, by omega, rfl, by go_num, rfl, HR2⟩
            · obtain rfl : i2 = 8 := by omega
              go_wp2_with fail
              refine (HP.out _).mono ?_
              rintro e w' ⟨rfl, rfl⟩
              clear HP
              have hEI : I64 E := by unfold I64; omega
              have HL1 := Lib.hid (ns_linked HR.out hEI)
              go_wp2_with fail
              refine HL1.out.mono ?_
              rintro e w3 ⟨u1, rfl, l1, l2, l3⟩
              have HW1 := Lib.hid (ns_watchers (HR.out.same l3) hEI)
              have HA := Lib.hid (And.intro l1 (And.intro l2 l3))
              clear l1 l2 l3 HL1
              go_wp2_with fail
              refine HW1.out.mono ?_
              rintro e w4 ⟨u2, rfl, m1, m2, m3⟩
              have hz3 := HA.out.2.2.size
              have hN4 : NS w (fun q => u1.ownBlock = some q ∨ u2.ownBlock = some q) w4 b ls ms j := by
                have hk4 := HA.out.2.2.trans' m3
                refine HR.out.put hk4 (fun q hq => .inr ?_)
                rcases hq with hq | hq
                · exact ⟨HA.out.2.1 q hq, Nat.lt_of_lt_of_le (HA.out.1.lt q hq) m3.size⟩
                · exact ⟨Nat.le_trans hz3 (m2 q hq), m1.lt q hq⟩
              have HE := Lib.hid (ns_end hN4 hEI)
              have HB2 := Lib.hid (And.intro (HA.out.1.same m3) m1)
              have HOK := Lib.hid (And.intro hN4.ok hN4.mok)
              clear m1 m2 m3 hz3 hN4 HW1 HA HR
              go_wp2_with fail
              refine HE.out.mono ?_
              rintro e w5 ⟨vl, vr, rfl, p1, p2, -, -, hN5, k5⟩
              have q1 := HB2.out.1.kp k5 (fun g hg e => e (.inl hg))
              have q2 := HB2.out.2.kp k5 (fun g hg e => e (.inr hg))
              have HC1 := Lib.hid (sameLongs_any p1.rd q1.rd)
              have HD := Lib.hid (And.intro p2 (And.intro q2 hN5))
              clear p1 p2 q1 q2 hN5 k5 HE HB2
              go_wp2_with fail
              refine HC1.out.mono ?_
              rintro e w6 ⟨rfl, n6, hn6⟩
              have k6 : Kp (fun _ => False) w5 w6 := by rw [hn6]; exact kp_drewN (Kp.refl _ _) n6
              have HC2 := Lib.hid (sameLongs_any (HD.out.1.same k6).rd (HD.out.2.1.same k6).rd)
              have HN6 := Lib.hid (HD.out.2.2.same k6)
              clear hn6 k6 HC1 HD
              go_wp2_with fail
              refine HC2.out.mono ?_
              rintro e w7 ⟨rfl, n7, hn7⟩
              have HN7 : Hid (NS w noLk w7 b (endLs ls E) (endMs ms E) j) := Lib.hid (HN6.out.put (by rw [hn7]; exact kp_drewN (Kp.refl _ _) n7) (fun q e => e.elim))
              have HL2 := Lib.hid (ns_linked HN7.out hEI)
              rw [(nbs_end (x := 0) HOK.out.1).2] at HL2
              clear hn7 HC2 HN6
              go_wp2_with fail
              refine HL2.out.mono ?_
              rintro e w8 ⟨u3, rfl, r1, -, r3⟩
              obtain ⟨po3, c3, rfl⟩ := r1.form
              have HW2 := Lib.hid (ns_watchers (HN7.out.same r3) hEI)
              rw [obs_end] at HW2
              have HN8 := Lib.hid (HN7.out.same r3)
              clear r1 r3 HL2 HN7
              go_wp2_with fail
              refine HW2.out.mono ?_
              rintro e w9 ⟨u4, rfl, s1, -, s3⟩
              obtain ⟨po4, c4, rfl⟩ := s1.form
              have HN9 := Lib.hid (HN8.out.same s3)
              clear s1 s3 HW2 HN8
              go_wp2_with fail
              go_loopg [17] 8 (fun gk s17 wr => ∃ (k : Nat), k ≤ 8 ∧ gk = 8 - k ∧ s17 = .int .i64 (k : Nat) ∧ Hid (NS w noLk wr b (endLs ls E) (endMs ms E) j))
              case atStart => exact ⟨0, by omega, rfl, rfl, HN9⟩
              case round =>
                obtain ⟨k, hk, rfl, rfl, HR2⟩ := hrel
                clear HN9
                by_cases hlt4 : k < 8
                · have hki : (k : Int) < 8 := by omega
                  have HL3 := Lib.hid (ns_linked HR2.out (a := (k : Nat)) (by unfold I64; omega))
                  go_wp2_with fail
                  refine HL3.out.mono ?_
                  rintro e w3 ⟨u5, rfl, l1, -, l3⟩
                  have HH1 := Lib.hid (has_any l1.rd E)
                  rw [decide_eq_false (nbs_end HOK.out.1).1] at HH1
                  have HK1 := Lib.hid l3
                  clear l1 l3 HL3
                  go_wp2_with fail
                  refine HH1.out.mono ?_
                  rintro e w4 ⟨rfl, n4, hn4⟩
                  have HR4 : Hid (NS w noLk w4 b (endLs ls E) (endMs ms E) j) := Lib.hid (HR2.out.same (by rw [hn4]; exact kp_drewN HK1.out n4))
                  clear hn4 HH1 HK1
                  go_wp2_with fail
                  go_roundg (8 - (k + 1))
                  case measure => omega
                  case rel => exact ⟨k + 1, by omega, rfl, by go_num, HR4⟩
                · obtain rfl : k = 8 := by omega
                  go_wp2_with fail
                  go_loopg [18, 19, 20, 21] j (fun gk s18 s19 s20 s21 wr => ∃ (i3 : Nat) (y19 y20 y21 : Value), i3 ≤ j ∧ gk = j - i3 ∧ s18 = .int .i64 (i3 : Nat) ∧ s19 = y19 ∧ s20 = y20 ∧ s21 = y21 ∧ Hid (NS w noLk wr b (endLs ls E) (endMs ms E) j))
                  case atStart => exact ⟨0, _, _, _, by omega, rfl, rfl, rfl, rfl, rfl, HR2⟩
                  case round =>
                    obtain ⟨i3, y19, y20, y21, hi3, rfl, rfl, rfl, rfl, rfl, HR3⟩ := hrel
                    clear HR2
                    by_cases hlt5 : i3 < j
                    · have hii : (i3 : Int) < j := by omega
                      have HW3 := Lib.hid (ns_watches HR3.out (r := (i3 : Nat)) (by unfold I64; omega))
                      cases hm : moOf (endMs ms E) (i3 : Nat) with
                      | none =>
                        rw [hm] at HW3
                        have HW4 : Hid (Calls Try.prog 19 #[.pointer (some ⟨b, 0, none⟩), .int .i64 (i3 : Nat)] wr fun e w' => e = .returned (.tuple #[.int .i64 0, .int .i64 0, .bool false]) ∧ Kp (fun _ => False) wr w') := HW3
                        clear HW3 hm
                        go_wp2_with fail
                        refine HW4.out.mono ?_
                        rintro e w4 ⟨rfl, hk4⟩
                        have HR4 := Lib.hid (HR3.out.same hk4)
                        clear hk4 HW4
                        go_wp2_with fail
                        go_roundg (j - (i3 + 1))
                        case measure => omega
                        case rel => exact ⟨i3 + 1, _, _, _, by omega, rfl, by go_num, rfl, rfl, rfl, HR4⟩
                      | some m =>
                        rw [hm] at HW3
                        have HW4 : Hid (Calls Try.prog 19 #[.pointer (some ⟨b, 0, none⟩), .int .i64 (i3 : Nat)] wr fun e w' => e = .returned (.tuple #[.int .i64 m.who, .int .i64 m.whom, .bool true]) ∧ Kp (fun _ => False) wr w') := HW3
                        obtain ⟨g1, g2⟩ := end_watch hm
                        obtain ⟨A, hA⟩ : ∃ A, m.who = A := ⟨_, rfl⟩
                        obtain ⟨B, hB⟩ : ∃ B, m.whom = B := ⟨_, rfl⟩
                        rw [hA] at g1 HW4
                        rw [hB] at g2 HW4
                        have hAb : (A == E) = false := by rw [beq_eq_false_iff_ne]; exact g1
                        have hBb : (B == E) = false := by rw [beq_eq_false_iff_ne]; exact g2
                        clear HW3 hm hA hB g1 g2
                        go_wp2_with fail
                        refine HW4.out.mono ?_
                        rintro e w4 ⟨rfl, hk4⟩
                        have HR4 := Lib.hid (HR3.out.same hk4)
                        clear hk4 HW4
                        go_wp2_with fail
                        go_roundg (j - (i3 + 1))
                        case measure => omega
                        case rel => exact ⟨i3 + 1, _, _, _, by omega, rfl, by go_num, rfl, rfl, rfl, HR4⟩
                    · obtain rfl : i3 = j := by omega
                      have HE2 := Lib.hid (ns_end HR3.out hEI)
                      rw [(nbs_end (x := 0) HOK.out.1).2, obs_end] at HE2
                      go_wp2_with fail
                      refine HE2.out.mono ?_
                      rintro e w5 ⟨vl2, vr2, rfl, p1, p2, -, -, hN5, -⟩
                      obtain ⟨po5, c5, rfl⟩ := p1.form
                      obtain ⟨po6, c6, rfl⟩ := p2.form
                      have HA5 := Lib.hid (lkAwake_any w5)
                      have HK := Lib.hid hN5.kp0
                      clear p1 p2 hN5 HE2
                      go_wp2_with fail
                      refine HA5.out.mono ?_
                      rintro e w6 ⟨rfl, k6⟩
                      have HF : Hid (Below w.heap.size w w6) := Lib.hid ((HK.out.trans' k6).below w.heap.size (Nat.le_refl _) (fun _ e => e.elim))
                      clear k6 HA5
                      go_wp2_with fail
                      go_ret
                      exact ⟨rfl, HF.out⟩

set_option maxRecDepth 100000 in
theorem lifted (os : Os) (started : os.Started) (H : Type) (enc : TypeId × Value → H) :
    ReturnsInHanded {} Try.checked os 5 .any (Rows.linksSidesSpec.pre6 enc Try.prog Try.f5 Rows.linksSidesRow.domain false) (Rows.linksSidesSpec.post enc Try.prog Try.f5 false true false false) := by
  refine returnsInHanded_of_change_sized (C := Try.checked) own started (by kernel_rfl) Try.func5
    (ChangeSpec.witness6 (enc := enc) (C := Try.checked) false ⟨#[], #[.slice none 0 0, .slice none 0 0, .int .i64 0], []⟩ 8 (by kernel_rfl) (by kernel_rfl) (by kernel_rfl) (by kernel_rfl)) ?_
  intro W base args ds gs before hval0 hW hcnd hsz0 _
  have hval : ∀ (j : Nat) t v, Try.f5.params[j]? = some t → args[j]? = some v → Value.okWide Try.prog W .any base t v := hval0
  have hW' := hW
  obtain ⟨p, q, hA0, hV, rfl, hfz, hnd⟩ := hW
  have hA : DataW.TrodAll enc Try.prog W 0 (fun _ => true) true Try.f5.params.toList args.toList ds p := hA0
  rw [Try.params5] at hA hval
  obtain ⟨v0, vs0, d0, ds0, p0, q0, hargs, rfl, rfl, h0, r0⟩ := trodAll_cons hA
  obtain ⟨v1, vs1, d1, ds1, p1, q1, rfl, rfl, rfl, h1, r1⟩ := trodAll_cons r0
  obtain ⟨v2, vs2, d2, ds2, p2, q2, rfl, rfl, rfl, h2, r2⟩ := trodAll_cons r1
  obtain ⟨rfl, rfl, rfl⟩ := trodAll_nil r2
  obtain rfl : args = #[v0, v1, v2] := by cases args; simp_all
  obtain ⟨rfl, rfl⟩ := trodVars_none hV
  have hsz : ∀ (j : Nat) t d, ((Try.f5.params.toList) : List TypeId)[j]? = some t → [d0, d1, d2][j]? = some d → ∀ n ∈ d.weights Try.prog t, n ≤ reachBytes := fun j t d ht hd n hn => of_decide_eq_true (List.all_eq_true.1 hsz0 n (DataW.weights_mem_each (j := j) (List.getElem?_append_left (List.getElem?_eq_some_iff.1 ht).1 ▸ ht) (List.getElem?_append_left (List.getElem?_eq_some_iff.1 hd).1 ▸ hd) n hn))
  clear hsz0
  obtain ⟨a0, len0, cap0, rfl⟩ := okWide_slice Try.underlying48 (hval 0 48 v0 rfl rfl)
  have k0 := h0
  have lt0 : ∀ x ∈ p0, x.block < W.heap.size := by obtain ⟨m, hm⟩ := k0; exact DataW.trod_lt m _ _ _ hm
  obtain ⟨z0, y0, w0⟩ : ∃ f g : Nat → Int, PairsIn W a0 len0 cap0 f g := by
    obtain ⟨fuel, hf⟩ := h0
    obtain ⟨po, l, cc, f, g, hcs, hle⟩ := opened_pairs Try.underlying48 Try.underlying49 Try.underlying3 (by kernel_rfl) (by kernel_rfl) (by kernel_rfl) (hsz 0 _ _ rfl rfl) hf
    simp [Value.cells] at hcs
    obtain ⟨rfl, rfl, rfl⟩ := hcs
    exact ⟨f, g, hle⟩
  obtain ⟨a1, len1, cap1, rfl⟩ := okWide_slice Try.underlying48 (hval 1 48 v1 rfl rfl)
  have k1 := h1
  have lt1 : ∀ x ∈ p1, x.block < W.heap.size := by obtain ⟨m, hm⟩ := k1; exact DataW.trod_lt m _ _ _ hm
  obtain ⟨z1, y1, w1⟩ : ∃ f g : Nat → Int, PairsIn W a1 len1 cap1 f g := by
    obtain ⟨fuel, hf⟩ := h1
    obtain ⟨po, l, cc, f, g, hcs, hle⟩ := opened_pairs Try.underlying48 Try.underlying49 Try.underlying3 (by kernel_rfl) (by kernel_rfl) (by kernel_rfl) (hsz 1 _ _ rfl rfl) hf
    simp [Value.cells] at hcs
    obtain ⟨rfl, rfl, rfl⟩ := hcs
    exact ⟨f, g, hle⟩
  obtain ⟨a2, rfl, rfl, rfl, w2⟩ := open_int Try.underlying3 (hval 2 3 v2 rfl rfl) h2
  clear hA0 hval0
  simp only [List.append_nil] at hW'
  refine (walk a0 len0 cap0 z0 y0 a1 len1 cap1 z1 y1 a2 W w0 w1 w2).mono fun e W' ⟨he, bel⟩ => ?_
  subst he
  exact ⟨_, rfl, _, _, _, [], _, [], hW', trodAll_mk1 (shut_bool Try.underlying4 _), (trodAll_cons_mk (Below.trod laidOut (by kernel_rfl) (of_decide_eq_true (by kernel_rfl)) k0 bel lt0) (trodAll_cons_mk (Below.trod laidOut (by kernel_rfl) (of_decide_eq_true (by kernel_rfl)) k1 bel lt1) (trodAll_cons_mk (shut_int Try.underlying3 w2) trodAll_mk0))), rfl, bel.frame _, fun h => by cases h⟩

theorem over : Rows.linksSidesRow.holds Try.pinned (OpenSpec.ofChange Rows.linksSidesSpec) :=
  OpenClaim.holds_of_wide 5 Try.f5 rfl rfl rfl rfl rfl rfl rfl ⟨rfl, rfl, rfl, rfl, rfl⟩ rfl rfl rfl rfl rfl (by kernel_rfl) Try.func5 (by kernel_rfl)
    (of_decide_eq_true (by kernel_rfl)) (by unfold Func.isWrapper; first | (rw [if_pos (by decide +kernel)]; kernel_rfl) | (rw [if_neg (by decide +kernel)]; exact ⟨rfl, rfl⟩))
    (fun os started H enc _ => lifted os started H enc)

theorem proved : Rows.LinksSidesSaid := over
#print axioms proved
end Go.Proofs.Ytmfhmnlgffgcgaa.linksSides
