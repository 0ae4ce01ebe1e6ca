/- Passing over so many messages of a box and taking the one behind them leaves these in order, and looks from the first again: BoxPasses returns true, whatever the two numbers. -/
import Derived.Test.YtgdmcinfgfejcaaRows
import Derived.Test.YtgdmcinfgfejcaaBxUps
import Derived.WalkKit
import Derived.ProofKit
import Derived.OpenShut
import Derived.ShutString
import Derived.ChangeOld
import Derived.Below
import Derived.Deep.Strs
namespace Go.Proofs.Ytgdmcinfgfejcaa.boxPasses
open Go.ChangeShapes Go.WideShapes Go.ChangeAt Go.RowKit
open Go.ChangeMaps (open_string shut_string)
set_option linter.unusedVariables false

theorem own : ownKnob Try.prog.godebug = none := by kernel_rfl
theorem laidOut : laidOutB Try.prog = true := by kernel_rfl

set_option maxHeartbeats 4000000 in
set_option maxRecDepth 100000 in
theorem walk (a0 a1 : Int) (w : World) (w1 : (Lit.int .i64 a0).wf = true) (w2 : (Lit.int .i64 a1).wf = true) :
    Calls Try.prog 7 #[.int .i64 a0, .int .i64 a1] w fun e w' => e = .returned (.bool true) ∧ Below w.heap.size w w' := by
  obtain ⟨b1, b2⟩ := bounds_i64 w1
  obtain ⟨b3, b4⟩ := bounds_i64 w2
  clear w1 w2
  obtain ⟨K, hK, hK2⟩ : ∃ K : Nat, a0 % 200 = K ∧ K < 200 := ⟨(a0 % 200).toNat, by omega, by omega⟩
  obtain ⟨P, hP, hP2⟩ : ∃ P : Nat, a1 % 220 = P ∧ P < 220 := ⟨(a1 % 220).toNat, by omega, by omega⟩
  have HKP := Lib.hid (And.intro hK hP)
  clear hK hP
  have H0 := Lib.hid (Bs.new_box (w0 := w) (n := 0) (box_new w) ((Kp.refl _ w).alloc _) (Nat.le_refl _))
  obtain ⟨w1, hw1⟩ : ∃ w1, w.alloc (.cells #[.slice none 0 0, .int .i64 0, .int .i64 0] 26) = w1 := ⟨_, rfl⟩
  rw [hw1] at H0
  have HW := Lib.hid hw1
  clear hw1
  go_enter Try.func7, Try.ntmps7
  go_wp2_with fail
  refine (place_any _ a0 200 b1 b2 (by omega) (by omega)).mono ?_
  rintro e w' ⟨rfl, rfl⟩
  rw [HKP.out.1]
  go_wp2_with fail
  refine (place_any _ a1 220 b3 b4 (by omega) (by omega)).mono ?_
  rintro e w' ⟨rfl, rfl⟩
  rw [HKP.out.2]
  clear b1 b2 b3 b4
  go_wp2_with fail
  rw [HW.out]
  go_loopg [8] K (fun gk i wr => ∃ j : Nat, j ≤ K ∧ gk = K - j ∧ i = .int .i64 j ∧ Bs w wr w.heap.size 0 (ups 0 j) 0 0 (fun _ => .slice none 0 0) (fun _ => []))
  case atStart => exact ⟨0, by omega, rfl, rfl, H0.out⟩
  case round =>
    obtain ⟨j, hj, rfl, rfl, hB⟩ := hrel
    by_cases hlt : j < K
    · have hli : (j : Int) < K := by omega
      have hcv : IntKind.u64.wrap (j : Int) = j := u64_in _ (by omega) (by omega)
      have HB := Lib.hid hB
      clear hB
      go_wp2_with fail
      refine (s_push HB.out (j : Int) (by rw [ups_len]; omega)).mono ?_
      rintro e w2 ⟨rfl, h2⟩
      have H2 := Lib.hid h2
      clear h2
      go_wp2_with fail
      go_roundg (K - (j + 1))
      case measure => omega
      case rel => exact ⟨j + 1, by omega, rfl, by go_num, by rw [ups_succ, Nat.zero_add]; exact H2.out⟩
    · obtain rfl : j = K := by omega
      have HB := Lib.hid hB
      clear hB hlt hj H0 HW
      go_wp2_with fail
      go_loopg [9] P (fun gk i wr => ∃ m : Nat, m ≤ P ∧ gk = P - m ∧ i = .int .i64 m ∧ Bs w wr w.heap.size 0 (ups 0 j) (min m j) 0 (fun _ => .slice none 0 0) (fun _ => []))
      case atStart => exact ⟨0, by omega, rfl, rfl, by rw [Nat.zero_min]; exact HB.out⟩
      case round =>
        obtain ⟨m, hm, rfl, rfl, hB⟩ := hrel
        by_cases hlt : m < P
        · have hli : (m : Int) < P := by omega
          have HN := Lib.hid (s_next hB (min (m + 1) j) (by rw [ups_len]; split <;> omega))
          rw [ups_len] at HN
          clear hB
          by_cases hd : m + 1 < j
          · have hd1 : decide (min (m + 1) j < j) = true := by simp; omega
            rw [hd1] at HN
            have hdi : (m : Int) + 1 < j := by omega
            clear hd1
            go_wp2_with fail
            refine HN.out.mono ?_
            rintro e w2 ⟨rfl, h2⟩
            have H2 := Lib.hid h2
            clear h2
            go_wp2_with fail
            go_roundg (P - (m + 1))
            case measure => omega
            case rel => exact ⟨m + 1, by omega, rfl, by go_num, H2.out⟩
          · have hd1 : decide (min (m + 1) j < j) = false := by simp; omega
            rw [hd1] at HN
            have hdi : ¬ ((m : Int) + 1 < j) := by omega
            clear hd1
            go_wp2_with fail
            refine HN.out.mono ?_
            rintro e w2 ⟨rfl, h2⟩
            have H2 := Lib.hid h2
            clear h2
            go_wp2_with fail
            go_roundg (P - (m + 1))
            case measure => omega
            case rel => exact ⟨m + 1, by omega, rfl, by go_num, H2.out⟩
        · obtain rfl : m = P := by omega
          clear hlt hm
          by_cases hpk : m < j
          · have hpi : (m : Int) < j := by omega
            have hcv : IntKind.u64.wrap (m : Int) = m := u64_in _ (by omega) (by omega)
            rw [Nat.min_eq_left (by omega)] at hB
            have HB2 := Lib.hid hB
            clear hB
            go_wp2_with fail
            refine (s_take_some HB2.out (x := m) (by rw [ups_get hpk, Nat.zero_add])).mono ?_
            rintro e w2 ⟨rfl, g2, h2⟩
            have H2 := Lib.hid h2
            clear h2
            go_wp2_with fail
            refine (s_words H2.out).mono ?_
            rintro e w3 ⟨v3, rfl, hv3, -, hk3⟩
            obtain ⟨p3, c3, hf3⟩ := hv3.form
            have hl3 : ((ups 0 j).eraseIdx m).length = j - 1 := by rw [List.length_eraseIdx_of_lt (by rw [ups_len]; exact hpk), ups_len]
            rw [hl3] at hf3
            subst hf3
            have H3 := Lib.hid (And.intro (H2.out.same hk3) hv3)
            clear hv3 hk3 hl3
            go_wp2_with fail
            go_loopg [14, 15] (j - 1) (fun gk i vv wr => ∃ k : Nat, k ≤ j - 1 ∧ gk = j - 1 - k ∧ i = .int .i64 k ∧ ∃ d, wr = w3.drewN d)
            case atStart => exact ⟨0, by omega, rfl, rfl, 0, rfl⟩
            case round =>
              obtain ⟨k, hk, rfl, rfl, d, rfl⟩ := hrel
              by_cases hlt : k < j - 1
              · have hli : (k : Int) < ((j - 1 : Nat) : Int) := by omega
                obtain ⟨g, cap, e3, hc1, hc2, hc⟩ := H3.out.2.get (ups_erase (n := j) (p := m) hlt)
                obtain rfl := slice_po e3
                have hcw : IntKind.u64.wrap (k : Int) = k := u64_in _ (by omega) (by omega)
                by_cases hkm : k < m
                · rw [if_pos hkm] at hc
                  have hki : ¬ ((m : Int) ≤ k) := by omega
                  clear hc1 hc2 e3
                  go_wp2_with fail
                  go_roundg (j - 1 - (k + 1))
                  case measure => omega
                  case rel => exact ⟨k + 1, by omega, rfl, by go_num, d, rfl⟩
                · rw [if_neg hkm] at hc
                  have hki : (m : Int) ≤ k := by omega
                  have hcx : IntKind.u64.wrap ((k : Int) + 1) = ((k + 1 : Nat) : Int) := u64_in _ (by omega) (by omega)
                  clear hc1 hc2 e3
                  go_wp2_with fail
                  go_roundg (j - 1 - (k + 1))
                  case measure => omega
                  case rel => exact ⟨k + 1, by omega, rfl, by go_num, d, rfl⟩
              · obtain rfl : k = j - 1 := by omega
                have hjj : (j : Int) - 1 = ((j - 1 : Nat) : Int) := by omega
                have H5 := Lib.hid (H3.out.1.drewN d)
                clear hlt hk H3 H2
                go_wp2_with fail
                refine (s_at H5.out).mono ?_
                rintro e w5 ⟨rfl, h5⟩
                have H6 := Lib.hid h5
                clear h5
                go_wp2_with fail
                refine (boxAwake_any _).mono ?_
                rintro e w6 ⟨rfl, hk6⟩
                have H7 := Lib.hid (H6.out.same hk6)
                clear hk6
                go_wp2_with fail
                go_ret
                exact ⟨rfl, H7.out.below⟩
          · have hpi : ¬ ((m : Int) < j) := by omega
            rw [Nat.min_eq_right (by omega)] at hB
            have HB2 := Lib.hid hB
            clear hB
            go_wp2_with fail
            refine (s_take_none HB2.out (by rw [ups_len]; omega)).mono ?_
            rintro e w2 ⟨rfl, h2⟩
            have HL := Lib.hid (s_len h2)
            rw [ups_len] at HL
            clear h2
            by_cases hlt : j < m
            · have hli : (j : Int) < m := by omega
              go_wp2_with fail
              refine HL.out.mono ?_
              rintro e w3 ⟨rfl, h3⟩
              have H3 := Lib.hid h3
              clear h3
              go_wp2_with fail
              refine (s_at H3.out).mono ?_
              rintro e w5 ⟨rfl, h5⟩
              have H6 := Lib.hid h5
              clear h5
              go_wp2_with fail
              refine (boxAwake_any _).mono ?_
              rintro e w6 ⟨rfl, hk6⟩
              have H7 := Lib.hid (H6.out.same hk6)
              clear hk6
              go_wp2_with fail
              go_ret
              exact ⟨rfl, H7.out.below⟩
            · obtain rfl : j = m := by omega
              go_wp2_with fail
              refine HL.out.mono ?_
              rintro e w3 ⟨rfl, h3⟩
              have H3 := Lib.hid h3
              clear h3
              go_wp2_with fail
              refine (s_at H3.out).mono ?_
              rintro e w5 ⟨rfl, h5⟩
              have H6 := Lib.hid h5
              clear h5
              go_wp2_with fail
              refine (boxAwake_any _).mono ?_
              rintro e w6 ⟨rfl, hk6⟩
              have H7 := Lib.hid (H6.out.same hk6)
              clear hk6
              go_wp2_with fail
              go_ret
              exact ⟨rfl, H7.out.below⟩

set_option maxRecDepth 100000 in
theorem lifted (os : Os) (started : os.Started) (H : Type) (enc : TypeId × Value → H) :
    ReturnsInHanded {} Try.checked os 7 .any (Rows.boxPassesSpec.pre6 enc Try.prog Try.f7 Rows.boxPassesRow.domain false) (Rows.boxPassesSpec.post enc Try.prog Try.f7 false true false false) := by
  refine returnsInHanded_of_change (C := Try.checked) own started (by kernel_rfl) Try.func7
    (ChangeSpec.witness6 (enc := enc) (C := Try.checked) false ⟨#[], #[.int .i64 0, .int .i64 0], []⟩ 8 (by kernel_rfl) (by kernel_rfl) (by kernel_rfl) (by kernel_rfl)) ?_
  intro W base args ds gs before hval0 hW hcnd _
  have hval : ∀ (j : Nat) t v, Try.f7.params[j]? = some t → args[j]? = some v → Value.okWide Try.prog W .any base t v := hval0
  have hW' := hW
  obtain ⟨p, q, hA0, hV, rfl, hfz, hnd⟩ := hW
  have hA : DataW.TrodAll enc Try.prog W 0 (fun _ => true) true Try.f7.params.toList args.toList ds p := hA0
  rw [Try.params7] at hA hval
  obtain ⟨v0, vs0, d0, ds0, p0, q0, hargs, rfl, rfl, h0, r0⟩ := trodAll_cons hA
  obtain ⟨v1, vs1, d1, ds1, p1, q1, rfl, rfl, rfl, h1, r1⟩ := trodAll_cons r0
  obtain ⟨rfl, rfl, rfl⟩ := trodAll_nil r1
  obtain rfl : args = #[v0, v1] := by cases args; simp_all
  obtain ⟨rfl, rfl⟩ := trodVars_none hV
  obtain ⟨a0, rfl, rfl, rfl, w0⟩ := open_int Try.underlying3 (hval 0 3 v0 rfl rfl) h0
  obtain ⟨a1, rfl, rfl, rfl, w1⟩ := open_int Try.underlying3 (hval 1 3 v1 rfl rfl) h1
  clear hA0 hval0
  simp only [List.append_nil] at hW'
  refine (walk a0 a1 W w0 w1).mono fun e W' ⟨he, bel⟩ => ?_
  subst he
  exact ⟨_, rfl, _, _, _, [], _, [], hW', trodAll_mk1 (shut_bool Try.underlying4 _), (trodAll_cons_mk (shut_int Try.underlying3 w0) (trodAll_cons_mk (shut_int Try.underlying3 w1) trodAll_mk0)), rfl, bel.frame _, fun h => by cases h⟩

theorem over : Rows.boxPassesRow.holds Try.pinned (OpenSpec.ofChange Rows.boxPassesSpec) :=
  OpenClaim.holds_of_wide 7 Try.f7 rfl rfl rfl rfl rfl rfl rfl ⟨rfl, rfl, rfl, rfl, rfl⟩ rfl rfl rfl rfl rfl (by kernel_rfl) Try.func7 (by kernel_rfl)
    (of_decide_eq_true (by kernel_rfl)) (by unfold Func.isWrapper; first | (rw [if_pos (by decide +kernel)]; kernel_rfl) | (rw [if_neg (by decide +kernel)]; exact ⟨rfl, rfl⟩))
    (fun os started H enc _ => lifted os started H enc)

theorem proved : Rows.BoxPassesSaid := over
#print axioms proved
end Go.Proofs.Ytgdmcinfgfejcaa.boxPasses
