/- WheelFar: a timer of any number of ticks is that far away, also beyond all wheels, and expires just then; at every two ints, no condition. -/
import Derived.Test.YtmekhijmghddiaaRows
import Derived.Test.YtmekhijmghddiaaWhUse
import Derived.WalkKit
import Derived.ProofKit
import Derived.OpenShut
import Derived.ShutString
import Derived.ChangeOld
import Derived.Below
import Derived.Deep.Strs
namespace Go.Proofs.Ytmekhijmghddiaa.wheelFar
open Go.ChangeShapes Go.WideShapes Go.ChangeAt Go.RowKit
open Go.ChangeMaps (open_string shut_string)
set_option linter.unusedVariables false

theorem own : ownKnob Try.prog.godebug = none := by kernel_rfl
theorem laidOut : laidOutB Try.prog = true := by kernel_rfl

set_option maxHeartbeats 8000000 in
set_option maxRecDepth 100000 in
theorem walk (a0 a1 : Int) (w : World) (w1 : (Lit.int .i64 a0).wf = true) (w2 : (Lit.int .i64 a1).wf = true) :
    Calls Try.prog 6 #[.int .i64 a0, .int .i64 a1] w fun e w' => e = .returned (.bool true) ∧ Below w.heap.size w w' := by
  obtain ⟨b1, b2⟩ := bounds_i64 w1
  obtain ⟨b3, b4⟩ := bounds_i64 w2
  clear w1 w2
  obtain ⟨N, hN, hN2⟩ : ∃ K : Nat, a0 % 1073741824 = K ∧ K < 1073741824 := ⟨(a0 % 1073741824).toNat, by omega, by omega⟩
  have HKP := Lib.hid hN
  have HNW := Lib.hid (show Calls Try.prog 9 #[.int .i64 2] w _ from n_new w 2 (by omega) (by omega))
  clear hN
  go_enter Try.func6, Try.ntmps6
  go_wp2_with fail
  refine (place_big _ a0 1073741824 b1 b2 (by omega) (by omega)).mono ?_
  rintro e w' ⟨rfl, rfl⟩
  rw [HKP.out]
  clear b1 b2
  go_wp2_with fail
  refine HNW.out.mono ?_
  rintro e w1 ⟨b, rfl, h1⟩
  have HS := Lib.hid (n_start h1 N 7 (by omega) (by omega) (by omega) (by simp) (by omega))
  clear h1 HNW
  go_wp2_with fail
  refine HS.out.mono ?_
  rintro e w2 ⟨rfl, g, h2⟩
  rw [List.nil_append, Nat.zero_add N] at h2
  have H2 := Lib.hid h2
  clear h2 HS
  go_wp2_with fail
  go_loopg [9] N (fun gk s9 wr => ∃ nw : Nat, nw ≤ N ∧ gk = N - nw ∧ s9 = .int .i64 (nw : Nat) ∧ WhN w wr b 2 nw 1 [⟨0, 7, N, g⟩])
  case atStart => exact ⟨0, by omega, rfl, rfl, H2.out⟩
  case round =>
    obtain ⟨nw, hnw, rfl, rfl, hB⟩ := hrel
    clear H2
    have hsub : IntKind.i64.wrap ((N : Int) - (nw : Int)) = ((N - nw : Nat) : Int) := by rw [IntWalk.i64_in _ (by omega)]; omega
    obtain ⟨D, hD⟩ : ∃ D, N - nw = D := ⟨_, rfl⟩
    have hsub2 : (N : Int) - (nw : Int) = (D : Int) := by omega
    have HD := Lib.hid hD
    rw [hD] at hsub
    have HB := Lib.hid hB
    by_cases hlt : 1048576 < D
    · have hlt' : (1048576 : Int) < D := by omega
      have HT := Lib.hid (show Calls Try.prog 22 #[.pointer (some ⟨b, 0, none⟩), .int .i64 1048576] _ _ from n_tick_none hB 1048576 (by omega) (by omega) (by simp) (by simp; omega))
      have hnb : (nw : Int) ≤ 1073741824 := by omega
      clear hB hD hlt
      go_wp2_with fail
      refine HT.out.mono ?_
      rintro e w3 ⟨po, cap, rfl, h3⟩
      have H3 := Lib.hid h3
      clear h3 HT
      go_wp2_with fail
      go_roundg (N - (nw + 1048576))
      case measure => have := HD.out; omega
      case rel => exact ⟨nw + 1048576, by have := HD.out; omega, rfl, by go_num, H3.out⟩
    · have hlt' : (D : Int) ≤ 1048576 := by omega
      have HL := Lib.hid (show Calls Try.prog 18 #[.pointer (some ⟨b, 0, none⟩), .int .i64 0] _ (LeftIs D _) from by
        have := n_left (id := 0) (t := ⟨0, 7, N, g⟩) hB (by decide) rfl
        rw [show (⟨0, 7, N, g⟩ : Tm).due = N from rfl, hD] at this
        exact this)
      clear hB hD
      go_wp2_with fail
      refine HL.out.mono ?_
      rintro e w3 ⟨rfl, m3, hm3⟩
      have H3 : Hid (WhN w w3 b 2 nw 1 [⟨0, 7, N, g⟩]) := Lib.hid (by rw [hm3]; exact HB.out.same (kp_drewN (Kp.refl _ _) m3))
      clear hm3 HL HB
      by_cases h1 : 1 < D
      · have h1' : (1 : Int) < D := by omega
        obtain ⟨K, hK, hK2⟩ : ∃ K : Nat, a1 % (D : Int) = K ∧ K < D := ⟨(a1 % (D : Int)).toNat, by have := Int.emod_nonneg a1 (b := (D : Int)) (by omega); omega, by have := Int.emod_lt_of_pos a1 (b := (D : Int)) (by omega); have := Int.emod_nonneg a1 (b := (D : Int)) (by omega); omega⟩
        have HK := Lib.hid hK
        clear hK h1
        go_wp2_with fail
        refine (place_big _ a1 (D : Int) b3 b4 (by omega) (by omega)).mono ?_
        rintro e w' ⟨rfl, rfl⟩
        rw [HK.out]
        have HT := Lib.hid (n_tick_none H3.out K (by omega) (by omega) (by simp) (by have := HD.out; simp; omega))
        clear H3
        go_wp2_with fail
        refine HT.out.mono ?_
        rintro e w4 ⟨po, cap, rfl, h4⟩
        have hnb : (nw : Int) + (K : Int) ≤ 1073741824 := by have := HD.out; omega
        obtain ⟨E, hE⟩ : ∃ E, D - K = E := ⟨_, rfl⟩
        have hsub3 : (N : Int) - ((nw : Int) + (K : Int)) = (E : Int) := by have := HD.out; omega
        have hsub4 : IntKind.i64.wrap ((N : Int) - ((nw : Int) + (K : Int))) = (E : Int) := by rw [hsub3, IntWalk.i64_in _ (by omega)]
        have HT := Lib.hid (n_tick_all h4 E (by omega) (by have := HD.out; omega) (by simp) (by have := HD.out; simp; omega) (by simp))
        have hend : nw + K + E = N := by have := HD.out; omega
        rw [hend] at HT
        clear h4 hE hend hsub hsub2
        go_wp2_with fail
        refine HT.out.mono ?_
        rintro e w5 ⟨v, rfl, hv, h5⟩
        have hk6 : Kp (fun _ => False) w5 (w5.alloc (.cells #[.int .i64 0] 2)) := (Kp.refl _ w5).alloc _
        have HE := Lib.hid (sameLongs_any (l := [0]) (hv.same hk6) (lr_lit1 0 (heap_alloc_new w5 _)))
        have H5 := Lib.hid (h5.same hk6)
        clear hv h5 hk6 HT
        go_wp2_with fail
        refine HE.out.mono ?_
        rintro e w6 ⟨rfl, m6, hm6⟩
        have h6 : WhN w w6 b 2 N 1 [] := by rw [hm6]; exact H5.out.same (kp_drewN (Kp.refl _ _) m6)
        have HL6 := Lib.hid (n_len h6)
        have HN6 := Lib.hid (n_now h6)
        have H6 := Lib.hid h6
        clear hm6 h6 H5 HE
        go_wp2_with fail
        refine HL6.out.mono ?_
        rintro e w7 ⟨rfl, rfl⟩
        go_wp2_with fail
        refine HN6.out.mono ?_
        rintro e w7 ⟨rfl, rfl⟩
        go_wp2_with fail
        refine (whAwake_any _).mono ?_
        rintro e w7 ⟨rfl, hk7⟩
        have H7 := Lib.hid (H6.out.same hk7).below
        clear hk7
        go_wp2_with fail
        go_ret
        exact ⟨rfl, H7.out⟩
      · have h1' : ¬ (1 : Int) < D := by omega
        have HT := Lib.hid (n_tick_all H3.out D (by omega) (by have := HD.out; omega) (by simp) (by have := HD.out; simp; omega) (by simp))
        have hend : nw + D = N := by have := HD.out; omega
        rw [hend] at HT
        clear H3 hend h1
        go_wp2_with fail
        refine HT.out.mono ?_
        rintro e w5 ⟨v, rfl, hv, h5⟩
        have hk6 : Kp (fun _ => False) w5 (w5.alloc (.cells #[.int .i64 0] 2)) := (Kp.refl _ w5).alloc _
        have HE := Lib.hid (sameLongs_any (l := [0]) (hv.same hk6) (lr_lit1 0 (heap_alloc_new w5 _)))
        have H5 := Lib.hid (h5.same hk6)
        clear hv h5 hk6 HT
        go_wp2_with fail
        refine HE.out.mono ?_
        rintro e w6 ⟨rfl, m6, hm6⟩
        have h6 : WhN w w6 b 2 N 1 [] := by rw [hm6]; exact H5.out.same (kp_drewN (Kp.refl _ _) m6)
        have HL6 := Lib.hid (n_len h6)
        have HN6 := Lib.hid (n_now h6)
        have H6 := Lib.hid h6
        clear hm6 h6 H5 HE
        go_wp2_with fail
        refine HL6.out.mono ?_
        rintro e w7 ⟨rfl, rfl⟩
        go_wp2_with fail
        refine HN6.out.mono ?_
        rintro e w7 ⟨rfl, rfl⟩
        go_wp2_with fail
        refine (whAwake_any _).mono ?_
        rintro e w7 ⟨rfl, hk7⟩
        have H7 := Lib.hid (H6.out.same hk7).below
        clear hk7
        go_wp2_with fail
        go_ret
        exact ⟨rfl, H7.out⟩

set_option maxRecDepth 100000 in
theorem lifted (os : Os) (started : os.Started) (H : Type) (enc : TypeId × Value → H) :
    ReturnsInHanded {} Try.checked os 6 .any (Rows.wheelFarSpec.pre6 enc Try.prog Try.f6 Rows.wheelFarRow.domain false) (Rows.wheelFarSpec.post enc Try.prog Try.f6 false true false false) := by
  refine returnsInHanded_of_change (C := Try.checked) own started (by kernel_rfl) Try.func6
    (ChangeSpec.witness6 (enc := enc) (C := Try.checked) false ⟨#[], #[.int .i64 0, .int .i64 0], []⟩ 8 (by kernel_rfl) (by kernel_rfl) (by kernel_rfl) (by kernel_rfl)) ?_
  intro W base args ds gs before hval0 hW hcnd _
  have hval : ∀ (j : Nat) t v, Try.f6.params[j]? = some t → args[j]? = some v → Value.okWide Try.prog W .any base t v := hval0
  have hW' := hW
  obtain ⟨p, q, hA0, hV, rfl, hfz, hnd⟩ := hW
  have hA : DataW.TrodAll enc Try.prog W 0 (fun _ => true) true Try.f6.params.toList args.toList ds p := hA0
  rw [Try.params6] at hA hval
  obtain ⟨v0, vs0, d0, ds0, p0, q0, hargs, rfl, rfl, h0, r0⟩ := trodAll_cons hA
  obtain ⟨v1, vs1, d1, ds1, p1, q1, rfl, rfl, rfl, h1, r1⟩ := trodAll_cons r0
  obtain ⟨rfl, rfl, rfl⟩ := trodAll_nil r1
  obtain rfl : args = #[v0, v1] := by cases args; simp_all
  obtain ⟨rfl, rfl⟩ := trodVars_none hV
  obtain ⟨a0, rfl, rfl, rfl, w0⟩ := open_int Try.underlying3 (hval 0 3 v0 rfl rfl) h0
  obtain ⟨a1, rfl, rfl, rfl, w1⟩ := open_int Try.underlying3 (hval 1 3 v1 rfl rfl) h1
  clear hA0 hval0
  simp only [List.append_nil] at hW'
  refine (walk a0 a1 W w0 w1).mono fun e W' ⟨he, bel⟩ => ?_
  subst he
  exact ⟨_, rfl, _, _, _, [], _, [], hW', trodAll_mk1 (shut_bool Try.underlying4 _), (trodAll_cons_mk (shut_int Try.underlying3 w0) (trodAll_cons_mk (shut_int Try.underlying3 w1) trodAll_mk0)), rfl, bel.frame _, fun h => by cases h⟩

theorem over : Rows.wheelFarRow.holds Try.pinned (OpenSpec.ofChange Rows.wheelFarSpec) :=
  OpenClaim.holds_of_wide 6 Try.f6 rfl rfl rfl rfl rfl rfl rfl ⟨rfl, rfl, rfl, rfl, rfl⟩ rfl rfl rfl rfl rfl (by kernel_rfl) Try.func6 (by kernel_rfl)
    (of_decide_eq_true (by kernel_rfl)) (by unfold Func.isWrapper; first | (rw [if_pos (by decide +kernel)]; kernel_rfl) | (rw [if_neg (by decide +kernel)]; exact ⟨rfl, rfl⟩))
    (fun os started H enc _ => lifted os started H enc)

theorem proved : Rows.WheelFarSaid := over
#print axioms proved
end Go.Proofs.Ytmekhijmghddiaa.wheelFar
