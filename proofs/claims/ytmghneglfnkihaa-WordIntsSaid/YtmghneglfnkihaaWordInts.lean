/- The Go function WordInts returns true for every number: it fits in a word just from -2^60 to 2^60 - 1, and its word is told as it. Conditions: none beyond the statement's own. -/
import Derived.Test.YtmghneglfnkihaaRows
import Derived.WalkKit
import Derived.ProofKit
import Derived.Test.YtmghneglfnkihaaInts
import Derived.OpenShut
namespace Go.Proofs.Ytmghneglfnkihaa.wordInts
open Go.ChangeShapes Go.WideShapes Go.ChangeAt Go.RowKit
set_option linter.unusedVariables false      -- a walk need not use every 'w<i>' (that an integer argument fits its kind)

theorem own : ownKnob Try.prog.godebug = none := by kernel_rfl

theorem walk (a0 : Int) (w0 : (Lit.int .i64 a0).wf = true) (w : World) :
    Calls Try.prog 9 #[.int .i64 a0] w fun e w' => e = .returned (.bool true) ∧ Below w.heap.size w w' := by
  clear w0
  by_cases h : a0 < -1152921504606846976 ∨ 1152921504606846975 < a0
  · rcases h with h | h
    · have Hb : Hid (a0 < -1152921504606846976 ∨ 1152921504606846975 < a0) := Lib.hid (.inl h)
      have g1 : ¬ -1152921504606846976 ≤ a0 := by omega
      clear h
      go_enter Try.func9, Try.ntmps9
      go_wp2_with fail
      refine (newAtoms_any w).mono ?_
      rintro e w1 ⟨rfl, rfl⟩
      go_wp2_with fail
      refine (small_big a0 _ _ Hb.out).mono ?_
      rintro e w2 ⟨rfl, hk⟩
      have Hk := Lib.hid hk
      clear hk
      go_wp2_with (go_at_call 15; refine (awake_any _).mono ?_; rintro e w6 ⟨rfl, hk6⟩)
      go_ret
      exact ⟨rfl, ((((Kp.refl _ w).alloc _).trans' Hk.out).trans' hk6).below _ (Nat.le_refl _) (fun _ e => e.elim)⟩
    · have Hb : Hid (a0 < -1152921504606846976 ∨ 1152921504606846975 < a0) := Lib.hid (.inr h)
      have g1 : -1152921504606846976 ≤ a0 := by omega
      have g2 : ¬ a0 < 1152921504606846976 := by omega
      clear h
      go_enter Try.func9, Try.ntmps9
      go_wp2_with fail
      refine (newAtoms_any w).mono ?_
      rintro e w1 ⟨rfl, rfl⟩
      go_wp2_with fail
      refine (small_big a0 _ _ Hb.out).mono ?_
      rintro e w2 ⟨rfl, hk⟩
      have Hk := Lib.hid hk
      clear hk
      go_wp2_with (go_at_call 15; refine (awake_any _).mono ?_; rintro e w6 ⟨rfl, hk6⟩)
      go_ret
      exact ⟨rfl, ((((Kp.refl _ w).alloc _).trans' Hk.out).trans' hk6).below _ (Nat.le_refl _) (fun _ e => e.elim)⟩
  · have h1 : -1152921504606846976 ≤ a0 := by omega
    have h2 : a0 ≤ 1152921504606846975 := by omega
    have h3 : a0 < 1152921504606846976 := by omega
    have e1 : a0 * 8 % 18446744073709551616 % 8 = 0 := by omega
    obtain ⟨x, hx, x0, x1⟩ : ∃ x, a0 * 8 % 18446744073709551616 = x ∧ 0 ≤ x ∧ x ≤ 18446744073709551615 := ⟨_, rfl, by omega, by omega⟩
    rw [hx] at e1
    have Hx := Lib.hid hx
    clear hx h
    go_enter Try.func9, Try.ntmps9
    go_wp2_with fail
    refine (newAtoms_any w).mono ?_
    rintro e w1 ⟨rfl, rfl⟩
    go_wp2_with fail
    refine (small_int a0 _ _ h1 h2).mono ?_
    rintro e w2 ⟨rfl, hk⟩
    rw [Hx.out]
    have Hk := Lib.hid hk
    clear hk
    go_wp2_with fail
    refine (plain_num x a0 _ _ h1 h2 Hx.out.symm).mono ?_
    rintro e w3 ⟨rfl, hk⟩
    have Hk2 := Lib.hid hk
    clear hk
    unfold intT
    go_wp2_with (go_at_call 15; refine (awake_any _).mono ?_; rintro e w6 ⟨rfl, hk6⟩)
    go_ret
    exact ⟨rfl, ((((((Kp.refl _ w).alloc _).trans' Hk.out).trans' Hk2.out).alloc _).trans' hk6).below _ (Nat.le_refl _) (fun _ e => e.elim)⟩

set_option maxRecDepth 100000 in
theorem lifted (os : Os) (started : os.Started) (H : Type) (enc : TypeId × Value → H) :
    ReturnsInHanded {} Try.checked os 9 .any (Rows.wordIntsSpec.pre6 enc Try.prog Try.f9 Rows.wordIntsRow.domain false) (Rows.wordIntsSpec.post enc Try.prog Try.f9 false true false false) := by
  refine returnsInHanded_of_change (C := Try.checked) own started (by kernel_rfl) Try.func9
    (ChangeSpec.witness6 (enc := enc) (C := Try.checked) false ⟨#[], #[.int .i64 0], []⟩ 8 (by kernel_rfl) (by kernel_rfl) (by kernel_rfl) (by kernel_rfl)) ?_
  intro W base args ds gs before hval0 hW hcnd _
  have hval : ∀ (j : Nat) t v, Try.f9.params[j]? = some t → args[j]? = some v → Value.okWide Try.prog W .any base t v := hval0
  have hW' := hW
  obtain ⟨p, q, hA0, hV, rfl, hfz, hnd⟩ := hW
  have hA : DataW.TrodAll enc Try.prog W 0 (fun _ => true) true Try.f9.params.toList args.toList ds p := hA0
  rw [Try.params9] at hA hval
  obtain ⟨v0, vs0, d0, ds0, p0, q0, hargs, rfl, rfl, h0, r0⟩ := trodAll_cons hA
  obtain ⟨rfl, rfl, rfl⟩ := trodAll_nil r0
  obtain rfl : args = #[v0] := by cases args; simp_all
  obtain ⟨rfl, rfl⟩ := trodVars_none hV
  obtain ⟨a0, rfl, rfl, rfl, w0⟩ := open_int Try.underlying2 (hval 0 2 v0 rfl rfl) h0
  clear hA0 hval0
  simp only [List.append_nil] at hW'
  refine (walk a0 w0 W).mono fun e W' ⟨he, bel⟩ => ?_
  subst he
  exact ⟨_, rfl, _, _, _, [], _, [], hW', trodAll_mk1 (shut_bool Try.underlying4 _), (trodAll_cons_mk (shut_int Try.underlying2 w0) trodAll_mk0), rfl, bel.frame _, fun h => by cases h⟩

theorem over : Rows.wordIntsRow.holds Try.pinned (OpenSpec.ofChange Rows.wordIntsSpec) :=
  OpenClaim.holds_of_wide 9 Try.f9 rfl rfl rfl rfl rfl rfl rfl ⟨rfl, rfl, rfl, rfl, rfl⟩ rfl rfl rfl rfl rfl (by kernel_rfl) Try.func9 (by kernel_rfl)
    (of_decide_eq_true (by kernel_rfl)) (by unfold Func.isWrapper; first | (rw [if_pos (by decide +kernel)]; kernel_rfl) | (rw [if_neg (by decide +kernel)]; exact ⟨rfl, rfl⟩))
    (fun os started H enc _ => lifted os started H enc)

theorem proved : Rows.WordIntsSaid :=
  over
#print axioms proved
end Go.Proofs.Ytmghneglfnkihaa.wordInts
