/- The Go function WordMarks returns true for every two integers and every word: marks of any kind and number are made, and words are told to be marks or not, as chapter 4 says. Conditions: none beyond the statement's own. -/
import Derived.Test.YtmghneglfnkihaaRows
import Derived.WalkKit
import Derived.ProofKit
import Derived.Test.YtmghneglfnkihaaMark
import Derived.OpenShut
namespace Go.Proofs.Ytmghneglfnkihaa.wordMarks
open Go.ChangeShapes Go.WideShapes Go.ChangeAt Go.RowKit
set_option linter.unusedVariables false      -- a walk need not use every 'w<i>' (that an integer argument fits its kind)

theorem own : ownKnob Try.prog.godebug = none := by kernel_rfl

theorem walk (a0 : Int) (a1 : Int) (a2 : Int) (w0 : (Lit.int .i64 a0).wf = true) (w1 : (Lit.int .i64 a1).wf = true) (w2 : (Lit.int .u64 a2).wf = true) (w : World) :
    Calls Try.prog 6 #[.int .i64 a0, .int .i64 a1, .int .u64 a2] w fun e w' => e = .returned (.bool true) ∧ Below w.heap.size w w' := by
  obtain ⟨hu0, hu1⟩ := bounds_u64 w2
  clear w0 w1 w2
  by_cases hb : badMark a0 a1
  · by_cases hm : badMarked a2
    · go_enter Try.func6, Try.ntmps6
      go_wp2_with fail
      refine (mark_bad a0 a1 w hb).mono ?_
      rintro e w1 ⟨v1, rfl, hc1, hk1⟩
      obtain ⟨g1, rfl⟩ := hc1.out.form
      go_wp2_with fail
      refine (xmark_bad a0 a1 w1 hb).mono ?_
      rintro e w2 ⟨v2, rfl, hc2, hk2⟩
      go_wp2_with fail
      refine (marked_bad a2 w2 hu0 hu1 hm).mono ?_
      rintro e w3 ⟨rfl, rfl⟩
      go_wp2_with fail
      refine (xmarked_bad a2 _ hu0 hu1 hm).mono ?_
      rintro e w4 ⟨rfl, rfl⟩
      go_wp2_with fail
      refine (ref_any _ _ _ _ (by simp) (Chain.kp hk2 _ _ hc1.out) hc2).mono ?_
      rintro e w5 ⟨rfl, hk5⟩
      have Hk := Lib.hid (And.intro hk1 (And.intro hk2 hk5))
      clear hk1 hk2 hk5 hc1 hc2
      go_wp2_with fail
      refine (awake_any _).mono ?_
      rintro e w6 ⟨rfl, hk6⟩
      go_wp2_with fail
      go_ret
      exact ⟨rfl, (((Hk.out.1.trans' Hk.out.2.1).trans' Hk.out.2.2).trans' hk6).below _ (Nat.le_refl _) (fun _ e => e.elim)⟩
    · obtain ⟨k, n, hx, k1, k2, n1, n2⟩ : ∃ k n, a2 = n * 64 + k * 8 + 7 ∧ 1 ≤ k ∧ k ≤ 4 ∧ 0 ≤ n ∧ n ≤ 1048576 := ⟨a2 / 8 % 8, a2 / 64, by unfold badMarked at hm; omega⟩
      have Hx := Lib.hid hx
      clear hx hm
      go_enter Try.func6, Try.ntmps6
      go_wp2_with fail
      refine (mark_bad a0 a1 w hb).mono ?_
      rintro e w1 ⟨v1, rfl, hc1, hk1⟩
      obtain ⟨g1, rfl⟩ := hc1.out.form
      go_wp2_with fail
      refine (xmark_bad a0 a1 w1 hb).mono ?_
      rintro e w2 ⟨v2, rfl, hc2, hk2⟩
      go_wp2_with fail
      refine (marked_ok a2 k n w2 Hx.out k1 k2 n1 n2).mono ?_
      rintro e w3 ⟨rfl, rfl⟩
      go_wp2_with fail
      refine (xmarked_ok a2 k n _ Hx.out k1 k2 n1 n2).mono ?_
      rintro e w4 ⟨rfl, rfl⟩
      go_wp2_with fail
      refine (ref_any _ _ _ _ (by simp) (Chain.kp hk2 _ _ hc1.out) hc2).mono ?_
      rintro e w5 ⟨rfl, hk5⟩
      have Hk := Lib.hid (And.intro hk1 (And.intro hk2 hk5))
      clear hk1 hk2 hk5 hc1 hc2
      go_wp2_with fail
      refine (awake_any _).mono ?_
      rintro e w6 ⟨rfl, hk6⟩
      go_wp2_with fail
      go_ret
      exact ⟨rfl, (((Hk.out.1.trans' Hk.out.2.1).trans' Hk.out.2.2).trans' hk6).below _ (Nat.le_refl _) (fun _ e => e.elim)⟩
  · obtain ⟨m1, m2, m3, m4⟩ : 1 ≤ a0 ∧ a0 ≤ 4 ∧ 0 ≤ a1 ∧ a1 ≤ 1048576 := by unfold badMark at hb; omega
    by_cases hm : badMarked a2
    · go_enter Try.func6, Try.ntmps6
      go_wp2_with fail
      refine (mark_ok a0 a1 w m1 m2 m3 m4).mono ?_
      rintro e w1 ⟨rfl, rfl⟩
      go_wp2_with fail
      refine (xmark_ok a0 a1 _ m1 m2 m3 m4).mono ?_
      rintro e w2 ⟨rfl, rfl⟩
      go_wp2_with fail
      refine (marked_bad a2 _ hu0 hu1 hm).mono ?_
      rintro e w3 ⟨rfl, rfl⟩
      go_wp2_with fail
      refine (xmarked_bad a2 _ hu0 hu1 hm).mono ?_
      rintro e w4 ⟨rfl, rfl⟩
      go_wp2_with fail
      refine (ref_any [] _ _ _ (by simp) rfl rfl).mono ?_
      rintro e w5 ⟨rfl, hk5⟩
      have Hk := Lib.hid hk5
      clear hk5
      go_wp2_with fail
      refine (marked_ok _ a0 a1 _ rfl m1 m2 m3 m4).mono ?_
      rintro e w7 ⟨rfl, rfl⟩
      go_wp2_with fail
      refine (awake_any _).mono ?_
      rintro e w6 ⟨rfl, hk6⟩
      go_wp2_with fail
      go_ret
      exact ⟨rfl, (Hk.out.trans' hk6).below _ (Nat.le_refl _) (fun _ e => e.elim)⟩
    · obtain ⟨k, n, hx, k1, k2, n1, n2⟩ : ∃ k n, a2 = n * 64 + k * 8 + 7 ∧ 1 ≤ k ∧ k ≤ 4 ∧ 0 ≤ n ∧ n ≤ 1048576 := ⟨a2 / 8 % 8, a2 / 64, by unfold badMarked at hm; omega⟩
      have Hx := Lib.hid hx
      clear hx hm
      go_enter Try.func6, Try.ntmps6
      go_wp2_with fail
      refine (mark_ok a0 a1 w m1 m2 m3 m4).mono ?_
      rintro e w1 ⟨rfl, rfl⟩
      go_wp2_with fail
      refine (xmark_ok a0 a1 _ m1 m2 m3 m4).mono ?_
      rintro e w2 ⟨rfl, rfl⟩
      go_wp2_with fail
      refine (marked_ok a2 k n _ Hx.out k1 k2 n1 n2).mono ?_
      rintro e w3 ⟨rfl, rfl⟩
      go_wp2_with fail
      refine (xmarked_ok a2 k n _ Hx.out k1 k2 n1 n2).mono ?_
      rintro e w4 ⟨rfl, rfl⟩
      go_wp2_with fail
      refine (ref_any [] _ _ _ (by simp) rfl rfl).mono ?_
      rintro e w5 ⟨rfl, hk5⟩
      have Hk := Lib.hid hk5
      clear hk5
      go_wp2_with fail
      refine (marked_ok _ a0 a1 _ rfl m1 m2 m3 m4).mono ?_
      rintro e w7 ⟨rfl, rfl⟩
      go_wp2_with fail
      refine (awake_any _).mono ?_
      rintro e w6 ⟨rfl, hk6⟩
      go_wp2_with fail
      go_ret
      exact ⟨rfl, (Hk.out.trans' hk6).below _ (Nat.le_refl _) (fun _ e => e.elim)⟩

set_option maxRecDepth 100000 in
theorem lifted (os : Os) (started : os.Started) (H : Type) (enc : TypeId × Value → H) :
    ReturnsInHanded {} Try.checked os 6 .any (Rows.wordMarksSpec.pre6 enc Try.prog Try.f6 Rows.wordMarksRow.domain false) (Rows.wordMarksSpec.post enc Try.prog Try.f6 false true false false) := by
  refine returnsInHanded_of_change (C := Try.checked) own started (by kernel_rfl) Try.func6
    (ChangeSpec.witness6 (enc := enc) (C := Try.checked) false ⟨#[], #[.int .i64 0, .int .i64 0, .int .u64 0], []⟩ 8 (by kernel_rfl) (by kernel_rfl) (by kernel_rfl) (by kernel_rfl)) ?_
  intro W base args ds gs before hval0 hW hcnd _
  have hval : ∀ (j : Nat) t v, Try.f6.params[j]? = some t → args[j]? = some v → Value.okWide Try.prog W .any base t v := hval0
  have hW' := hW
  obtain ⟨p, q, hA0, hV, rfl, hfz, hnd⟩ := hW
  have hA : DataW.TrodAll enc Try.prog W 0 (fun _ => true) true Try.f6.params.toList args.toList ds p := hA0
  rw [Try.params6] at hA hval
  obtain ⟨v0, vs0, d0, ds0, p0, q0, hargs, rfl, rfl, h0, r0⟩ := trodAll_cons hA
  obtain ⟨v1, vs1, d1, ds1, p1, q1, rfl, rfl, rfl, h1, r1⟩ := trodAll_cons r0
  obtain ⟨v2, vs2, d2, ds2, p2, q2, rfl, rfl, rfl, h2, r2⟩ := trodAll_cons r1
  obtain ⟨rfl, rfl, rfl⟩ := trodAll_nil r2
  obtain rfl : args = #[v0, v1, v2] := by cases args; simp_all
  obtain ⟨rfl, rfl⟩ := trodVars_none hV
  obtain ⟨a0, rfl, rfl, rfl, w0⟩ := open_int Try.underlying3 (hval 0 3 v0 rfl rfl) h0
  obtain ⟨a1, rfl, rfl, rfl, w1⟩ := open_int Try.underlying3 (hval 1 3 v1 rfl rfl) h1
  obtain ⟨a2, rfl, rfl, rfl, w2⟩ := open_int Try.underlying42 (hval 2 42 v2 rfl rfl) h2
  clear hA0 hval0
  simp only [List.append_nil] at hW'
  refine (walk a0 a1 a2 w0 w1 w2 W).mono fun e W' ⟨he, bel⟩ => ?_
  subst he
  exact ⟨_, rfl, _, _, _, [], _, [], hW', trodAll_mk1 (shut_bool Try.underlying4 _), (trodAll_cons_mk (shut_int Try.underlying3 w0) (trodAll_cons_mk (shut_int Try.underlying3 w1) (trodAll_cons_mk (shut_int Try.underlying42 w2) trodAll_mk0))), rfl, bel.frame _, fun h => by cases h⟩

theorem over : Rows.wordMarksRow.holds Try.pinned (OpenSpec.ofChange Rows.wordMarksSpec) :=
  OpenClaim.holds_of_wide 6 Try.f6 rfl rfl rfl rfl rfl rfl rfl ⟨rfl, rfl, rfl, rfl, rfl⟩ rfl rfl rfl rfl rfl (by kernel_rfl) Try.func6 (by kernel_rfl)
    (of_decide_eq_true (by kernel_rfl)) (by unfold Func.isWrapper; first | (rw [if_pos (by decide +kernel)]; kernel_rfl) | (rw [if_neg (by decide +kernel)]; exact ⟨rfl, rfl⟩))
    (fun os started H enc _ => lifted os started H enc)

theorem proved : Rows.WordMarksSaid :=
  over
#print axioms proved
end Go.Proofs.Ytmghneglfnkihaa.wordMarks
