/- any spec may be, or is wrong in the way that the chapter says -/
import Derived.Test.YtbdogiblndlimaaRows
import Derived.Test.YtbdogiblndlimaaSuXr
import Derived.BigGuardPart
import Derived.WalkKit
import Derived.ProofKit
import Derived.OpenShut
import Derived.ShutString
import Derived.ChangeOld
import Derived.Below
import Derived.Deep.Strs
namespace Go.Proofs.Ytbdogiblndlimaa.supRights
open Go.ChangeShapes Go.WideShapes Go.ChangeAt Go.RowKit
open Go.ChangeMaps (open_string shut_string)
set_option linter.unusedVariables false

theorem own : ownKnob Try.prog.godebug = none := by kernel_rfl
theorem laidOut : laidOutB Try.prog = true := by kernel_rfl

theorem rightL_len (s : Sp) (cs : List Ch) : (rightL s cs).length ≤ 9000 := by
  unfold rightL mayL
  split <;> try simp
  split <;> try simp
  split <;> simp
set_option maxHeartbeats 4000000 in
set_option maxRecDepth 100000 in
theorem walk (s : Sp) (v : Value) (cs : List Ch) (w : World) (h : SpIn w s v cs) : Calls Try.prog 7 #[specV s v] w fun e w' => e = .returned (.bool true) ∧ Below w.heap.size w w' := by
  have HH := Lib.hid h
  have hn0 := heap_alloc_new w (.cells #[.int .i64 s.sg, .int .i64 s.m, .int .i64 s.t, v] 33)
  have hk0 : Kp (fun _ => False) w (w.alloc (.cells #[.int .i64 s.sg, .int .i64 s.m, .int .i64 s.t, v] 33)) := (Kp.refl _ w).alloc _
  obtain ⟨wa, hwa⟩ : ∃ wa, w.alloc (.cells #[.int .i64 s.sg, .int .i64 s.m, .int .i64 s.t, v] 33) = wa := ⟨_, rfl⟩
  rw [hwa] at hn0 hk0
  have HB : Hid (∀ w1, Kp (fun _ => False) wa w1 → w1.cell? ⟨w.heap.size, 0, none⟩ = some (.int .i64 s.sg) ∧ w1.cell? ⟨w.heap.size, 1, none⟩ = some (.int .i64 s.m) ∧ w1.cell? ⟨w.heap.size, 2, none⟩ = some (.int .i64 s.t) ∧ w1.cell? ⟨w.heap.size, 3, none⟩ = some v) := Lib.hid fun w1 hk => by
    have hn : w1.heap[w.heap.size]? = _ := (hk.block w.heap.size (Array.getElem?_eq_some_iff.1 hn0).1 (fun e => e)).trans hn0
    exact ⟨cell_of_row _ _ 0 _ _ _ hn, cell_of_row _ _ 1 _ _ _ hn, cell_of_row _ _ 2 _ _ _ hn, cell_of_row _ _ 3 _ _ _ hn⟩
  have HK0 := Lib.hid hk0
  have HSp := Lib.hid (fun (w1 : World) (hk : Kp (fun _ => False) wa w1) => spec_any (s := s) (h.row.same (hk0.trans' hk)) h.len)
  have HX := Lib.hid (fun (w1 : World) (hk : Kp (fun _ => False) wa w1) => xright_any (s := s) (h.row.same (hk0.trans' hk)))
  have HAW := Lib.hid suAwake_any
  have hL := rightL_len s cs
  cases hr : rightL s cs with
  | nil =>
    have HR := Lib.hid hr
    clear h hL hr hk0 hn0
    unfold specV at HSp HX ⊢
    obtain ⟨b0, b1, b2, b3⟩ := HB.out _ (Kp.refl _ wa)
    go_enter Try.func7, Try.ntmps7
    go_wp2_with fail
    refine (HSp.out _ (Kp.refl _ wa)).mono ?_
    rintro e w1 ⟨v1, rfl, hv1, hk1⟩
    have HN := Lib.hid (new_ok hv1 HH.out.m HH.out.t HR.out)
    have HK1 := Lib.hid hk1
    clear hv1 hk1 b0 b1 b2 b3
    unfold specV at HN
    go_wp2_with fail
    refine HN.out.mono ?_
    rintro e w2 ⟨b, gc, rfl, -, -, -, hk2⟩
    have HK2 := Lib.hid (HK1.out.trans' hk2)
    clear HN hk2 HK1
    obtain ⟨b0, b1, b2, b3⟩ := HB.out _ HK2.out
    go_wp2_with fail
    refine (HX.out _ HK2.out).mono ?_
    rintro e w3 ⟨f, rfl, hf, hk3⟩
    rw [HR.out] at hf
    have hf' : f = .pointer none := hf
    subst hf'
    have HK3 := Lib.hid (HK2.out.trans' hk3)
    clear HX hf hk3 HK2 b0 b1 b2 b3
    obtain ⟨b0, b1, b2, b3⟩ := HB.out _ HK3.out
    go_wp2_with fail
    refine (HSp.out _ HK3.out).mono ?_
    rintro e w4 ⟨v4, rfl, hv4, hk4⟩
    have HRt := Lib.hid (right_any hv4 HH.out.m HH.out.t)
    have HK4 := Lib.hid (HK3.out.trans' hk4)
    clear hv4 hk4 b0 b1 b2 b3 HK3 HSp
    unfold specV at HRt
    go_wp2_with fail
    refine HRt.out.mono ?_
    rintro e w5 ⟨u, rfl, hu, hk5⟩
    rw [HR.out] at hu
    have hu' : u = .nilIface := hu
    subst hu'
    have HK5 := Lib.hid (HK4.out.trans' hk5)
    clear HRt hu hk5 HK4
    have HF := Lib.hid (fun (w : World) => ref_any [] .nilIface (.pointer none) w (by simp) rfl rfl)
    go_wp2_with fail
    refine (HF.out _).mono ?_
    rintro e w6 ⟨rfl, hk6⟩
    have HK6 := Lib.hid (HK5.out.trans' hk6)
    clear hk6 HK5
    go_wp2_with fail
    refine (HF.out _).mono ?_
    rintro e w7 ⟨rfl, hk7⟩
    have HK7 := Lib.hid (HK6.out.trans' hk7)
    clear hk7 HK6 HF
    go_wp2_with fail
    refine (HAW.out _).mono ?_
    rintro e w8 ⟨rfl, hk8⟩
    have HG := Lib.hid ((HK0.out.trans' (HK7.out.trans' hk8)).below w.heap.size (Nat.le_refl _) fun _ e => e.elim)
    clear hk8 HK7 HAW HK0 HB HH HR
    go_wp2_with fail
    go_ret
    exact ⟨rfl, HG.out⟩
  | cons a l =>
    have hne : rightL s cs ≠ [] := by rw [hr]; simp
    have hr2 : rightL s cs = Lk.fault opSpec 0 :: mayL s cs := by
      unfold rightL at hne ⊢
      split
      · rename_i h; exact absurd (if_pos h) hne
      · rfl
    have HNE := Lib.hid hne
    have HLE := Lib.hid hL
    have HCH : Hid (∀ (w : World) (u : Value), Chain w u (rightL s cs) → ∃ g, u = .iface 97 (.pointer (some ⟨g, 0, none⟩))) := Lib.hid fun w u hc => by
      rw [hr2] at hc
      rcases hc with ⟨-, -, -, -, h3⟩ | ⟨-, g, inner, h3, -⟩
      · exact absurd rfl h3
      · exact ⟨g, h3⟩
    have HXP : Hid (∀ (w : World) (u : Value), XCh w u (rightL s cs) → ∃ g, u = .pointer (some ⟨g, 0, none⟩)) := Lib.hid fun w u hc => by
      rw [hr] at hc
      exact hc.ptr
    clear h hL hr hk0 hn0 hne hr2
    unfold specV at HSp HX ⊢
    obtain ⟨b0, b1, b2, b3⟩ := HB.out _ (Kp.refl _ wa)
    go_enter Try.func7, Try.ntmps7
    go_wp2_with fail
    refine (HSp.out _ (Kp.refl _ wa)).mono ?_
    rintro e w1 ⟨v1, rfl, hv1, hk1⟩
    have HN := Lib.hid (new_bad hv1 HH.out.m HH.out.t HNE.out)
    have HK1 := Lib.hid hk1
    clear hv1 hk1 b0 b1 b2 b3
    unfold specV at HN
    go_wp2_with fail
    refine HN.out.mono ?_
    rintro e w2 ⟨u, rfl, hu, hk2⟩
    obtain ⟨gu, rfl⟩ := HCH.out _ _ hu.out
    have HU := Lib.hid hu.out
    have HK2 := Lib.hid (HK1.out.trans' hk2)
    clear HN hk2 HK1 hu
    obtain ⟨b0, b1, b2, b3⟩ := HB.out _ HK2.out
    go_wp2_with fail
    refine (HX.out _ HK2.out).mono ?_
    rintro e w3 ⟨f, rfl, hf, hk3⟩
    obtain ⟨gf, rfl⟩ := HXP.out _ _ hf
    have HFx := Lib.hid (And.intro (Chain.kp hk3 _ _ HU.out) hf)
    have HK3 := Lib.hid (HK2.out.trans' hk3)
    clear HX hf hk3 HK2 b0 b1 b2 b3 HU
    obtain ⟨b0, b1, b2, b3⟩ := HB.out _ HK3.out
    go_wp2_with fail
    refine (HSp.out _ HK3.out).mono ?_
    rintro e w4 ⟨v4, rfl, hv4, hk4⟩
    have HRt := Lib.hid (right_any hv4 HH.out.m HH.out.t)
    have HK4 := Lib.hid (HK3.out.trans' hk4)
    have HFy := Lib.hid (And.intro (Chain.kp hk4 _ _ HFx.out.1) (XCh.kp hk4 _ _ HFx.out.2))
    clear hv4 hk4 b0 b1 b2 b3 HK3 HSp HFx
    unfold specV at HRt
    go_wp2_with fail
    refine HRt.out.mono ?_
    rintro e w5 ⟨u2, rfl, hu2, hk5⟩
    obtain ⟨gu2, rfl⟩ := HCH.out _ _ hu2.out
    have HFz := Lib.hid (And.intro (Chain.kp hk5 _ _ HFy.out.1) (XCh.kp hk5 _ _ HFy.out.2))
    have HK5 := Lib.hid (HK4.out.trans' hk5)
    have HF1 := Lib.hid (ref_any _ _ _ w5 HLE.out hu2.out HFz.out.2)
    clear HRt hu2 hk5 HK4 HFy
    go_wp2_with fail
    refine HF1.out.mono ?_
    rintro e w6 ⟨rfl, hk6⟩
    have HF2 := Lib.hid (ref_any _ _ _ w6 HLE.out (Chain.kp hk6 _ _ HFz.out.1) (XCh.kp hk6 _ _ HFz.out.2))
    have HK6 := Lib.hid (HK5.out.trans' hk6)
    clear hk6 HK5 HF1 HFz
    go_wp2_with fail
    refine HF2.out.mono ?_
    rintro e w7 ⟨rfl, hk7⟩
    have HK7 := Lib.hid (HK6.out.trans' hk7)
    clear hk7 HK6 HF2
    go_wp2_with fail
    refine (HAW.out _).mono ?_
    rintro e w8 ⟨rfl, hk8⟩
    have HG := Lib.hid ((HK0.out.trans' (HK7.out.trans' hk8)).below w.heap.size (Nat.le_refl _) fun _ e => e.elim)
    clear hk8 HK7 HAW HK0 HB HH HNE HCH HXP HLE
    go_wp2_with fail
    go_ret
    exact ⟨rfl, HG.out⟩

set_option maxRecDepth 100000 in
theorem lifted (os : Os) (started : os.Started) (H : Type) (enc : TypeId × Value → H) :
    ReturnsInHanded {} Try.checked os 7 .any (Rows.supRightsSpec.pre6 enc Try.prog Try.f7 Rows.supRightsRow.domain false) (Rows.supRightsSpec.post enc Try.prog Try.f7 false true false false) := by
  refine returnsInHanded_of_change_sized (C := Try.checked) own started (by kernel_rfl) Try.func7
    (ChangeSpec.witness6 (enc := enc) (C := Try.checked) false ⟨#[], #[.agg #[.int .i64 0, .int .i64 0, .int .i64 0, .slice none 0 0]], []⟩ 8 (by kernel_rfl) (by kernel_rfl) (by kernel_rfl) (by kernel_rfl)) ?_
  intro W base args ds gs before hval0 hW hcnd hsz0 _
  have hval : ∀ (j : Nat) t v, Try.f7.params[j]? = some t → args[j]? = some v → Value.okWide Try.prog W .any base t v := hval0
  have hW' := hW
  obtain ⟨p, q, hA0, hV, rfl, hfz, hnd⟩ := hW
  have hA : DataW.TrodAll enc Try.prog W 0 (fun _ => true) true Try.f7.params.toList args.toList ds p := hA0
  rw [Try.params7] at hA hval
  obtain ⟨v0, vs0, d0, ds0, p0, q0, hargs, rfl, rfl, h0, r0⟩ := trodAll_cons hA
  obtain ⟨rfl, rfl, rfl⟩ := trodAll_nil r0
  obtain rfl : args = #[v0] := by cases args; simp_all
  obtain ⟨rfl, rfl⟩ := trodVars_none hV
  have hsz : ∀ (j : Nat) t d, ((Try.f7.params.toList) : List TypeId)[j]? = some t → [d0][j]? = some d → ∀ n ∈ d.weights Try.prog t, n ≤ reachBytes := fun j t d ht hd n hn => of_decide_eq_true (List.all_eq_true.1 hsz0 n (DataW.weights_mem_each (j := j) (List.getElem?_append_left (List.getElem?_eq_some_iff.1 ht).1 ▸ ht) (List.getElem?_append_left (List.getElem?_eq_some_iff.1 hd).1 ▸ hd) n hn))
  clear hsz0
  have k0 := h0
  have lt0 : ∀ x ∈ p0, x.block < W.heap.size := by obtain ⟨m, hm⟩ := k0; exact DataW.trod_lt m _ _ _ hm
  obtain ⟨S0, V0, C0, hv0, w0⟩ : ∃ S V C, v0 = .agg #[.int .i64 S.sg, .int .i64 S.m, .int .i64 S.t, V] ∧ SpIn W S V C := by
    obtain ⟨fuel, hf⟩ := h0
    obtain ⟨S, V, C, hcs, hS⟩ := opened_spec Try.underlying33 (by kernel_rfl) (by kernel_rfl) Try.underlying3 Try.underlying3 Try.underlying3 Try.underlying31 Try.underlying29 (by kernel_rfl) (by kernel_rfl) Try.underlying9 Try.underlying3 Try.underlying3 (by kernel_rfl) (hsz 0 _ _ rfl rfl) hf
    exact ⟨S, V, C, agg4_of hcs, hS⟩
  subst hv0
  clear hA0 hval0
  refine (walk S0 V0 C0 W w0).mono fun e W' ⟨he, bel⟩ => ?_
  subst he
  exact ⟨_, rfl, _, _, _, [], _, [], hW', trodAll_mk1 (shut_bool Try.underlying4 _), (trodAll_cons_mk (Below.trod laidOut (by kernel_rfl) (of_decide_eq_true (by kernel_rfl)) k0 bel lt0) trodAll_mk0), rfl, bel.frame _, fun h => by cases h⟩

theorem over : Rows.supRightsRow.holds Try.pinned (OpenSpec.ofChange Rows.supRightsSpec) :=
  OpenClaim.holds_of_wide 7 Try.f7 rfl rfl rfl rfl rfl rfl rfl ⟨rfl, rfl, rfl, rfl, rfl⟩ rfl rfl rfl rfl rfl (by kernel_rfl) Try.func7 (by kernel_rfl)
    (of_decide_eq_true (by kernel_rfl)) (by unfold Func.isWrapper; first | (rw [if_pos (by decide +kernel)]; kernel_rfl) | (rw [if_neg (by decide +kernel)]; exact ⟨rfl, rfl⟩))
    (fun os started H enc _ => lifted os started H enc)

theorem proved : Rows.SupRightsSaid := over
#print axioms proved
end Go.Proofs.Ytbdogiblndlimaa.supRights
