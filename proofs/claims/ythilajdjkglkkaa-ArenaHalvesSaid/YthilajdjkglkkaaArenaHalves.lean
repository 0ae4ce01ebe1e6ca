/- The Go function ArenaHalves returns true for all numbers: a great block that is given back, where the top has no more room, is cut in halves: so many small ones come of it, all within it, and no more. Conditions: none beyond the statement's own. -/
import Derived.Test.YthilajdjkglkkaaRows
import Derived.Test.YthilajdjkglkkaaHalves
import Derived.Test.YthilajdjkglkkaaIn
import Derived.WalkKit
import Derived.ProofKit
import Derived.OpenShut
import Derived.ShutString
namespace Go.Proofs.Ythilajdjkglkkaa.arenaHalves
open Go.ChangeShapes Go.WideShapes Go.ChangeAt Go.RowKit
open Go.ChangeMaps (open_string shut_string)
set_option linter.unusedVariables false      -- a walk need not use every 'w<i>' (that an integer argument fits its kind)

theorem own : ownKnob Try.prog.godebug = none := by kernel_rfl

/-! ### STEP 1: THE WALK: the Go text returns true. 'Grown w w'': the world has at most new blocks (Derived/RowKit3.lean). Part the cases AHEAD of 'go_enter' where a test parts the walk; take each callee by a contract of your own. -/
set_option maxHeartbeats 1000000 in
set_option maxRecDepth 100000 in
theorem walk (a0 : Int) (a1 : Int) (w0 : (Lit.int .i64 a0).wf = true) (w1 : (Lit.int .i64 a1).wf = true) (w : World) :
    Calls Try.prog 7 #[.int .i64 a0, .int .i64 a1] w fun e w' => e = .returned (.bool true) ∧ Below w.heap.size w w' := by
  obtain ⟨hb1, hb2⟩ := bounds_i64 w0
  obtain ⟨hb3, hb4⟩ := bounds_i64 w1
  clear w0 w1
  go_enter Try.func7, Try.ntmps7
  go_wp2_with fail
  refine (place_any _ _ 8 hb1 hb2 (by omega) (by omega)).mono ?_
  rintro e w' ⟨rfl, rfl⟩
  obtain ⟨c0, hc0, hc⟩ : ∃ c0 : Nat, c0 < 8 ∧ a0 % 8 = c0 := ⟨(a0 % 8).toNat, by omega, by omega⟩
  rw [hc]
  obtain ⟨c, hcc⟩ : ∃ c, 2 + c0 = c := ⟨_, rfl⟩
  have hci : (2 : Int) + (c0 : Int) = (c : Int) := by omega
  have hc2 : 2 ≤ c := by omega
  have hc9 : c ≤ 9 := by omega
  clear hc hb1 hb2 hcc hc0
  go_wp2_with fail
  clear hci
  refine (place_any _ _ (c : Int) hb3 hb4 (by omega) (by omega)).mono ?_
  rintro e w' ⟨rfl, rfl⟩
  obtain ⟨s0, hs0, hs⟩ : ∃ s0 : Nat, s0 < c ∧ a1 % (c : Int) = s0 := ⟨(a1 % (c : Int)).toNat, by have := Int.emod_lt_of_pos a1 (show (0 : Int) < c by omega); have := Int.emod_nonneg a1 (show (c : Int) ≠ 0 by omega); omega, by have := Int.emod_nonneg a1 (show (c : Int) ≠ 0 by omega); omega⟩
  rw [hs]
  obtain ⟨s, hss⟩ : ∃ s, 1 + s0 = s := ⟨_, rfl⟩
  have hsi : (1 : Int) + (s0 : Int) = (s : Int) := by omega
  have hs1 : 1 ≤ s := by omega
  have hsc : s ≤ c := by omega
  clear hs hb3 hb4 hss hs0
  obtain ⟨hp1, hp2⟩ := pow_bd c (by omega)
  have hcI : ((2 ^ c : Nat) : Int) = 2 ^ c := by simp
  have hE9 : 2 ^ c ≤ 2 ^ 9 := Nat.pow_le_pow_right (by omega) hc9
  have hE2 : 2 ^ 2 ≤ 2 ^ c := Nat.pow_le_pow_right (by omega) hc2
  obtain ⟨E, hE⟩ : ∃ E : Nat, 2 ^ c = E := ⟨_, rfl⟩
  rw [hE] at hcI hE9 hE2
  have hw1 : IntKind.i64.wrap (2 ^ c) = (E : Int) := by rw [← hcI]; exact IntWalk.i64_in _ (by omega)
  have HE := Lib.hid hE
  clear hp1 hp2 hcI hE
  go_wp2_with fail
  obtain ⟨q, hq⟩ : ∃ q : Nat, q = 2 ^ (c - s) := ⟨_, rfl⟩
  have hm2 : 2 ^ 1 ≤ 2 ^ s := Nat.pow_le_pow_right (by omega) hs1
  have hqm : q * 2 ^ s = E := by rw [hq, ← Nat.pow_add, ← HE.out]; congr 1; omega
  obtain ⟨m, hm⟩ : ∃ m : Nat, 2 ^ s = m := ⟨_, rfl⟩
  rw [hm] at hm2 hqm
  have hmI : ((2 ^ s : Nat) : Int) = 2 ^ s := by simp
  rw [hm] at hmI
  have hmE : m ≤ E := by rw [← hqm]; exact Nat.le_mul_of_pos_left m (by rw [hq]; exact two_pow_pos _)
  have hw2 : IntKind.i64.wrap (2 ^ s) = (m : Int) := by rw [← hmI]; exact IntWalk.i64_in _ (by omega)
  have hquo : (E : Int) / (m : Int) = (q : Int) := by rw [← hqm]; rw [Int.natCast_mul]; exact Int.mul_ediv_cancel _ (by omega)
  have hq512 : q ≤ E := by rw [← hqm]; exact Nat.le_mul_of_pos_right q (by omega)
  have HM := Lib.hid (And.intro hm (And.intro hqm hq))
  clear hm hqm hmI hq
  refine (new_ok w E E (by omega) (by omega) (by omega) (by omega)).mono ?_
  rintro e w1 ⟨rfl, h1, k1, z1⟩
  have hM := Many.start k1 h1 (Nat.le_refl _) 0 (fun _ => 3)
  have hInv := Lib.hid (Inv.new E E (by omega) (Nat.le_refl _))
  clear h1 k1 z1
  have hE1 : ((E - 1 : Nat) : Int) = (E : Int) - 1 := by omega
  go_wp2_with fail
  rw [← hE1]
  have hcl : cls (E - 1) = c := by rw [← HE.out]; exact cls_pow c (by omega) (by omega)
  refine (alloc_top (E - 1) c hM.rep (by omega) hcl (by omega) (by rw [HE.out]; simp [Ar.new]) (by simp [Ar.new]; omega) (by simp [Ar.new]; omega) rfl (by rw [HE.out]; simp [Ar.new]) rfl).mono ?_
  rintro e w2 ⟨rfl, hR, hK⟩
  have hs0 := Hv.start c s hs1 hsc hc9
  rw [HE.out] at hR
  rw [HE.out, HM.out.1] at hs0
  have hM2 := hM.step hR hK
  have hwh := whole c (by omega) hc9
  rw [HE.out] at hwh
  have Hs0 := Lib.hid (And.intro hs0 (And.intro hwh hcl))
  clear hR hK hM hs0 hwh hcl hInv
  go_wp2_with fail
  refine (free_any hM2.rep Hs0.out.2.1.1 0 (E - 1) Hs0.out.2.1.2).mono ?_
  rintro e w3 ⟨rfl, hR, hK⟩
  rw [Hs0.out.2.2] at hR
  have hM3 := hM2.step hR hK
  clear hR hK hM2
  have hqE : (0 : Int) < m := by omega
  go_wp2_with fail
  go_loopg [13, 14] q (fun gk la i wr => ∃ (j : Nat) (lv : Int) (F : Nat → Prop) (A : Ar), j ≤ q ∧ gk = q - j ∧ i = .int .i64 j ∧ la = .int .i64 lv ∧ Hid (Hv A c s E m j ∧ lv < ((j * m : Nat) : Int) + 1) ∧ Many w wr F w.heap.size A 0 (fun _ => 3) (fun _ => []) (fun _ => .slice none 0 0))
  case atStart => exact ⟨0, -1, _, _, by omega, rfl, rfl, rfl, ⟨Hs0.out.1, by omega⟩, hM3⟩
  case round =>
    clear hM3
    obtain ⟨j, lv, F, A, hj, rfl, rfl, rfl, HV, hM⟩ := hrel
    by_cases hlt : j < q
    · have hfit : (j + 1) * m ≤ E := by rw [← HM.out.2.1]; exact Nat.mul_le_mul_right m hlt
      have Hfit := Lib.hid hfit
      have hm1 : ((m - 1 : Nat) : Int) = (m : Int) - 1 := by omega
      have hclm : cls (m - 1) = s := by rw [← HM.out.1]; exact cls_pow s hs1 (by omega)
      clear hfit
      go_wp2_with fail
      rw [← hm1]
      refine (alloc_any hM.rep HV.out.1.inv (m - 1) (by omega)).mono ?_
      rw [hclm]
      rintro e w4 (⟨own, A1, hq', hc20, hf, rfl, hR, hK⟩ | ⟨hwhy, _⟩)
      · have hnx := HV.out.1.next Hfit.out hf
        rw [HM.out.1] at hnx
        have hM2 := hM.step hR hK
        have ho1 : lv < (own : Int) + 1 := by rw [hnx.1]; exact HV.out.2
        have ho2 : (own : Int) + m ≤ E := by
          have h1 := Hfit.out
          rw [Nat.add_mul, Nat.one_mul] at h1
          rw [hnx.1]
          omega
        have Hnx := Lib.hid hnx
        clear hnx hR hK hM hf hq' hclm
        go_wp2_with fail
        go_roundg (q - (j + 1))
        case measure => omega
        case rel =>
          refine ⟨j + 1, (own : Int) + 1, _, _, by omega, rfl, by go_num, rfl, ⟨Hnx.out.2, ?_⟩, hM2⟩
          rw [Hnx.out.1, Nat.add_mul, Nat.one_mul]
          omega
      · rw [HM.out.1] at hwhy
        exact absurd (by rw [HM.out.1]; exact hwhy) (HV.out.1.never Hfit.out)
    · obtain rfl : j = q := by omega
      have hjm := HM.out.2.1
      have hus := HV.out.1.used
      have htp := HV.out.1.top
      have hqu := HV.out.1.quota
      rw [hjm] at hus
      have HF := Lib.hid (And.intro hus htp)
      have hc1 : cls 0 = 1 := by decide
      go_wp2_with fail
      refine (alloc_quota 0 1 hM.rep (by omega) hc1 (by omega) (by omega) (by omega)).mono ?_
      rintro e w4 ⟨v4, rfl, ⟨g4, _, rfl, hg4⟩, hR, _, hK⟩
      have hM2 := hM.bad hR hK
      have hch : ∀ o, Chain (w4.alloc o) (.iface 46 (.pointer (some ⟨g4, 0, none⟩))) [Lk.fault ⟨#[97, 108, 108, 111, 99]⟩ 0, Lk.kind 2] := by
        intro o
        refine .inr ⟨rfl, g4, _, rfl, ?_, .inl ⟨rfl, rfl, rfl, rfl, by decide⟩⟩
        rw [Below.heap_alloc _ _ _ (Array.getElem?_eq_some_iff.1 hg4).1]
        exact hg4
      have hch2 : Chain (w4.alloc (.cells #[.string ⟨#[97, 108, 108, 111, 99]⟩, .int .i64 0, .iface 47 (.int .i64 2)] 49)) (.iface 46 (.pointer (some ⟨w4.heap.size, 0, none⟩))) [Lk.fault ⟨#[97, 108, 108, 111, 99]⟩ 0, Lk.kind 2] :=
        .inr ⟨rfl, _, _, rfl, heap_alloc_new w4 _, .inl ⟨rfl, rfl, rfl, rfl, by decide⟩⟩
      have Hch := Lib.hid (And.intro hch hch2)
      clear hus htp hqu hjm hc1 hR hK hM hg4 hch hch2
      go_wp2_with fail
      refine (err_any [Lk.fault ⟨#[97, 108, 108, 111, 99]⟩ 0, Lk.kind 2] _ _ _ (by decide) (Hch.out.1 _) Hch.out.2).mono ?_
      rintro e w5 ⟨rfl, hK5⟩
      have hk4 : Kp (fun _ => False) w4 (w4.alloc (.cells #[.string ⟨#[97, 108, 108, 111, 99]⟩, .int .i64 0, .iface 47 (.int .i64 2)] 49)) := (Kp.refl _ w4).alloc _
      have hM3 := (hM2.bad (hM2.rep.kp hk4) hk4)
      have hM4 := hM3.bad (hM3.rep.kp hK5) hK5
      clear hM2 hM3 hk4 hK5
      go_wp2_with fail
      refine (used_any hM4.rep).mono ?_
      rintro e w6 ⟨rfl, rfl⟩
      rw [HF.out.1]
      go_wp2_with fail
      refine (top_any hM4.rep).mono ?_
      rintro e w6 ⟨rfl, rfl⟩
      rw [HF.out.2]
      go_wp2_with (go_at_call 15; refine (awake_any _).mono ?_; rintro e w7 ⟨rfl, hK7⟩)
      go_ret
      exact ⟨rfl, (hM4.kp.trans' hK7).below _ (Nat.le_refl _) (fun _ h => h.elim)⟩

/-! ### THE ROW's STEP: WRITTEN OUT: LEAVE IT -/
set_option maxRecDepth 100000 in
theorem lifted (os : Os) (started : os.Started) (H : Type) (enc : TypeId × Value → H) :
    ReturnsInHanded {} Try.checked os 7 .any (Rows.arenaHalvesSpec.pre6 enc Try.prog Try.f7 Rows.arenaHalvesRow.domain false) (Rows.arenaHalvesSpec.post enc Try.prog Try.f7 false true false false) := by
  refine returnsInHanded_of_change (C := Try.checked) own started (by kernel_rfl) Try.func7
    (ChangeSpec.witness6 (enc := enc) (C := Try.checked) false ⟨#[], #[.int .i64 0, .int .i64 0], []⟩ 8 (by kernel_rfl) (by kernel_rfl) (by kernel_rfl) (by kernel_rfl)) ?_
  intro W base args ds gs before hval0 hW hcnd _
  have hval : ∀ (j : Nat) t v, Try.f7.params[j]? = some t → args[j]? = some v → Value.okWide Try.prog W .any base t v := hval0
  have hW' := hW
  obtain ⟨p, q, hA0, hV, rfl, hfz, hnd⟩ := hW
  have hA : DataW.TrodAll enc Try.prog W 0 (fun _ => true) true Try.f7.params.toList args.toList ds p := hA0
  rw [Try.params7] at hA hval
  obtain ⟨v0, vs0, d0, ds0, p0, q0, hargs, rfl, rfl, h0, r0⟩ := trodAll_cons hA
  obtain ⟨v1, vs1, d1, ds1, p1, q1, rfl, rfl, rfl, h1, r1⟩ := trodAll_cons r0
  obtain ⟨rfl, rfl, rfl⟩ := trodAll_nil r1
  obtain rfl : args = #[v0, v1] := by cases args; simp_all
  obtain ⟨rfl, rfl⟩ := trodVars_none hV
  obtain ⟨a0, rfl, rfl, rfl, w0⟩ := open_int Try.underlying3 (hval 0 3 v0 rfl rfl) h0
  obtain ⟨a1, rfl, rfl, rfl, w1⟩ := open_int Try.underlying3 (hval 1 3 v1 rfl rfl) h1
  clear hA0 hval0
  simp only [List.append_nil] at hW'
  refine (walk a0 a1 w0 w1 W).mono fun e W' ⟨he, bel⟩ => ?_
  subst he
  exact ⟨_, rfl, _, _, _, [], _, [], hW', trodAll_mk1 (shut_bool Try.underlying4 _), (trodAll_cons_mk (shut_int Try.underlying3 w0) (trodAll_cons_mk (shut_int Try.underlying3 w1) trodAll_mk0)), rfl, bel.frame _, fun h => by cases h⟩

theorem over : Rows.arenaHalvesRow.holds Try.pinned (OpenSpec.ofChange Rows.arenaHalvesSpec) :=
  OpenClaim.holds_of_wide 7 Try.f7 rfl rfl rfl rfl rfl rfl rfl ⟨rfl, rfl, rfl, rfl, rfl⟩ rfl rfl rfl rfl rfl (by kernel_rfl) Try.func7 (by kernel_rfl)
    (of_decide_eq_true (by kernel_rfl)) (by unfold Func.isWrapper; first | (rw [if_pos (by decide +kernel)]; kernel_rfl) | (rw [if_neg (by decide +kernel)]; exact ⟨rfl, rfl⟩))
    (fun os started H enc _ => lifted os started H enc)

/-- ████ THE STATEMENT ████ -/
theorem proved : Rows.ArenaHalvesSaid :=
  over
#print axioms proved
end Go.Proofs.Ythilajdjkglkkaa.arenaHalves
