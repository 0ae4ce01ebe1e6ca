/- any numbers: a child that does not stop in time is killed once, just beyond its time; one without time at once -/
import Derived.Test.YtbdogiblndlimaaRows
import Derived.Test.YtbdogiblndlimaaSuUse
import Derived.BigGuardPart
import Derived.WalkKit
import Derived.ProofKit
import Derived.OpenShut
import Derived.ShutString
import Derived.ChangeOld
import Derived.Below
import Derived.Deep.Strs
namespace Go.Proofs.Ytbdogiblndlimaa.supTimes
open Go.ChangeShapes Go.WideShapes Go.ChangeAt Go.RowKit
open Go.ChangeMaps (open_string shut_string)
set_option linter.unusedVariables false

theorem own : ownKnob Try.prog.godebug = none := by kernel_rfl
theorem laidOut : laidOutB Try.prog = true := by kernel_rfl

def opG : ByteArray := ⟨#[103]⟩
def s0 (t : Int) : Su := newS ⟨2, 5, 10⟩ [(opF, 0, 5), (opG, 0, t)]
def s2 (t : Int) : Su := ⟨2, [⟨0, 5, false⟩, ⟨0, t, true⟩], 5, 10, [100], 2, 0, 2, 1, 1, 100, decide (t = -1)⟩
theorem s2_eq (t : Int) : downS (beginS (s0 t)) 0 false 100 = s2 t := rfl
theorem a2_eq (t : Int) : downA (beginS (s0 t)) 0 false 100 = [(if t = -1 then 3 else 2, 1)] := rfl
set_option maxHeartbeats 8000000 in
set_option maxRecDepth 100000 in
theorem walk (a0 a1 : Int) (w : World) (w1 : (Lit.int .i64 a0).wf = true) (w2 : (Lit.int .i64 a1).wf = true) :
    Calls Try.prog 3 #[.int .i64 a0, .int .i64 a1] w fun e w' => e = .returned (.bool true) ∧ Below w.heap.size w w' := by
  obtain ⟨b1, b2⟩ := bounds_i64 w1
  obtain ⟨b3, b4⟩ := bounds_i64 w2
  clear w1 w2
  obtain ⟨t, ht, ht1, ht2⟩ : ∃ t : Int, a0 % 50 - 1 = t ∧ -1 ≤ t ∧ t ≤ 48 := ⟨_, rfl, by omega, by omega⟩
  obtain ⟨K, hK, hK2⟩ : ∃ K : Nat, a1 % 80 = K ∧ K < 80 := ⟨(a1 % 80).toNat, by omega, by omega⟩
  have HP0 := Lib.hid (fun w => place_any w a0 50 b1 b2 (by omega) (by omega))
  have HP1 := Lib.hid (fun w => place_any w a1 80 b3 b4 (by omega) (by omega))
  obtain ⟨x, hx, hx1, hx2⟩ : ∃ x : Int, a0 % 50 = x ∧ 0 ≤ x ∧ x < 50 := ⟨_, rfl, by omega, by omega⟩
  rw [hx] at HP0 ht
  rw [hK] at HP1
  obtain rfl : x = t + 1 := by omega
  clear b1 b2 b3 b4 ht hx hK
  have hf : ChOk (opF, 0, 5) := by unfold ChOk maxLen; decide
  have hg : ChOk (opG, 0, t) := ⟨by show (1 : Nat) ≤ maxLen; unfold maxLen; omega, by show (-9223372036854775808 : Int) ≤ 0 ∧ (0 : Int) ≤ 9223372036854775807; omega, by show (-9223372036854775808 : Int) ≤ t ∧ t ≤ 9223372036854775807; omega⟩
  obtain ⟨wa, hwa⟩ : ∃ wa, w.alloc (.cells #[.string opF, .int .i64 0, .int .i64 5] 29) = wa := ⟨_, rfl⟩
  have hka : Kp (fun _ => False) w wa := by rw [← hwa]; exact (Kp.refl _ w).alloc _
  have hrow := ch_two wa (opF, 0, 5) (opG, 0, t) hf hg
  have hkb : Kp (fun _ => False) w (wa.alloc (.cells #[.string opF, .int .i64 0, .int .i64 5, .string opG, .int .i64 0, .int .i64 t] 29)) := hka.alloc _
  have hri : rightL ⟨2, 5, 10⟩ [(opF, 0, 5), (opG, 0, t)] = [] := rightL_nil rfl (by
    intro c hc
    simp at hc
    rcases hc with rfl | rfl
    · decide
    · simp [chOk, isInB, opG, ByteArray.size]; omega)
  have HN := Lib.hid (ss_new (w0 := w) (C := noC) (s := ⟨2, 5, 10⟩) hrow (by unfold I64i; decide) (by unfold I64i; decide) hri hkb (fun q e => e.elim))
  have HO0 := Lib.hid (newS_ok hri 0)
  unfold specV at HN
  clear hrow hkb hri hka hf hg
  unfold opF opG at HN
  go_enter Try.func3, Try.ntmps3
  go_wp2_with fail
  refine (HP0.out _).mono ?_
  rintro e w' ⟨rfl, rfl⟩
  clear HP0
  go_wp2_with fail
  refine (child_any 0 _).mono ?_
  rintro e w1 ⟨rfl, h1⟩
  rw [hwa] at h1
  subst h1
  unfold opF
  go_wp2_with fail
  refine HN.out.mono ?_
  rintro e w3 ⟨b, rfl, hS, -⟩
  have hS' : SS w noC w3 b (s0 t) := hS
  have HB := Lib.hid (ss_begin hS' (by show 2 ≤ 32; omega))
  clear hS hS' HN hwa
  go_wp2_with fail
  refine HB.out.mono ?_
  rintro e w4 ⟨va, rfl, ha, hna, hS1, -⟩
  obtain ⟨pa, ca, rfl, -, -⟩ := ha.form
  have HO1 := Lib.hid (show SuOk (beginS (s0 t)) 0 from HO0.out.begin)
  have HD := Lib.hid (ss_down (hS1.sub (C' := noC) fun _ e => e.elim) (HO1.out.mono (Nat.zero_le 100)) (now := 100) (by omega) (c := 0) rfl false)
  rw [s2_eq, a2_eq] at HD
  have HO2 := Lib.hid (show SuOk (s2 t) 100 from (HO1.out.mono (Nat.zero_le 100)).down (c := 0) (by show 0 < 2; omega) false)
  clear hS1 HB ha hna HO0 HO1
  go_wp2_with fail
  refine HD.out.mono ?_
  rintro e w5 ⟨vb, rfl, hb, hnb, hS2, -⟩
  have HB2 := Lib.hid hb
  obtain ⟨pb, cb, rfl, -, -⟩ := hb.form
  have hw1 : IntKind.i64.wrap (100 + (K : Int)) = ((100 + K : Nat) : Int) := by rw [IntWalk.i64_in _ (by omega)]; omega
  have HT := Lib.hid (ss_tick hS2 (HO2.out.mono (show 100 ≤ 100 + K by omega)) (now := 100 + K) (by omega))
  clear hb hnb hS2 HD
  go_wp2_with fail
  refine (HP1.out _).mono ?_
  rintro e w' ⟨rfl, rfl⟩
  clear HP1
  have hw2 : IntKind.i64.wrap (100 + (K : Int)) = ((100 + K : Nat) : Int) := hw1
  have hcast : (100 : Int) + (K : Int) = ((100 + K : Nat) : Int) := by omega
  have HAW := Lib.hid suAwake_any
  by_cases hneg : t = -1
  · subst hneg
    have e1 : tickS (s2 (-1)) (100 + K) = s2 (-1) := rfl
    have e2 : tickA (s2 (-1)) (100 + K) = [] := rfl
    rw [e1, e2] at HT
    have hB2 : AcW w5 (.slice pb 1 cb) [(3, 1)] := HB2.out
    have HB3 := Lib.hid hB2
    rw [← hcast] at HT
    have HT' : Hid (Calls Try.prog 15 #[.pointer (some ⟨b, 0, none⟩), .int .i64 (100 + (K : Int))] w5 (SsTo w (fun q => noC q ∨ Value.ownBlock (.slice pb 1 cb) = some q) w5 b (s2 (-1)) [])) := Lib.hid HT.out
    clear HT hw1 hw2 hcast HB2 e1 e2 hB2 hx1 hx2 ht1 ht2
    go_wp2_with fail
    refine HT'.out.mono ?_
    rintro e w6 ⟨vx, rfl, hx, hnx, hS3, hk6⟩
    have hB6 : AcW w6 (.slice pb 1 cb) [(3, 1)] := HB3.out.keep (fun g hg => .inr hg) hk6
    obtain ⟨px, cx, rfl, -, -⟩ := hx.form
    have HSA := Lib.hid (sameActs_any (hB6.same ((Kp.refl _ w6).alloc (.cells #[.int .i64 3, .int .i64 1] 40))) (one_lit w6 3 1) (by decide))
    have HK7 : Hid (∀ k, Kp (fun _ => False) w ((w6.alloc (.cells #[.int .i64 3, .int .i64 1] 40)).drewN k)) := Lib.hid fun k => su_kpN (hS3.kp0.trans' ((Kp.refl _ w6).alloc _)) k
    clear hx hnx hS3 hk6 hB6 HB3 HT'
    go_wp2_with fail
    refine HSA.out.mono ?_
    rintro e w7 ⟨rfl, k, hk7⟩
    have HF : Hid (Kp (fun _ => False) w w7) := Lib.hid (by rw [hk7]; exact HK7.out k)
    clear hk7 HK7 HSA
    go_wp2_with fail
    refine (HAW.out _).mono ?_
    rintro e w8 ⟨rfl, hk8⟩
    have HG := Lib.hid ((HF.out.trans' hk8).below w.heap.size (Nat.le_refl _) fun _ e => e.elim)
    clear hk8 HF HAW
    go_wp2_with fail
    go_ret
    exact ⟨rfl, HG.out⟩
  · obtain ⟨T, rfl⟩ : ∃ T : Nat, t = T := ⟨t.toNat, by omega⟩
    have hB2 : AcW w5 (.slice pb 1 cb) [(2, 1)] := by
      have := HB2.out
      rw [if_neg hneg] at this
      exact this
    have HB3 := Lib.hid hB2
    rw [← hcast] at HT
    have HT' : Hid (Calls Try.prog 15 #[.pointer (some ⟨b, 0, none⟩), .int .i64 (100 + (K : Int))] w5 (SsTo w (fun q => noC q ∨ Value.ownBlock (.slice pb 1 cb) = some q) w5 b (tickS (s2 (T : Int)) (100 + K)) (tickA (s2 (T : Int)) (100 + K)))) := Lib.hid HT.out
    have hkd : (s2 (T : Int)).kd = false := decide_eq_false hneg
    have hlate : ∀ n, lateB (s2 (T : Int)) n = decide (T < n - 100) := fun n => by
      unfold lateB
      rw [hkd]
      show (decide (2 = 2) && !false && decide ((T : Int) < ((n - 100 : Nat) : Int))) = _
      simp
    have htn : ¬ (T : Int) < 0 := by omega
    clear HT hw1 hw2 hcast HB2 hB2 hx1 hx2 ht1
    by_cases hle : K ≤ T
    · have hl1 : lateB (s2 (T : Int)) (100 + K) = false := by rw [hlate]; simp; omega
      have e1 : tickS (s2 (T : Int)) (100 + K) = s2 (T : Int) := by unfold tickS; rw [hl1]; rfl
      have e2 : tickA (s2 (T : Int)) (100 + K) = [] := by unfold tickA; rw [hl1]; rfl
      rw [e1, e2] at HT'
      have hl2 : lateB (s2 (T : Int)) (101 + T) = true := by rw [hlate]; simp; omega
      have e3 : tickA (s2 (T : Int)) (101 + T) = [(3, 1)] := by unfold tickA; rw [hl2]; rfl
      have HO3 := Lib.hid (HO2.out.mono (show 100 ≤ 101 + T by omega))
      have HE := Lib.hid (And.intro e3 hkd)
      have hcast2 : (101 : Int) + (T : Int) = ((101 + T : Nat) : Int) := by omega
      have HC2 := Lib.hid hcast2
      have hle2 : (K : Int) ≤ (T : Int) := by omega
      clear hl1 e1 e2 hl2 e3 hkd hlate hcast2 hneg
      go_wp2_with fail
      refine HT'.out.mono ?_
      rintro e w6 ⟨vx, rfl, hx, hnx, hS3, hk6⟩
      have hB6 : AcW w6 (.slice pb 1 cb) [(2, 1)] := HB3.out.keep (fun g hg => .inr hg) hk6
      obtain ⟨px, cx, rfl, -, -⟩ := hx.form
      have HSA := Lib.hid (sameActs_any (hB6.same ((Kp.refl _ w6).alloc (.cells #[.int .i64 2, .int .i64 1] 40))) (one_lit w6 2 1) (by decide))
      have HS7 : Hid (∀ k, SS w noC ((w6.alloc (.cells #[.int .i64 2, .int .i64 1] 40)).drewN k) b (s2 (T : Int))) := Lib.hid fun k => (hS3.same (su_kpN ((Kp.refl _ w6).alloc _) k)).sub fun _ e => e.elim
      clear hx hnx hS3 hk6 hB6 HB3 HT'
      go_wp2_with fail
      refine HSA.out.mono ?_
      rintro e w7 ⟨rfl, k, hk7⟩
      have hS7 : SS w noC w7 b (s2 (T : Int)) := by rw [hk7]; exact HS7.out k
      have HT2 := Lib.hid (ss_tick hS7 HO3.out (by omega))
      rw [← HC2.out, HE.out.1] at HT2
      clear hk7 HS7 HSA hS7
      go_wp2_with fail
      refine HT2.out.mono ?_
      rintro e w8 ⟨vy, rfl, hy, hny, hS8, -⟩
      obtain ⟨py, cy, rfl, -, -⟩ := hy.form
      have HSA := Lib.hid (sameActs_any (hy.same ((Kp.refl _ w8).alloc (.cells #[.int .i64 3, .int .i64 1] 40))) (one_lit w8 3 1) (by decide))
      have HK9 : Hid (∀ k, Kp (fun _ => False) w ((w8.alloc (.cells #[.int .i64 3, .int .i64 1] 40)).drewN k)) := Lib.hid fun k => su_kpN (hS8.kp0.trans' ((Kp.refl _ w8).alloc _)) k
      clear hy hny hS8 HT2
      go_wp2_with fail
      refine HSA.out.mono ?_
      rintro e w9 ⟨rfl, k, hk9⟩
      have HF : Hid (Kp (fun _ => False) w w9) := Lib.hid (by rw [hk9]; exact HK9.out k)
      clear hk9 HK9 HSA
      go_wp2_with fail
      refine (HAW.out _).mono ?_
      rintro e w10 ⟨rfl, hk10⟩
      have HG := Lib.hid ((HF.out.trans' hk10).below w.heap.size (Nat.le_refl _) fun _ e => e.elim)
      clear hk10 HF HAW
      go_wp2_with fail
      go_ret
      exact ⟨rfl, HG.out⟩
    · have hl1 : lateB (s2 (T : Int)) (100 + K) = true := by rw [hlate]; simp; omega
      have e1 : tickS (s2 (T : Int)) (100 + K) = { s2 (T : Int) with kd := true } := by unfold tickS; rw [hl1]; rfl
      have e2 : tickA (s2 (T : Int)) (100 + K) = [(3, 1)] := by unfold tickA; rw [hl1]; rfl
      rw [e1, e2] at HT'
      have HO3 : Hid (SuOk { s2 (T : Int) with kd := true } (100 + K)) := Lib.hid (by rw [← e1]; exact (HO2.out.mono (show 100 ≤ 100 + K by omega)).tick)
      have hcast2 : (200 : Int) + (K : Int) = ((200 + K : Nat) : Int) := by omega
      have HC2 := Lib.hid hcast2
      have hle2 : ¬ (K : Int) ≤ (T : Int) := by omega
      have e4 : tickS { s2 (T : Int) with kd := true } (200 + K) = { s2 (T : Int) with kd := true } := rfl
      have e5 : tickA { s2 (T : Int) with kd := true } (200 + K) = [] := rfl
      have e6 : downA { s2 (T : Int) with kd := true } 1 false 300 = [(1, 0), (1, 1)] := rfl
      have HE := Lib.hid (And.intro e4 (And.intro e5 e6))
      clear hl1 e1 e2 hlate hcast2 hneg hkd e4 e5 e6
      go_wp2_with fail
      refine HT'.out.mono ?_
      rintro e w6 ⟨vx, rfl, hx, hnx, hS3, hk6⟩
      have hB6 : AcW w6 (.slice pb 1 cb) [(2, 1)] := HB3.out.keep (fun g hg => .inr hg) hk6
      have HXr := Lib.hid hx
      obtain ⟨px, cx, rfl, -, -⟩ := hx.form
      have HSA := Lib.hid (sameActs_any (hB6.same ((Kp.refl _ w6).alloc (.cells #[.int .i64 2, .int .i64 1] 40))) (one_lit w6 2 1) (by decide))
      have HS7 : Hid (∀ k, SS w noC ((w6.alloc (.cells #[.int .i64 2, .int .i64 1] 40)).drewN k) b { s2 (T : Int) with kd := true } ∧ AcW ((w6.alloc (.cells #[.int .i64 2, .int .i64 1] 40)).drewN k) (.slice px 1 cx) [(3, 1)]) :=
        Lib.hid fun k => ⟨(hS3.same (su_kpN ((Kp.refl _ w6).alloc _) k)).sub fun _ e => e.elim, HXr.out.same (su_kpN ((Kp.refl _ w6).alloc _) k)⟩
      clear hx hnx hS3 hk6 hB6 HB3 HT' HXr
      go_wp2_with fail
      refine HSA.out.mono ?_
      rintro e w7 ⟨rfl, k, hk7⟩
      obtain ⟨hS7, hX7⟩ : SS w noC w7 b { s2 (T : Int) with kd := true } ∧ AcW w7 (.slice px 1 cx) [(3, 1)] := by rw [hk7]; exact HS7.out k
      have HSB := Lib.hid (sameActs_any (hX7.same ((Kp.refl _ w7).alloc (.cells #[.int .i64 3, .int .i64 1] 40))) (one_lit w7 3 1) (by decide))
      have HS8 : Hid (∀ k, SS w noC ((w7.alloc (.cells #[.int .i64 3, .int .i64 1] 40)).drewN k) b { s2 (T : Int) with kd := true }) := Lib.hid fun k => hS7.same (su_kpN ((Kp.refl _ w7).alloc _) k)
      clear hk7 HS7 HSA hS7 hX7
      go_wp2_with fail
      refine HSB.out.mono ?_
      rintro e w8 ⟨rfl, k, hk8⟩
      have hS8 : SS w noC w8 b { s2 (T : Int) with kd := true } := by rw [hk8]; exact HS8.out k
      have HT2 := Lib.hid (ss_tick hS8 (HO3.out.mono (show 100 + K ≤ 200 + K by omega)) (by omega))
      rw [← HC2.out, HE.out.1, HE.out.2.1] at HT2
      clear hk8 HS8 HSB hS8
      go_wp2_with fail
      refine HT2.out.mono ?_
      rintro e w9 ⟨vy, rfl, hy, hny, hS9, -⟩
      obtain ⟨py, cy, rfl, -, -⟩ := hy.form
      have HD3 := Lib.hid (ss_down (hS9.sub (C' := noC) fun _ e => e.elim) (HO3.out.mono (show 100 + K ≤ 300 by omega)) (now := 300) (by omega) (c := 1) rfl false)
      rw [HE.out.2.2] at HD3
      clear hy hny hS9 HT2
      go_wp2_with fail
      refine HD3.out.mono ?_
      rintro e w10 ⟨vz, rfl, hz, hnz, hS10, -⟩
      obtain ⟨pz, cz, rfl, -, -⟩ := hz.form
      have HF := Lib.hid hS10.kp0
      clear hz hnz hS10 HD3
      go_wp2_with fail
      refine (HAW.out _).mono ?_
      rintro e w11 ⟨rfl, hk11⟩
      have HG := Lib.hid ((HF.out.trans' hk11).below w.heap.size (Nat.le_refl _) fun _ e => e.elim)
      clear hk11 HF HAW
      go_wp2_with fail
      go_ret
      exact ⟨rfl, HG.out⟩

set_option maxRecDepth 100000 in
theorem lifted (os : Os) (started : os.Started) (H : Type) (enc : TypeId × Value → H) :
    ReturnsInHanded {} Try.checked os 3 .any (Rows.supTimesSpec.pre6 enc Try.prog Try.f3 Rows.supTimesRow.domain false) (Rows.supTimesSpec.post enc Try.prog Try.f3 false true false false) := by
  refine returnsInHanded_of_change (C := Try.checked) own started (by kernel_rfl) Try.func3
    (ChangeSpec.witness6 (enc := enc) (C := Try.checked) false ⟨#[], #[.int .i64 0, .int .i64 0], []⟩ 8 (by kernel_rfl) (by kernel_rfl) (by kernel_rfl) (by kernel_rfl)) ?_
  intro W base args ds gs before hval0 hW hcnd _
  have hval : ∀ (j : Nat) t v, Try.f3.params[j]? = some t → args[j]? = some v → Value.okWide Try.prog W .any base t v := hval0
  have hW' := hW
  obtain ⟨p, q, hA0, hV, rfl, hfz, hnd⟩ := hW
  have hA : DataW.TrodAll enc Try.prog W 0 (fun _ => true) true Try.f3.params.toList args.toList ds p := hA0
  rw [Try.params3] at hA hval
  obtain ⟨v0, vs0, d0, ds0, p0, q0, hargs, rfl, rfl, h0, r0⟩ := trodAll_cons hA
  obtain ⟨v1, vs1, d1, ds1, p1, q1, rfl, rfl, rfl, h1, r1⟩ := trodAll_cons r0
  obtain ⟨rfl, rfl, rfl⟩ := trodAll_nil r1
  obtain rfl : args = #[v0, v1] := by cases args; simp_all
  obtain ⟨rfl, rfl⟩ := trodVars_none hV
  obtain ⟨a0, rfl, rfl, rfl, w0⟩ := open_int Try.underlying3 (hval 0 3 v0 rfl rfl) h0
  obtain ⟨a1, rfl, rfl, rfl, w1⟩ := open_int Try.underlying3 (hval 1 3 v1 rfl rfl) h1
  clear hA0 hval0
  simp only [List.append_nil] at hW'
  refine (walk a0 a1 W w0 w1).mono fun e W' ⟨he, bel⟩ => ?_
  subst he
  exact ⟨_, rfl, _, _, _, [], _, [], hW', trodAll_mk1 (shut_bool Try.underlying4 _), (trodAll_cons_mk (shut_int Try.underlying3 w0) (trodAll_cons_mk (shut_int Try.underlying3 w1) trodAll_mk0)), rfl, bel.frame _, fun h => by cases h⟩

theorem over : Rows.supTimesRow.holds Try.pinned (OpenSpec.ofChange Rows.supTimesSpec) :=
  OpenClaim.holds_of_wide 3 Try.f3 rfl rfl rfl rfl rfl rfl rfl ⟨rfl, rfl, rfl, rfl, rfl⟩ rfl rfl rfl rfl rfl (by kernel_rfl) Try.func3 (by kernel_rfl)
    (of_decide_eq_true (by kernel_rfl)) (by unfold Func.isWrapper; first | (rw [if_pos (by decide +kernel)]; kernel_rfl) | (rw [if_neg (by decide +kernel)]; exact ⟨rfl, rfl⟩))
    (fun os started H enc _ => lifted os started H enc)

theorem proved : Rows.SupTimesSaid := over
#print axioms proved
end Go.Proofs.Ytbdogiblndlimaa.supTimes
