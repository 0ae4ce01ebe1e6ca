/- Bytes that are handed in, and bytes that are told, are nobody else's: turning them turns no binary: for every slice of bytes and any two numbers. -/
import Derived.Test.YtbenkgpiddlcfaaRows
import Derived.Test.YtbenkgpiddlcfaaLoose
import Derived.Test.YtbenkgpiddlcfaaPlace
import Derived.StillTailTactics
import Derived.BigQuiet
import Derived.Deep.LoopGhost
import Derived.Deep.QuietTactic
import Derived.LoopN
import Derived.WalkKit
import Derived.ProofKit
import Derived.OpenShut
import Derived.ShutString
import Derived.ChangeOld
import Derived.Below
import Derived.Deep.Strs
namespace Go.Proofs.Ytbenkgpiddlcfaa.binaryOwn
open Go.ChangeShapes Go.WideShapes Go.ChangeAt Go.RowKit
open Go.ChangeMaps (open_string shut_string)
set_option linter.unusedVariables false

theorem own : ownKnob Try.prog.godebug = none := by kernel_rfl
theorem laidOut : laidOutB Try.prog = true := by kernel_rfl

set_option maxHeartbeats 4000000 in
set_option maxRecDepth 100000 in
theorem walk (a0 : Option Addr) (len0 cap0 : Nat) (z0 : Nat → UInt8) (a1 a2 : Int) (w : World) (h0 : BIn w a0 len0 cap0 z0) (w1 : (Lit.int .i64 a1).wf = true) (w2 : (Lit.int .i64 a2).wf = true) :
    Calls Try.prog 5 #[.slice a0 len0 cap0, .int .i64 a1, .int .i64 a2] w fun e w' => e = .returned (.bool true) ∧ Below w.heap.size w w' := by
  obtain ⟨b1, b2⟩ := bounds_i64 w1
  obtain ⟨b3, b4⟩ := bounds_i64 w2
  clear w1 w2
  have hcap := h0.1
  have hcapm := h0.2.1
  obtain ⟨m, hm, hm1⟩ : ∃ m, m = min len0 5000 ∧ m ≤ 5000 := ⟨_, rfl, by omega⟩
  have hv := h0.at' (m := m) (c := cap0) (by omega) (by omega) (by omega)
  obtain ⟨l, hl, hl2⟩ : ∃ l, bl z0 m = l ∧ l.length = m := ⟨_, rfl, bl_len _ _⟩
  rw [hl] at hv
  have Hv := Lib.hid (And.intro hv hl2)
  clear hv h0 hl hl2
  by_cases hbig : (5000 : Int) < len0
  all_goals first
    | (have hbc : (5000 : Int) ≤ cap0 := by omega
       have hm3 : 5000 = m := by omega
       have HL := Lib.hid hm3
       clear hm3 hm
       go_enter Try.func5, Try.ntmps5
       go_wp2_with fail
       rw [HL.out])
    | (have hbc : (m : Int) ≤ cap0 := by omega
       have hm3 : m = len0 := by omega
       clear hm
       subst hm3
       go_enter Try.func5, Try.ntmps5
       go_wp2_with fail)
  all_goals
    refine (new_ok 3 100000 (by omega) (by omega) (by omega) w).mono ?_
    rintro e wa ⟨rfl, hk1, hA1⟩
    have hS1 : Solo w wa w.heap.size 1 (aNew 3 100000) (fun q => q = w.heap.size) := ⟨hA1, inv_new 3 100000 (by omega) (by omega) (by omega) 1, fun q e => by omega, hk1⟩
    have Hva := Lib.hid (bytes_kp Hv.out.1 hk1 (fun _ _ e => e))
    have H1 := Lib.hid hS1
    clear hk1 hA1 hS1
    go_wp2_with fail
    refine (copyBytes_any Hva.out).mono ?_
    rintro e wb ⟨v1, rfl, hv1, hk2⟩
    have hS2 := H1.out.same hk2
    obtain ⟨p1, c1, rfl⟩ := hv1.form' Hv.out.2
    have H2 := Lib.hid (And.intro hS2 (And.intro hv1 (And.intro (fun q (hq : Byt (Own wa.heap.size wb) wb q) (e : q = w.heap.size) => (by have := H1.out.at'.lt _ rfl; have := hq.1.1; omega : False)) H1.out.kp.size)))
    clear hv1 hk2 hS2
    go_wp2_with fail
    obtain ⟨ss, fs, ps, hB⟩ := H2.out.1.at'
    refine (put_first hB H2.out.1.inv (by omega) H2.out.2.1 H2.out.2.2.1 rfl (by simp [aNew]) (by have := Hv.out.2; simp [aNew]; omega)).mono ?_
    rintro e wc ⟨he, hgo⟩
    obtain rfl : e = .returned (.tuple #[.int .i64 0, .nilIface]) := he
    have hdis : ∀ q, q = w.heap.size → ¬ Own wa.heap.size wb q := fun q e h => by have := H1.out.at'.lt _ rfl; have := h.1; omega
    have hlo := loose_of H2.out.2.1
    obtain ⟨hkg, F3, hn3, hB3⟩ := hgo
    have hS3 : Solo w wc w.heap.size 1 (pushIn (aNew 3 100000) l) F3 := by
      refine ⟨hB3, inv_push H2.out.1.inv (by omega) rfl (by simp [aNew]) (by have := Hv.out.2; simp [aNew]; omega), fun q hq => ?_, H2.out.1.kp.trans (hkg.mono fun q hq hF => .inr ⟨H2.out.1.new q hF, hq⟩)⟩
      rcases hn3 q hq with e | e
      · exact H2.out.1.new q e
      · exact Nat.le_trans H2.out.1.kp.size e
    have hD1 : Duo8 w wc w.heap.size 1 (pushIn (aNew 3 100000) l) F3 (Own wa.heap.size wb) p1 m := by
      refine ⟨hS3, hlo.kp hkg (fun q hq e => hdis q e hq), fun q hq hG => ?_, fun q hq => Nat.le_trans H1.out.kp.size hq.1⟩
      rcases hn3 q hq with e | e
      · exact hdis q e hG
      · have := hG.2; omega
    have HD1 := Lib.hid hD1
    have hf : FOk (pushIn (aNew 3 100000) l) 0 0 ⟨l, 1, 0⟩ := ⟨by omega, by decide, rfl, by simp, by simp⟩
    have Hf := Lib.hid hf
    clear hB hkg hn3 hB3 hS3 hD1 hlo hdis H2 H1 Hva hf
    go_wp2_with fail
    go_loopg [11] m (fun gk i wr => ∃ k : Nat, k ≤ m ∧ gk = m - k ∧ i = Value.int .i64 k ∧ Duo8 w wr w.heap.size 1 (pushIn (aNew 3 100000) l) F3 (Own wa.heap.size wb) p1 m)
    case atStart => exact ⟨0, by omega, rfl, rfl, HD1.out⟩
    case round =>
      clear HD1
      obtain ⟨k, hk, rfl, rfl, hD⟩ := hrel
      by_cases hlt : k < m
      · obtain ⟨g, off, x, rfl, hG, hgl, hc, x0, x1, hfz⟩ := hD.loose k hlt
        have hli : (k : Int) < m := by omega
        have hw : 0 ≤ IntKind.u8.wrap (x + 1) ∧ IntKind.u8.wrap (x + 1) ≤ 255 := by
          have := Int.emod_nonneg (x + 1) (b := 256) (by omega)
          have := Int.emod_lt_of_pos (x + 1) (b := 256) (by omega)
          simp [IntKind.wrap, IntKind.signed, IntKind.bits]
          omega
        obtain ⟨u, hu⟩ : ∃ u, IntKind.u8.wrap (x + 1) = u := ⟨_, rfl⟩
        rw [hu] at hw
        have HD := Lib.hid (hD.set (x := u) rfl hlt hw.1 hw.2)
        clear hD hG hgl x0 x1 hw
        go_wp2_with fail
        go_roundg (m - (k + 1))
        case measure => omega
        case rel => exact ⟨k + 1, by omega, rfl, by go_num, HD.out⟩
      · obtain rfl : m = k := by omega
        have HS1 := Lib.hid hD.solo
        clear hD hlt hk
        go_wp2_with fail
        obtain ⟨ss, fs, ps, hB⟩ := HS1.out.at'
        refine (bytes_ok hB (by simp [pushIn, aNew]) Hf.out (by omega)).mono ?_
        rintro e wd ⟨v2, rfl, hv2, hk4⟩
        obtain ⟨p2, c2, rfl⟩ := hv2.form' (m := m) Hv.out.2
        have hD2 : Duo8 w wd w.heap.size 1 (pushIn (aNew 3 100000) l) F3 (Own wr.heap.size wd) p2 m := by
          refine ⟨HS1.out.same hk4, loose_of hv2, fun q hq hG => ?_, fun q hq => Nat.le_trans HS1.out.kp.size hq.1⟩
          have := HS1.out.at'.lt q hq
          have := hG.1
          omega
        have HD2 := Lib.hid hD2
        clear hB hv2 hk4 hD2
        go_wp2_with fail
        go_loopg [14] m (fun gk i wr2 => ∃ k : Nat, k ≤ m ∧ gk = m - k ∧ i = Value.int .i64 k ∧ Duo8 w wr2 w.heap.size 1 (pushIn (aNew 3 100000) l) F3 (Own wr.heap.size wd) p2 m)
        case atStart => exact ⟨0, by omega, rfl, rfl, HD2.out⟩
        case round =>
          clear HD2
          obtain ⟨k, hk, rfl, rfl, hD⟩ := hrel
          by_cases hlt : k < m
          · obtain ⟨g, off, x, rfl, hG, hgl, hc, x0, x1, hfz⟩ := hD.loose k hlt
            have hli : (k : Int) < m := by omega
            have hw : 0 ≤ IntKind.u8.wrap (x + 1) ∧ IntKind.u8.wrap (x + 1) ≤ 255 := by
              have := Int.emod_nonneg (x + 1) (b := 256) (by omega)
              have := Int.emod_lt_of_pos (x + 1) (b := 256) (by omega)
              simp [IntKind.wrap, IntKind.signed, IntKind.bits]
              omega
            obtain ⟨u, hu⟩ : ∃ u, IntKind.u8.wrap (x + 1) = u := ⟨_, rfl⟩
            rw [hu] at hw
            have HD := Lib.hid (hD.set (x := u) rfl hlt hw.1 hw.2)
            clear hD hG hgl x0 x1 hw
            go_wp2_with fail
            go_roundg (m - (k + 1))
            case measure => omega
            case rel => exact ⟨k + 1, by omega, rfl, by go_num, HD.out⟩
          · obtain rfl : m = k := by omega
            have HS2 := Lib.hid hD.solo
            clear hD hlt hk
            go_wp2_with fail
            obtain ⟨f, hf, hf2⟩ : ∃ f : Nat, a1 % ((m : Int) + 1) = f ∧ f ≤ m := by
              have h1 := Int.emod_nonneg a1 (b := (m : Int) + 1) (by omega)
              have h2 := Int.emod_lt_of_pos a1 (b := (m : Int) + 1) (by omega)
              exact ⟨(a1 % ((m : Int) + 1)).toNat, by omega, by omega⟩
            have Hfx := Lib.hid hf
            clear hf
            refine (place_any _ a1 ((m : Int) + 1) b1 b2 (by omega) (by omega)).mono ?_
            rintro e w' ⟨rfl, rfl⟩
            rw [Hfx.out]
            go_wp2_with fail
            obtain ⟨y, hy, hy2⟩ : ∃ y : Nat, a2 % ((m : Int) - f + 1) = y ∧ f + y ≤ m := by
              have h1 := Int.emod_nonneg a2 (b := (m : Int) - f + 1) (by omega)
              have h2 := Int.emod_lt_of_pos a2 (b := (m : Int) - f + 1) (by omega)
              exact ⟨(a2 % ((m : Int) - f + 1)).toNat, by omega, by omega⟩
            have Hyx := Lib.hid hy
            clear hy
            refine (place_any _ a2 ((m : Int) - f + 1) b3 b4 (by omega) (by omega)).mono ?_
            rintro e w' ⟨rfl, rfl⟩
            rw [Hyx.out]
            obtain ⟨ss, fs, ps, hB⟩ := HS2.out.at'
            go_wp2_with fail
            refine (part_ok hB (by simp [pushIn, aNew]) Hf.out (by omega) f y (by have := Hv.out.2; simp only; omega)).mono ?_
            rintro e we ⟨v3, rfl, hv3, hk5⟩
            have hl := Hv.out.2
            obtain ⟨p3, c3, rfl⟩ := hv3.form' (m := y) (by simp; omega)
            have hD3 : Duo8 w we w.heap.size 1 (pushIn (aNew 3 100000) l) F3 (Own wr.heap.size we) p3 y := by
              refine ⟨HS2.out.same hk5, loose_of hv3, fun q hq hG => ?_, fun q hq => Nat.le_trans HS2.out.kp.size hq.1⟩
              have := HS2.out.at'.lt q hq
              have := hG.1
              omega
            have q1 := conv_any hv3
            have q1' := fun n => conv_any (w := we.drewN n) hv3
            have hvw : BytesAt (fun q => q < w.heap.size) we l (.slice a0 m cap0) := bytes_kp Hv.out.1 hD3.solo.kp (fun _ _ e => e)
            rw [← hl] at hvw
            have HD3 := Lib.hid hD3
            by_cases hcx : cap0 = f
            · first
                | (exfalso; omega)
                | (obtain rfl : y = 0 := by omega
                   obtain rfl : cap0 = f := hcx
                   have hv5 := bytes_sub hvw (x := cap0) (y := 0) (by omega) 0 (by omega) (po' := a0) (fun hy => by exfalso; omega)
                   have q2 := conv_any hv5
                   have q2' := fun n => conv_any (w := we.drewN n) hv5
                   clear hB hv3 hk5 hD3 hvw hv5 hl
                   go_wp2_with fail
                   have g5 : IntKind.i64.wrap (cap0 : Int) = cap0 := IntWalk.i64_in _ (by omega)
                   go_quiet (fail)
                   clear g5 q1 q1' q2 q2'
                   go_wp2_with fail
                   refine wp_loop_rounds 1 ?_
                   rw [rounds_succ]
                   go_wp2_with fail
                   obtain ⟨ss, fs, ps, hB⟩ := HD3.out.solo.at'
                   refine (bytes_ok (hB.kp (Kp.drewN' (Kp.refl (fun _ => False) we) _) (fun _ _ e => e)) (by simp [pushIn, aNew]) Hf.out (by omega)).mono ?_
                   rintro e wf ⟨v4, rfl, hv4, hk6⟩
                   have hl := Hv.out.2
                   obtain ⟨p4, c4, rfl⟩ := hv4.form' (m := m) hl
                   have HS4 := Lib.hid ((HD3.out.drewN _).solo.same hk6)
                   have q1 := conv_any hv4
                   have q2 := conv_any (bytes_kp Hv.out.1 HS4.out.kp (fun _ _ e => e))
                   clear hB hv4 hk6 hl HD3
                   go_wp2_with (go_at_call 13; refine (awake_any _).mono ?_; rintro e wg ⟨rfl, hk7⟩)
                   go_ret
                   exact ⟨rfl, (HS4.out.same hk7).below⟩)
            · have hv5 := bytes_sub hvw (x := f) (y := y) (by omega) (cap0 - f) (by omega) (po' := a0.map (fun a => a.add f)) (fun hy => rfl)
              have q2 := conv_any hv5
              have q2' := fun n => conv_any (w := we.drewN n) hv5
              clear hB hv3 hk5 hD3 hvw hv5 hl
              go_wp2_with fail
              have g5 : IntKind.i64.wrap ((f : Int) + (y : Int)) = (f : Int) + (y : Int) := IntWalk.i64_in _ (by omega)
              have g6 : (f : Int) + (y : Int) ≤ cap0 := by omega
              have g7 : (f : Int) ≤ (f : Int) + (y : Int) := by omega
              have g8 : (0 : Int) ≤ (f : Int) + (y : Int) := by omega
              have g9 : ((f : Int) + (y : Int)).toNat = f + y := by omega
              go_quiet (fail)
              clear g5 g6 g7 g8 g9 q1 q1' q2 q2'
              go_wp2_with fail
              have HD4 := Lib.hid (fun n => HD3.out.drewN n)
              clear HD3
              go_loopg [18] y (fun gk i wr3 => ∃ k : Nat, k ≤ y ∧ gk = y - k ∧ i = Value.int .i64 k ∧ Duo8 w wr3 w.heap.size 1 (pushIn (aNew 3 100000) l) F3 (Own wr.heap.size we) p3 y)
              case atStart => exact ⟨0, by omega, rfl, rfl, HD4.out _⟩
              case round =>
                clear HD4
                obtain ⟨k, hk, rfl, rfl, hD⟩ := hrel
                by_cases hlt : k < y
                · obtain ⟨g, off, x, rfl, hG, hgl, hc, x0, x1, hfz⟩ := hD.loose k hlt
                  have hli : (k : Int) < y := by omega
                  have hw : 0 ≤ IntKind.u8.wrap (x + 1) ∧ IntKind.u8.wrap (x + 1) ≤ 255 := by
                    have := Int.emod_nonneg (x + 1) (b := 256) (by omega)
                    have := Int.emod_lt_of_pos (x + 1) (b := 256) (by omega)
                    simp [IntKind.wrap, IntKind.signed, IntKind.bits]
                    omega
                  obtain ⟨u, hu⟩ : ∃ u, IntKind.u8.wrap (x + 1) = u := ⟨_, rfl⟩
                  rw [hu] at hw
                  have HD := Lib.hid (hD.set (x := u) rfl hlt hw.1 hw.2)
                  clear hD hG hgl x0 x1 hw
                  go_wp2_with fail
                  go_roundg (y - (k + 1))
                  case measure => omega
                  case rel => exact ⟨k + 1, by omega, rfl, by go_num, HD.out⟩
                · obtain rfl : y = k := by omega
                  have HS3 := Lib.hid hD.solo
                  clear hD hlt hk
                  go_wp2_with fail
                  obtain ⟨ss, fs, ps, hB⟩ := HS3.out.at'
                  refine (bytes_ok hB (by simp [pushIn, aNew]) Hf.out (by omega)).mono ?_
                  rintro e wf ⟨v4, rfl, hv4, hk6⟩
                  have hl := Hv.out.2
                  obtain ⟨p4, c4, rfl⟩ := hv4.form' (m := m) hl
                  have HS4 := Lib.hid (HS3.out.same hk6)
                  have q1 := conv_any hv4
                  have q2 := conv_any (bytes_kp Hv.out.1 HS4.out.kp (fun _ _ e => e))
                  clear hB hv4 hk6 hl HS3
                  go_wp2_with (go_at_call 13; refine (awake_any _).mono ?_; rintro e wg ⟨rfl, hk7⟩)
                  go_ret
                  exact ⟨rfl, (HS4.out.same hk7).below⟩

set_option maxRecDepth 100000 in
theorem lifted (os : Os) (started : os.Started) (H : Type) (enc : TypeId × Value → H) :
    ReturnsInHanded {} Try.checked os 5 .any (Rows.binaryOwnSpec.pre6 enc Try.prog Try.f5 Rows.binaryOwnRow.domain false) (Rows.binaryOwnSpec.post enc Try.prog Try.f5 false true false false) := by
  refine returnsInHanded_of_change (C := Try.checked) own started (by kernel_rfl) Try.func5
    (ChangeSpec.witness6 (enc := enc) (C := Try.checked) false ⟨#[], #[.slice none 0 0, .int .i64 0, .int .i64 0], []⟩ 8 (by kernel_rfl) (by kernel_rfl) (by kernel_rfl) (by kernel_rfl)) ?_
  intro W base args ds gs before hval0 hW hcnd _
  have hval : ∀ (j : Nat) t v, Try.f5.params[j]? = some t → args[j]? = some v → Value.okWide Try.prog W .any base t v := hval0
  have hW' := hW
  obtain ⟨p, q, hA0, hV, rfl, hfz, hnd⟩ := hW
  have hA : DataW.TrodAll enc Try.prog W 0 (fun _ => true) true Try.f5.params.toList args.toList ds p := hA0
  rw [Try.params5] at hA hval
  obtain ⟨v0, vs0, d0, ds0, p0, q0, hargs, rfl, rfl, h0, r0⟩ := trodAll_cons hA
  obtain ⟨v1, vs1, d1, ds1, p1, q1, rfl, rfl, rfl, h1, r1⟩ := trodAll_cons r0
  obtain ⟨v2, vs2, d2, ds2, p2, q2, rfl, rfl, rfl, h2, r2⟩ := trodAll_cons r1
  obtain ⟨rfl, rfl, rfl⟩ := trodAll_nil r2
  obtain rfl : args = #[v0, v1, v2] := by cases args; simp_all
  obtain ⟨rfl, rfl⟩ := trodVars_none hV
  obtain ⟨a0, len0, cap0, rfl⟩ := okWide_slice Try.underlying35 (hval 0 35 v0 rfl rfl)
  have k0 := h0
  have lt0 : ∀ x ∈ p0, x.block < W.heap.size := by obtain ⟨m, hm⟩ := k0; exact DataW.trod_lt m _ _ _ hm
  obtain ⟨z0, w0⟩ : ∃ zs : Nat → UInt8, BIn W a0 len0 cap0 zs := by
    obtain ⟨fuel, hf⟩ := h0
    rcases open_ints Try.underlying35 Try.underlying5 (by kernel_rfl) hf with ⟨hcs, _⟩ | ⟨x, l, c, zs, hcs, _, hl, hm, hz, _, hcell, hwz⟩
    · simp [Value.cells] at hcs
      obtain ⟨rfl, rfl, rfl⟩ := hcs
      exact ⟨fun _ => 0, bIn_nil _ _⟩
    · simp [Value.cells] at hcs
      obtain ⟨rfl, rfl, rfl⟩ := hcs
      exact ⟨_, bIn_of hl hm (by rw [hz]; split <;> omega) hcell hwz⟩
  obtain ⟨a1, rfl, rfl, rfl, w1⟩ := open_int Try.underlying3 (hval 1 3 v1 rfl rfl) h1
  obtain ⟨a2, rfl, rfl, rfl, w2⟩ := open_int Try.underlying3 (hval 2 3 v2 rfl rfl) h2
  clear hA0 hval0
  simp only [List.append_nil] at hW'
  refine (walk a0 len0 cap0 z0 a1 a2 W w0 w1 w2).mono fun e W' ⟨he, bel⟩ => ?_
  subst he
  exact ⟨_, rfl, _, _, _, [], _, [], hW', trodAll_mk1 (shut_bool Try.underlying4 _), (trodAll_cons_mk (Below.trod laidOut (by kernel_rfl) (of_decide_eq_true (by kernel_rfl)) k0 bel lt0) (trodAll_cons_mk (shut_int Try.underlying3 w1) (trodAll_cons_mk (shut_int Try.underlying3 w2) trodAll_mk0))), rfl, bel.frame _, fun h => by cases h⟩

theorem over : Rows.binaryOwnRow.holds Try.pinned (OpenSpec.ofChange Rows.binaryOwnSpec) :=
  OpenClaim.holds_of_wide 5 Try.f5 rfl rfl rfl rfl rfl rfl rfl ⟨rfl, rfl, rfl, rfl, rfl⟩ rfl rfl rfl rfl rfl (by kernel_rfl) Try.func5 (by kernel_rfl)
    (of_decide_eq_true (by kernel_rfl)) (by unfold Func.isWrapper; first | (rw [if_pos (by decide +kernel)]; kernel_rfl) | (rw [if_neg (by decide +kernel)]; exact ⟨rfl, rfl⟩))
    (fun os started H enc _ => lifted os started H enc)

theorem proved : Rows.BinaryOwnSaid := over
#print axioms proved
end Go.Proofs.Ytbenkgpiddlcfaa.binaryOwn
