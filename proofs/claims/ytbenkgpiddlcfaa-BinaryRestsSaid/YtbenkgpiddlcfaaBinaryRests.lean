/- Parts of a binary are its bytes from there on; beyond its end, or ahead of its beginning, there is none: for every slice of bytes and any two numbers. -/
import Derived.Test.YtbenkgpiddlcfaaRows
import Derived.Test.YtbenkgpiddlcfaaAwake5
import Derived.Test.YtbenkgpiddlcfaaBytesIn
import Derived.StillTailTactics
import Derived.BigQuiet
import Derived.WalkKit
import Derived.ProofKit
import Derived.OpenShut
import Derived.ShutString
import Derived.ChangeOld
import Derived.Below
import Derived.Deep.Strs
namespace Go.Proofs.Ytbenkgpiddlcfaa.binaryRests
open Go.ChangeShapes Go.WideShapes Go.ChangeAt Go.RowKit
open Go.ChangeMaps (open_string shut_string)
set_option linter.unusedVariables false

theorem own : ownKnob Try.prog.godebug = none := by kernel_rfl
theorem laidOut : laidOutB Try.prog = true := by kernel_rfl

set_option maxHeartbeats 4000000 in
set_option maxRecDepth 100000 in
theorem walk (a0 : Option Addr) (len0 cap0 : Nat) (z0 : Nat → UInt8) (a1 a2 : Int) (w : World) (h0 : BIn w a0 len0 cap0 z0) (w1 : (Lit.int .i64 a1).wf = true) (w2 : (Lit.int .i64 a2).wf = true) :
    Calls Try.prog 8 #[.slice a0 len0 cap0, .int .i64 a1, .int .i64 a2] w fun e w' => e = .returned (.bool true) ∧ Below w.heap.size w w' := by
  obtain ⟨b1, b2⟩ := bounds_i64 w1
  obtain ⟨b3, b4⟩ := bounds_i64 w2
  clear w1 w2
  have hcap := h0.1
  have hcapm := h0.2.1
  obtain ⟨m, hm, hm1⟩ : ∃ m, m = min len0 3000 ∧ m ≤ 3000 := ⟨_, rfl, by omega⟩
  have hv := h0.at' (m := m) (c := cap0) (by omega) (by omega) (by omega)
  obtain ⟨l, hl, hl2⟩ : ∃ l, bl z0 m = l ∧ l.length = m := ⟨_, rfl, bl_len _ _⟩
  rw [hl] at hv
  have Hv := Lib.hid (And.intro hv hl2)
  clear hv h0 hl hl2
  by_cases hbig : (3000 : Int) < len0
  all_goals first
    | (have hbc : (3000 : Int) ≤ cap0 := by omega
       have hm3 : 3000 = m := by omega
       have HL := Lib.hid hm3
       clear hm3 hm
       go_enter Try.func8, Try.ntmps8
       go_wp2_with fail
       rw [HL.out])
    | (have hbc : (m : Int) ≤ cap0 := by omega
       have hm3 : m = len0 := by omega
       clear hm
       subst hm3
       go_enter Try.func8, Try.ntmps8
       go_wp2_with fail)
  all_goals
    refine (new_ok 1 5000 (by omega) (by omega) (by omega) w).mono ?_
    rintro e wa ⟨rfl, hk1, hA1⟩
    have hS1 : Solo w wa w.heap.size 1 (aNew 1 5000) (fun q => q = w.heap.size) := ⟨hA1, inv_new 1 5000 (by omega) (by omega) (by omega) 1, fun q e => by omega, hk1⟩
    have Hva := Lib.hid (bytes_kp Hv.out.1 hk1 (fun _ _ e => e))
    have H1 := Lib.hid hS1
    clear hk1 hA1 hS1
    go_wp2_with fail
    refine (copyBytes_any Hva.out).mono ?_
    rintro e wb ⟨v1, rfl, hv1, hk2⟩
    have hS2 := H1.out.same hk2
    have H2 := Lib.hid (And.intro hS2 (And.intro hv1 (fun q (hq : Byt (Own wa.heap.size wb) wb q) (e : q = w.heap.size) => (by have := H1.out.at'.lt _ rfl; have := hq.1.1; omega : False))))
    obtain ⟨p1, l1, c1, rfl⟩ := hv1.form
    clear hv1 hk2 hS2
    go_wp2_with fail
    obtain ⟨ss, fs, ps, hB⟩ := H2.out.1.at'
    refine (put_first hB H2.out.1.inv (by omega) H2.out.2.1 H2.out.2.2 rfl (by simp [aNew]) (by have := Hv.out.2; simp [aNew]; omega)).mono ?_
    rintro e wc ⟨he, hgo⟩
    obtain rfl : e = .returned (.tuple #[.int .i64 0, .nilIface]) := he
    obtain ⟨F3, hS3⟩ := H2.out.1.step hgo (inv_push H2.out.1.inv (by omega) rfl (by simp [aNew]) (by have := Hv.out.2; simp [aNew]; omega))
    have H3 := Lib.hid hS3
    have hf : FOk (pushIn (aNew 1 5000) l) 0 0 ⟨l, 1, 0⟩ := ⟨by omega, by decide, rfl, by simp, by simp⟩
    have Hf := Lib.hid hf
    clear hgo hS3 hf hB H2 H1 Hva
    obtain ⟨ss, fs, ps, hB⟩ := H3.out.at'
    by_cases hx0 : a1 < 0
    · have k1 : decide (a1 < 0) = true := by simpa using hx0
      go_wp2_with fail
      refine (part_out hB (by simp [pushIn, aNew]) Hf.out (by omega) a1 a2 ⟨b1, b2⟩ ⟨b3, b4⟩ (.inl hx0)).mono ?_
      rintro e wd ⟨v, rfl, hch, hk4⟩
      obtain ⟨gv, rfl⟩ := hch.out.form
      have hka : Kp (fun _ => False) wd (wd.alloc (.cells #[.string partS, .int .i64 0, .iface 61 (.int .i64 12)] 63)) := (Kp.refl _ wd).alloc _
      have H4 := Lib.hid (And.intro ((H3.out.same hk4).same hka) (And.intro (Chain.kp hka _ _ hch.out) ((ChainB.cons (B := 0) (l := [Lk.kind 12]) partS 0 (ChainB.root _ _ (by decide)) (Nat.zero_le _) (heap_alloc_new wd _)).out)))
      clear hB hch hk4 H3 hka
      go_wp2_with fail
      refine (err_any [Lk.fault partS 0, Lk.kind 12] _ _ _ (by simp) H4.out.2.1 H4.out.2.2).mono ?_
      rintro e we ⟨rfl, hk5⟩
      have H5 := Lib.hid (H4.out.1.same hk5)
      clear hk5 H4
      go_wp2_with fail
      refine (awake_any _).mono ?_
      rintro e wf ⟨rfl, hk6⟩
      have H6 := Lib.hid (H5.out.same hk6)
      clear hk6 H5
      go_wp2_with fail
      go_ret
      exact ⟨rfl, H6.out.below⟩
    · have k1 : decide (a1 < 0) = false := by simpa using hx0
      by_cases hy0 : a2 < 0
      · have k2 : decide (a2 < 0) = true := by simpa using hy0
        go_wp2_with fail
        refine (part_out hB (by simp [pushIn, aNew]) Hf.out (by omega) a1 a2 ⟨b1, b2⟩ ⟨b3, b4⟩ (.inr (.inl hy0))).mono ?_
        rintro e wd ⟨v, rfl, hch, hk4⟩
        obtain ⟨gv, rfl⟩ := hch.out.form
        have hka : Kp (fun _ => False) wd (wd.alloc (.cells #[.string partS, .int .i64 0, .iface 61 (.int .i64 12)] 63)) := (Kp.refl _ wd).alloc _
        have H4 := Lib.hid (And.intro ((H3.out.same hk4).same hka) (And.intro (Chain.kp hka _ _ hch.out) ((ChainB.cons (B := 0) (l := [Lk.kind 12]) partS 0 (ChainB.root _ _ (by decide)) (Nat.zero_le _) (heap_alloc_new wd _)).out)))
        clear hB hch hk4 H3 hka
        go_wp2_with fail
        refine (err_any [Lk.fault partS 0, Lk.kind 12] _ _ _ (by simp) H4.out.2.1 H4.out.2.2).mono ?_
        rintro e we ⟨rfl, hk5⟩
        have H5 := Lib.hid (H4.out.1.same hk5)
        clear hk5 H4
        go_wp2_with fail
        refine (awake_any _).mono ?_
        rintro e wf ⟨rfl, hk6⟩
        have H6 := Lib.hid (H5.out.same hk6)
        clear hk6 H5
        go_wp2_with fail
        go_ret
        exact ⟨rfl, H6.out.below⟩
      · have k2 : decide (a2 < 0) = false := by simpa using hy0
        have hx1 : 0 ≤ a1 := by omega
        have hy1 : 0 ≤ a2 := by omega
        by_cases ho : (m : Int) - a1 < a2
        · have hq : ((⟨l, 1, 0⟩ : Sl).bs.length : Int) - a1 < a2 := by have := Hv.out.2; simp only; omega
          have Hq := Lib.hid hq
          clear hq hx0 hy0
          by_cases hm0 : (m : Int) < a1
          · have k3 : decide ((m : Int) < a1) = true := by simpa using hm0
            go_wp2_with fail
            refine (part_out hB (by simp [pushIn, aNew]) Hf.out (by omega) a1 a2 ⟨b1, b2⟩ ⟨b3, b4⟩ (.inr (.inr Hq.out))).mono ?_
            rintro e wd ⟨v, rfl, hch, hk4⟩
            obtain ⟨gv, rfl⟩ := hch.out.form
            have hka : Kp (fun _ => False) wd (wd.alloc (.cells #[.string partS, .int .i64 0, .iface 61 (.int .i64 12)] 63)) := (Kp.refl _ wd).alloc _
            have H4 := Lib.hid (And.intro ((H3.out.same hk4).same hka) (And.intro (Chain.kp hka _ _ hch.out) ((ChainB.cons (B := 0) (l := [Lk.kind 12]) partS 0 (ChainB.root _ _ (by decide)) (Nat.zero_le _) (heap_alloc_new wd _)).out)))
            clear hB hch hk4 H3 hka
            go_wp2_with fail
            refine (err_any [Lk.fault partS 0, Lk.kind 12] _ _ _ (by simp) H4.out.2.1 H4.out.2.2).mono ?_
            rintro e we ⟨rfl, hk5⟩
            have H5 := Lib.hid (H4.out.1.same hk5)
            clear hk5 H4
            go_wp2_with fail
            refine (awake_any _).mono ?_
            rintro e wf ⟨rfl, hk6⟩
            have H6 := Lib.hid (H5.out.same hk6)
            clear hk6 H5
            go_wp2_with fail
            go_ret
            exact ⟨rfl, H6.out.below⟩
          · have k3 : decide ((m : Int) < a1) = false := by simpa using hm0
            go_wp2_with fail
            refine (part_out hB (by simp [pushIn, aNew]) Hf.out (by omega) a1 a2 ⟨b1, b2⟩ ⟨b3, b4⟩ (.inr (.inr Hq.out))).mono ?_
            rintro e wd ⟨v, rfl, hch, hk4⟩
            obtain ⟨gv, rfl⟩ := hch.out.form
            have hka : Kp (fun _ => False) wd (wd.alloc (.cells #[.string partS, .int .i64 0, .iface 61 (.int .i64 12)] 63)) := (Kp.refl _ wd).alloc _
            have H4 := Lib.hid (And.intro ((H3.out.same hk4).same hka) (And.intro (Chain.kp hka _ _ hch.out) ((ChainB.cons (B := 0) (l := [Lk.kind 12]) partS 0 (ChainB.root _ _ (by decide)) (Nat.zero_le _) (heap_alloc_new wd _)).out)))
            clear hB hch hk4 H3 hka
            go_wp2_with fail
            refine (err_any [Lk.fault partS 0, Lk.kind 12] _ _ _ (by simp) H4.out.2.1 H4.out.2.2).mono ?_
            rintro e we ⟨rfl, hk5⟩
            have H5 := Lib.hid (H4.out.1.same hk5)
            clear hk5 H4
            go_wp2_with fail
            refine (awake_any _).mono ?_
            rintro e wf ⟨rfl, hk6⟩
            have H6 := Lib.hid (H5.out.same hk6)
            clear hk6 H5
            go_wp2_with fail
            go_ret
            exact ⟨rfl, H6.out.below⟩
        · obtain ⟨x, rfl⟩ : ∃ x : Nat, a1 = x := ⟨a1.toNat, by omega⟩
          obtain ⟨y, rfl⟩ : ∃ y : Nat, a2 = y := ⟨a2.toNat, by omega⟩
          have hxy : x + y ≤ m := by omega
          go_wp2_with fail
          refine (part_ok hB (by simp [pushIn, aNew]) Hf.out (by omega) x y (by have := Hv.out.2; simp only; omega)).mono ?_
          rintro e wd ⟨v, rfl, hv4, hk4⟩
          obtain ⟨p4, l4, c4, rfl⟩ := hv4.form
          have H4 := Lib.hid (And.intro (H3.out.same hk4) hv4)
          have hl := Hv.out.2
          have q1 := conv_any hv4
          have q1' := conv_any (w := wd.drew) hv4
          have hvw : BytesAt (fun q => q < w.heap.size) wd l (.slice a0 m cap0) := bytes_kp Hv.out.1 H4.out.1.kp (fun _ _ e => e)
          rw [← hl] at hvw
          by_cases hcx : cap0 = x
          · first
              | (exfalso; omega)
              | (obtain rfl : y = 0 := by omega
                 obtain rfl : cap0 = x := hcx
                 have hv5 := bytes_sub hvw (x := cap0) (y := 0) (by omega) 0 (by omega) (po' := a0) (fun hy => by exfalso; omega)
                 have q2 := conv_any hv5
                 have q2' := conv_any (w := wd.drew) hv5
                 have H5 := Lib.hid (H4.out.1.same ((Kp.refl _ wd).drew))
                 clear hB hv4 hk4 H3 hl hvw hv5 H4
                 go_wp2_with fail
                 have g5 : IntKind.i64.wrap (cap0 : Int) = cap0 := IntWalk.i64_in _ (by omega)
                 go_still_tail 15, (by kernel_rfl)
                 change wpList _ _ _ _ _ wd.drew
                 generalize wd.drew = wx at *
                 go_wp2_with (go_at_call 13; refine (awake_any _).mono ?_; rintro e wf ⟨rfl, hk6⟩)
                 go_ret
                 exact ⟨rfl, (H5.out.same hk6).below⟩)
          · have hv5 := bytes_sub hvw (x := x) (y := y) (by omega) (cap0 - x) (by omega) (po' := a0.map (fun a => a.add x)) (fun hy => rfl)
            have q2 := conv_any hv5
            have q2' := conv_any (w := wd.drew) hv5
            have H5 := Lib.hid (H4.out.1.same ((Kp.refl _ wd).drew))
            clear hB hv4 hk4 H3 hl hvw hv5 H4
            go_wp2_with fail
            have g5 : IntKind.i64.wrap ((x : Int) + (y : Int)) = (x : Int) + (y : Int) := IntWalk.i64_in _ (by omega)
            have g6 : (x : Int) + (y : Int) ≤ cap0 := by omega
            have g7 : (x : Int) ≤ (x : Int) + (y : Int) := by omega
            have g8 : (0 : Int) ≤ (x : Int) + (y : Int) := by omega
            have g9 : ((x : Int) + (y : Int)).toNat = x + y := by omega
            go_still_tail 15, (by kernel_rfl)
            change wpList _ _ _ _ _ wd.drew
            generalize wd.drew = wx at *
            clear g5 g6 g7 g8 g9
            go_wp2_with (go_at_call 13; refine (awake_any _).mono ?_; rintro e wf ⟨rfl, hk6⟩)
            go_ret
            exact ⟨rfl, (H5.out.same hk6).below⟩

set_option maxRecDepth 100000 in
theorem lifted (os : Os) (started : os.Started) (H : Type) (enc : TypeId × Value → H) :
    ReturnsInHanded {} Try.checked os 8 .any (Rows.binaryRestsSpec.pre6 enc Try.prog Try.f8 Rows.binaryRestsRow.domain false) (Rows.binaryRestsSpec.post enc Try.prog Try.f8 false true false false) := by
  refine returnsInHanded_of_change (C := Try.checked) own started (by kernel_rfl) Try.func8
    (ChangeSpec.witness6 (enc := enc) (C := Try.checked) false ⟨#[], #[.slice none 0 0, .int .i64 0, .int .i64 0], []⟩ 8 (by kernel_rfl) (by kernel_rfl) (by kernel_rfl) (by kernel_rfl)) ?_
  intro W base args ds gs before hval0 hW hcnd _
  have hval : ∀ (j : Nat) t v, Try.f8.params[j]? = some t → args[j]? = some v → Value.okWide Try.prog W .any base t v := hval0
  have hW' := hW
  obtain ⟨p, q, hA0, hV, rfl, hfz, hnd⟩ := hW
  have hA : DataW.TrodAll enc Try.prog W 0 (fun _ => true) true Try.f8.params.toList args.toList ds p := hA0
  rw [Try.params8] at hA hval
  obtain ⟨v0, vs0, d0, ds0, p0, q0, hargs, rfl, rfl, h0, r0⟩ := trodAll_cons hA
  obtain ⟨v1, vs1, d1, ds1, p1, q1, rfl, rfl, rfl, h1, r1⟩ := trodAll_cons r0
  obtain ⟨v2, vs2, d2, ds2, p2, q2, rfl, rfl, rfl, h2, r2⟩ := trodAll_cons r1
  obtain ⟨rfl, rfl, rfl⟩ := trodAll_nil r2
  obtain rfl : args = #[v0, v1, v2] := by cases args; simp_all
  obtain ⟨rfl, rfl⟩ := trodVars_none hV
  obtain ⟨a0, len0, cap0, rfl⟩ := okWide_slice Try.underlying35 (hval 0 35 v0 rfl rfl)
  have k0 := h0
  have lt0 : ∀ x ∈ p0, x.block < W.heap.size := by obtain ⟨m, hm⟩ := k0; exact DataW.trod_lt m _ _ _ hm
  obtain ⟨z0, w0⟩ : ∃ zs : Nat → UInt8, BIn W a0 len0 cap0 zs := by
    obtain ⟨fuel, hf⟩ := h0
    rcases open_ints Try.underlying35 Try.underlying5 (by kernel_rfl) hf with ⟨hcs, _⟩ | ⟨x, l, c, zs, hcs, _, hl, hm, hz, _, hcell, hwz⟩
    · simp [Value.cells] at hcs
      obtain ⟨rfl, rfl, rfl⟩ := hcs
      exact ⟨fun _ => 0, bIn_nil _ _⟩
    · simp [Value.cells] at hcs
      obtain ⟨rfl, rfl, rfl⟩ := hcs
      exact ⟨_, bIn_of hl hm (by rw [hz]; split <;> omega) hcell hwz⟩
  obtain ⟨a1, rfl, rfl, rfl, w1⟩ := open_int Try.underlying3 (hval 1 3 v1 rfl rfl) h1
  obtain ⟨a2, rfl, rfl, rfl, w2⟩ := open_int Try.underlying3 (hval 2 3 v2 rfl rfl) h2
  clear hA0 hval0
  simp only [List.append_nil] at hW'
  refine (walk a0 len0 cap0 z0 a1 a2 W w0 w1 w2).mono fun e W' ⟨he, bel⟩ => ?_
  subst he
  exact ⟨_, rfl, _, _, _, [], _, [], hW', trodAll_mk1 (shut_bool Try.underlying4 _), (trodAll_cons_mk (Below.trod laidOut (by kernel_rfl) (of_decide_eq_true (by kernel_rfl)) k0 bel lt0) (trodAll_cons_mk (shut_int Try.underlying3 w1) (trodAll_cons_mk (shut_int Try.underlying3 w2) trodAll_mk0))), rfl, bel.frame _, fun h => by cases h⟩

theorem over : Rows.binaryRestsRow.holds Try.pinned (OpenSpec.ofChange Rows.binaryRestsSpec) :=
  OpenClaim.holds_of_wide 8 Try.f8 rfl rfl rfl rfl rfl rfl rfl ⟨rfl, rfl, rfl, rfl, rfl⟩ rfl rfl rfl rfl rfl (by kernel_rfl) Try.func8 (by kernel_rfl)
    (of_decide_eq_true (by kernel_rfl)) (by unfold Func.isWrapper; first | (rw [if_pos (by decide +kernel)]; kernel_rfl) | (rw [if_neg (by decide +kernel)]; exact ⟨rfl, rfl⟩))
    (fun os started H enc _ => lifted os started H enc)

theorem proved : Rows.BinaryRestsSaid := over
#print axioms proved
end Go.Proofs.Ytbenkgpiddlcfaa.binaryRests
