/- Two heaps of binaries have nothing in common: what one holds, keeps and drops turns nothing of the other: for any two slices of bytes and any number. -/
import Derived.Test.YtbenkgpiddlcfaaRows
import Derived.Test.YtbenkgpiddlcfaaPair
import Derived.Test.YtbenkgpiddlcfaaPlace
import Derived.Deep.LoopGhost
import Derived.WalkKit
import Derived.ProofKit
import Derived.OpenShut
import Derived.ShutString
import Derived.ChangeOld
import Derived.Below
import Derived.Deep.Strs
namespace Go.Proofs.Ytbenkgpiddlcfaa.binaryApart
open Go.ChangeShapes Go.WideShapes Go.ChangeAt Go.RowKit
open Go.ChangeMaps (open_string shut_string)
set_option linter.unusedVariables false

theorem own : ownKnob Try.prog.godebug = none := by kernel_rfl
theorem laidOut : laidOutB Try.prog = true := by kernel_rfl

set_option maxHeartbeats 1000000 in
theorem walk_big (a0 : Option Addr) (len0 cap0 : Nat) (a1 : Option Addr) (len1 cap1 : Nat) (a2 : Int) (w : World) (hb : (2000 : Int) < len0 ∨ (2000 : Int) < len1) (hl0 : len0 ≤ 9223372036854775807) (hl1 : len1 ≤ 9223372036854775807) :
    Calls Try.prog 9 #[.slice a0 len0 cap0, .slice a1 len1 cap1, .int .i64 a2] w fun e w' => e = .returned (.bool true) ∧ Below w.heap.size w w' := by
  by_cases h0 : (2000 : Int) < len0
  · have k1 : decide ((2000 : Int) < len0) = true := by simpa using h0
    clear hb
    go_enter Try.func9, Try.ntmps9
    go_wp2_with (go_at_call 13; refine (awake_any _).mono ?_; rintro e wg ⟨rfl, hk7⟩)
    go_ret
    exact ⟨rfl, hk7.below _ (Nat.le_refl _) (fun _ e => e.elim)⟩
  · have h1 : (2000 : Int) < len1 := by omega
    have k1 : decide ((2000 : Int) < len0) = false := by simpa using h0
    have k2 : decide ((2000 : Int) < len1) = true := by simpa using h1
    clear hb
    go_enter Try.func9, Try.ntmps9
    go_wp2_with (go_at_call 13; refine (awake_any _).mono ?_; rintro e wg ⟨rfl, hk7⟩)
    go_ret
    exact ⟨rfl, hk7.below _ (Nat.le_refl _) (fun _ e => e.elim)⟩

/-- the first heap behind k Keeps -/
def apA (l : List UInt8) (k : Nat) : Bn := ⟨5, 20000, l.length, [⟨l, k + 1, 0⟩], []⟩
theorem apA_ok (l : List UInt8) (k : Nat) : FOk (apA l k) 0 0 ⟨l, k + 1, 0⟩ := ⟨by omega, by decide, rfl, by simp, by simp⟩

set_option maxHeartbeats 4000000 in
set_option maxRecDepth 100000 in
theorem walk (a0 : Option Addr) (len0 cap0 : Nat) (z0 : Nat → UInt8) (a1 : Option Addr) (len1 cap1 : Nat) (z1 : Nat → UInt8) (a2 : Int) (w : World) (h0 : BIn w a0 len0 cap0 z0) (h1 : BIn w a1 len1 cap1 z1) (w2 : (Lit.int .i64 a2).wf = true) :
    Calls Try.prog 9 #[.slice a0 len0 cap0, .slice a1 len1 cap1, .int .i64 a2] w fun e w' => e = .returned (.bool true) ∧ Below w.heap.size w w' := by
  obtain ⟨b3, b4⟩ := bounds_i64 w2
  clear w2
  have hc0 := h0.1
  have hc1 := h0.2.1
  have hc2 := h1.1
  have hc3 := h1.2.1
  by_cases hbig : (2000 : Int) < len0 ∨ (2000 : Int) < len1
  · exact walk_big a0 len0 cap0 a1 len1 cap1 a2 w hbig (by omega) (by omega)
  · have hs0 : len0 ≤ 2000 := by omega
    have hs1 : len1 ≤ 2000 := by omega
    have hv := h0.at' (m := len0) (c := cap0) (by omega) (by omega) (by omega)
    have hu := h1.at' (m := len1) (c := cap1) (by omega) (by omega) (by omega)
    obtain ⟨l, hl, hl2⟩ : ∃ l, bl z0 len0 = l ∧ l.length = len0 := ⟨_, rfl, bl_len _ _⟩
    obtain ⟨m, hm, hm2⟩ : ∃ m, bl z1 len1 = m ∧ m.length = len1 := ⟨_, rfl, bl_len _ _⟩
    rw [hl] at hv
    rw [hm] at hu
    obtain ⟨r, hr, hr2⟩ : ∃ r : Nat, a2 % 9 = r ∧ r < 9 := ⟨(a2 % 9).toNat, by omega, by omega⟩
    have Hv := Lib.hid (And.intro hv (And.intro hl2 (And.intro hu (And.intro hm2 hr))))
    clear hv hu hl hl2 hm hm2 hr h0 h1 hbig
    go_enter Try.func9, Try.ntmps9
    go_wp2_with fail
    refine (new_ok 5 20000 (by omega) (by omega) (by omega) w).mono ?_
    rintro e wa ⟨rfl, hk1, hA1⟩
    have hS1 : Solo w wa w.heap.size 50 (aNew 5 20000) (fun q => q = w.heap.size) := ⟨hA1, inv_new 5 20000 (by omega) (by omega) (by omega) 50, fun q e => by omega, hk1⟩
    have H1 := Lib.hid hS1
    clear hk1 hA1 hS1
    go_wp2_with fail
    refine (new_ok 5 20000 (by omega) (by omega) (by omega) wa).mono ?_
    rintro e wb ⟨rfl, hk1, hA1⟩
    have hS2 : Solo w wb wa.heap.size 50 (aNew 5 20000) (fun q => q = wa.heap.size) := ⟨hA1, inv_new 5 20000 (by omega) (by omega) (by omega) 50, fun q e => by have := H1.out.kp.size; omega, H1.out.kp.trans' hk1⟩
    have hP1 : Pair w wb w.heap.size 50 (aNew 5 20000) (fun q => q = w.heap.size) wa.heap.size 50 (aNew 5 20000) (fun q => q = wa.heap.size) :=
      ⟨H1.out.same hk1, hS2, fun q e e' => by have := H1.out.at'.lt _ rfl; omega⟩
    have H2 := Lib.hid hP1
    have Hva := Lib.hid (bytes_kp Hv.out.1 hS2.kp (fun _ _ e => e))
    clear hk1 hA1 hS2 hP1 H1
    go_wp2_with fail
    refine (copyBytes_any Hva.out).mono ?_
    rintro e wc ⟨v1, rfl, hv1, hk2⟩
    obtain ⟨p1, c1, rfl⟩ := hv1.form' Hv.out.2.1
    have H3 := Lib.hid (And.intro (H2.out.same hk2) (And.intro hv1 (fun q (hq : Byt (Own wb.heap.size wc) wc q) (e : q = w.heap.size) => (by have := H2.out.one.at'.lt _ e; have := hq.1.1; omega : False))))
    clear hv1 hk2 H2 Hva
    go_wp2_with fail
    obtain ⟨ss, fs, ps, hB⟩ := H3.out.1.one.at'
    refine (put_first hB H3.out.1.one.inv (by omega) H3.out.2.1 H3.out.2.2 rfl (by simp [aNew]) (by have := Hv.out.2.1; simp [aNew]; omega)).mono ?_
    rintro e wd ⟨he, hgo⟩
    obtain rfl : e = .returned (.tuple #[.int .i64 0, .nilIface]) := he
    obtain ⟨F4, hP4⟩ := H3.out.1.stepA hgo (inv_push H3.out.1.one.inv (by omega) rfl (by simp [aNew]) (by have := Hv.out.2.1; simp [aNew]; omega))
    have H4 := Lib.hid hP4
    have Hvb := Lib.hid (bytes_kp Hv.out.2.2.1 hP4.one.kp (fun _ _ e => e))
    clear hB hgo hP4 H3
    go_wp2_with fail
    refine (copyBytes_any Hvb.out).mono ?_
    rintro e we ⟨v2, rfl, hv2, hk2⟩
    obtain ⟨p2, c2, rfl⟩ := hv2.form' Hv.out.2.2.2.1
    have H5 := Lib.hid (And.intro (H4.out.same hk2) (And.intro hv2 (fun q (hq : Byt (Own wd.heap.size we) we q) (e : q = wa.heap.size) => (by have := H4.out.two.at'.lt _ e; have := hq.1.1; omega : False))))
    clear hv2 hk2 H4 Hvb
    go_wp2_with fail
    obtain ⟨ss, fs, ps, hB⟩ := H5.out.1.two.at'
    refine (put_first hB H5.out.1.two.inv (by omega) H5.out.2.1 H5.out.2.2 rfl (by simp [aNew]) (by have := Hv.out.2.2.2.1; simp [aNew]; omega)).mono ?_
    rintro e wf ⟨he, hgo⟩
    obtain rfl : e = .returned (.tuple #[.int .i64 0, .nilIface]) := he
    obtain ⟨H6s, hP6⟩ := H5.out.1.stepB hgo (inv_push H5.out.1.two.inv (by omega) rfl (by simp [aNew]) (by have := Hv.out.2.2.2.1; simp [aNew]; omega))
    have hP6' : Pair w wf w.heap.size 50 (apA l 0) F4 wa.heap.size 50 (apA m 0) H6s := by
      have e1 : pushIn (aNew 5 20000) l = apA l 0 := by simp [pushIn, aNew, apA]
      have e2 : pushIn (aNew 5 20000) m = apA m 0 := by simp [pushIn, aNew, apA]
      rw [← e1, ← e2]
      exact hP6
    have H6 := Lib.hid hP6'
    clear hB hgo hP6 hP6' H5
    go_wp2_with fail
    go_loopg [13] r (fun gk i wr => ∃ (k : Nat) (F : Nat → Prop), k ≤ r ∧ gk = r - k ∧ i = Value.int .i64 k ∧ Pair w wr w.heap.size 50 (apA l k) F wa.heap.size 50 (apA m 0) H6s)
    case atStart => exact ⟨0, _, by omega, rfl, rfl, H6.out⟩
    case round =>
      clear H6
      obtain ⟨k, F, hk, rfl, rfl, hP⟩ := hrel
      have H7 := Lib.hid hP
      clear hP
      by_cases hlt : k < r
      · have hli : (k : Int) < r := by omega
        go_wp2_with fail
        refine (place_any _ a2 9 b3 b4 (by omega) (by omega)).mono ?_
        rintro e w' ⟨rfl, rfl⟩
        rw [Hv.out.2.2.2.2]
        go_wp2_with fail
        obtain ⟨ss, fs, ps, hB⟩ := H7.out.one.at'
        refine (keep_ok hB (by simp [apA]) (apA_ok l k) (by omega) (by simp only; omega)).mono ?_
        rintro e wg ⟨rfl, hgo⟩
        obtain ⟨F8, hP8⟩ := H7.out.stepA hgo (H7.out.one.inv.held (i := 0) (s := ⟨l, k + 1, 0⟩) rfl (by simp) (k + 1 + 1) (by omega) (M := 50) (by omega) (by omega))
        have H8 := Lib.hid (show Pair w wg w.heap.size 50 (apA l (k + 1)) F8 wa.heap.size 50 (apA m 0) H6s from hP8)
        clear hB hgo hP8 H7
        go_wp2_with fail
        go_roundg (r - (k + 1))
        case measure => omega
        case rel => exact ⟨k + 1, _, by omega, rfl, by go_num, H8.out⟩
      · obtain rfl : r = k := by omega
        go_wp2_with fail
        refine (place_any _ a2 9 b3 b4 (by omega) (by omega)).mono ?_
        rintro e w' ⟨rfl, rfl⟩
        rw [Hv.out.2.2.2.2]
        go_wp2_with fail
        obtain ⟨ss, fs, ps, hB⟩ := H7.out.two.at'
        refine (drop_last hB (by simp [apA]) (by simp [apA]) (apA_ok m 0) (by omega) rfl (by simp only; omega) (by simp [apA]) (by have := Hv.out.2.2.2.1; simp [apA]; omega)).mono ?_
        rintro e wg ⟨rfl, hgo⟩
        obtain ⟨H9, hP9⟩ := H7.out.stepB hgo (H7.out.two.inv.drop (i := 0) (s := ⟨m, 0 + 1, 0⟩) rfl (by simp) (M := 50) (by simp only; omega) (by omega))
        have H8 := Lib.hid hP9
        clear hB hgo hP9 H7
        obtain ⟨ss, fs, ps, hB⟩ := H8.out.one.at'
        have hcnt : Calls Try.prog 26 #[.pointer (some ⟨w.heap.size, 0, none⟩), .int .i64 0] wg fun e w' => e = .returned (.tuple #[.int .i64 (1 + r), .nilIface]) ∧ wg = w' := by
          have := count_ok hB (by simp [apA]) (apA_ok l r) (by omega)
          rw [show (((⟨l, r + 1, 0⟩ : Sl).count : Nat) : Int) = 1 + r by simp only; omega] at this
          exact this
        have Hcnt := Lib.hid hcnt
        clear hcnt
        go_wp2_with fail
        refine Hcnt.out.mono ?_
        rintro e w' ⟨rfl, rfl⟩
        go_wp2_with fail
        refine (bytes_ok hB (by simp [apA]) (apA_ok l r) (by omega)).mono ?_
        rintro e wh ⟨v5, rfl, hv5, hk5⟩
        obtain ⟨p5, c5, rfl⟩ := hv5.form' Hv.out.2.1
        have hP10 := H8.out.same hk5
        have H10 := Lib.hid hP10
        have q1 := conv_any hv5
        have q2 := conv_any (bytes_kp Hv.out.1 hP10.one.kp (fun _ _ e => e))
        clear hB hv5 hk5 hP10 H8 Hcnt
        obtain ⟨ss, fs, ps, hB⟩ := H10.out.two.at'
        have Hused := Lib.hid (used_any hB)
        have hu0 : ((apA m 0).used - (⟨m, 0 + 1, 0⟩ : Sl).bs.length : Nat) = 0 := by simp [apA]
        have Hu := Lib.hid hu0
        clear hu0 hB
        go_wp2_with fail
        refine (place_any _ a2 9 b3 b4 (by omega) (by omega)).mono ?_
        rintro e w' ⟨rfl, rfl⟩
        rw [Hv.out.2.2.2.2]
        go_wp2_with fail
        refine Hused.out.mono ?_
        rintro e w' ⟨he, rfl⟩
        obtain rfl : e = .returned (.int .i64 0) := by rw [he]; simp [apA]
        clear he
        go_wp2_with (go_at_call 13; refine (awake_any _).mono ?_; rintro e wg ⟨rfl, hk7⟩)
        go_ret
        exact ⟨rfl, (H10.out.same hk7).one.below⟩

set_option maxRecDepth 100000 in
theorem lifted (os : Os) (started : os.Started) (H : Type) (enc : TypeId × Value → H) :
    ReturnsInHanded {} Try.checked os 9 .any (Rows.binaryApartSpec.pre6 enc Try.prog Try.f9 Rows.binaryApartRow.domain false) (Rows.binaryApartSpec.post enc Try.prog Try.f9 false true false false) := by
  refine returnsInHanded_of_change (C := Try.checked) own started (by kernel_rfl) Try.func9
    (ChangeSpec.witness6 (enc := enc) (C := Try.checked) false ⟨#[], #[.slice none 0 0, .slice none 0 0, .int .i64 0], []⟩ 8 (by kernel_rfl) (by kernel_rfl) (by kernel_rfl) (by kernel_rfl)) ?_
  intro W base args ds gs before hval0 hW hcnd _
  have hval : ∀ (j : Nat) t v, Try.f9.params[j]? = some t → args[j]? = some v → Value.okWide Try.prog W .any base t v := hval0
  have hW' := hW
  obtain ⟨p, q, hA0, hV, rfl, hfz, hnd⟩ := hW
  have hA : DataW.TrodAll enc Try.prog W 0 (fun _ => true) true Try.f9.params.toList args.toList ds p := hA0
  rw [Try.params9] at hA hval
  obtain ⟨v0, vs0, d0, ds0, p0, q0, hargs, rfl, rfl, h0, r0⟩ := trodAll_cons hA
  obtain ⟨v1, vs1, d1, ds1, p1, q1, rfl, rfl, rfl, h1, r1⟩ := trodAll_cons r0
  obtain ⟨v2, vs2, d2, ds2, p2, q2, rfl, rfl, rfl, h2, r2⟩ := trodAll_cons r1
  obtain ⟨rfl, rfl, rfl⟩ := trodAll_nil r2
  obtain rfl : args = #[v0, v1, v2] := by cases args; simp_all
  obtain ⟨rfl, rfl⟩ := trodVars_none hV
  obtain ⟨a0, len0, cap0, rfl⟩ := okWide_slice Try.underlying35 (hval 0 35 v0 rfl rfl)
  have k0 := h0
  have lt0 : ∀ x ∈ p0, x.block < W.heap.size := by obtain ⟨m, hm⟩ := k0; exact DataW.trod_lt m _ _ _ hm
  obtain ⟨z0, w0⟩ : ∃ zs : Nat → UInt8, BIn W a0 len0 cap0 zs := by
    obtain ⟨fuel, hf⟩ := h0
    rcases open_ints Try.underlying35 Try.underlying5 (by kernel_rfl) hf with ⟨hcs, _⟩ | ⟨x, l, c, zs, hcs, _, hl, hm, hz, _, hcell, hwz⟩
    · simp [Value.cells] at hcs
      obtain ⟨rfl, rfl, rfl⟩ := hcs
      exact ⟨fun _ => 0, bIn_nil _ _⟩
    · simp [Value.cells] at hcs
      obtain ⟨rfl, rfl, rfl⟩ := hcs
      exact ⟨_, bIn_of hl hm (by rw [hz]; split <;> omega) hcell hwz⟩
  obtain ⟨a1, len1, cap1, rfl⟩ := okWide_slice Try.underlying35 (hval 1 35 v1 rfl rfl)
  have k1 := h1
  have lt1 : ∀ x ∈ p1, x.block < W.heap.size := by obtain ⟨m, hm⟩ := k1; exact DataW.trod_lt m _ _ _ hm
  obtain ⟨z1, w1⟩ : ∃ zs : Nat → UInt8, BIn W a1 len1 cap1 zs := by
    obtain ⟨fuel, hf⟩ := h1
    rcases open_ints Try.underlying35 Try.underlying5 (by kernel_rfl) hf with ⟨hcs, _⟩ | ⟨x, l, c, zs, hcs, _, hl, hm, hz, _, hcell, hwz⟩
    · simp [Value.cells] at hcs
      obtain ⟨rfl, rfl, rfl⟩ := hcs
      exact ⟨fun _ => 0, bIn_nil _ _⟩
    · simp [Value.cells] at hcs
      obtain ⟨rfl, rfl, rfl⟩ := hcs
      exact ⟨_, bIn_of hl hm (by rw [hz]; split <;> omega) hcell hwz⟩
  obtain ⟨a2, rfl, rfl, rfl, w2⟩ := open_int Try.underlying3 (hval 2 3 v2 rfl rfl) h2
  clear hA0 hval0
  simp only [List.append_nil] at hW'
  refine (walk a0 len0 cap0 z0 a1 len1 cap1 z1 a2 W w0 w1 w2).mono fun e W' ⟨he, bel⟩ => ?_
  subst he
  exact ⟨_, rfl, _, _, _, [], _, [], hW', trodAll_mk1 (shut_bool Try.underlying4 _), (trodAll_cons_mk (Below.trod laidOut (by kernel_rfl) (of_decide_eq_true (by kernel_rfl)) k0 bel lt0) (trodAll_cons_mk (Below.trod laidOut (by kernel_rfl) (of_decide_eq_true (by kernel_rfl)) k1 bel lt1) (trodAll_cons_mk (shut_int Try.underlying3 w2) trodAll_mk0))), rfl, bel.frame _, fun h => by cases h⟩

theorem over : Rows.binaryApartRow.holds Try.pinned (OpenSpec.ofChange Rows.binaryApartSpec) :=
  OpenClaim.holds_of_wide 9 Try.f9 rfl rfl rfl rfl rfl rfl rfl ⟨rfl, rfl, rfl, rfl, rfl⟩ rfl rfl rfl rfl rfl (by kernel_rfl) Try.func9 (by kernel_rfl)
    (of_decide_eq_true (by kernel_rfl)) (by unfold Func.isWrapper; first | (rw [if_pos (by decide +kernel)]; kernel_rfl) | (rw [if_neg (by decide +kernel)]; exact ⟨rfl, rfl⟩))
    (fun os started H enc _ => lifted os started H enc)

theorem proved : Rows.BinaryApartSaid := over
#print axioms proved
end Go.Proofs.Ytbenkgpiddlcfaa.binaryApart
