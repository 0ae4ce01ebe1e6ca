/- A binary lives just as long as somebody holds it: as many drops as it was put and kept; from then on its handle is never good again: for every slice of bytes and any two numbers. -/
import Derived.Test.YtbenkgpiddlcfaaRows
import Derived.Test.YtbenkgpiddlcfaaLoose
import Derived.Test.YtbenkgpiddlcfaaHandles
import Derived.Test.YtbenkgpiddlcfaaPlace
import Derived.Deep.LoopGhost
import Derived.WalkKit
import Derived.ProofKit
import Derived.OpenShut
import Derived.ShutString
import Derived.ChangeOld
import Derived.Below
import Derived.Deep.Strs
namespace Go.Proofs.Ytbenkgpiddlcfaa.binaryCounts
open Go.ChangeShapes Go.WideShapes Go.ChangeAt Go.RowKit
open Go.ChangeMaps (open_string shut_string)
set_option linter.unusedVariables false

theorem own : ownKnob Try.prog.godebug = none := by kernel_rfl
theorem laidOut : laidOutB Try.prog = true := by kernel_rfl

/-- held c times; and behind the last Drop and so many rounds of Put and Drop -/
def cA (l : List UInt8) (c : Nat) : Bn := ⟨3, 100000, l.length, [⟨l, c, 0⟩], []⟩
def cB (j : Nat) : Bn := ⟨3, 100000, 1, [⟨[9], 1, j + 1⟩], []⟩
def cF (j : Nat) : Bn := ⟨3, 100000, 0, [⟨[], 0, j + 1⟩], [0]⟩
theorem cA_ok (l : List UInt8) (c : Nat) (hc : 0 < c) : FOk (cA l c) 0 0 ⟨l, c, 0⟩ := ⟨by omega, by decide, rfl, by simp, hc⟩
theorem cB_ok (j : Nat) : FOk (cB j) (4096 * ((j : Int) + 1)) 0 ⟨[9], 1, j + 1⟩ := ⟨by omega, by omega, rfl, by simp only; omega, by simp⟩
theorem cF_bad (j : Nat) : FBad (cF j) 0 4 := .inr ⟨rfl, by omega, 0, ⟨[], 0, j + 1⟩, by decide, rfl, .inl (by simp only; omega)⟩
theorem cF_gen (j : Nat) (hj : j ≤ 100) : ∀ (i : Nat) (s : Sl), (cF j).slots[i]? = some s → s.gen ≤ 1000000000000000 := by
  intro i s hs
  unfold cF at hs
  cases i with
  | zero => simp at hs; subst hs; simp only; omega
  | succ i => simp at hs

set_option maxHeartbeats 4000000 in
set_option maxRecDepth 100000 in
theorem walk (a0 : Option Addr) (len0 cap0 : Nat) (z0 : Nat → UInt8) (a1 a2 : Int) (w : World) (h0 : BIn w a0 len0 cap0 z0) (w1 : (Lit.int .i64 a1).wf = true) (w2 : (Lit.int .i64 a2).wf = true) :
    Calls Try.prog 4 #[.slice a0 len0 cap0, .int .i64 a1, .int .i64 a2] w fun e w' => e = .returned (.bool true) ∧ Below w.heap.size w w' := by
  obtain ⟨b1, b2⟩ := bounds_i64 w1
  obtain ⟨b3, b4⟩ := bounds_i64 w2
  clear w1 w2
  have hcap := h0.1
  have hcapm := h0.2.1
  obtain ⟨m, hm, hm1⟩ : ∃ m, m = min len0 5000 ∧ m ≤ 5000 := ⟨_, rfl, by omega⟩
  have hv := h0.at' (m := m) (c := cap0) (by omega) (by omega) (by omega)
  obtain ⟨l, hl, hl2⟩ : ∃ l, bl z0 m = l ∧ l.length = m := ⟨_, rfl, bl_len _ _⟩
  rw [hl] at hv
  obtain ⟨r, hr, hr2⟩ : ∃ r : Nat, a1 % 20 = r ∧ r < 20 := ⟨(a1 % 20).toNat, by omega, by omega⟩
  obtain ⟨t, ht, ht2⟩ : ∃ t : Nat, a2 % 5 = t ∧ t < 5 := ⟨(a2 % 5).toNat, by omega, by omega⟩
  have Hv := Lib.hid (And.intro hv (And.intro hl2 (And.intro hr ht)))
  clear hv h0 hl hl2 hr ht
  by_cases hbig : (5000 : Int) < len0
  all_goals first
    | (have hbc : (5000 : Int) ≤ cap0 := by omega
       have hm3 : 5000 = m := by omega
       have HL := Lib.hid hm3
       clear hm3 hm
       go_enter Try.func4, Try.ntmps4
       go_wp2_with fail
       rw [HL.out])
    | (have hbc : (m : Int) ≤ cap0 := by omega
       have hm3 : m = len0 := by omega
       clear hm
       subst hm3
       go_enter Try.func4, Try.ntmps4
       go_wp2_with fail)
  all_goals
    refine (new_ok 3 100000 (by omega) (by omega) (by omega) w).mono ?_
    rintro e wa ⟨rfl, hk1, hA1⟩
    have hS1 : Solo w wa w.heap.size 100 (aNew 3 100000) (fun q => q = w.heap.size) := ⟨hA1, inv_new 3 100000 (by omega) (by omega) (by omega) 100, fun q e => by omega, hk1⟩
    have Hva := Lib.hid (bytes_kp Hv.out.1 hk1 (fun _ _ e => e))
    have H1 := Lib.hid hS1
    clear hk1 hA1 hS1
    go_wp2_with fail
    refine (copyBytes_any Hva.out).mono ?_
    rintro e wb ⟨v1, rfl, hv1, hk2⟩
    obtain ⟨p1, c1, rfl⟩ := hv1.form' Hv.out.2.1
    have H2 := Lib.hid (And.intro (H1.out.same hk2) (And.intro hv1 (fun q (hq : Byt (Own wa.heap.size wb) wb q) (e : q = w.heap.size) => (by have := H1.out.at'.lt _ rfl; have := hq.1.1; omega : False))))
    clear hv1 hk2 H1 Hva
    go_wp2_with fail
    obtain ⟨ss, fs, ps, hB⟩ := H2.out.1.at'
    refine (put_first hB H2.out.1.inv (by omega) H2.out.2.1 H2.out.2.2 rfl (by simp [aNew]) (by have := Hv.out.2.1; simp [aNew]; omega)).mono ?_
    rintro e wc ⟨he, hgo⟩
    obtain rfl : e = .returned (.tuple #[.int .i64 0, .nilIface]) := he
    obtain ⟨F3, hS3⟩ := H2.out.1.step hgo (inv_push H2.out.1.inv (by omega) rfl (by simp [aNew]) (by have := Hv.out.2.1; simp [aNew]; omega))
    have hS3' : Solo w wc w.heap.size 100 (cA l 1) F3 := by
      have e1 : pushIn (aNew 3 100000) l = cA l 1 := by simp [pushIn, aNew, cA]
      rw [← e1]
      exact hS3
    have H3 := Lib.hid hS3'
    clear hB hgo hS3 hS3' H2
    go_wp2_with fail
    refine (place_any _ a1 20 b1 b2 (by omega) (by omega)).mono ?_
    rintro e w' ⟨rfl, rfl⟩
    rw [Hv.out.2.2.1]
    go_wp2_with fail
    go_loopg [11] r (fun gk i wr => ∃ (k : Nat) (F : Nat → Prop), k ≤ r ∧ gk = r - k ∧ i = Value.int .i64 k ∧ Solo w wr w.heap.size 100 (cA l (k + 1)) F)
    case atStart => exact ⟨0, _, by omega, rfl, rfl, H3.out⟩
    case round =>
      clear H3
      obtain ⟨k, F, hk, rfl, rfl, hS⟩ := hrel
      have H4 := Lib.hid hS
      clear hS
      by_cases hlt : k < r
      · have hli : (k : Int) < r := by omega
        go_wp2_with fail
        obtain ⟨ss, fs, ps, hB⟩ := H4.out.at'
        refine (keep_ok hB (by simp [cA]) (cA_ok l (k + 1) (by omega)) (by omega) (by simp only; omega)).mono ?_
        rintro e wd ⟨rfl, hgo⟩
        obtain ⟨F5, hS5⟩ := H4.out.step hgo (H4.out.inv.held (i := 0) (s := ⟨l, k + 1, 0⟩) rfl (by simp) (k + 1 + 1) (by omega) (M := 100) (by omega) (by omega))
        have H5 := Lib.hid (show Solo w wd w.heap.size 100 (cA l (k + 1 + 1)) F5 from hS5)
        clear hB hgo hS5 H4
        go_wp2_with fail
        go_roundg (r - (k + 1))
        case measure => omega
        case rel => exact ⟨k + 1, _, by omega, rfl, by go_num, H5.out⟩
      · obtain rfl : r = k := by omega
        go_wp2_with fail
        have H3 : Hid (∃ F, Solo w wr w.heap.size 100 (cA l (r + 1)) F) := Lib.hid ⟨_, H4.out⟩
        clear H4
        go_loopg [12] (r + 1) (fun gk i wr => ∃ (k : Nat) (A : Bn) (F : Nat → Prop), k ≤ r + 1 ∧ gk = r + 1 - k ∧ i = Value.int .i64 k ∧ (k < r + 1 → A = cA l (r + 1 - k)) ∧ (k = r + 1 → A = cF 0) ∧ Solo w wr w.heap.size 100 A F)
        case atStart =>
          obtain ⟨F, hF⟩ := H3.out
          exact ⟨0, _, _, by omega, rfl, rfl, fun _ => rfl, fun e => by omega, hF⟩
        case round =>
          clear H3
          obtain ⟨k, A, F, hk, rfl, rfl, hA1, hA2, hS⟩ := hrel
          by_cases hlt : k < r + 1
          · obtain rfl := hA1 hlt
            obtain ⟨c, hc, hc0, hc20⟩ : ∃ c, r + 1 - k = c ∧ 0 < c ∧ c ≤ 20 := ⟨_, rfl, by omega, by omega⟩
            rw [hc] at hS
            have hcr : (r : Int) + 1 - k = c := by omega
            have hli : (k : Int) ≤ r := by omega
            have H4 := Lib.hid (And.intro hS (And.intro hc hcr))
            clear hS hA1 hA2 hc hcr
            go_wp2_with fail
            obtain ⟨ss, fs, ps, hB⟩ := H4.out.1.at'
            refine (count_ok hB (by simp [cA]) (cA_ok l c hc0) (by omega)).mono ?_
            rintro e w' ⟨rfl, rfl⟩
            go_wp2_with fail
            refine (bytes_ok hB (by simp [cA]) (cA_ok l c hc0) (by omega)).mono ?_
            rintro e wd ⟨v2, rfl, hv2, hk5⟩
            obtain ⟨p2, c2, rfl⟩ := hv2.form' Hv.out.2.1
            have hS5 := H4.out.1.same hk5
            have H5 := Lib.hid hS5
            have q1 := conv_any hv2
            have q2 := conv_any (bytes_kp Hv.out.1 hS5.kp (fun _ _ e => e))
            have hcr := H4.out.2.2
            have g1 : ((c : Int) != (r : Int) + 1 - k) = false := by simp; omega
            clear hB hv2 hk5 hS5 hcr
            obtain ⟨ss, fs, ps, hB⟩ := H5.out.at'
            have hus : Calls Try.prog 27 #[.pointer (some ⟨w.heap.size, 0, none⟩)] wd fun e w' => e = .returned (.int .i64 m) ∧ wd = w' := by
              have := used_any hB
              rw [show ((cA l c).used : Int) = m by simp only [cA]; rw [Hv.out.2.1]] at this
              exact this
            have Hus := Lib.hid hus
            have HB := Lib.hid hB
            clear hus hB
            go_wp2_with (go_at_call 27; refine Hus.out.mono ?_; rintro e w' ⟨rfl, rfl⟩; refine Hid.out ?_)
            clear q1 q2 g1
            refine Lib.hid ?_
            go_wp2_with fail
            by_cases hc1 : c = 1
            · refine (drop_last HB.out (by simp [cA]) (by simp [cA]) (cA_ok l c hc0) (by omega) hc1 (by simp) (by simp [cA]) (by have := Hv.out.2.1; simp [cA]; omega)).mono ?_
              rintro e we ⟨rfl, hgo⟩
              obtain ⟨F6, hS6⟩ := H5.out.step hgo (H5.out.inv.drop (i := 0) (s := ⟨l, c, 0⟩) rfl hc0 (M := 100) (by simp only; omega) (by omega))
              have hS7 : Solo w we w.heap.size 100 (cF 0) F6 := by
                have e1 : ({ cA l c with used := (cA l c).used - (⟨l, c, 0⟩ : Sl).bs.length, slots := (cA l c).slots.set 0 ⟨[], 0, (⟨l, c, 0⟩ : Sl).gen + 1⟩, free := (cA l c).free ++ [0] } : Bn) = cF 0 := by simp [cA, cF]
                rw [← e1]
                exact hS6
              have hkr : k = r := by have := H4.out.2.1; omega
              have H7 := Lib.hid (And.intro hS7 hkr)
              clear hgo hS6 hS7 hkr hc1 H5 HB Hus H4
              go_wp2_with fail
              go_roundg (r + 1 - (k + 1))
              case measure => omega
              case rel => exact ⟨k + 1, _, _, by omega, rfl, by go_num, fun e => by have := H7.out.2; omega, fun _ => rfl, H7.out.1⟩
            · obtain ⟨d, hd⟩ : ∃ d, c = d + 1 := ⟨c - 1, by omega⟩
              refine (drop_more HB.out (by simp [cA]) (cA_ok l c hc0) (by omega) (c := d) hd (by omega) (by omega)).mono ?_
              rintro e we ⟨rfl, hgo⟩
              obtain ⟨F6, hS6⟩ := H5.out.step hgo (H5.out.inv.held (i := 0) (s := ⟨l, c, 0⟩) rfl hc0 d (by omega) (M := 100) (by omega) (by omega))
              have hkr : r + 1 - (k + 1) = d := by have := H4.out.2.1; omega
              have H7 := Lib.hid (And.intro (show Solo w we w.heap.size 100 (cA l d) F6 from hS6) (And.intro hkr hc1))
              have Hd := Lib.hid (And.intro hd H4.out.2.1)
              clear hgo hS6 hkr hc1 H5 HB Hus H4 hd
              go_wp2_with fail
              go_roundg (r + 1 - (k + 1))
              case measure => omega
              case rel => exact ⟨k + 1, _, _, by omega, rfl, by go_num, fun _ => by rw [H7.out.2.1], fun e => by have := Hd.out; have := H7.out.2.2; omega, H7.out.1⟩
          · obtain rfl : k = r + 1 := by omega
            obtain rfl := hA2 rfl
            have H4 := Lib.hid hS
            clear hS hA1 hA2
            have hli : ¬ (((r + 1 : Nat) : Int) ≤ r) := by omega
            go_wp2_with fail
            go_loopg [17] t (fun gk i wr => ∃ (k : Nat) (F : Nat → Prop), k ≤ t ∧ gk = t - k ∧ i = Value.int .i64 k ∧ Solo w wr w.heap.size 100 (cF k) F)
            case atStart => exact ⟨0, _, by omega, rfl, rfl, H4.out⟩
            case round =>
              clear H4
              obtain ⟨k, F, hk, rfl, rfl, hS⟩ := hrel
              have H4 := Lib.hid hS
              clear hS hli
              go_wp2_with fail
              refine (place_any _ a2 5 b3 b4 (by omega) (by omega)).mono ?_
              rintro e w' ⟨rfl, rfl⟩
              rw [Hv.out.2.2.2]
              by_cases hlt2 : k < t
              · have hli : (k : Int) < t := by omega
                have H5 := Lib.hid (And.intro (H4.out.same ((Kp.refl _ wr).alloc (.cells #[.int .u8 9] 5))) (fun q (e : q = wr.heap.size) (e' : F q) => (by have := H4.out.at'.lt _ e'; omega : False)))
                clear H4
                go_wp2_with fail
                obtain ⟨ss, fs, ps, hB⟩ := H5.out.1.at'
                refine (put_again (l := [9]) hB H5.out.1.inv (by omega) (bytes_lit (g := wr.heap.size) (heap_alloc_new wr _) (by simp) (by simp)) H5.out.2 (rest := []) (i := 0) (s := ⟨[], 0, k + 1⟩) rfl rfl (by simp [cF])).mono ?_
                rintro e we ⟨he, hgo⟩
                obtain rfl : e = .returned (.tuple #[.int .i64 (4096 * ((k : Int) + 1)), .nilIface]) := by rw [he]; simp
                obtain ⟨F6, hS6⟩ := H5.out.1.step hgo (inv_back (l := [9]) H5.out.1.inv (by omega) (by omega) (rest := []) (i := 0) (s := ⟨[], 0, k + 1⟩) rfl rfl (by simp [cF]))
                have H6 := Lib.hid (show Solo w we w.heap.size 100 (cB k) F6 from hS6)
                have g1 : (4096 * ((k : Int) + 1) == 0) = false := by simp; omega
                clear he hgo hS6 H5 hB
                go_wp2_with fail
                clear g1
                obtain ⟨ss, fs, ps, hB⟩ := H6.out.at'
                refine (drop_last hB (by simp [cB]) (by simp [cB]) (cB_ok k) (by omega) rfl (by simp only; omega) (by simp [cB]) (by simp [cB])).mono ?_
                rintro e wf ⟨rfl, hgo⟩
                obtain ⟨F7, hS7⟩ := H6.out.step hgo (H6.out.inv.drop (i := 0) (s := ⟨[9], 1, k + 1⟩) rfl (by simp) (M := 100) (by simp only; omega) (by omega))
                have H7 := Lib.hid (show Solo w wf w.heap.size 100 (cF (k + 1)) F7 from hS7)
                clear hgo hS7 H6 hB
                go_wp2_with fail
                go_roundg (t - (k + 1))
                case measure => omega
                case rel => exact ⟨k + 1, _, by omega, rfl, by go_num, H7.out⟩
              · obtain rfl : t = k := by omega
                go_wp2_with fail
                obtain ⟨ss, fs, ps, hB⟩ := H4.out.at'
                refine (bytes_bad hB (by simp [cF]) 0 4 (by omega) (by omega) (cF_bad t)).mono ?_
                rintro e we ⟨v, rfl, hch, hk5⟩
                obtain ⟨gv, rfl⟩ := hch.out.form
                have H5 := Lib.hid (H4.out.same hk5)
                clear hB hch hk5 H4
                go_wp2_with fail
                obtain ⟨ss, fs, ps, hB⟩ := H5.out.at'
                refine (keep_bad hB (by simp [cF]) 0 4 (by omega) (by omega) (cF_bad t)).mono ?_
                rintro e wf ⟨v, rfl, hch, hk5⟩
                obtain ⟨gv2, rfl⟩ := hch.out.form
                have H6 := Lib.hid (H5.out.same hk5)
                clear hB hch hk5 H5
                go_wp2_with fail
                obtain ⟨ss, fs, ps, hB⟩ := H6.out.at'
                refine (drop_bad hB (by simp [cF]) 0 4 (by omega) (by omega) (cF_bad t)).mono ?_
                rintro e wg ⟨v, rfl, hch, hk5⟩
                obtain ⟨gv3, rfl⟩ := hch.out.form
                have H7 := Lib.hid (H6.out.same hk5)
                clear hB hch hk5 H6
                go_wp2_with fail
                obtain ⟨ss, fs, ps, hB⟩ := H7.out.at'
                refine (used_any hB).mono ?_
                rintro e w' ⟨he, rfl⟩
                obtain rfl : e = .returned (.int .i64 0) := he
                go_wp2_with fail
                refine (handles_any hB (by simp [cF]) (cF_gen t (by omega))).mono ?_
                rintro e wh ⟨v, rfl, hrow, hk5⟩
                have hh : (cF t).held = [] := by simp [Bn.held, cF, heldN]
                rw [hh] at hrow
                obtain ⟨po, cp, rfl⟩ := slice_form hrow
                have H8 := Lib.hid (H7.out.same hk5)
                clear hB hrow hk5 H7 hh
                go_wp2_with (go_at_call 13; refine (awake_any _).mono ?_; rintro e wg ⟨rfl, hk7⟩)
                go_ret
                exact ⟨rfl, (H8.out.same hk7).below⟩

set_option maxRecDepth 100000 in
theorem lifted (os : Os) (started : os.Started) (H : Type) (enc : TypeId × Value → H) :
    ReturnsInHanded {} Try.checked os 4 .any (Rows.binaryCountsSpec.pre6 enc Try.prog Try.f4 Rows.binaryCountsRow.domain false) (Rows.binaryCountsSpec.post enc Try.prog Try.f4 false true false false) := by
  refine returnsInHanded_of_change (C := Try.checked) own started (by kernel_rfl) Try.func4
    (ChangeSpec.witness6 (enc := enc) (C := Try.checked) false ⟨#[], #[.slice none 0 0, .int .i64 0, .int .i64 0], []⟩ 8 (by kernel_rfl) (by kernel_rfl) (by kernel_rfl) (by kernel_rfl)) ?_
  intro W base args ds gs before hval0 hW hcnd _
  have hval : ∀ (j : Nat) t v, Try.f4.params[j]? = some t → args[j]? = some v → Value.okWide Try.prog W .any base t v := hval0
  have hW' := hW
  obtain ⟨p, q, hA0, hV, rfl, hfz, hnd⟩ := hW
  have hA : DataW.TrodAll enc Try.prog W 0 (fun _ => true) true Try.f4.params.toList args.toList ds p := hA0
  rw [Try.params4] at hA hval
  obtain ⟨v0, vs0, d0, ds0, p0, q0, hargs, rfl, rfl, h0, r0⟩ := trodAll_cons hA
  obtain ⟨v1, vs1, d1, ds1, p1, q1, rfl, rfl, rfl, h1, r1⟩ := trodAll_cons r0
  obtain ⟨v2, vs2, d2, ds2, p2, q2, rfl, rfl, rfl, h2, r2⟩ := trodAll_cons r1
  obtain ⟨rfl, rfl, rfl⟩ := trodAll_nil r2
  obtain rfl : args = #[v0, v1, v2] := by cases args; simp_all
  obtain ⟨rfl, rfl⟩ := trodVars_none hV
  obtain ⟨a0, len0, cap0, rfl⟩ := okWide_slice Try.underlying35 (hval 0 35 v0 rfl rfl)
  have k0 := h0
  have lt0 : ∀ x ∈ p0, x.block < W.heap.size := by obtain ⟨m, hm⟩ := k0; exact DataW.trod_lt m _ _ _ hm
  obtain ⟨z0, w0⟩ : ∃ zs : Nat → UInt8, BIn W a0 len0 cap0 zs := by
    obtain ⟨fuel, hf⟩ := h0
    rcases open_ints Try.underlying35 Try.underlying5 (by kernel_rfl) hf with ⟨hcs, _⟩ | ⟨x, l, c, zs, hcs, _, hl, hm, hz, _, hcell, hwz⟩
    · simp [Value.cells] at hcs
      obtain ⟨rfl, rfl, rfl⟩ := hcs
      exact ⟨fun _ => 0, bIn_nil _ _⟩
    · simp [Value.cells] at hcs
      obtain ⟨rfl, rfl, rfl⟩ := hcs
      exact ⟨_, bIn_of hl hm (by rw [hz]; split <;> omega) hcell hwz⟩
  obtain ⟨a1, rfl, rfl, rfl, w1⟩ := open_int Try.underlying3 (hval 1 3 v1 rfl rfl) h1
  obtain ⟨a2, rfl, rfl, rfl, w2⟩ := open_int Try.underlying3 (hval 2 3 v2 rfl rfl) h2
  clear hA0 hval0
  simp only [List.append_nil] at hW'
  refine (walk a0 len0 cap0 z0 a1 a2 W w0 w1 w2).mono fun e W' ⟨he, bel⟩ => ?_
  subst he
  exact ⟨_, rfl, _, _, _, [], _, [], hW', trodAll_mk1 (shut_bool Try.underlying4 _), (trodAll_cons_mk (Below.trod laidOut (by kernel_rfl) (of_decide_eq_true (by kernel_rfl)) k0 bel lt0) (trodAll_cons_mk (shut_int Try.underlying3 w1) (trodAll_cons_mk (shut_int Try.underlying3 w2) trodAll_mk0))), rfl, bel.frame _, fun h => by cases h⟩

theorem over : Rows.binaryCountsRow.holds Try.pinned (OpenSpec.ofChange Rows.binaryCountsSpec) :=
  OpenClaim.holds_of_wide 4 Try.f4 rfl rfl rfl rfl rfl rfl rfl ⟨rfl, rfl, rfl, rfl, rfl⟩ rfl rfl rfl rfl rfl (by kernel_rfl) Try.func4 (by kernel_rfl)
    (of_decide_eq_true (by kernel_rfl)) (by unfold Func.isWrapper; first | (rw [if_pos (by decide +kernel)]; kernel_rfl) | (rw [if_neg (by decide +kernel)]; exact ⟨rfl, rfl⟩))
    (fun os started H enc _ => lifted os started H enc)

theorem proved : Rows.BinaryCountsSaid := over
#print axioms proved
end Go.Proofs.Ytbenkgpiddlcfaa.binaryCounts
