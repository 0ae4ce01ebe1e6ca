/- any script: the wheel answers as a plain list of timers does -/
import Derived.Test.YtmekhijmghddiaaRows
import Derived.Test.YtmekhijmghddiaaWhSim
import Derived.Test.YtmekhijmghddiaaWhIn
import Derived.WalkKit
import Derived.ProofKit
import Derived.OpenShut
import Derived.ShutString
import Derived.ChangeOld
import Derived.Below
import Derived.Deep.Strs
namespace Go.Proofs.Ytmekhijmghddiaa.wheelPlays
open Go.ChangeShapes Go.WideShapes Go.ChangeAt Go.RowKit
open Go.ChangeMaps (open_string shut_string)
set_option linter.unusedVariables false

theorem own : ownKnob Try.prog.godebug = none := by kernel_rfl
theorem laidOut : laidOutB Try.prog = true := by kernel_rfl

theorem tk_le {now i : Nat} (h : now ≤ i * 1048576) : now ≤ (i + 1) * 1048576 := Nat.le_trans h (Nat.mul_le_mul_right _ (Nat.le_succ i))
theorem tk_add {now i t : Nat} (h : now ≤ i * 1048576) (ht : t ≤ 1048576) : now + t ≤ (i + 1) * 1048576 := by rw [Nat.succ_mul]; exact Nat.add_le_add h ht
theorem lop_cells {w : World} {X : Nat} {k n id x : Int} {T : TypeId} (h : w.heap[X]? = some (.cells #[.int .i64 k, .int .i64 n, .int .i64 id, .int .i64 x] T (0, 0))) :
    w.cell? ⟨X, 0, none⟩ = some (.int .i64 k) ∧ w.cell? ⟨X, 1, none⟩ = some (.int .i64 n) ∧ w.cell? ⟨X, 2, none⟩ = some (.int .i64 id) ∧ w.cell? ⟨X, 3, none⟩ = some (.int .i64 x) := by
  refine ⟨?_, ?_, ?_, ?_⟩ <;> (rw [cell_of_row w X _ _ _ _ h]; rfl)
set_option maxRecDepth 100000 in
set_option maxHeartbeats 40000000 in
theorem walk (a0 : Int) (a1 : Option Addr) (len1 cap1 : Nat) (w : World) (wf0 : (Lit.int .i64 a0).wf = true) (wf1 : LopsIn w a1 len1 cap1) :
    Calls Try.prog 3 #[.int .i64 a0, .slice a1 len1 cap1] w fun e w' => e = .returned (.bool true) ∧ Below w.heap.size w w' := by
  obtain ⟨hb1, hb2⟩ := bounds_i64 wf0
  have hcap : len1 ≤ cap1 ∧ cap1 ≤ 9223372036854775807 := by
    have h1 := wf1.1
    have h2 := wf1.2.1
    unfold maxLen at h2
    exact ⟨h1, by omega⟩
  have HI := Lib.hid wf1
  clear wf0 wf1
  by_cases hbad : a0 < 1 ∨ 4096 < a0
  · have HE := Lib.hid (new_bad w a0 hbad)
    have HB := Lib.hid hbad
    clear hbad
    go_enter Try.func3, Try.ntmps3
    go_wp2_with fail
    refine HE.out.mono ?_
    rintro e wa ⟨v1, rfl, hch, hka⟩
    have HX := Lib.hid (xnew_bad a0 wa HB.out)
    have H1 := Lib.hid (And.intro hch hka)
    clear hch hka HE
    go_wp2_with fail
    refine HX.out.mono ?_
    rintro e wb ⟨v2, rfl, hx, hkb⟩
    have H2 := Lib.hid (And.intro hx hkb)
    clear hx hkb HX
    go_wp2_with fail
    refine (ref_any _ _ _ wb (by simp) (Chain.kp H2.out.2 _ _ H1.out.1.out) H2.out.1).mono ?_
    rintro e wc ⟨rfl, hkc⟩
    have H3 := Lib.hid hkc
    clear hkc
    go_wp2_with fail
    refine (whAwake_any wc).mono ?_
    rintro e wd ⟨rfl, hkd⟩
    have H4 := Lib.hid hkd
    clear hkd
    go_wp2_with fail
    go_ret
    exact ⟨rfl, (((H1.out.2.trans' H2.out.2).trans' H3.out).trans' H4.out).below _ (Nat.le_refl _) (fun _ e => e.elim)⟩
  · obtain ⟨most, rfl⟩ : ∃ most : Nat, a0 = most := ⟨a0.toNat, by omega⟩
    have hm1 : 1 ≤ most := by omega
    have hm2 : most ≤ 4096 := by omega
    have HN := Lib.hid (g_new w most hm1 hm2)
    have HM := Lib.hid (And.intro hm1 hm2)
    clear hbad hb1 hb2
    go_enter Try.func3, Try.ntmps3
    go_wp2_with fail
    refine HN.out.mono ?_
    rintro e wa ⟨b1, rfl, hW, hka⟩
    have HX := Lib.hid (xnew_ok most hm1 hm2 wa)
    have H1 := Lib.hid (And.intro hW hka)
    clear hW hka HN hm1 hm2
    go_wp2_with fail
    refine HX.out.mono ?_
    rintro e wb ⟨rfl, hkb, hR⟩
    obtain ⟨b2, hb2⟩ : ∃ b2, wa.heap.size = b2 := ⟨_, rfl⟩
    have hP := ps_new w most (Kp.refl _ w |>.trans' H1.out.2) H1.out.1 (fun q hq => hq.1) hkb hR (fun q hq => by omega)
    rw [hb2] at hP ⊢
    have HP := Lib.hid hP
    clear hkb hR HX H1 hP hb2
    go_wp2_with fail
    refine (ref_any [] _ _ _ (by simp) rfl rfl).mono ?_
    rintro e wc ⟨rfl, hkc⟩
    have HP2 := Lib.hid (HP.out.same hkc)
    have HP1 := Lib.hid True.intro
    clear hkc HP
    go_wp2_with fail
    clear HP1
    go_loopg [9, 10, 11, 12, 13, 14, 15, 16, 17, 18, 19, 20, 21, 22, 23, 24, 25, 26, 27, 28] len1 (fun gk s9 s10 s11 s12 s13 s14 s15 s16 s17 s18 s19 s20 s21 s22 s23 s24 s25 s26 s27 s28 wr => ∃ (i now fresh : Nat) (ts : List Tm), i ≤ len1 ∧ i ≤ 3000 ∧ gk = len1 - i ∧ s9 = .int .i64 (i : Nat) ∧ ts.length ≤ most ∧ now ≤ i * 1048576 ∧ fresh ≤ i ∧ PSr w (fun _ => False) wr b1 b2 most now fresh ts now fresh ts)
    case atStart => exact ⟨0, 0, 0, [], Nat.zero_le _, Nat.zero_le _, rfl, rfl, Nat.zero_le _, Nat.zero_le _, Nat.zero_le _, HP2.out⟩
    case round =>
      obtain ⟨i, now, fresh, ts, hi, hi3, rfl, rfl, htl, hnow, hfr, hP⟩ := hrel
      clear HP2
      by_cases hlt : i < len1 ∧ i < 3000
      · obtain ⟨hl1, hl2⟩ := hlt
        have hli : (i : Int) < len1 := by omega
        have hl3 : (i : Int) < 3000 := by omega
        have hkw := hP.kp0
        obtain ⟨xs, xo, rfl, hxl, k, n, id, x, kw, nw, idw, xw, c0, c1, c2, c3⟩ := HI.out.2.2 i hl1
        obtain ⟨k1, k2⟩ := bounds_i64 kw
        obtain ⟨n1, n2⟩ := bounds_i64 nw
        have d0 := (hkw.cell (p := ⟨xs, xo + i * 4, none⟩) hxl (fun e => e)).trans c0
        have d1 := (hkw.cell (p := ⟨xs, xo + i * 4 + 1, none⟩) hxl (fun e => e)).trans c1
        have d2 := (hkw.cell (p := ⟨xs, xo + i * 4 + 2, none⟩) hxl (fun e => e)).trans c2
        have d3 := (hkw.cell (p := ⟨xs, xo + i * 4 + 3, none⟩) hxl (fun e => e)).trans c3
        obtain ⟨X, hXe⟩ : ∃ X, wr.heap.size = X := ⟨_, rfl⟩
        obtain ⟨w1, hw1⟩ : ∃ w1, wr.alloc (.cells #[.int .i64 k, .int .i64 n, .int .i64 id, .int .i64 x] 35) = w1 := ⟨_, rfl⟩
        have hk1 : Kp (fun _ => False) wr w1 := by rw [← hw1]; exact (Kp.refl _ wr).alloc _
        have hx0 : w1.heap[wr.heap.size]? = some (.cells #[.int .i64 k, .int .i64 n, .int .i64 id, .int .i64 x] 35 (0, 0)) := by rw [← hw1]; exact heap_alloc_new wr _
        have hx1 := hx0
        rw [hXe] at hx1
        have hP1 : PSr w (fun q => q = X) w1 b1 b2 most now fresh ts now fresh ts := hP.put hk1 (fun q e => .inr ⟨by omega, by have := (Array.getElem?_eq_some_iff.1 hx1).1; omega⟩)
        have HX := Lib.hid hx1
        have HP := Lib.hid hP1
        have HW := Lib.hid (show _ ∧ _ ∧ _ from ⟨htl, hnow, hfr⟩)
        have HD := Lib.hid idw
        obtain ⟨q, hq, hq5⟩ : ∃ q : Nat, k % 5 = q ∧ q < 5 := ⟨(k % 5).toNat, by omega, by omega⟩
        have HQ := Lib.hid hq
        obtain ⟨e0, e1, e2, e3⟩ := lop_cells hx0
        clear hx0 hP hkw c0 c1 c2 c3 kw nw xw hk1 hx1 hP1 hq htl hnow hfr idw
        have HXE := Lib.hid hXe
        clear hXe
        go_wp2_with fail
        rw [HXE.out] at e0 e1 e2 e3 ⊢
        clear d0 d1 d2 d3 hw1
        refine (place_any _ k 5 k1 k2 (by omega) (by omega)).mono ?_
        rintro e w' ⟨rfl, rfl⟩
        rw [HQ.out]
        have hq5' : q = 0 ∨ q = 1 ∨ q = 2 ∨ q = 3 ∨ q = 4 := by omega
        rcases hq5' with rfl | rfl | rfl | rfl | rfl
        · as_aux_lemma =>
          by_cases hb : n < 0 ∨ 1073741824 < n
          · have HBD := Lib.hid hb
            clear hb
            have HE := Lib.hid (g_start_bad (w := w1) b1 n x HBD.out)
            go_wp2_with fail
            refine HE.out.mono ?_
            rintro e wa ⟨v1, rfl, hch, hka⟩
            have HPa := Lib.hid (HP.out.same hka)
            have hxa := (hka.block X (Array.getElem?_eq_some_iff.1 HX.out).1 (fun e => e)).trans HX.out
            have H1 := Lib.hid (show _ ∧ _ from ⟨hch, hxa⟩)
            have HF := Lib.hid (xstart_bad wa b2 n x HBD.out)
            obtain ⟨f0, f1, f2, f3⟩ := lop_cells hxa
            clear hch hka hxa HE e0 e1 e2 e3
            go_wp2_with fail
            refine HF.out.mono ?_
            rintro e wb ⟨v2, rfl, hx, hkb⟩
            have HPb := Lib.hid (HPa.out.same hkb)
            have H2 := Lib.hid (And.intro hx hkb)
            clear hx hkb HF f0 f1 f2 f3
            go_wp2_with fail
            refine (ref_any _ _ _ wb (by simp) (Chain.kp H2.out.2 _ _ H1.out.1.out) H2.out.1).mono ?_
            rintro e wc ⟨rfl, hkc⟩
            have HPc := Lib.hid (HPb.out.same hkc)
            clear hkc HPb
            go_wp2_with fail
            have hNow := Lib.hid (fun k => (p1_now (HPc.out.same (kp_drewN (Kp.refl _ _) k))).mono fun _ _ e => And.intro e.1 e.2.symm)
            have hLen := Lib.hid (fun k => (p1_len (HPc.out.same (kp_drewN (Kp.refl _ _) k))).mono fun _ _ e => And.intro e.1 e.2.symm)
            obtain ⟨y1, py, cy, y3⟩ := p2_cells HPc.out
            go_quiet (first | (go_at_call 25; exact Calls.quiet_of_same (hNow.out _)) | (go_at_call 26; exact Calls.quiet_of_same (hLen.out _)))
            go_wp2_with fail
            go_roundg (len1 - (i + 1))
            case measure => omega
            case rel =>
              obtain ⟨htl, hnow, hfr⟩ := HW.out
              refine ⟨i + 1, now, fresh, ts, by omega, by omega, rfl, by go_num, ?_, ?_, ?_, HPc.out.put (kp_drewN (Kp.refl _ _) _) (fun q e => e.elim)⟩
              · exact htl
              · exact tk_le hnow
              · exact Nat.le_succ_of_le hfr
          · obtain ⟨m, rfl⟩ : ∃ m : Nat, n = m := ⟨n.toNat, by omega⟩
            have hm : m ≤ 1073741824 := by omega
            by_cases hf : ts.length = most
            · have HFU := Lib.hid (show _ ∧ _ ∧ _ from ⟨hf, (by omega : (0 : Int) ≤ (m : Int)), (by omega : (m : Int) ≤ 1073741824)⟩)
              clear hb hf hm
              have HE := Lib.hid (p1_full HP.out m x HFU.out.2.1 HFU.out.2.2 HFU.out.1)
              go_wp2_with fail
              refine HE.out.mono ?_
              rintro e wa ⟨v1, rfl, hch, hka⟩
              have HPa := Lib.hid (HP.out.same hka)
              have hxa := (hka.block X (Array.getElem?_eq_some_iff.1 HX.out).1 (fun e => e)).trans HX.out
              have H1 := Lib.hid (show _ ∧ _ from ⟨hch, hxa⟩)
              have HF := Lib.hid (p2_full HPa.out m x HFU.out.2.1 HFU.out.2.2 HFU.out.1)
              obtain ⟨f0, f1, f2, f3⟩ := lop_cells hxa
              clear hch hka hxa HE e0 e1 e2 e3
              go_wp2_with fail
              refine HF.out.mono ?_
              rintro e wb ⟨v2, rfl, hx, hkb⟩
              have HPb := Lib.hid (HPa.out.same hkb)
              have H2 := Lib.hid (And.intro hx hkb)
              clear hx hkb HF f0 f1 f2 f3
              go_wp2_with fail
              refine (ref_any _ _ _ wb (by simp) (Chain.kp H2.out.2 _ _ H1.out.1.out) H2.out.1).mono ?_
              rintro e wc ⟨rfl, hkc⟩
              have HPc := Lib.hid (HPb.out.same hkc)
              clear hkc HPb
              go_wp2_with fail
              have hNow := Lib.hid (fun k => (p1_now (HPc.out.same (kp_drewN (Kp.refl _ _) k))).mono fun _ _ e => And.intro e.1 e.2.symm)
              have hLen := Lib.hid (fun k => (p1_len (HPc.out.same (kp_drewN (Kp.refl _ _) k))).mono fun _ _ e => And.intro e.1 e.2.symm)
              obtain ⟨y1, py, cy, y3⟩ := p2_cells HPc.out
              go_quiet (first | (go_at_call 25; exact Calls.quiet_of_same (hNow.out _)) | (go_at_call 26; exact Calls.quiet_of_same (hLen.out _)))
              go_wp2_with fail
              go_roundg (len1 - (i + 1))
              case measure => omega
              case rel =>
                obtain ⟨htl, hnow, hfr⟩ := HW.out
                refine ⟨i + 1, now, fresh, ts, by omega, by omega, rfl, by go_num, ?_, ?_, ?_, HPc.out.put (kp_drewN (Kp.refl _ _) _) (fun q e => e.elim)⟩
                · exact htl
                · exact tk_le hnow
                · exact Nat.le_succ_of_le hfr
            · have hB : m ≤ 1073741824 ∧ now + 1073741824 ≤ 2305843009213693952 ∧ fresh + 1 ≤ 4611686018427387904 ∧ ts.length < most ∧ most ≤ 4096 := by
                have := HW.out
                have := HM.out
                have : i * 1048576 ≤ 3000 * 1048576 := Nat.mul_le_mul_right _ hi3
                omega
              have HB := Lib.hid hB
              have HE := Lib.hid (p1_start HP.out m x hB.1 hB.2.1 hB.2.2.1 hB.2.2.2.1 hB.2.2.2.2)
              clear hB hb hf hm
              go_wp2_with fail
              refine HE.out.mono ?_
              rintro e wa ⟨rfl, t, ht, hPa, hka⟩
              have HPa := Lib.hid hPa
              have hxa := (hka.block X (Array.getElem?_eq_some_iff.1 HX.out).1 (fun e => e rfl)).trans HX.out
              have HF := Lib.hid (p2_start hPa m x HB.out.1 HB.out.2.1 HB.out.2.2.1 HB.out.2.2.2.1 HB.out.2.2.2.2 t ht)
              obtain ⟨f0, f1, f2, f3⟩ := lop_cells hxa
              clear hPa hka hxa HE e0 e1 e2 e3 ht
              go_wp2_with fail
              refine HF.out.mono ?_
              rintro e wb ⟨rfl, hPb, hkb⟩
              have HPb := Lib.hid hPb
              clear hPb hkb HF f0 f1 f2 f3
              go_wp2_with fail
              refine (ref_any [] _ _ _ (by simp) rfl rfl).mono ?_
              rintro e wc ⟨rfl, hkc⟩
              have HPc := Lib.hid (HPb.out.same hkc)
              clear hkc HPb
              go_wp2_with fail
              have hNow := Lib.hid (fun k => (p1_now (HPc.out.same (kp_drewN (Kp.refl _ _) k))).mono fun _ _ e => And.intro e.1 e.2.symm)
              have hLen := Lib.hid (fun k => (p1_len (HPc.out.same (kp_drewN (Kp.refl _ _) k))).mono fun _ _ e => And.intro e.1 e.2.symm)
              obtain ⟨y1, py, cy, y3⟩ := p2_cells HPc.out
              go_quiet (first | (go_at_call 25; exact Calls.quiet_of_same (hNow.out _)) | (go_at_call 26; exact Calls.quiet_of_same (hLen.out _)))
              go_wp2_with fail
              go_roundg (len1 - (i + 1))
              case measure => omega
              case rel =>
                obtain ⟨htl, hnow, hfr⟩ := HW.out
                refine ⟨i + 1, now, (fresh + 1), (ts ++ [t]), by omega, by omega, rfl, by go_num, ?_, ?_, ?_, HPc.out.put (kp_drewN (Kp.refl _ _) _) (fun q e => e.elim)⟩
                · have h9 := HB.out.2.2.2.1
                  rw [List.length_append]
                  exact h9
                · exact tk_le hnow
                · exact Nat.succ_le_succ hfr
        · as_aux_lemma =>
          have HL4 := Lib.hid (show ts.length ≤ 4096 from by have := HW.out.1; have := HM.out.2; omega)
          cases htm : tmOf ts id with
          | none =>
            have HTM := Lib.hid htm
            clear htm
            have HE := Lib.hid (p1_cancel_none HP.out HD.out HTM.out)
            go_wp2_with fail
            refine HE.out.mono ?_
            rintro e wa ⟨v1, rfl, hch, hka⟩
            have HPa := Lib.hid (HP.out.same hka)
            have hxa := (hka.block X (Array.getElem?_eq_some_iff.1 HX.out).1 (fun e => e)).trans HX.out
            have H1 := Lib.hid (show _ ∧ _ from ⟨hch, hxa⟩)
            have HF := Lib.hid (p2_cancel_none HPa.out HPa.out.ok HL4.out HTM.out)
            obtain ⟨f0, f1, f2, f3⟩ := lop_cells hxa
            clear hch hka hxa HE e0 e1 e2 e3
            go_wp2_with fail
            refine HF.out.mono ?_
            rintro e wb ⟨v2, rfl, hx, hkb⟩
            have HPb := Lib.hid (HPa.out.same hkb)
            have H2 := Lib.hid (And.intro hx hkb)
            clear hx hkb HF f0 f1 f2 f3
            go_wp2_with fail
            refine (ref_any _ _ _ wb (by simp) (Chain.kp H2.out.2 _ _ H1.out.1.out) H2.out.1).mono ?_
            rintro e wc ⟨rfl, hkc⟩
            have HPc := Lib.hid (HPb.out.same hkc)
            clear hkc HPb
            go_wp2_with fail
            have hNow := Lib.hid (fun k => (p1_now (HPc.out.same (kp_drewN (Kp.refl _ _) k))).mono fun _ _ e => And.intro e.1 e.2.symm)
            have hLen := Lib.hid (fun k => (p1_len (HPc.out.same (kp_drewN (Kp.refl _ _) k))).mono fun _ _ e => And.intro e.1 e.2.symm)
            obtain ⟨y1, py, cy, y3⟩ := p2_cells HPc.out
            go_quiet (first | (go_at_call 25; exact Calls.quiet_of_same (hNow.out _)) | (go_at_call 26; exact Calls.quiet_of_same (hLen.out _)))
            go_wp2_with fail
            go_roundg (len1 - (i + 1))
            case measure => omega
            case rel =>
              obtain ⟨htl, hnow, hfr⟩ := HW.out
              refine ⟨i + 1, now, fresh, ts, by omega, by omega, rfl, by go_num, ?_, ?_, ?_, HPc.out.put (kp_drewN (Kp.refl _ _) _) (fun q e => e.elim)⟩
              · exact htl
              · exact tk_le hnow
              · exact Nat.le_succ_of_le hfr
          | some t =>
            have HTM := Lib.hid htm
            clear htm
            have HE := Lib.hid (p1_cancel HP.out HD.out HTM.out)
            go_wp2_with fail
            refine HE.out.mono ?_
            rintro e wa ⟨rfl, hPa, hka⟩
            have HPa := Lib.hid hPa
            have hxa := (hka.block X (Array.getElem?_eq_some_iff.1 HX.out).1 (fun e => e rfl)).trans HX.out
            have HF := Lib.hid (p2_cancel hPa HP.out.ok HL4.out HTM.out)
            obtain ⟨f0, f1, f2, f3⟩ := lop_cells hxa
            clear hPa hka hxa HE e0 e1 e2 e3
            go_wp2_with fail
            refine HF.out.mono ?_
            rintro e wb ⟨rfl, hPb, hkb⟩
            have HPb := Lib.hid hPb
            clear hPb hkb HF f0 f1 f2 f3
            go_wp2_with fail
            refine (ref_any [] _ _ _ (by simp) rfl rfl).mono ?_
            rintro e wc ⟨rfl, hkc⟩
            have HPc := Lib.hid (HPb.out.same hkc)
            clear hkc HPb
            go_wp2_with fail
            have hNow := Lib.hid (fun k => (p1_now (HPc.out.same (kp_drewN (Kp.refl _ _) k))).mono fun _ _ e => And.intro e.1 e.2.symm)
            have hLen := Lib.hid (fun k => (p1_len (HPc.out.same (kp_drewN (Kp.refl _ _) k))).mono fun _ _ e => And.intro e.1 e.2.symm)
            obtain ⟨y1, py, cy, y3⟩ := p2_cells HPc.out
            go_quiet (first | (go_at_call 25; exact Calls.quiet_of_same (hNow.out _)) | (go_at_call 26; exact Calls.quiet_of_same (hLen.out _)))
            go_wp2_with fail
            go_roundg (len1 - (i + 1))
            case measure => omega
            case rel =>
              obtain ⟨htl, hnow, hfr⟩ := HW.out
              refine ⟨i + 1, now, fresh, (without ts id), by omega, by omega, rfl, by go_num, ?_, ?_, ?_, HPc.out.put (kp_drewN (Kp.refl _ _) _) (fun q e => e.elim)⟩
              · exact Nat.le_trans (List.length_filter_le _ _) htl
              · exact tk_le hnow
              · exact Nat.le_succ_of_le hfr
        · as_aux_lemma =>
          cases htm : tmOf ts id with
          | none =>
            have HTM := Lib.hid htm
            clear htm
            have HE := Lib.hid (p1_left_none HP.out HD.out HTM.out)
            go_wp2_with fail
            refine HE.out.mono ?_
            rintro e wa ⟨v1, rfl, hch, hka⟩
            have HPa := Lib.hid (HP.out.same hka)
            have hxa := (hka.block X (Array.getElem?_eq_some_iff.1 HX.out).1 (fun e => e)).trans HX.out
            have H1 := Lib.hid (show _ ∧ _ from ⟨hch, hxa⟩)
            have HF := Lib.hid (p2_get HPa.out ⟨#[108, 101, 102, 116]⟩ id)
            obtain ⟨f0, f1, f2, f3⟩ := lop_cells hxa
            clear hch hka hxa HE e0 e1 e2 e3
            go_wp2_with fail
            refine HF.out.mono ?_
            rintro e wb (⟨t, ht, -⟩ | ⟨-, v2, rfl, hx, hkb⟩)
            · rw [HTM.out] at ht
              cases ht
            have hx2 := hx
            rcases hx with ⟨hn, _⟩ | ⟨_, _, g, g2, rfl, hx, hr⟩
            · cases hn
            have HPb := Lib.hid (HPa.out.same (hkb.alloc (.cells #[.int .i64 0, .int .i64 0, .int .i64 0] 46)))
            have H2 := Lib.hid (And.intro hx2 hkb)
            clear hx2 hx hr hkb HF f0 f1 f2 f3
            go_wp2_with fail
            refine (ref_any _ _ _ _ (by simp) (Chain.kp (H2.out.2.alloc (.cells #[.int .i64 0, .int .i64 0, .int .i64 0] 46)) _ _ H1.out.1.out) (XCh.kp ((Kp.refl _ wb).alloc (.cells #[.int .i64 0, .int .i64 0, .int .i64 0] 46)) _ _ H2.out.1)).mono ?_
            rintro e wc ⟨rfl, hkc⟩
            have HPc := Lib.hid (HPb.out.same hkc)
            clear hkc HPb
            go_wp2_with fail
            have hNow := Lib.hid (fun k => (p1_now (HPc.out.same (kp_drewN (Kp.refl _ _) k))).mono fun _ _ e => And.intro e.1 e.2.symm)
            have hLen := Lib.hid (fun k => (p1_len (HPc.out.same (kp_drewN (Kp.refl _ _) k))).mono fun _ _ e => And.intro e.1 e.2.symm)
            obtain ⟨y1, py, cy, y3⟩ := p2_cells HPc.out
            go_quiet (first | (go_at_call 25; exact Calls.quiet_of_same (hNow.out _)) | (go_at_call 26; exact Calls.quiet_of_same (hLen.out _)))
            go_wp2_with fail
            go_roundg (len1 - (i + 1))
            case measure => omega
            case rel =>
              obtain ⟨htl, hnow, hfr⟩ := HW.out
              refine ⟨i + 1, now, fresh, ts, by omega, by omega, rfl, by go_num, ?_, ?_, ?_, HPc.out.put (kp_drewN (Kp.refl _ _) _) (fun q e => e.elim)⟩
              · exact htl
              · exact tk_le hnow
              · exact Nat.le_succ_of_le hfr
          | some t =>
            have HTM := Lib.hid htm
            clear htm
            have hge := HP.out.ok.ge t (tmOf_mem HTM.out).1
            obtain ⟨hge1, hge2⟩ := hge
            have hsub : ((t.due - now : Nat) : Int) = (t.due : Int) - (now : Int) := by omega
            have HSUB := Lib.hid hsub
            clear hsub
            have HE := Lib.hid (p1_left HP.out HD.out HTM.out)
            go_wp2_with fail
            refine HE.out.mono ?_
            rintro e wa ⟨rfl, hwa⟩
            have hka : Kp (fun _ => False) w1 wa := by
              first
                | (obtain ⟨m9, hm9⟩ := hwa; rw [hm9]; exact kp_drewN (Kp.refl _ w1) m9)
                | (rw [← hwa]; exact Kp.refl _ w1)
            have HPa := Lib.hid (HP.out.same hka)
            have hxa := (hka.block X (Array.getElem?_eq_some_iff.1 HX.out).1 (fun e => e)).trans HX.out
            have HF := Lib.hid (p2_get HPa.out ⟨#[108, 101, 102, 116]⟩ id)
            obtain ⟨f0, f1, f2, f3⟩ := lop_cells hxa
            clear hka hxa HE e0 e1 e2 e3 hwa
            try rw [HSUB.out]
            go_wp2_with fail
            refine HF.out.mono ?_
            rintro e wb (⟨t', ht', rfl, hkb⟩ | ⟨hno, -⟩)
            rotate_left
            · rw [HTM.out] at hno
              cases hno
            rw [HTM.out] at ht'
            obtain rfl := Option.some.inj ht'
            obtain ⟨w5, hw5⟩ : ∃ w5, wb.alloc (.cells #[.int .i64 (t.id : Nat), .int .i64 (t.due : Nat), .int .i64 t.wht] 46) = w5 := ⟨_, rfl⟩
            have hk5 : Kp (fun _ => False) wa w5 := by rw [← hw5]; exact hkb.alloc _
            have hb5 : w5.heap[wb.heap.size]? = some (.cells #[.int .i64 (t.id : Nat), .int .i64 (t.due : Nat), .int .i64 t.wht] 46 (0, 0)) := by rw [← hw5]; exact heap_alloc_new wb _
            have hPb := HPa.out.same hk5
            obtain ⟨z0, z1, z2, -⟩ := tc_facts hb5
            obtain ⟨y1, py, cy, y3⟩ := p2_cells hPb
            have HPb := Lib.hid hPb
            clear hkb ht' hk5 hb5 hPb HF f0 f1 f2 f3
            go_wp2_with fail
            go_quiet (fail)
            go_wp2_with fail
            refine (ref_any [] _ _ _ (by simp) rfl rfl).mono ?_
            rintro e wc ⟨rfl, hkc⟩
            have HPc := Lib.hid (HPb.out.same ((kp_drewN (Kp.refl _ w5) _).trans' hkc))
            clear hkc HPb y1 y3
            go_wp2_with fail
            have hNow := Lib.hid (fun k => (p1_now (HPc.out.same (kp_drewN (Kp.refl _ _) k))).mono fun _ _ e => And.intro e.1 e.2.symm)
            have hLen := Lib.hid (fun k => (p1_len (HPc.out.same (kp_drewN (Kp.refl _ _) k))).mono fun _ _ e => And.intro e.1 e.2.symm)
            obtain ⟨y1, py, cy, y3⟩ := p2_cells HPc.out
            go_quiet (first | (go_at_call 25; exact Calls.quiet_of_same (hNow.out _)) | (go_at_call 26; exact Calls.quiet_of_same (hLen.out _)))
            go_wp2_with fail
            go_roundg (len1 - (i + 1))
            case measure => omega
            case rel =>
              obtain ⟨htl, hnow, hfr⟩ := HW.out
              refine ⟨i + 1, now, fresh, ts, by omega, by omega, rfl, by go_num, ?_, ?_, ?_, HPc.out.put (kp_drewN (Kp.refl _ _) _) (fun q e => e.elim)⟩
              · exact htl
              · exact tk_le hnow
              · exact Nat.le_succ_of_le hfr
        · as_aux_lemma =>
          cases htm : tmOf ts id with
          | none =>
            have HTM := Lib.hid htm
            clear htm
            have HE := Lib.hid (p1_what_none HP.out HD.out HTM.out)
            go_wp2_with fail
            refine HE.out.mono ?_
            rintro e wa ⟨v1, rfl, hch, hka⟩
            have HPa := Lib.hid (HP.out.same hka)
            have hxa := (hka.block X (Array.getElem?_eq_some_iff.1 HX.out).1 (fun e => e)).trans HX.out
            have H1 := Lib.hid (show _ ∧ _ from ⟨hch, hxa⟩)
            have HF := Lib.hid (p2_get HPa.out ⟨#[119, 104, 97, 116]⟩ id)
            obtain ⟨f0, f1, f2, f3⟩ := lop_cells hxa
            clear hch hka hxa HE e0 e1 e2 e3
            go_wp2_with fail
            refine HF.out.mono ?_
            rintro e wb (⟨t, ht, -⟩ | ⟨-, v2, rfl, hx, hkb⟩)
            · rw [HTM.out] at ht
              cases ht
            have hx2 := hx
            rcases hx with ⟨hn, _⟩ | ⟨_, _, g, g2, rfl, hx, hr⟩
            · cases hn
            have HPb := Lib.hid (HPa.out.same (hkb.alloc (.cells #[.int .i64 0, .int .i64 0, .int .i64 0] 46)))
            have H2 := Lib.hid (And.intro hx2 hkb)
            clear hx2 hx hr hkb HF f0 f1 f2 f3
            go_wp2_with fail
            refine (ref_any _ _ _ _ (by simp) (Chain.kp (H2.out.2.alloc (.cells #[.int .i64 0, .int .i64 0, .int .i64 0] 46)) _ _ H1.out.1.out) (XCh.kp ((Kp.refl _ wb).alloc (.cells #[.int .i64 0, .int .i64 0, .int .i64 0] 46)) _ _ H2.out.1)).mono ?_
            rintro e wc ⟨rfl, hkc⟩
            have HPc := Lib.hid (HPb.out.same hkc)
            clear hkc HPb
            go_wp2_with fail
            have hNow := Lib.hid (fun k => (p1_now (HPc.out.same (kp_drewN (Kp.refl _ _) k))).mono fun _ _ e => And.intro e.1 e.2.symm)
            have hLen := Lib.hid (fun k => (p1_len (HPc.out.same (kp_drewN (Kp.refl _ _) k))).mono fun _ _ e => And.intro e.1 e.2.symm)
            obtain ⟨y1, py, cy, y3⟩ := p2_cells HPc.out
            go_quiet (first | (go_at_call 25; exact Calls.quiet_of_same (hNow.out _)) | (go_at_call 26; exact Calls.quiet_of_same (hLen.out _)))
            go_wp2_with fail
            go_roundg (len1 - (i + 1))
            case measure => omega
            case rel =>
              obtain ⟨htl, hnow, hfr⟩ := HW.out
              refine ⟨i + 1, now, fresh, ts, by omega, by omega, rfl, by go_num, ?_, ?_, ?_, HPc.out.put (kp_drewN (Kp.refl _ _) _) (fun q e => e.elim)⟩
              · exact htl
              · exact tk_le hnow
              · exact Nat.le_succ_of_le hfr
          | some t =>
            have HTM := Lib.hid htm
            clear htm
            have hge := HP.out.ok.ge t (tmOf_mem HTM.out).1
            obtain ⟨hge1, hge2⟩ := hge
            have hsub : ((t.due - now : Nat) : Int) = (t.due : Int) - (now : Int) := by omega
            have HSUB := Lib.hid hsub
            clear hsub
            have HE := Lib.hid (p1_what HP.out HD.out HTM.out)
            go_wp2_with fail
            refine HE.out.mono ?_
            rintro e wa ⟨rfl, hwa⟩
            have hka : Kp (fun _ => False) w1 wa := by
              first
                | (obtain ⟨m9, hm9⟩ := hwa; rw [hm9]; exact kp_drewN (Kp.refl _ w1) m9)
                | (rw [← hwa]; exact Kp.refl _ w1)
            have HPa := Lib.hid (HP.out.same hka)
            have hxa := (hka.block X (Array.getElem?_eq_some_iff.1 HX.out).1 (fun e => e)).trans HX.out
            have HF := Lib.hid (p2_get HPa.out ⟨#[119, 104, 97, 116]⟩ id)
            obtain ⟨f0, f1, f2, f3⟩ := lop_cells hxa
            clear hka hxa HE e0 e1 e2 e3 hwa
            try rw [HSUB.out]
            go_wp2_with fail
            refine HF.out.mono ?_
            rintro e wb (⟨t', ht', rfl, hkb⟩ | ⟨hno, -⟩)
            rotate_left
            · rw [HTM.out] at hno
              cases hno
            rw [HTM.out] at ht'
            obtain rfl := Option.some.inj ht'
            obtain ⟨w5, hw5⟩ : ∃ w5, wb.alloc (.cells #[.int .i64 (t.id : Nat), .int .i64 (t.due : Nat), .int .i64 t.wht] 46) = w5 := ⟨_, rfl⟩
            have hk5 : Kp (fun _ => False) wa w5 := by rw [← hw5]; exact hkb.alloc _
            have hb5 : w5.heap[wb.heap.size]? = some (.cells #[.int .i64 (t.id : Nat), .int .i64 (t.due : Nat), .int .i64 t.wht] 46 (0, 0)) := by rw [← hw5]; exact heap_alloc_new wb _
            have hPb := HPa.out.same hk5
            obtain ⟨z0, z1, z2, -⟩ := tc_facts hb5
            obtain ⟨y1, py, cy, y3⟩ := p2_cells hPb
            have HPb := Lib.hid hPb
            clear hkb ht' hk5 hb5 hPb HF f0 f1 f2 f3
            go_wp2_with fail
            refine (ref_any [] _ _ _ (by simp) rfl rfl).mono ?_
            rintro e wc ⟨rfl, hkc⟩
            have HPc := Lib.hid (HPb.out.same hkc)
            clear hkc HPb y1 y3
            go_wp2_with fail
            have hNow := Lib.hid (fun k => (p1_now (HPc.out.same (kp_drewN (Kp.refl _ _) k))).mono fun _ _ e => And.intro e.1 e.2.symm)
            have hLen := Lib.hid (fun k => (p1_len (HPc.out.same (kp_drewN (Kp.refl _ _) k))).mono fun _ _ e => And.intro e.1 e.2.symm)
            obtain ⟨y1, py, cy, y3⟩ := p2_cells HPc.out
            go_quiet (first | (go_at_call 25; exact Calls.quiet_of_same (hNow.out _)) | (go_at_call 26; exact Calls.quiet_of_same (hLen.out _)))
            go_wp2_with fail
            go_roundg (len1 - (i + 1))
            case measure => omega
            case rel =>
              obtain ⟨htl, hnow, hfr⟩ := HW.out
              refine ⟨i + 1, now, fresh, ts, by omega, by omega, rfl, by go_num, ?_, ?_, ?_, HPc.out.put (kp_drewN (Kp.refl _ _) _) (fun q e => e.elim)⟩
              · exact htl
              · exact tk_le hnow
              · exact Nat.le_succ_of_le hfr
        · as_aux_lemma =>
          have hB : now + 1048576 ≤ 2305843009213693952 ∧ ts.length ≤ 4096 := by
            have := HW.out
            have := HM.out
            have : i * 1048576 ≤ 3000 * 1048576 := Nat.mul_le_mul_right _ hi3
            omega
          have HB := Lib.hid hB
          have HE := Lib.hid (p1_tick (HP.out.same ((Kp.refl (fun _ => False) w1).drew)) n n1 n2 hB.1 (by omega))
          clear hB
          go_wp2_with fail
          go_region_with (first
            | (go_at_call 22; refine HE.out.mono ?_; rintro e wa ⟨v1, o1, ts1, rfl, hd1, hr1, hPa, hka⟩; have f1 := (lop_cells ((hka.block X (Array.getElem?_eq_some_iff.1 HX.out).1 (fun e => e rfl)).trans HX.out)).2.1; have HA := Lib.hid (show _ ∧ _ ∧ _ from ⟨hd1, hr1, hPa⟩); clear hd1 hr1 hPa hka)
            | (go_at_call 24; refine (p2_tick HA.out.2.2 HP.out.ok HB.out.2 n HB.out.1).mono ?_; rintro e wb ⟨u, o2, ts2, rfl, hd2, ho2, hPb, hkb⟩; have HB2 := Lib.hid (show _ ∧ _ ∧ _ ∧ _ from ⟨hd2, ho2, hPb, HA.out.2.1.kp hkb (fun g hg e => e (.inr hg))⟩); clear hd2 ho2 hPb hkb)
            | (go_at_call 23; refine (ids_any HB2.out.2.1 (by have := HB2.out.1.length HP.out.ok.nd; have := HB.out.2; omega)).mono ?_; rintro e wc ⟨v3, rfl, hr3, -, hkc⟩; have HC := Lib.hid (And.intro hr3 hkc); clear hr3 hkc)
            | (go_at_call 21; refine (sameLongs_any (l := idsOf o1) ((HB2.out.2.2.2.same HC.out.2).rd) (by rw [HA.out.1.is HB2.out.1.sorted HB2.out.1.mem]; exact HC.out.1.rd)).mono ?_; rintro e wd ⟨rfl, k9, hk9⟩; have HK9 := Lib.hid hk9; clear hk9))
          all_goals
            have hts := HB2.out.1.rest.trans HA.out.1.rest.symm
            have hPc := HB2.out.2.2.1.same (HC.out.2.trans' (show Kp (fun _ => False) wc wd by rw [HK9.out]; exact kp_drewN (Kp.refl _ wc) k9))
            rw [hts] at hPc
            have HPc := Lib.hid hPc
            clear hts hPc
            go_wp2_with fail
            have hNow := Lib.hid (fun k => (p1_now (HPc.out.same (kp_drewN (Kp.refl _ _) k))).mono fun _ _ e => And.intro e.1 e.2.symm)
            have hLen := Lib.hid (fun k => (p1_len (HPc.out.same (kp_drewN (Kp.refl _ _) k))).mono fun _ _ e => And.intro e.1 e.2.symm)
            obtain ⟨y1, py, cy, y3⟩ := p2_cells HPc.out
            go_quiet (first | (go_at_call 25; exact Calls.quiet_of_same (hNow.out _)) | (go_at_call 26; exact Calls.quiet_of_same (hLen.out _)))
            go_wp2_with fail
            go_roundg (len1 - (i + 1))
            case measure => omega
            case rel =>
              obtain ⟨htl, hnow, hfr⟩ := HW.out
              refine ⟨i + 1, (now + ticksOf n), fresh, ts1, by omega, by omega, rfl, by go_num, ?_, ?_, ?_, HPc.out.put (kp_drewN (Kp.refl _ _) _) (fun q e => e.elim)⟩
              · rw [HA.out.1.rest]
                exact Nat.le_trans (List.length_filter_le _ _) htl
              · exact tk_add hnow (ticksOf_le n)
              · exact Nat.le_succ_of_le hfr
      · have HPz := Lib.hid hP
        have hend : i = len1 ∨ i = 3000 := by omega
        clear hP
        rcases hend with rfl | rfl
        · by_cases h3 : (i : Int) < 3000
          all_goals go_wp2_with fail
          all_goals
            refine (whAwake_any wr).mono ?_
            rintro e wd ⟨rfl, hkd⟩
            have HZ := Lib.hid (HPz.out.kp0.trans' hkd)
            clear hkd
            go_wp2_with fail
            go_ret
            exact ⟨rfl, HZ.out.below _ (Nat.le_refl _) (fun _ e => e.elim)⟩
        · by_cases h3 : (3000 : Int) < len1
          all_goals go_wp2_with fail
          all_goals
            refine (whAwake_any wr).mono ?_
            rintro e wd ⟨rfl, hkd⟩
            have HZ := Lib.hid (HPz.out.kp0.trans' hkd)
            clear hkd
            go_wp2_with fail
            go_ret
            exact ⟨rfl, HZ.out.below _ (Nat.le_refl _) (fun _ e => e.elim)⟩

set_option maxRecDepth 100000 in
theorem lifted (os : Os) (started : os.Started) (H : Type) (enc : TypeId × Value → H) :
    ReturnsInHanded {} Try.checked os 3 .any (Rows.wheelPlaysSpec.pre6 enc Try.prog Try.f3 Rows.wheelPlaysRow.domain false) (Rows.wheelPlaysSpec.post enc Try.prog Try.f3 false true false false) := by
  refine returnsInHanded_of_change (C := Try.checked) own started (by kernel_rfl) Try.func3
    (ChangeSpec.witness6 (enc := enc) (C := Try.checked) false ⟨#[], #[.int .i64 0, .slice none 0 0], []⟩ 8 (by kernel_rfl) (by kernel_rfl) (by kernel_rfl) (by kernel_rfl)) ?_
  intro W base args ds gs before hval0 hW hcnd _
  have hval : ∀ (j : Nat) t v, Try.f3.params[j]? = some t → args[j]? = some v → Value.okWide Try.prog W .any base t v := hval0
  have hW' := hW
  obtain ⟨p, q, hA0, hV, rfl, hfz, hnd⟩ := hW
  have hA : DataW.TrodAll enc Try.prog W 0 (fun _ => true) true Try.f3.params.toList args.toList ds p := hA0
  rw [Try.params3] at hA hval
  obtain ⟨v0, vs0, d0, ds0, p0, q0, hargs, rfl, rfl, h0, r0⟩ := trodAll_cons hA
  obtain ⟨v1, vs1, d1, ds1, p1, q1, rfl, rfl, rfl, h1, r1⟩ := trodAll_cons r0
  obtain ⟨rfl, rfl, rfl⟩ := trodAll_nil r1
  obtain rfl : args = #[v0, v1] := by cases args; simp_all
  obtain ⟨rfl, rfl⟩ := trodVars_none hV
  obtain ⟨a0, rfl, rfl, rfl, w0⟩ := open_int Try.underlying3 (hval 0 3 v0 rfl rfl) h0
  obtain ⟨a1, len1, cap1, rfl⟩ := okWide_slice Try.underlying22 (hval 1 22 v1 rfl rfl)
  have k1 := h1
  have lt1 : ∀ x ∈ p1, x.block < W.heap.size := by obtain ⟨m, hm⟩ := k1; exact DataW.trod_lt m _ _ _ hm
  have w1 : LopsIn W a1 len1 cap1 := by
    obtain ⟨fuel, hf⟩ := h1
    obtain ⟨po, l, c, hcs, ho⟩ := opened_lops Try.underlying22 Try.underlying35 (by kernel_rfl) (by kernel_rfl) Try.underlying3 Try.underlying3 Try.underlying2 Try.underlying2 hf
    simp [Value.cells] at hcs
    obtain ⟨rfl, rfl, rfl⟩ := hcs
    exact ho
  clear hA0 hval0
  simp only [List.nil_append] at hW'
  refine (walk a0 a1 len1 cap1 W w0 w1).mono fun e W' ⟨he, bel⟩ => ?_
  subst he
  exact ⟨_, rfl, _, _, _, [], _, [], hW', trodAll_mk1 (shut_bool Try.underlying4 _), (trodAll_cons_mk (shut_int Try.underlying3 w0) (trodAll_cons_mk (Below.trod laidOut (by kernel_rfl) (of_decide_eq_true (by kernel_rfl)) k1 bel lt1) trodAll_mk0)), rfl, bel.frame _, fun h => by cases h⟩

theorem over : Rows.wheelPlaysRow.holds Try.pinned (OpenSpec.ofChange Rows.wheelPlaysSpec) :=
  OpenClaim.holds_of_wide 3 Try.f3 rfl rfl rfl rfl rfl rfl rfl ⟨rfl, rfl, rfl, rfl, rfl⟩ rfl rfl rfl rfl rfl (by kernel_rfl) Try.func3 (by kernel_rfl)
    (of_decide_eq_true (by kernel_rfl)) (by unfold Func.isWrapper; first | (rw [if_pos (by decide +kernel)]; kernel_rfl) | (rw [if_neg (by decide +kernel)]; exact ⟨rfl, rfl⟩))
    (fun os started H enc _ => lifted os started H enc)

theorem proved : Rows.WheelPlaysSaid := over
#print axioms proved
end Go.Proofs.Ytmekhijmghddiaa.wheelPlays
