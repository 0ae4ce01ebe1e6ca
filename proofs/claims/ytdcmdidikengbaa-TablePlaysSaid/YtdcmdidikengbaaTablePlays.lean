/- any script: the same numbers, names, errors as a plain list of slots and of names tells -/
import Derived.Test.YtdcmdidikengbaaRows
import Derived.Test.YtdcmdidikengbaaTbPlay
import Derived.Test.YtdcmdidikengbaaTbIn
import Derived.Deep.CutRange
import Derived.Deep.DeepCutAuto
import Derived.Deep.CutBlock
import Derived.WalkKit
import Derived.ProofKit
import Derived.OpenShut
import Derived.ShutString
import Derived.ChangeOld
import Derived.Below
import Derived.Deep.Strs
namespace Go.Proofs.Ytdcmdidikengbaa.tablePlays
open Go.ChangeShapes Go.WideShapes Go.ChangeAt Go.RowKit
open Go.ChangeMaps (open_string shut_string)
set_option linter.unusedVariables false

theorem own : ownKnob Try.prog.godebug = none := by kernel_rfl
theorem laidOut : laidOutB Try.prog = true := by kernel_rfl

set_option maxRecDepth 100000 in
set_option maxHeartbeats 40000000 in
theorem walk (a0 : Int) (a1 : Option Addr) (len1 cap1 : Nat) (w : World) (w0 : (Lit.int .i64 a0).wf = true) (h1 : TopsIn w a1 len1 cap1) :
    Calls Try.prog 8 #[.int .i64 a0, .slice a1 len1 cap1] w fun e w' => e = .returned (.bool true) ∧ Below w.heap.size w w' := by
  obtain ⟨b1, b2⟩ := bounds_i64 w0
  have hcap : len1 ≤ cap1 ∧ cap1 ≤ 9223372036854775807 := by
    have h2 := h1.1
    have h3 := h1.2.1
    unfold maxLen at h3
    exact ⟨h2, by omega⟩
  have hlen : len1 ≤ 4398046511104 := h1.2.2.1
  have HI := Lib.hid h1
  clear w0 h1
  by_cases hbad : a0 < 1 ∨ 64 < a0
  · have HE := Lib.hid (tnew_bad w a0 hbad)
    have HB := Lib.hid hbad
    clear hbad
    go_enter Try.func8, Try.ntmps8
    go_wp2_with fail
    refine HE.out.mono ?_
    rintro e wa ⟨v1, rfl, hch, hka⟩
    have HX := Lib.hid (xtnew_bad a0 wa HB.out)
    have H1 := Lib.hid (And.intro hch hka)
    clear hch hka HE
    go_wp2_with fail
    refine HX.out.mono ?_
    rintro e wb ⟨v2, rfl, hx, hkb⟩
    have H2 := Lib.hid (And.intro hx hkb)
    clear hx hkb HX
    go_wp2_with fail
    refine (ref_any _ _ _ wb (by simp) (Chain.kp H2.out.2 _ _ H1.out.1.out) H2.out.1).mono ?_
    rintro e wc ⟨rfl, hkc⟩
    have H3 := Lib.hid hkc
    clear hkc
    go_wp2_with fail
    refine (tbAwake_any wc).mono ?_
    rintro e wd ⟨rfl, hkd⟩
    have H4 := Lib.hid hkd
    clear hkd
    go_wp2_with fail
    go_ret
    exact ⟨rfl, (((H1.out.2.trans' H2.out.2).trans' H3.out).trans' H4.out).below _ (Nat.le_refl _) (fun _ e => e.elim)⟩
  · obtain ⟨size, rfl⟩ : ∃ size : Nat, a0 = size := ⟨a0.toNat, by omega⟩
    have hm1 : 1 ≤ size := by omega
    have hm2 : size ≤ 64 := by omega
    have HN := Lib.hid (ts_new (C := noC) w size hm1 hm2 (fun _ e => e.elim))
    have HM := Lib.hid (And.intro hm1 hm2)
    clear hbad b1 b2
    go_enter Try.func8, Try.ntmps8
    go_wp2_with fail
    refine HN.out.mono ?_
    rintro e wa ⟨b1, rfl, hT, -⟩
    have HX := Lib.hid (xtnew_ok size hm1 hm2 wa)
    have H1 := Lib.hid hT
    clear hT HN hm1 hm2
    go_wp2_with fail
    refine HX.out.mono ?_
    rintro e wb ⟨b2, g1, g2, rfl, hR, hkb, z1, z2, z3⟩
    have HP := Lib.hid (pl_new H1.out hkb hR z1 z2 z3)
    clear hkb hR HX H1 z1 z2 z3
    go_wp2_with fail
    refine (ref_any [] _ _ _ (by simp) rfl rfl).mono ?_
    rintro e wc ⟨rfl, hkc⟩
    have HP2 := Lib.hid (HP.out.same hkc)
    clear hkc HP
    go_wp2_with fail
    go_loopg [9, 10, 11, 12, 13, 14, 15, 16, 17, 18, 19, 20, 21, 22, 23, 24, 25, 26, 27, 28, 29] len1 (fun gk s9 s10 s11 s12 s13 s14 s15 s16 s17 s18 s19 s20 s21 s22 s23 s24 s25 s26 s27 s28 s29 wr => ∃ (i : Nat) (lv : Value), i ≤ len1 ∧ gk = len1 - i ∧ lv = s9 ∧ s10 = .int .i64 (i : Nat) ∧ Hid (∃ l B sl ns, Pl w noE wr b1 b2 size i lv l B sl ns))
    case atStart => exact ⟨0, _, Nat.zero_le _, rfl, rfl, rfl, Lib.hid ⟨[], 0, [], [], HP2.out⟩⟩
    case round =>
      obtain ⟨i, lv, hi, rfl, rfl, rfl, HR⟩ := hrel
      clear HP2
      by_cases hlt : i < len1
      · have hli : (i : Int) < len1 := by omega
        obtain ⟨l, B, sl, ns, hP⟩ := HR.out
        clear HR
        obtain ⟨po, cp, hlf⟩ := hP.2.2.2.1.form
        obtain ⟨L, hL⟩ : ∃ L, l.length = L := ⟨_, rfl⟩
        have hLi : L ≤ i := by rw [← hL]; exact hP.2.1
        have hLc : L ≤ cp ∧ cp ≤ 9223372036854775807 := by
          have h := hP.2.2.2.1
          rcases h.2 with ⟨e, h0⟩ | ⟨g, cap, cur, e, _, _, h2, _, h4, _⟩
          · rw [hlf] at e
            injection e with _ _ e
            omega
          · rw [hlf] at e
            injection e with _ _ e
            unfold maxLen at h4
            omega
        obtain ⟨hLc1, hLc2⟩ := hLc
        rw [hL] at hlf
        have hkw := hP.2.2.1.kp0
        obtain ⟨xs, xo, rfl, hxl, k, pl, raw, n, s, kw, pw, nw, hsz, c0, c1, c2, c3, c4⟩ := HI.out.2.2.2 i hlt
        obtain ⟨k1, k2⟩ := bounds_i64 kw
        obtain ⟨p1, p2⟩ := bounds_i64 pw
        obtain ⟨n1, n2⟩ := bounds_i64 nw
        have d0 := (hkw.cell (p := ⟨xs, xo + i * 5, none⟩) hxl (fun e => e)).trans c0
        have d1 := (hkw.cell (p := ⟨xs, xo + i * 5 + 1, none⟩) hxl (fun e => e)).trans c1
        have d2 := (hkw.cell (p := ⟨xs, xo + i * 5 + 2, none⟩) hxl (fun e => e)).trans c2
        have d3 := (hkw.cell (p := ⟨xs, xo + i * 5 + 3, none⟩) hxl (fun e => e)).trans c3
        have d4 := (hkw.cell (p := ⟨xs, xo + i * 5 + 4, none⟩) hxl (fun e => e)).trans c4
        obtain ⟨X, hXe⟩ : ∃ X, wr.heap.size = X := ⟨_, rfl⟩
        obtain ⟨w1, hw1⟩ : ∃ w1, wr.alloc (.cells #[.int .i64 k, .int .i64 pl, .bool raw, .int .i64 n, .string s] 62) = w1 := ⟨_, rfl⟩
        have hk1 : Kp (fun _ => False) wr w1 := by rw [← hw1]; exact (Kp.refl _ wr).alloc _
        have hx0 : w1.heap[wr.heap.size]? = some (.cells #[.int .i64 k, .int .i64 pl, .bool raw, .int .i64 n, .string s] 62 (0, 0)) := by rw [← hw1]; exact heap_alloc_new wr _
        have hx1 := hx0
        rw [hXe] at hx1
        have HP := Lib.hid (show Pl w (fun q => q = X) w1 b1 b2 size i lv l B sl ns from hP.put hk1 (fun q e => .inr ⟨by omega, by have := (Array.getElem?_eq_some_iff.1 hx1).1; omega⟩))
        have HX := Lib.hid hx1
        have HL := Lib.hid hL
        have HSZ := Lib.hid hsz
        obtain ⟨q, hq, hq5⟩ : ∃ q : Nat, k % 7 = q ∧ q < 7 := ⟨(k % 7).toNat, by omega, by omega⟩
        have HQ := Lib.hid hq
        have HLF := Lib.hid hlf
        obtain ⟨e0, e1, e2, e3, e4⟩ := top_cells hx0
        subst hlf
        clear hx0 hP hkw c0 c1 c2 c3 c4 kw nw pw hk1 hx1 hq hL hsz
        have HXE := Lib.hid hXe
        clear hXe
        go_upto_region 13 with (fail)
        rw [HXE.out] at e0 e1 e2 e3 e4 ⊢
        clear d0 d1 d2 d3 d4 hw1
        go_cut [73] from 54 to 229 (fun s73 wx => ∃ c : Bool, s73 = .bool c ∧ (c = true → raw = false ∧ 0 < L) ∧ w1 = wx)
        case first =>
          cases raw
          · by_cases h0 : L = 0
            · subst h0
              go_wp2_with fail
              go_meet
              exact ⟨_, rfl, by simp, rfl⟩
            · have hLp : (0 : Int) < L := by omega
              go_wp2_with fail
              go_meet
              exact ⟨_, rfl, fun _ => (by first | exact ⟨rfl, by omega⟩ | exact ⟨trivial, by omega⟩ | (simp; omega)), rfl⟩
          · go_wp2_with fail
            go_meet
            exact ⟨_, rfl, by simp, rfl⟩
        case rest =>
        obtain ⟨c, rfl, hc, rfl⟩ := hcut
        have HC := Lib.hid hc
        clear hc
        go_upto_if 73 with (fail)
        go_cut [12] from 54 to 229 (fun s12 wx => ∃ m : Int, s12 = .int .i64 m ∧ -9223372036854775808 ≤ m ∧ m ≤ 9223372036854775807 ∧ w1 = wx)
        case first =>
          cases c
          · go_wp2_with fail
            go_meet
            exact ⟨n, rfl, n1, n2, rfl⟩
          · have hLp : 0 < L := (HC.out rfl).2
            obtain ⟨J, hJ, hJ2⟩ : ∃ J : Nat, pl % L = J ∧ J < L := ⟨(pl % L).toNat, by have := Int.emod_nonneg pl (b := (L : Int)) (by omega); omega, by have := Int.emod_nonneg pl (b := (L : Int)) (by omega); have := Int.emod_lt_of_pos pl (b := (L : Int)) (by omega); omega⟩
            have HPL := Lib.hid (place_huge w1 pl L p1 p2 (by omega) (by omega))
            rw [hJ] at HPL
            obtain ⟨y, hy⟩ : ∃ y, l[J]? = some y := ⟨_, List.getElem?_eq_getElem (by rw [HL.out]; exact hJ2)⟩
            have hyb := HP.out.2.2.2.2.2 y (List.mem_of_getElem? hy)
            obtain ⟨g1, cg1, f1, f2, f3, d0⟩ := HP.out.2.2.2.1.get hy
            obtain rfl : po = some ⟨g1, 0, none⟩ := by injection f1
            have hJi : (J : Int) < L := by omega
            clear hy f1 f2 f3 hJ hLp
            go_wp2_with fail
            refine HPL.out.mono ?_
            rintro e w' ⟨rfl, rfl⟩
            clear HPL
            go_wp2_with fail
            go_meet
            exact ⟨y, rfl, by omega, by omega, rfl⟩
        case rest =>
        obtain ⟨m, rfl, m1, m2, rfl⟩ := hcut
        clear HC n1 n2 p1 p2 e1 e2 e3
        have HKN := Lib.hid HP.out.2.2.1.know
        have HB1 := Lib.hid (show B ≤ 2305843009213693952 by have := HP.out.1; omega)
        have HM2 := Lib.hid (And.intro m1 m2)
        clear m1 m2
        go_wp2_with fail
        refine (place_any _ k 7 k1 k2 (by omega) (by omega)).mono ?_
        rintro e w' ⟨rfl, rfl⟩
        rw [HQ.out]
        clear k1 k2
        go_upto_block 2 with (fail)
        go_cut [9, 13, 14, 15, 16, 17, 18, 19, 20, 21, 22, 23, 24, 25, 26, 27, 28, 29] from 54 to 229 (fun s9 s13 s14 s15 s16 s17 s18 s19 s20 s21 s22 s23 s24 s25 s26 s27 s28 s29 wx => ∃ lv', lv' = s9 ∧ s13 = .bool true ∧ Hid (∃ l B sl ns, Pl w (fun q => q = X) wx b1 b2 size (i + 1) lv' l B sl ns))
        case first =>
          have hq5' : q = 0 ∨ q = 1 ∨ q = 2 ∨ q = 3 ∨ q = 4 ∨ q = 5 ∨ q = 6 := by omega
          clear e0 hq5
          rcases hq5' with rfl | rfl | rfl | rfl | rfl | rfl | rfl
          · as_aux_lemma =>
            have hfl := freeAt_le sl
            have hfit := HKN.out.fit
            have h64 := HKN.out.s64
            by_cases hf : freeAt sl < size
            · have HF0 := Lib.hid hf
              have HE := Lib.hid (p1_add HP.out.2.2.1 hf (by have := HB1.out; have := HP.out.1; omega))
              have HAP := Lib.hid (addPid_le HKN.out.ok (by omega))
              clear hf hfl hfit h64
              obtain ⟨A, hA⟩ : ∃ A, addPid sl = A := ⟨_, rfl⟩
              rw [hA] at HE HAP
              have HA := Lib.hid hA
              clear hA
              go_wp2_with fail
              refine HE.out.mono ?_
              rintro e wa ⟨rfl, hPa, hka⟩
              have HF := Lib.hid (p2_add hPa ⟨HKN.out.ok.at_, fun s hs => Nat.le_trans (HKN.out.ok.le s hs) (Nat.le_add_right _ _)⟩ (by have := HP.out.1; omega) HKN.out.s64 HF0.out)
              rw [HA.out] at HF
              have HKA := Lib.hid hka
              clear hPa hka HE
              go_wp2_with fail
              refine HF.out.mono ?_
              rintro e wb ⟨rfl, hPb, hkb⟩
              have HPb := Lib.hid (And.intro hPb (HKA.out.trans' hkb))
              clear hPb hkb HF HKA
              go_wp2_with fail
              refine (ref_any [] _ _ _ (by simp) rfl rfl).mono ?_
              rintro e wc ⟨rfl, hkc⟩
              obtain ⟨lv2, w2, hr2, hP2⟩ := pl_push HP.out (HPb.out.1.same hkc) (HPb.out.2.trans' (hkc.mono fun _ _ e => e.elim)) (by omega) A HAP.out
              have HV : Hid (∃ l B sl ns, Pl w (fun q => q = X) w2 b1 b2 size (i + 1) lv2 l B sl ns) := Lib.hid ⟨_, _, _, _, hP2⟩
              have HR2 := Lib.hid hr2
              clear hr2 hP2 hkc HPb
              go_wp2_with (at_builtin; refine wpList_run rfl _ _ 50 rfl (.slice po L cp) (.slice (some ⟨wc.heap.size, 0, none⟩) 1 1) rfl rfl _ w2 HR2.out ?_; refine Hid.out ?_)
              refine Lib.hid ?_
              go_wp2_with fail
              go_meet
              exact ⟨_, rfl, rfl, HV⟩
            · have hf2 : freeAt sl = size := by omega
              have HF0 := Lib.hid hf2
              have HE := Lib.hid (p1_add_full HP.out.2.2.1 hf2)
              clear hf hfl hfit h64 hf2
              go_wp2_with fail
              refine HE.out.mono ?_
              rintro e wa ⟨v1, rfl, hch, hka⟩
              obtain ⟨gu, rfl⟩ := hch.out.form
              have HPa := Lib.hid (HP.out.same hka)
              have HF := Lib.hid (p2_add_full HPa.out.2.2.1 HKN.out.s64 HF0.out)
              have H1 := Lib.hid hch
              clear hch hka HE
              go_wp2_with fail
              refine HF.out.mono ?_
              rintro e wb ⟨v2, rfl, hx, hkb⟩
              have HPb := Lib.hid (HPa.out.same hkb)
              have H2 := Lib.hid (And.intro hx hkb)
              clear hx hkb HF
              go_wp2_with fail
              refine (ref_any _ _ _ wb (by simp) (Chain.kp H2.out.2 _ _ H1.out.out) H2.out.1).mono ?_
              rintro e wc ⟨rfl, hkc⟩
              have HPc := Lib.hid (HPb.out.same hkc)
              clear hkc HPb
              go_wp2_with fail
              go_meet
              exact ⟨_, rfl, rfl, Lib.hid ⟨_, _, _, _, HPc.out.le (Nat.le_succ _)⟩⟩
          · as_aux_lemma =>
            have HE := Lib.hid (p1_drop HP.out.2.2.1 m)
            go_wp2_with fail
            refine HE.out.mono ?_
            rintro e wa ⟨r1, v1, rfl, hs1, hch, hPa, hka⟩
            have HF := Lib.hid (p2_drop hPa HKN.out HB1.out m HM2.out.2)
            have H1 := Lib.hid (show _ ∧ _ ∧ _ from ⟨hs1, hch, hka⟩)
            clear hs1 hch hPa hka HE
            go_wp2_with fail
            refine HF.out.mono ?_
            rintro e wb ⟨r2, v2, rfl, hs2, hx, hPb, hkb⟩
            have hs1 := H1.out.1.kp hkb (fun g hg e => e.2 (.inr hg))
            have hch := chain_on H1.out.2.1 hkb
            have HPb := Lib.hid (HP.out.step (hPb.put (Kp.refl _ _) (fun q hq => .inl (.inl hq))) ((H1.out.2.2.mono fun q _ e => e.2).trans' (hkb.mono fun q _ e e2 => e.2 (.inl e2))))
            have HST := Lib.hid (sameTexts_any hs1 hs2 (dropTx_len HKN.out.few))
            have H2 := Lib.hid (And.intro hch hx)
            clear hs1 hs2 hch hx hPb hkb HF H1
            go_wp2_with fail
            refine HST.out.mono ?_
            rintro e wc ⟨rfl, k9, hk9⟩
            have hkc : Kp (fun _ => False) wb wc := by rw [hk9]; exact kp_drewN (Kp.refl _ wb) k9
            have H3 := Lib.hid (And.intro (Chain.kp hkc _ _ H2.out.1) (XCh.kp hkc _ _ H2.out.2))
            have HPc := Lib.hid (HPb.out.same hkc)
            clear hk9 hkc HST HPb H2
            go_wp2_with fail
            refine (ref_any _ _ _ wc (by unfold errL; split <;> simp) H3.out.1 H3.out.2).mono ?_
            rintro e wd ⟨rfl, hkd⟩
            have HPd := Lib.hid (HPc.out.same hkd)
            clear hkd HPc
            go_wp2_with fail
            go_meet
            exact ⟨_, rfl, rfl, Lib.hid ⟨_, _, _, _, HPd.out.le (Nat.le_succ _)⟩⟩
          · as_aux_lemma =>
            have HE := Lib.hid (p1_live HP.out.2.2.1 m)
            have HF := Lib.hid (p2_live HP.out.2.2.1 HKN.out HB1.out m HM2.out.2)
            obtain ⟨d, hd⟩ : ∃ d, decide (kindAt sl m = 0) = d := ⟨_, rfl⟩
            rw [hd] at HE HF
            clear hd
            go_wp2_with fail
            refine HE.out.mono ?_
            rintro e wa ⟨rfl, rfl⟩
            go_wp2_with fail
            refine HF.out.mono ?_
            rintro e wa ⟨rfl, rfl⟩
            clear HE HF
            go_wp2_with fail
            go_meet
            exact ⟨_, rfl, rfl, Lib.hid ⟨_, _, _, _, HP.out.le (Nat.le_succ _)⟩⟩
          · as_aux_lemma =>
            have HE := Lib.hid (p1_slot HP.out.2.2.1 m)
            have HF := Lib.hid (fun wa (h : Pl w (fun q => q = X) wa b1 b2 size i (.slice po L cp) l B sl ns) => p2_slot h.2.2.1 HKN.out HB1.out m HM2.out.2)
            obtain ⟨R, hR⟩ : ∃ R, slotRes sl m = R := ⟨_, rfl⟩
            rw [hR] at HE HF
            clear hR
            go_wp2_with fail
            refine HE.out.mono ?_
            rintro e wa ⟨v1, rfl, hch, hka⟩
            have HPa := Lib.hid (HP.out.same hka)
            have H1 := Lib.hid hch
            clear hch hka HE
            go_wp2_with fail
            refine (HF.out _ HPa.out).mono ?_
            rintro e wb ⟨v2, rfl, hx, hkb⟩
            have HPb := Lib.hid (HPa.out.same hkb)
            have H2 := Lib.hid (And.intro (Chain.kp hkb _ _ H1.out) hx)
            clear hx hkb HF HPa H1
            go_wp2_with fail
            refine (ref_any _ _ _ wb (by unfold errL; split <;> simp) H2.out.1 H2.out.2).mono ?_
            rintro e wc ⟨rfl, hkc⟩
            have HPc := Lib.hid (HPb.out.same hkc)
            clear hkc HPb
            go_wp2_with fail
            go_meet
            exact ⟨_, rfl, rfl, Lib.hid ⟨_, _, _, _, HPc.out.le (Nat.le_succ _)⟩⟩
          · as_aux_lemma =>
            have HE := Lib.hid (fun (wx : World) (nz : List Nm) (h : PT w (fun q => (Value.slice po L cp).ownBlock = some q ∨ q = X) wx b1 b2 size B sl ns sl nz) => p1_reg h HSZ.out m)
            have HF := Lib.hid (fun (wx : World) (nz : List Nm) (h : PT w (fun q => (Value.slice po L cp).ownBlock = some q ∨ q = X) wx b1 b2 size B sl nz sl ns) => p2_reg h HKN.out HB1.out HSZ.out m HM2.out.2)
            have HPD := Lib.hid (HP.out.same (kp_drewN (Kp.refl _ w1) 1))
            go_wp2_with fail
            go_region_with (first
              | (go_at_call 17; refine (HE.out _ _ HPD.out.2.2.1).mono ?_; rintro e wa ⟨v1, rfl, hch, hPa, hka⟩; have HA := Lib.hid (show _ ∧ _ ∧ _ from ⟨hch, hPa, hka⟩); obtain ⟨f0, f1, f2, f3, f4⟩ := top_cells ((hka.block X (Array.getElem?_eq_some_iff.1 HX.out).1 (fun e => e.2 (.inr rfl))).trans HX.out); clear hch hPa hka f0 f1 f2 f3)
              | (go_at_call 31; refine (HF.out _ _ HA.out.2.1).mono ?_; rintro e wb ⟨v2, rfl, hx, hPb, hkb⟩; have HPb := Lib.hid (show _ ∧ _ ∧ _ from ⟨chain_on HA.out.1 hkb, hx, HPD.out.step hPb ((HA.out.2.2.trans' hkb).mono fun _ _ e => e.2)⟩); clear hx hPb hkb)
              | (go_at_call 31; refine (HF.out _ _ HPD.out.2.2.1).mono ?_; rintro e wa ⟨v2, rfl, hx, hPa, hka⟩; have HA2 := Lib.hid (show _ ∧ _ ∧ _ from ⟨hx, hPa, hka⟩); obtain ⟨f0, f1, f2, f3, f4⟩ := top_cells ((hka.block X (Array.getElem?_eq_some_iff.1 HX.out).1 (fun e => e.2 (.inr rfl))).trans HX.out); clear hx hPa hka f0 f1 f2 f3)
              | (go_at_call 17; refine (HE.out _ _ HA2.out.2.1).mono ?_; rintro e wb ⟨v1, rfl, hch, hPb, hkb⟩; have HPb := Lib.hid (show _ ∧ _ ∧ _ from ⟨hch, xch_on HA2.out.1 hkb, HPD.out.step hPb ((HA2.out.2.2.trans' hkb).mono fun _ _ e => e.2)⟩); clear hch hPb hkb)
              | (go_at_call 25; refine (ref_any _ _ _ wb (by unfold errL; split <;> simp) HPb.out.1 HPb.out.2.1).mono ?_; rintro e wc ⟨rfl, hkc⟩; have HPc := Lib.hid (HPb.out.2.2.same hkc); clear hkc))
            all_goals
              go_wp2_with fail
              go_meet
              exact ⟨_, rfl, rfl, Lib.hid ⟨_, _, _, _, HPc.out.le (Nat.le_succ _)⟩⟩
          · as_aux_lemma =>
            have HE := Lib.hid (fun (wx : World) (nz : List Nm) (h : PT w (fun q => (Value.slice po L cp).ownBlock = some q ∨ q = X) wx b1 b2 size B sl ns sl nz) => p1_unreg h HSZ.out)
            have HF := Lib.hid (fun (wx : World) (nz : List Nm) (h : PT w (fun q => (Value.slice po L cp).ownBlock = some q ∨ q = X) wx b1 b2 size B sl nz sl ns) => p2_unreg h HKN.out HSZ.out)
            have HPD := Lib.hid (HP.out.same (kp_drewN (Kp.refl _ w1) 1))
            go_wp2_with fail
            go_region_with (first
              | (go_at_call 20; refine (HE.out _ _ HPD.out.2.2.1).mono ?_; rintro e wa ⟨v1, rfl, hch, hPa, hka⟩; have HA := Lib.hid (show _ ∧ _ ∧ _ from ⟨hch, hPa, hka⟩); obtain ⟨f0, f1, f2, f3, f4⟩ := top_cells ((hka.block X (Array.getElem?_eq_some_iff.1 HX.out).1 (fun e => e.2 (.inr rfl))).trans HX.out); clear hch hPa hka f0 f1 f2 f3)
              | (go_at_call 32; refine (HF.out _ _ HA.out.2.1).mono ?_; rintro e wb ⟨v2, rfl, hx, hPb, hkb⟩; have HPb := Lib.hid (show _ ∧ _ ∧ _ from ⟨chain_on HA.out.1 hkb, hx, HPD.out.step hPb ((HA.out.2.2.trans' hkb).mono fun _ _ e => e.2)⟩); clear hx hPb hkb)
              | (go_at_call 32; refine (HF.out _ _ HPD.out.2.2.1).mono ?_; rintro e wa ⟨v2, rfl, hx, hPa, hka⟩; have HA2 := Lib.hid (show _ ∧ _ ∧ _ from ⟨hx, hPa, hka⟩); obtain ⟨f0, f1, f2, f3, f4⟩ := top_cells ((hka.block X (Array.getElem?_eq_some_iff.1 HX.out).1 (fun e => e.2 (.inr rfl))).trans HX.out); clear hx hPa hka f0 f1 f2 f3)
              | (go_at_call 20; refine (HE.out _ _ HA2.out.2.1).mono ?_; rintro e wb ⟨v1, rfl, hch, hPb, hkb⟩; have HPb := Lib.hid (show _ ∧ _ ∧ _ from ⟨hch, xch_on HA2.out.1 hkb, HPD.out.step hPb ((HA2.out.2.2.trans' hkb).mono fun _ _ e => e.2)⟩); clear hch hPb hkb)
              | (go_at_call 25; refine (ref_any _ _ _ wb (by unfold whereErr; split <;> simp) HPb.out.1 HPb.out.2.1).mono ?_; rintro e wc ⟨rfl, hkc⟩; have HPc := Lib.hid (HPb.out.2.2.same hkc); clear hkc))
            all_goals
              go_wp2_with fail
              go_meet
              exact ⟨_, rfl, rfl, Lib.hid ⟨_, _, _, _, HPc.out.le (Nat.le_succ _)⟩⟩
          · as_aux_lemma =>
            have HE := Lib.hid (p1_where HP.out.2.2.1 HSZ.out)
            have HF := Lib.hid (fun wa (h : Pl w (fun q => q = X) wa b1 b2 size i (.slice po L cp) l B sl ns) => p2_where h.2.2.1 HKN.out HSZ.out)
            obtain ⟨R, hR⟩ : ∃ R, whereN ns s = R := ⟨_, rfl⟩
            rw [hR] at HE HF
            clear hR
            go_wp2_with fail
            refine HE.out.mono ?_
            rintro e wa ⟨v1, rfl, hch, hka⟩
            have HPa := Lib.hid (HP.out.same hka)
            have H1 := Lib.hid hch
            obtain ⟨f0, f1, f2, f3, f4⟩ := top_cells ((hka.block X (Array.getElem?_eq_some_iff.1 HX.out).1 (fun e => e)).trans HX.out)
            clear f0 f1 f2 f3
            clear hch hka HE
            go_wp2_with fail
            refine (HF.out _ HPa.out).mono ?_
            rintro e wb ⟨v2, rfl, hx, hkb⟩
            have HPb := Lib.hid (HPa.out.same hkb)
            have H2 := Lib.hid (And.intro (Chain.kp hkb _ _ H1.out) hx)
            clear hx hkb HF HPa H1
            go_wp2_with fail
            refine (ref_any _ _ _ wb (by unfold whereErr; split <;> simp) H2.out.1 H2.out.2).mono ?_
            rintro e wc ⟨rfl, hkc⟩
            have HPc := Lib.hid (HPb.out.same hkc)
            clear hkc HPb
            go_wp2_with fail
            go_meet
            exact ⟨_, rfl, rfl, Lib.hid ⟨_, _, _, _, HPc.out.le (Nat.le_succ _)⟩⟩
        case rest =>
        obtain ⟨lv', rfl, rfl, HV⟩ := hcut
        clear HP HX HKN HB1 HM2 e4 HQ HL HLF HSZ HXE hLi hLc1 hLc2
        obtain ⟨l', B', sl', ns', hV⟩ := HV.out
        have HV := Lib.hid hV
        have HAL := Lib.hid (p1_all hV.2.2.1)
        have hKN := hV.2.2.1.know
        have HKN := Lib.hid hKN
        have HB1 := Lib.hid (show B' ≤ 2305843009213693952 by have := hV.1; omega)
        clear hV hKN
        go_wp2_with fail
        refine HAL.out.mono ?_
        rintro e wa ⟨v1, rfl, hl1, -, hka⟩
        have HPa := Lib.hid (HV.out.same hka)
        have HBL := Lib.hid (p2_all HPa.out.2.2.1 HKN.out HB1.out)
        have H1 := Lib.hid hl1
        clear hl1 hka HAL
        go_wp2_with fail
        refine HBL.out.mono ?_
        rintro e wb ⟨v2, rfl, hl2, -, hkb⟩
        have HPb := Lib.hid (HPa.out.same hkb)
        have HSL := Lib.hid (sameLongs_any (H1.out.same hkb).rd hl2.rd)
        clear hl2 hkb HBL H1 HPa
        go_wp2_with fail
        refine HSL.out.mono ?_
        rintro e wc ⟨rfl, k9, hk9⟩
        have hkc : Kp (fun _ => False) wb wc := by rw [hk9]; exact kp_drewN (Kp.refl _ wb) k9
        have HPc := Lib.hid (HPb.out.same hkc)
        have HNA := Lib.hid (p1_names HPc.out.2.2.1)
        clear hk9 hkc HSL HPb
        go_wp2_with fail
        refine HNA.out.mono ?_
        rintro e wd ⟨v3, rfl, hs1, -, hkd⟩
        have HPd := Lib.hid (HPc.out.same hkd)
        have HNB := Lib.hid (p2_names HPd.out.2.2.1 HKN.out)
        have H3 := Lib.hid hs1
        clear hs1 hkd HNA HPc
        go_wp2_with fail
        refine HNB.out.mono ?_
        rintro e we ⟨v4, rfl, hs2, -, hke⟩
        have HPe := Lib.hid (HPd.out.same hke)
        have HST := Lib.hid (sameTexts_any (H3.out.kp hke (fun _ _ e => e)) hs2 (by unfold txts; rw [List.length_map]; have := HKN.out.few; omega))
        clear hs2 hke HNB H3 HPd
        go_wp2_with fail
        refine HST.out.mono ?_
        rintro e wf ⟨rfl, k8, hk8⟩
        have hkf : Kp (fun _ => False) we wf := by rw [hk8]; exact kp_drewN (Kp.refl _ we) k8
        have HPf := Lib.hid (HPe.out.put (E' := noE) hkf (fun q e => e.elim))
        clear hk8 hkf HST HPe
        go_wp2_with fail
        go_roundg (len1 - (i + 1))
        case measure => omega
        case rel => exact ⟨i + 1, _, by omega, rfl, rfl, by go_num, Lib.hid ⟨_, _, _, _, HPf.out⟩⟩
      · have hli : ¬ (i : Int) < len1 := by omega
        obtain ⟨l, B, sl, ns, hP⟩ := HR.out
        have HPz := Lib.hid hP.2.2.1.kp0
        clear hP HR
        go_wp2_with fail
        refine (tbAwake_any wr).mono ?_
        rintro e wd ⟨rfl, hkd⟩
        have HZ := Lib.hid (HPz.out.trans' hkd)
        clear hkd
        go_wp2_with fail
        go_ret
        exact ⟨rfl, HZ.out.below _ (Nat.le_refl _) (fun _ e => e.elim)⟩

set_option maxRecDepth 100000 in
theorem lifted (os : Os) (started : os.Started) (H : Type) (enc : TypeId × Value → H) :
    ReturnsInHanded {} Try.checked os 8 .any (Rows.tablePlaysSpec.pre6 enc Try.prog Try.f8 Rows.tablePlaysRow.domain false) (Rows.tablePlaysSpec.post enc Try.prog Try.f8 false true false false) := by
  refine returnsInHanded_of_change_sized (C := Try.checked) own started (by kernel_rfl) Try.func8
    (ChangeSpec.witness6 (enc := enc) (C := Try.checked) false ⟨#[], #[.int .i64 0, .slice none 0 0], []⟩ 8 (by kernel_rfl) (by kernel_rfl) (by kernel_rfl) (by kernel_rfl)) ?_
  intro W base args ds gs before hval0 hW hcnd hsz0 _
  have hval : ∀ (j : Nat) t v, Try.f8.params[j]? = some t → args[j]? = some v → Value.okWide Try.prog W .any base t v := hval0
  have hW' := hW
  obtain ⟨p, q, hA0, hV, rfl, hfz, hnd⟩ := hW
  have hA : DataW.TrodAll enc Try.prog W 0 (fun _ => true) true Try.f8.params.toList args.toList ds p := hA0
  rw [Try.params8] at hA hval
  obtain ⟨v0, vs0, d0, ds0, p0, q0, hargs, rfl, rfl, h0, r0⟩ := trodAll_cons hA
  obtain ⟨v1, vs1, d1, ds1, p1, q1, rfl, rfl, rfl, h1, r1⟩ := trodAll_cons r0
  obtain ⟨rfl, rfl, rfl⟩ := trodAll_nil r1
  obtain rfl : args = #[v0, v1] := by cases args; simp_all
  obtain ⟨rfl, rfl⟩ := trodVars_none hV
  have hsz : ∀ (j : Nat) t d, ((Try.f8.params.toList) : List TypeId)[j]? = some t → [d0, d1][j]? = some d → ∀ n ∈ d.weights Try.prog t, n ≤ reachBytes := fun j t d ht hd n hn => of_decide_eq_true (List.all_eq_true.1 hsz0 n (DataW.weights_mem_each (j := j) (List.getElem?_append_left (List.getElem?_eq_some_iff.1 ht).1 ▸ ht) (List.getElem?_append_left (List.getElem?_eq_some_iff.1 hd).1 ▸ hd) n hn))
  clear hsz0
  obtain ⟨a0, rfl, rfl, rfl, w0⟩ := open_int Try.underlying3 (hval 0 3 v0 rfl rfl) h0
  obtain ⟨a1, len1, cap1, rfl⟩ := okWide_slice Try.underlying55 (hval 1 55 v1 rfl rfl)
  have k1 := h1
  have lt1 : ∀ x ∈ p1, x.block < W.heap.size := by obtain ⟨m, hm⟩ := k1; exact DataW.trod_lt m _ _ _ hm
  have w1 : TopsIn W a1 len1 cap1 := by
    obtain ⟨fuel, hf⟩ := h1
    obtain ⟨po, l, c, hcs, ho⟩ := opened_tops Try.underlying55 Try.underlying62 (by kernel_rfl) (by kernel_rfl) Try.underlying3 Try.underlying3 Try.underlying4 Try.underlying2 Try.underlying9 (by kernel_rfl) (hsz 1 _ _ rfl rfl) hf
    simp [Value.cells] at hcs
    obtain ⟨rfl, rfl, rfl⟩ := hcs
    exact ho
  clear hA0 hval0
  simp only [List.nil_append] at hW'
  refine (walk a0 a1 len1 cap1 W w0 w1).mono fun e W' ⟨he, bel⟩ => ?_
  subst he
  exact ⟨_, rfl, _, _, _, [], _, [], hW', trodAll_mk1 (shut_bool Try.underlying4 _), (trodAll_cons_mk (shut_int Try.underlying3 w0) (trodAll_cons_mk (Below.trod laidOut (by kernel_rfl) (of_decide_eq_true (by kernel_rfl)) k1 bel lt1) trodAll_mk0)), rfl, bel.frame _, fun h => by cases h⟩

theorem over : Rows.tablePlaysRow.holds Try.pinned (OpenSpec.ofChange Rows.tablePlaysSpec) :=
  OpenClaim.holds_of_wide 8 Try.f8 rfl rfl rfl rfl rfl rfl rfl ⟨rfl, rfl, rfl, rfl, rfl⟩ rfl rfl rfl rfl rfl (by kernel_rfl) Try.func8 (by kernel_rfl)
    (of_decide_eq_true (by kernel_rfl)) (by unfold Func.isWrapper; first | (rw [if_pos (by decide +kernel)]; kernel_rfl) | (rw [if_neg (by decide +kernel)]; exact ⟨rfl, rfl⟩))
    (fun os started H enc _ => lifted os started H enc)

theorem proved : Rows.TablePlaysSaid := over
#print axioms proved
end Go.Proofs.Ytdcmdidikengbaa.tablePlays
