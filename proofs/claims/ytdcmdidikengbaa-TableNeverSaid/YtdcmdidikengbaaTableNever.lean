/- a number is never given twice, however often slots are given back; just so many live as were added and not dropped -/
import Derived.Test.YtdcmdidikengbaaRows
import Derived.Test.YtdcmdidikengbaaTbNever
import Derived.Test.YtdcmdidikengbaaIn
import Derived.WalkKit
import Derived.ProofKit
import Derived.OpenShut
import Derived.ShutString
import Derived.ChangeOld
import Derived.Below
import Derived.Deep.Strs
namespace Go.Proofs.Ytdcmdidikengbaa.tableNever
open Go.ChangeShapes Go.WideShapes Go.ChangeAt Go.RowKit
open Go.ChangeMaps (open_string shut_string)
set_option linter.unusedVariables false

theorem own : ownKnob Try.prog.godebug = none := by kernel_rfl
theorem laidOut : laidOutB Try.prog = true := by kernel_rfl

set_option maxHeartbeats 8000000 in
set_option maxRecDepth 100000 in
theorem walk (a0 : Int) (a1 : Option Addr) (len1 cap1 : Nat) (z1 : Nat → Int) (w : World) (w0 : (Lit.int .i64 a0).wf = true) (h1 : InRow w a1 len1 z1) :
    Calls Try.prog 6 #[.int .i64 a0, .slice a1 len1 cap1] w fun e w' => e = .returned (.bool true) ∧ Below w.heap.size w w' := by
  obtain ⟨b1, b2⟩ := bounds_i64 w0
  clear w0
  obtain ⟨N, hN, hN1, hN2⟩ : ∃ K : Nat, 1 + a0 % 64 = K ∧ 1 ≤ K ∧ K ≤ 64 := ⟨(1 + a0 % 64).toNat, by omega, by omega, by omega⟩
  have HP := Lib.hid (fun w => place_any w a0 64 b1 b2 (by omega) (by omega))
  have HI := Lib.hid h1
  have hl0 := h1.1
  have hw1 : IntKind.i64.wrap (1 + a0 % 64) = (N : Int) := by rw [IntWalk.i64_in _ (by omega)]; exact hN
  have HNW := Lib.hid (show Calls Try.prog 9 #[.int .i64 (N : Nat)] w _ from ts_new (C := noC) w N hN1 hN2 (fun _ e => e.elim))
  clear b1 b2 h1
  go_enter Try.func6, Try.ntmps6
  go_wp2_with fail
  refine (HP.out _).mono ?_
  rintro e w' ⟨rfl, rfl⟩
  clear HP
  go_wp2_with fail
  refine HNW.out.mono ?_
  rintro e w1 ⟨b, rfl, h1, -⟩
  have HS := Lib.hid (Nev.start h1)
  clear h1 HNW hw1 hN
  go_wp2_with fail
  go_loopg [8, 9, 10, 11, 12, 13, 14, 15, 16] (min len1 300) (fun gk s8 s9 s10 s11 s12 s13 s14 s15 s16 wr => ∃ (i : Nat) (gv lvv y11 y12 y13 y14 y15 y16 : Value), i ≤ min len1 300 ∧ gk = min len1 300 - i ∧ s8 = gv ∧ s9 = lvv ∧ s10 = .int .i64 (i : Nat) ∧ s11 = y11 ∧ s12 = y12 ∧ s13 = y13 ∧ s14 = y14 ∧ s15 = y15 ∧ s16 = y16 ∧
    Hid (∃ B sl given live, B ≤ 64 * i ∧ given.length ≤ i ∧ Nev w wr b N B gv lvv sl given live))
  case atStart => exact ⟨0, _, _, _, _, _, _, _, _, by omega, rfl, rfl, rfl, rfl, rfl, rfl, rfl, rfl, rfl, rfl, Lib.hid ⟨0, [], [], [], by omega, by simp, HS.out⟩⟩
  case round =>
    obtain ⟨i, gv, lvv, y11, y12, y13, y14, y15, y16, hi, rfl, hgv, hlvv, rfl, rfl, rfl, rfl, rfl, rfl, rfl, HB⟩ := hrel
    obtain rfl := hgv.symm
    obtain rfl := hlvv.symm
    clear HS
    obtain ⟨B, sl, given, live, hBi, hgi, hnv⟩ := HB.out
    clear HB
    have hi3 : (i : Int) ≤ 300 := by omega
    have hll : live.length ≤ 64 := by
      rw [hnv.inv.len]
      have := livesOf_len sl
      have := hnv.ts.fit
      omega
    obtain ⟨po, cp, hlf⟩ := hnv.lr.form
    obtain ⟨pg, cg, hgf⟩ := hnv.gr.form
    obtain ⟨L, hL⟩ : ∃ L, live.length = L := ⟨_, rfl⟩
    obtain ⟨G, hG⟩ : ∃ G, given.length = G := ⟨_, rfl⟩
    have HN := Lib.hid (And.intro hnv (And.intro hBi (And.intro hgi (And.intro hL hG))))
    have HK := Lib.hid hnv.ts.kp0
    rw [hL] at hlf hll
    rw [hG] at hgf hgi
    have hLc : L ≤ cp ∧ cp ≤ 9223372036854775807 := by
      have h := hnv.lr
      rcases h.2 with ⟨e, h0⟩ | ⟨g, cap, cur, e, _, _, h2, _, h4, _⟩
      · rw [hlf] at e
        injection e with _ _ e
        omega
      · rw [hlf] at e
        injection e with _ _ e
        unfold maxLen at h4
        omega
    obtain ⟨hLc1, hLc2⟩ := hLc
    have HF := Lib.hid (And.intro hlf hgf)
    have hl1 := HI.out.1
    subst hlf hgf
    clear hnv hL hG hBi
    by_cases hlt : i < len1
    · have hli : (i : Int) < len1 := by omega
      by_cases h300 : i < 300
      · have hli2 : (i : Int) < 300 := by omega
        obtain ⟨b0, off0, rfl, c0, c1, c2⟩ := HI.out.at' HK.out i (by omega)
        obtain ⟨x, hx⟩ : ∃ x, z1 i = x := ⟨_, rfl⟩
        rw [hx] at c0 c1 c2
        clear hx
        by_cases hcond : x.tmod 2 = 0 ∨ (¬ x.tmod 2 = 0 ∧ L = 0)
        · by_cases hfull : L < N
          · have hfree : freeAt sl < N := by
              rw [← HN.out.2.2.2.1, HN.out.1.inv.len] at hfull
              exact (livesOf_full HN.out.1.ts.fit).1 hfull
            have hfi : (L : Int) < N := by omega
            have HA := Lib.hid (nev_add HN.out.1 hN2 hfree (by have := HN.out.2.1; omega))
            have HFR := Lib.hid (HN.out.1.inv.fresh (by omega))
            have HFE := Lib.hid hfree
            clear hfree hfull
            rcases hcond with hc | ⟨hc, hc2⟩
            all_goals
              have hc3 : ((L : Int) == 0) = decide (L = 0) := by rw [Bool.eq_iff_iff, beq_iff_eq, decide_eq_true_iff]; omega
              try (rw [decide_eq_true hc2] at hc3)
              try clear hc2
              have hcb : (x.tmod 2 == 0) = decide (x.tmod 2 = 0) := rfl
              first | (rw [decide_eq_true hc] at hcb) | (rw [decide_eq_false hc] at hcb)
              go_wp2_with fail
              refine HA.out.mono ?_
              rintro e w2 ⟨rfl, h2, hg2, hl2⟩
              have H2 := Lib.hid (And.intro h2 (And.intro hg2 hl2))
              obtain ⟨A, hA⟩ : ∃ A, addPid sl = A := ⟨_, rfl⟩
              rw [hA]
              have HAA := Lib.hid hA
              clear h2 hg2 hl2 HA hA c0 hcb
              go_wp2_with fail
              go_loopg [13] G (fun gk s13 wx => ∃ k : Nat, k ≤ G ∧ gk = G - k ∧ s13 = .int .i64 (k : Nat) ∧ w2 = wx)
              case atStart => exact ⟨0, by omega, rfl, rfl, rfl⟩
              case round =>
                obtain ⟨k, hk, rfl, rfl, rfl⟩ := hrel
                by_cases hkg : k < G
                · have hkg2 : (k : Int) < G := by omega
                  obtain ⟨y, hy⟩ : ∃ y, given[k]? = some y := ⟨_, List.getElem?_eq_getElem (by rw [HN.out.2.2.2.2]; exact hkg)⟩
                  obtain ⟨g1, cg1, e1, e2, e3, d0⟩ := H2.out.2.1.get hy
                  obtain rfl : pg = some ⟨g1, 0, none⟩ := by injection e1
                  have hyA : (y == (A : Int)) = false := by rw [beq_eq_false_iff_ne, ← HAA.out]; exact HFR.out y (List.mem_of_getElem? hy)
                  clear e1 e2 e3 hy
                  go_wp2_with fail
                  go_roundg (G - (k + 1))
                  case measure => omega
                  case rel => exact ⟨k + 1, by omega, rfl, by go_num, rfl⟩
                · obtain rfl : G = k := by omega
                  obtain ⟨gv', w3, hr3, lvv', w4, hr4, hnv4⟩ := nev_push HN.out.1 hN2 HFE.out H2.out.1 H2.out.2.1 H2.out.2.2 (by have := HN.out.2.2.1; omega)
                  have HV : Hid (∃ B sl given live, B ≤ 64 * (i + 1) ∧ given.length ≤ i + 1 ∧ Nev w w4 b N B gv' lvv' sl given live) :=
                    Lib.hid ⟨_, _, _, _, by have := HN.out.2.1; omega, by rw [List.length_append]; have := HN.out.2.2.1; simp; omega, hnv4⟩
                  rw [HAA.out] at hr3 hr4
                  have HR3 := Lib.hid hr3
                  have HR4 := Lib.hid hr4
                  clear hr3 hr4 hnv4
                  go_wp2_with (at_builtin; refine wpList_run rfl _ _ 50 rfl (.slice pg G cg) (.slice (some ⟨w2.heap.size, 0, none⟩) 1 1) rfl rfl _ w3 HR3.out ?_; refine Hid.out ?_)
                  refine Lib.hid ?_
                  go_wp2_with (at_builtin; refine wpList_run rfl _ _ 50 rfl (.slice po L cp) (.slice (some ⟨w3.heap.size, 0, none⟩) 1 1) rfl rfl _ w4 HR4.out ?_)
                  go_roundg (min len1 300 - (i + 1))
                  case measure => omega
                  case rel => exact ⟨i + 1, _, _, _, _, _, _, _, _, by omega, rfl, rfl, rfl, by go_num, rfl, rfl, rfl, rfl, rfl, rfl, HV⟩
          · have hfree : freeAt sl = N := by
              have h1 : ¬ freeAt sl < N := fun e => hfull (by rw [← HN.out.2.2.2.1, HN.out.1.inv.len]; exact (livesOf_full HN.out.1.ts.fit).2 e)
              have h2 := freeAt_le sl
              have h3 := HN.out.1.ts.fit
              omega
            have hfi : ¬ (L : Int) < N := by omega
            have HA := Lib.hid (ts_add_full HN.out.1.ts hfree)
            have HE : Hid (∀ w', Kp (fun _ => False) wr w' → ∃ B sl given live, B ≤ 64 * (i + 1) ∧ given.length ≤ i + 1 ∧ Nev w w' b N B (.slice pg G cg) (.slice po L cp) sl given live) :=
              Lib.hid (fun w' hk' => ⟨B, sl, given, live, by have := HN.out.2.1; omega, by have := HN.out.2.2.1; omega, HN.out.1.same hk'⟩)
            clear hfree hfull
            rcases hcond with hc | ⟨hc, hc2⟩
            all_goals
              have hc3 : ((L : Int) == 0) = decide (L = 0) := by rw [Bool.eq_iff_iff, beq_iff_eq, decide_eq_true_iff]; omega
              try (rw [decide_eq_true hc2] at hc3)
              try clear hc2
              have hcb : (x.tmod 2 == 0) = decide (x.tmod 2 = 0) := rfl
              first | (rw [decide_eq_true hc] at hcb) | (rw [decide_eq_false hc] at hcb)
              go_wp2_with fail
              refine HA.out.mono ?_
              rintro e w2 ⟨u, rfl, hu, hk2⟩
              obtain ⟨gu, rfl⟩ := hu.out.form
              have H2 := Lib.hid (HE.out _ hk2)
              clear hu hk2 HA c0 hcb
              go_wp2_with fail
              go_roundg (min len1 300 - (i + 1))
              case measure => omega
              case rel => exact ⟨i + 1, _, _, _, _, _, _, _, _, by omega, rfl, rfl, rfl, by go_num, rfl, rfl, rfl, rfl, rfl, rfl, H2⟩
        · have hc1 : ¬ x.tmod 2 = 0 := fun e => hcond (.inl e)
          have hL0 : ¬ L = 0 := fun e => hcond (.inr ⟨hc1, e⟩)
          have hcb : (x.tmod 2 == 0) = false := by rw [beq_eq_false_iff_ne]; exact hc1
          have hLb : ((L : Int) == 0) = false := by rw [beq_eq_false_iff_ne]; omega
          obtain ⟨J, hJ, hJ2⟩ : ∃ J : Nat, x % L = J ∧ J < L := ⟨(x % L).toNat, by have := Int.emod_nonneg x (b := (L : Int)) (by omega); omega, by have := Int.emod_nonneg x (b := (L : Int)) (by omega); have := Int.emod_lt_of_pos x (b := (L : Int)) (by omega); omega⟩
          have HP := Lib.hid (fun w => place_any w x L c1 c2 (by omega) (by omega))
          rw [hJ] at HP
          obtain ⟨y, hy⟩ : ∃ y, live[J]? = some y := ⟨_, List.getElem?_eq_getElem (by rw [HN.out.2.2.2.1]; exact hJ2)⟩
          obtain ⟨p, rfl⟩ := HN.out.1.inv.nat hy
          obtain ⟨g1, cg1, e1, e2, e3, d0⟩ := HN.out.1.lr.get hy
          obtain ⟨rfl, hcc⟩ : po = some ⟨g1, 0, none⟩ ∧ cp = cg1 := by
            injection e1 with e1 _ e2
            exact ⟨e1, e2⟩
          have HD := Lib.hid (nev_drop HN.out.1 hy)
          have HY := Lib.hid hy
          have hJi : (J : Int) < L := by omega
          clear hcond hc1 hJ hy e1 e2 e3 hcc hL0
          go_wp2_with fail
          refine (HP.out _).mono ?_
          rintro e w' ⟨rfl, rfl⟩
          clear HP
          go_wp2_with fail
          refine HD.out.mono ?_
          rintro e w2 ⟨u, rfl, h2, hg2, hl2, hkd⟩
          have HLV := Lib.hid (ts_live h2 (p : Nat))
          rw [decide_eq_false hkd] at HLV
          obtain ⟨g1', cg1', e1, -, -, d2⟩ := hl2.get HY.out
          obtain rfl : g1 = g1' := by
            injection e1 with e1
            injection e1 with e1
            injection e1
          obtain ⟨lvv', w3, hr3, hnv3⟩ := nev_cut HN.out.1 HY.out (by rw [HN.out.2.2.2.1]) hN2 (h2.same (Kp.refl _ w2).drew) (hg2.same (Kp.refl _ w2).drew) (hl2.same (Kp.refl _ w2).drew)
          rw [HN.out.2.2.2.1] at hr3
          have HR3 := Lib.hid hr3
          have HV : Hid (∃ B sl given live, B ≤ 64 * (i + 1) ∧ given.length ≤ i + 1 ∧ Nev w w3 b N B (.slice pg G cg) lvv' sl given live) :=
            Lib.hid ⟨_, _, _, _, by have := HN.out.2.1; omega, by have := HN.out.2.2.1; omega, hnv3⟩
          have q0 : IntKind.i64.wrap ((J : Int) + 1) = ((J + 1 : Nat) : Int) := by rw [IntWalk.i64_in _ (by omega)]; rfl
          have q1 : (J : Int) + 1 ≤ L := by omega
          have q2 : (0 : Int) ≤ (J : Int) + 1 := by omega
          have q4 : J ≤ cp := by omega
          have q6 : J + 1 ≤ cp := by omega
          clear hkd h2 hg2 hl2 e1 hr3 hnv3 HD d0 c0 hcb hLb
          go_wp2_with (go_at_call 12; refine HLV.out.mono ?_; rintro e w' ⟨rfl, rfl⟩)
          go_still_tail 8, (by kernel_rfl)
          refine wpList_run rfl _ _ 50 rfl (.slice (some ⟨g1, 0, none⟩) J J) (.slice (if cp = J + 1 then some ⟨g1, 0, none⟩ else some ⟨g1, J + 1, none⟩) (L - (J + 1)) (cp - (J + 1))) rfl rfl _ w3 HR3.out ?_
          go_wp2_with fail
          all_goals
            go_roundg (min len1 300 - (i + 1))
            case measure => omega
            case rel => exact ⟨i + 1, _, _, _, _, _, _, _, _, by omega, rfl, rfl, rfl, by go_num, rfl, rfl, rfl, rfl, rfl, rfl, HV⟩
      · have hli2 : ¬ (i : Int) < 300 := by omega
        go_wp2_with fail
        go_loopg [17] L (fun gk s17 wx => ∃ k : Nat, k ≤ L ∧ gk = L - k ∧ s17 = .int .i64 (k : Nat) ∧ wr = wx)
        case atStart => exact ⟨0, by omega, rfl, rfl, rfl⟩
        case round =>
          obtain ⟨k, hk, rfl, rfl, rfl⟩ := hrel
          by_cases hkl : k < L
          · have hkl2 : (k : Int) < L := by omega
            obtain ⟨y, hy⟩ : ∃ y, live[k]? = some y := ⟨_, List.getElem?_eq_getElem (by rw [HN.out.2.2.2.1]; exact hkl)⟩
            have hky := HN.out.1.inv.kind (List.mem_of_getElem? hy)
            obtain ⟨g1, cg1, e1, e2, e3, d0⟩ := HN.out.1.lr.get hy
            obtain rfl : po = some ⟨g1, 0, none⟩ := by injection e1
            have HLV := Lib.hid (ts_live HN.out.1.ts y)
            rw [hky] at HLV
            clear hy hky e1 e2 e3
            go_wp2_with (go_at_call 12; refine HLV.out.mono ?_; rintro e w' ⟨rfl, rfl⟩)
            go_roundg (L - (k + 1))
            case measure => omega
            case rel => exact ⟨k + 1, by omega, rfl, by go_num, rfl⟩
          · obtain rfl : L = k := by omega
            have HAL := Lib.hid (ts_all HN.out.1.ts)
            go_wp2_with fail
            refine HAL.out.mono ?_
            rintro e w2 ⟨va, rfl, hva, -, hk2⟩
            obtain ⟨pa, ca, rfl⟩ := hva.form
            rw [← HN.out.1.inv.len, HN.out.2.2.2.1]
            have H2 := Lib.hid (HK.out.trans' hk2)
            clear hva hk2 HAL
            go_wp2_with fail
            refine (tbAwake_any _).mono ?_
            rintro e w9 ⟨rfl, hk9⟩
            have H9 := Lib.hid (H2.out.trans' hk9)
            clear hk9
            go_wp2_with fail
            go_ret
            exact ⟨rfl, H9.out.below _ (Nat.le_refl _) (fun _ e => e.elim)⟩
    · have hli : ¬ (i : Int) < len1 := by omega
      go_wp2_with fail
      go_loopg [17] L (fun gk s17 wx => ∃ k : Nat, k ≤ L ∧ gk = L - k ∧ s17 = .int .i64 (k : Nat) ∧ wr = wx)
      case atStart => exact ⟨0, by omega, rfl, rfl, rfl⟩
      case round =>
        obtain ⟨k, hk, rfl, rfl, rfl⟩ := hrel
        by_cases hkl : k < L
        · have hkl2 : (k : Int) < L := by omega
          obtain ⟨y, hy⟩ : ∃ y, live[k]? = some y := ⟨_, List.getElem?_eq_getElem (by rw [HN.out.2.2.2.1]; exact hkl)⟩
          have hky := HN.out.1.inv.kind (List.mem_of_getElem? hy)
          obtain ⟨g1, cg1, e1, e2, e3, d0⟩ := HN.out.1.lr.get hy
          obtain rfl : po = some ⟨g1, 0, none⟩ := by injection e1
          have HLV := Lib.hid (ts_live HN.out.1.ts y)
          rw [hky] at HLV
          clear hy hky e1 e2 e3
          go_wp2_with (go_at_call 12; refine HLV.out.mono ?_; rintro e w' ⟨rfl, rfl⟩)
          go_roundg (L - (k + 1))
          case measure => omega
          case rel => exact ⟨k + 1, by omega, rfl, by go_num, rfl⟩
        · obtain rfl : L = k := by omega
          have HAL := Lib.hid (ts_all HN.out.1.ts)
          go_wp2_with fail
          refine HAL.out.mono ?_
          rintro e w2 ⟨va, rfl, hva, -, hk2⟩
          obtain ⟨pa, ca, rfl⟩ := hva.form
          rw [← HN.out.1.inv.len, HN.out.2.2.2.1]
          have H2 := Lib.hid (HK.out.trans' hk2)
          clear hva hk2 HAL
          go_wp2_with fail
          refine (tbAwake_any _).mono ?_
          rintro e w9 ⟨rfl, hk9⟩
          have H9 := Lib.hid (H2.out.trans' hk9)
          clear hk9
          go_wp2_with fail
          go_ret
          exact ⟨rfl, H9.out.below _ (Nat.le_refl _) (fun _ e => e.elim)⟩

set_option maxRecDepth 100000 in
theorem lifted (os : Os) (started : os.Started) (H : Type) (enc : TypeId × Value → H) :
    ReturnsInHanded {} Try.checked os 6 .any (Rows.tableNeverSpec.pre6 enc Try.prog Try.f6 Rows.tableNeverRow.domain false) (Rows.tableNeverSpec.post enc Try.prog Try.f6 false true false false) := by
  refine returnsInHanded_of_change (C := Try.checked) own started (by kernel_rfl) Try.func6
    (ChangeSpec.witness6 (enc := enc) (C := Try.checked) false ⟨#[], #[.int .i64 0, .slice none 0 0], []⟩ 8 (by kernel_rfl) (by kernel_rfl) (by kernel_rfl) (by kernel_rfl)) ?_
  intro W base args ds gs before hval0 hW hcnd _
  have hval : ∀ (j : Nat) t v, Try.f6.params[j]? = some t → args[j]? = some v → Value.okWide Try.prog W .any base t v := hval0
  have hW' := hW
  obtain ⟨p, q, hA0, hV, rfl, hfz, hnd⟩ := hW
  have hA : DataW.TrodAll enc Try.prog W 0 (fun _ => true) true Try.f6.params.toList args.toList ds p := hA0
  rw [Try.params6] at hA hval
  obtain ⟨v0, vs0, d0, ds0, p0, q0, hargs, rfl, rfl, h0, r0⟩ := trodAll_cons hA
  obtain ⟨v1, vs1, d1, ds1, p1, q1, rfl, rfl, rfl, h1, r1⟩ := trodAll_cons r0
  obtain ⟨rfl, rfl, rfl⟩ := trodAll_nil r1
  obtain rfl : args = #[v0, v1] := by cases args; simp_all
  obtain ⟨rfl, rfl⟩ := trodVars_none hV
  obtain ⟨a0, rfl, rfl, rfl, w0⟩ := open_int Try.underlying3 (hval 0 3 v0 rfl rfl) h0
  obtain ⟨a1, len1, cap1, rfl⟩ := okWide_slice Try.underlying49 (hval 1 49 v1 rfl rfl)
  have k1 := h1
  have lt1 : ∀ x ∈ p1, x.block < W.heap.size := by obtain ⟨m, hm⟩ := k1; exact DataW.trod_lt m _ _ _ hm
  obtain ⟨z1, w1⟩ : ∃ zs : Nat → Int, InRow W a1 len1 zs := by
    obtain ⟨fuel, hf⟩ := h1
    rcases open_ints Try.underlying49 Try.underlying3 (by kernel_rfl) hf with ⟨hcs, _⟩ | ⟨x, l, c, zs, hcs, _, hl, hm, hz, _, hcell, hwz⟩
    · simp [Value.cells] at hcs
      obtain ⟨rfl, rfl, rfl⟩ := hcs
      exact ⟨fun _ => 0, by unfold InRow; exact ⟨by omega, fun k hk => by omega⟩⟩
    · simp [Value.cells] at hcs
      obtain ⟨rfl, rfl, rfl⟩ := hcs
      exact ⟨_, inRow_of (zs := zs) (.inr ⟨_, rfl, hl, hm, by simpa using hz, hcell, hwz⟩)⟩
  clear hA0 hval0
  simp only [List.nil_append] at hW'
  refine (walk a0 a1 len1 cap1 z1 W w0 w1).mono fun e W' ⟨he, bel⟩ => ?_
  subst he
  exact ⟨_, rfl, _, _, _, [], _, [], hW', trodAll_mk1 (shut_bool Try.underlying4 _), (trodAll_cons_mk (shut_int Try.underlying3 w0) (trodAll_cons_mk (Below.trod laidOut (by kernel_rfl) (of_decide_eq_true (by kernel_rfl)) k1 bel lt1) trodAll_mk0)), rfl, bel.frame _, fun h => by cases h⟩

theorem over : Rows.tableNeverRow.holds Try.pinned (OpenSpec.ofChange Rows.tableNeverSpec) :=
  OpenClaim.holds_of_wide 6 Try.f6 rfl rfl rfl rfl rfl rfl rfl ⟨rfl, rfl, rfl, rfl, rfl⟩ rfl rfl rfl rfl rfl (by kernel_rfl) Try.func6 (by kernel_rfl)
    (of_decide_eq_true (by kernel_rfl)) (by unfold Func.isWrapper; first | (rw [if_pos (by decide +kernel)]; kernel_rfl) | (rw [if_neg (by decide +kernel)]; exact ⟨rfl, rfl⟩))
    (fun os started H enc _ => lifted os started H enc)

theorem proved : Rows.TableNeverSaid := over
#print axioms proved
end Go.Proofs.Ytdcmdidikengbaa.tableNever
