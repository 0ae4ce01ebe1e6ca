/- a name is of one that lives: who is dropped loses just its names -/
import Derived.Test.YtdcmdidikengbaaRows
import Derived.Test.YtdcmdidikengbaaTbNams
import Derived.Laws.Cover1
import Derived.Sort.Walk0
import Derived.BigQuiet
import Derived.Deep.QuietTactic
import Derived.WalkKit
import Derived.ProofKit
import Derived.OpenShut
import Derived.ShutString
import Derived.ChangeOld
import Derived.Below
import Derived.Deep.Strs
namespace Go.Proofs.Ytdcmdidikengbaa.tableNames
open Go.ChangeShapes Go.WideShapes Go.ChangeAt Go.RowKit
open Go.ChangeMaps (open_string shut_string)
set_option linter.unusedVariables false

theorem own : ownKnob Try.prog.godebug = none := by kernel_rfl
theorem laidOut : laidOutB Try.prog = true := by kernel_rfl

set_option maxHeartbeats 8000000 in
set_option maxRecDepth 100000 in
theorem walk (a0 : Option Addr) (len0 cap0 : Nat) (z0 : Nat → ByteArray) (a1 : Option Addr) (len1 cap1 : Nat) (z1 : Nat → Int) (a2 : Int) (w : World) (h0 : StrIn w a0 len0 z0 ∧ len0 ≤ cap0 ∧ cap0 ≤ 9223372036854775807) (h1 : InRow w a1 len1 z1) (w2 : (Lit.int .i64 a2).wf = true) :
    Calls Try.prog 7 #[.slice a0 len0 cap0, .slice a1 len1 cap1, .int .i64 a2] w fun e w' => e = .returned (.bool true) ∧ Below w.heap.size w w' := by
  obtain ⟨b1, b2⟩ := bounds_i64 w2
  clear w2
  have hc1 := h0.2.1
  have hc2 := h0.2.2
  have hl0 := h0.1.1
  have hl1 := h1.1
  have HI := Lib.hid (And.intro h0.1 h1)
  obtain ⟨K, hK, hK2⟩ : ∃ K : Nat, a2 % 4 = K ∧ K < 4 := ⟨(a2 % 4).toNat, by omega, by omega⟩
  have HP := Lib.hid (fun w => place_any w a2 4 b1 b2 (by omega) (by omega))
  rw [hK] at HP
  have HNW := Lib.hid (show Calls Try.prog 9 #[.int .i64 4] w _ from ts_new (C := noC) w 4 (by omega) (by omega) (fun _ e => e.elim))
  clear b1 b2 h0 h1 hK
  go_enter Try.func7, Try.ntmps7
  go_wp2_with fail
  refine HNW.out.mono ?_
  rintro e w1 ⟨b, rfl, h1, -⟩
  have HS := Lib.hid h1
  clear h1 HNW
  go_wp2_with fail
  go_loopg [9, 10, 11] 4 (fun gk s9 s10 s11 wr => ∃ (k : Nat) (y10 y11 : Value), k ≤ 4 ∧ gk = 4 - k ∧ s9 = .int .i64 (k : Nat) ∧ s10 = y10 ∧ s11 = y11 ∧ Hid (TS w noC wr b 4 (64 * k) (firstN k) []))
  case atStart => exact ⟨0, _, _, by omega, rfl, rfl, rfl, rfl, HS⟩
  case round =>
    obtain ⟨k, y10, y11, hk, rfl, rfl, rfl, rfl, HR⟩ := hrel
    clear HS
    by_cases hlt : k < 4
    · have hli : (k : Int) < 4 := by omega
      have HA := Lib.hid (ts_add_first HR.out hlt (by omega))
      clear HR
      go_wp2_with fail
      refine HA.out.mono ?_
      rintro e w4 ⟨rfl, h4, -⟩
      have HL := Lib.hid h4
      clear h4 HA
      go_wp2_with fail
      go_roundg (4 - (k + 1))
      case measure => omega
      case rel => exact ⟨k + 1, _, _, by omega, rfl, by go_num, rfl, rfl, HL⟩
    · obtain rfl : k = 4 := by omega
      have HT := Lib.hid (Nams.start (k := K) HR.out)
      obtain ⟨M, hM, hM40, hM0⟩ : ∃ M, (M = if 40 < len0 then 40 else len0) ∧ M ≤ 40 ∧ M ≤ len0 := ⟨_, rfl, by split <;> omega, by split <;> omega⟩
      clear HR hlt
      by_cases hbig : 40 < len0
      all_goals
        first | (rw [if_pos hbig] at hM) | (rw [if_neg hbig] at hM)
        have hbi : (40 < (len0 : Int)) = (40 < len0) := by rw [eq_iff_iff]; omega
        have hcap40 : M = 40 → (40 : Int) ≤ cap0 := fun e => by omega
        try (have hcb := hcap40 hM)
        try (have hbig2 : (40 : Int) < len0 := by omega)
        try (have hbig2 : ¬ (40 : Int) < len0 := by omega)
        clear hbi hcap40
        go_wp2_with fail
        refine (HP.out _).mono ?_
        rintro e w' ⟨rfl, rfl⟩
        clear HP
        go_wp2_with fail
        first | rw [show Value.slice a0 40 cap0 = Value.slice a0 M cap0 from by rw [hM]] | rw [show Value.slice a0 len0 cap0 = Value.slice a0 M cap0 from by rw [hM]]
        have HM := Lib.hid hM
        clear hbig2 hbig hM
        try clear hcb
        go_loopg [13, 14, 15, 16] M (fun gk s13 s14 s15 s16 wx => ∃ (i gone : Nat) (kv y16 : Value), i ≤ M ∧ gk = M - i ∧ s13 = .int .i64 (gone : Nat) ∧ s14 = kv ∧ s15 = .int .i64 (i : Nat) ∧ s16 = y16 ∧ Hid (∃ ns kept, Nams w wx b kv K ns kept gone i))
        case atStart => exact ⟨0, 0, _, _, by omega, rfl, rfl, rfl, rfl, rfl, Lib.hid ⟨[], [], HT.out⟩⟩
        case round =>
          obtain ⟨i, gone, kv, y16, hi, rfl, rfl, hkv, rfl, rfl, HN0⟩ := hrel
          obtain rfl := hkv.symm
          clear HT
          obtain ⟨ns, kept, hn⟩ := HN0.out
          clear HN0
          have hi3 : (i : Int) ≤ 40 := by omega
          have hgo : (gone : Int) ≤ 40 := by have := hn.gi; omega
          obtain ⟨pk, ck, hkf⟩ := hn.kr.form
          obtain ⟨L, hL⟩ : ∃ L, kept.length = L := ⟨_, rfl⟩
          have HN := Lib.hid (And.intro hn hL)
          have HK := Lib.hid hn.ts.kp0
          rw [hL] at hkf
          subst hkf
          clear hn hL
          by_cases hlt : i < M
          · have hli : (i : Int) < M := by omega
            obtain ⟨g0, off0, hpo, c0, cs⟩ := HI.out.1.at' HK.out i (by omega)
            obtain ⟨s, hs⟩ : ∃ s, z0 i = s := ⟨_, rfl⟩
            rw [hs] at c0 cs
            have HCS := Lib.hid (And.intro cs hs)
            subst hpo
            clear cs hs
            -- the owner
            have hown : ∃ o : Nat, o < 4 ∧ ((i < len1 ∧ z1 i % 4 = o) ∨ (¬ i < len1 ∧ o = 0)) := by
              by_cases h : i < len1
              · exact ⟨(z1 i % 4).toNat, by omega, .inl ⟨h, by omega⟩⟩
              · exact ⟨0, by omega, .inr ⟨h, rfl⟩⟩
            obtain ⟨o, ho4, hown⟩ := hown
            have hOS : ∃ O : Int, O = (o : Nat) := ⟨_, rfl⟩
            obtain ⟨O, hO⟩ := hOS
            have HRB : Hid (nameKind (firstN 4) ns s (o : Nat) ≠ 0 → Calls Try.prog 17 #[.pointer (some ⟨b, 0, none⟩), .string s, .int .i64 O] wr (fun e w' => ∃ g, e = .returned (.iface 38 (.pointer (some ⟨g, 0, none⟩))) ∧ Nams w w' b (.slice pk L ck) K ns kept gone (i + 1))) := by
              refine Lib.hid (fun hk => ?_)
              rw [hO]
              exact nams_bad HN.out.1 HCS.out.1 hk
            have HRG : Hid (o = K → nameKind (firstN 4) ns s (o : Nat) = 0 → Calls Try.prog 17 #[.pointer (some ⟨b, 0, none⟩), .string s, .int .i64 O] wr (fun e w' => e = .returned .nilIface ∧ Nams w w' b (.slice pk L ck) K (putNm ns ⟨s, K⟩) kept (gone + 1) (i + 1))) := by
              refine Lib.hid (fun e hk => ?_)
              rw [hO]
              subst e
              exact nams_gone HN.out.1 hk
            have HRK : Hid (o ≠ K → nameKind (firstN 4) ns s (o : Nat) = 0 → Calls Try.prog 17 #[.pointer (some ⟨b, 0, none⟩), .string s, .int .i64 O] wr (fun e w' => e = .returned .nilIface ∧ ∃ kv' w2, (Builtin.append_ #[32, 32] 32 #[.slice pk L ck, .slice (some ⟨w'.heap.size, 0, none⟩) 1 1]).run Try.prog (w'.alloc (.cells #[.string s] 9)) = .ok kv' w2 ∧
                Nams w w2 b kv' K (putNm ns ⟨s, o⟩) (kept ++ [s]) gone (i + 1) ∧ Kp (fun _ => False) w w')) := by
              refine Lib.hid (fun e hk => ?_)
              rw [hO]
              exact nams_kept HN.out.1 e (by omega) hk
            rcases hown with ⟨hl, hz⟩ | ⟨hl, ho0⟩
            · have hli1 : (i : Int) < len1 := by omega
              obtain ⟨g1, off1, hp1, d0, d1, d2⟩ := HI.out.2.at' HK.out i hl
              have HPL := Lib.hid (fun w => place_any w (z1 i) 4 d1 d2 (by omega) (by omega))
              rw [hz] at HPL
              obtain ⟨x, hx⟩ : ∃ x, z1 i = x := ⟨_, rfl⟩
              rw [hx] at d0 d1 d2 HPL
              subst hp1
              rw [← hO] at HPL
              have HOO := Lib.hid hO
              clear hz hx hl hO
              go_wp2_with fail
              refine (HPL.out _).mono ?_
              rintro e w' ⟨rfl, rfl⟩
              clear HPL d0 d1 d2
              by_cases hnk : nameKind (firstN 4) ns s (o : Nat) = 0
              · by_cases hoK : o = K
                · have HR := Lib.hid (HRG.out hoK hnk)
                  have hob : (O == (K : Int)) = true := by rw [beq_iff_eq, HOO.out]; omega
                  clear hnk hoK HRB HRG HRK
                  go_wp2_with fail
                  refine HR.out.mono ?_
                  rintro e w4 ⟨rfl, h4⟩
                  have H4 := Lib.hid h4
                  clear h4 HR c0
                  go_wp2_with fail
                  go_roundg (M - (i + 1))
                  case measure => omega
                  case rel => exact ⟨i + 1, gone + 1, _, _, by omega, rfl, by go_num, rfl, by go_num, rfl, Lib.hid ⟨_, _, H4.out⟩⟩
                · have HR := Lib.hid (HRK.out hoK hnk)
                  have hob : (O == (K : Int)) = false := by rw [beq_eq_false_iff_ne, HOO.out]; omega
                  clear hnk hoK HRB HRG HRK
                  go_wp2_with fail
                  refine HR.out.mono ?_
                  rintro e w4 ⟨rfl, kv', w5, hr5, h5, hk4⟩
                  obtain ⟨g2, off2, hp2, c4, -⟩ := HI.out.1.at' hk4 i (by omega)
                  rw [HCS.out.2] at c4
                  obtain ⟨rfl, rfl⟩ : g0 = g2 ∧ off0 = off2 := by
                    injection hp2 with hp2
                    injection hp2 with e1 e2
                    exact ⟨e1, e2⟩
                  have H5 := Lib.hid h5
                  have HR5 := Lib.hid hr5
                  clear h5 hr5 hk4 HR c0 hp2
                  go_wp2_with (at_builtin; refine wpList_run rfl _ _ 32 rfl (.slice pk L ck) (.slice (some ⟨w4.heap.size, 0, none⟩) 1 1) rfl rfl _ w5 HR5.out ?_)
                  go_roundg (M - (i + 1))
                  case measure => omega
                  case rel => exact ⟨i + 1, gone, _, _, by omega, rfl, by go_num, rfl, by go_num, rfl, Lib.hid ⟨_, _, H5.out⟩⟩
              · have HR := Lib.hid (HRB.out hnk)
                clear hnk HRB HRG HRK
                go_wp2_with fail
                refine HR.out.mono ?_
                rintro e w4 ⟨gf, rfl, h4⟩
                have H4 := Lib.hid h4
                clear h4 HR c0
                go_wp2_with fail
                go_roundg (M - (i + 1))
                case measure => omega
                case rel => exact ⟨i + 1, gone, _, _, by omega, rfl, by go_num, rfl, by go_num, rfl, Lib.hid ⟨_, _, H4.out⟩⟩
            · have hli1 : ¬ (i : Int) < len1 := by omega
              have hO0 : O = 0 := by omega
              rw [hO0] at HRB HRG HRK
              clear hl
              by_cases hnk : nameKind (firstN 4) ns s (o : Nat) = 0
              · by_cases hoK : o = K
                · have HR := Lib.hid (HRG.out hoK hnk)
                  have hob : ((0 : Int) == (K : Int)) = true := by rw [beq_iff_eq]; omega
                  clear hnk hoK hO HRB HRG HRK
                  clear hO0 ho0
                  go_wp2_with fail
                  refine HR.out.mono ?_
                  rintro e w4 ⟨rfl, h4⟩
                  have H4 := Lib.hid h4
                  clear h4 HR c0
                  go_wp2_with fail
                  go_roundg (M - (i + 1))
                  case measure => omega
                  case rel => exact ⟨i + 1, gone + 1, _, _, by omega, rfl, by go_num, rfl, by go_num, rfl, Lib.hid ⟨_, _, H4.out⟩⟩
                · have HR := Lib.hid (HRK.out hoK hnk)
                  have hob : ((0 : Int) == (K : Int)) = false := by rw [beq_eq_false_iff_ne]; omega
                  clear hnk hoK hO HRB HRG HRK
                  clear hO0 ho0
                  go_wp2_with fail
                  refine HR.out.mono ?_
                  rintro e w4 ⟨rfl, kv', w5, hr5, h5, hk4⟩
                  obtain ⟨g2, off2, hp2, c4, -⟩ := HI.out.1.at' hk4 i (by omega)
                  rw [HCS.out.2] at c4
                  obtain ⟨rfl, rfl⟩ : g0 = g2 ∧ off0 = off2 := by
                    injection hp2 with hp2
                    injection hp2 with e1 e2
                    exact ⟨e1, e2⟩
                  have H5 := Lib.hid h5
                  have HR5 := Lib.hid hr5
                  clear h5 hr5 hk4 HR c0 hp2
                  go_wp2_with (at_builtin; refine wpList_run rfl _ _ 32 rfl (.slice pk L ck) (.slice (some ⟨w4.heap.size, 0, none⟩) 1 1) rfl rfl _ w5 HR5.out ?_)
                  go_roundg (M - (i + 1))
                  case measure => omega
                  case rel => exact ⟨i + 1, gone, _, _, by omega, rfl, by go_num, rfl, by go_num, rfl, Lib.hid ⟨_, _, H5.out⟩⟩
              · have HR := Lib.hid (HRB.out hnk)
                clear hnk hO HRB HRG HRK
                clear hO0 ho0
                go_wp2_with fail
                refine HR.out.mono ?_
                rintro e w4 ⟨gf, rfl, h4⟩
                have H4 := Lib.hid h4
                clear h4 HR c0
                go_wp2_with fail
                go_roundg (M - (i + 1))
                case measure => omega
                case rel => exact ⟨i + 1, gone, _, _, by omega, rfl, by go_num, rfl, by go_num, rfl, Lib.hid ⟨_, _, H4.out⟩⟩
          · obtain rfl : M = i := by omega
            have hLf : L ≤ 40 := by have := HN.out.1.fw; have := HN.out.2; omega
            have HD := Lib.hid (nams_drop HN.out.1 hK2)
            go_wp2_with fail
            refine HD.out.mono ?_
            rintro e w4 ⟨u, sl4, ns4, gn, rfl, h4, hg4, hn4⟩
            obtain ⟨pu, cu, rfl⟩ := h4.ur.form
            rw [hg4]
            have HN4 := Lib.hid (ts_names h4.ts)
            have H4 := Lib.hid (And.intro h4 (And.intro hg4 hn4))
            clear h4 hg4 hn4 HD
            go_wp2_with fail
            refine HN4.out.mono ?_
            rintro e w5 ⟨vn, rfl, hsw, -, hk5⟩
            obtain ⟨pn, cn, rfl⟩ := hsw.form
            rw [show (txts ns4).length = L from by unfold txts; rw [List.length_map, H4.out.2.2, HN.out.2]]
            have H5 := Lib.hid (H4.out.1.same hk5)
            clear hsw hk5 HN4
            go_wp2_with fail
            go_loopg [18, 19, 20] L (fun gk s18 s19 s20 wx => ∃ (k : Nat) (y19 y20 : Value), k ≤ L ∧ gk = L - k ∧ s18 = .int .i64 (k : Nat) ∧ s19 = y19 ∧ s20 = y20 ∧ w5 = wx)
            case atStart => exact ⟨0, _, _, by omega, rfl, rfl, rfl, rfl, rfl⟩
            case round =>
              obtain ⟨k, y19, y20, hk, rfl, rfl, rfl, rfl, rfl⟩ := hrel
              by_cases hkl : k < L
              · have hkl2 : (k : Int) < L := by omega
                obtain ⟨s, hs⟩ : ∃ s, kept[k]? = some s := ⟨_, List.getElem?_eq_getElem (by rw [HN.out.2]; exact hkl)⟩
                obtain ⟨q, hq, hw, hkq, hsz⟩ := H5.out.has s (List.mem_of_getElem? hs)
                obtain ⟨g1, cg1, e1, e2, e3, d0⟩ := H5.out.kr.get hs
                obtain rfl : pk = some ⟨g1, 0, none⟩ := by injection e1
                have HW := Lib.hid (ts_whereis H5.out.ts (by unfold maxLen; omega) hw)
                have HLV := Lib.hid (ts_live H5.out.ts (q : Nat))
                rw [hkq] at HLV
                have hqb : (((q : Nat) : Int) == (K : Int)) = false := by rw [beq_eq_false_iff_ne]; omega
                clear hs hw hkq e1 e2 e3 hq hsz
                go_wp2_with (first | (go_at_call 21; refine HW.out.mono ?_; rintro e w' ⟨rfl, rfl⟩) | (go_at_call 12; refine HLV.out.mono ?_; rintro e w' ⟨rfl, rfl⟩))
                go_roundg (L - (k + 1))
                case measure => omega
                case rel => exact ⟨k + 1, _, _, by omega, rfl, by go_num, rfl, rfl, rfl⟩
              · obtain rfl : L = k := by omega
                go_wp2_with fail
                go_loopg [21, 22, 23] gone (fun gk s21 s22 s23 wx => ∃ (k : Nat) (y22 y23 : Value), k ≤ gone ∧ gk = gone - k ∧ s21 = .int .i64 (k : Nat) ∧ s22 = y22 ∧ s23 = y23 ∧ Hid (NamD w wx b (.slice pk L ck) (.slice pu gn.length cu) K sl4 ns4 kept gn))
                case atStart => exact ⟨0, _, _, by omega, rfl, rfl, rfl, rfl, H5⟩
                case round =>
                  obtain ⟨k, y22, y23, hk2, rfl, rfl, rfl, rfl, H6⟩ := hrel
                  by_cases hkg : k < gone
                  · have hkg2 : (k : Int) < gone := by omega
                    obtain ⟨s, hs⟩ : ∃ s, gn[k]? = some s := ⟨_, List.getElem?_eq_getElem (by rw [H4.out.2.1]; exact hkg)⟩
                    obtain ⟨hno, hsz⟩ := H6.out.non s (List.mem_of_getElem? hs)
                    obtain ⟨g1, cg1, e1, e2, e3, d0⟩ := H6.out.ur.get hs
                    have HGE := Lib.hid (And.intro e2 e3)
                    obtain ⟨rfl, rfl⟩ : pu = some ⟨g1, 0, none⟩ ∧ cu = cg1 := by
                      injection e1 with e1 _ e2
                      exact ⟨e1, e2⟩
                    have HW := Lib.hid (ts_whereis_bad H6.out.ts (by unfold maxLen; omega) hno)
                    have HS2 := Lib.hid hs
                    clear hs hno e1 e2 e3 hsz
                    go_wp2_with fail
                    refine HW.out.mono ?_
                    rintro e w7 ⟨u7, rfl, hu, hk7⟩
                    obtain ⟨g7, rfl⟩ := hu.out.form
                    have H7 := Lib.hid (H6.out.same hk7)
                    clear hu hk7 HW d0
                    by_cases hk0 : k = 0
                    · subst hk0
                      rw [show (((0 : Nat) : Int)) = 0 from rfl]
                      go_wp2_with fail
                      go_quiet (fail)
                      go_wp2_with fail
                      go_roundg (gone - (0 + 1))
                      case measure => omega
                      case rel => exact ⟨0 + 1, _, _, by omega, rfl, by go_num, rfl, rfl, Lib.hid (H7.out.same (kp_drewN (Kp.refl _ _) _))⟩
                    · have hk0i : (0 : Int) < k := by omega
                      have hk0n : 0 < k := by omega
                      have hk0b : decide (0 < k) = true := decide_eq_true hk0n
                      obtain ⟨K1, hK1⟩ : ∃ K1, k = K1 + 1 := ⟨k - 1, by omega⟩
                      obtain ⟨s1, hs1⟩ : ∃ s1, gn[K1]? = some s1 := ⟨_, List.getElem?_eq_getElem (by rw [H4.out.2.1]; omega)⟩
                      have hlt1 : s1.data.toList < s.data.toList := by
                        have h1 := H7.out.ord
                        rw [List.pairwise_iff_getElem] at h1
                        obtain ⟨j1, e1⟩ := List.getElem?_eq_some_iff.1 hs1
                        obtain ⟨j2, e2⟩ := List.getElem?_eq_some_iff.1 HS2.out
                        have := h1 K1 k j1 j2 (by omega)
                        rw [e1, e2] at this
                        exact this
                      have hle : (Op.bytesLess s.toList s1.toList || s.toList == s1.toList) = false := by
                        rw [ByteArray.toList_eq, ByteArray.toList_eq, bytesLess_eq, Bool.or_eq_false_iff]
                        refine ⟨decide_eq_false (fun e => List.lt_asymm e hlt1), ?_⟩
                        rw [beq_eq_false_iff_ne]
                        intro e
                        rw [e] at hlt1
                        exact List.lt_irrefl _ hlt1
                      have d7 : ∀ n, (w7.drewN n).cell? ⟨g1, k, none⟩ = some (.string s) := fun n => by
                        obtain ⟨g1', cg1', e1, -, -, d⟩ := H7.out.ur.get HS2.out
                        obtain rfl : g1 = g1' := by
                          injection e1 with e1
                          injection e1 with e1
                          injection e1
                        exact d
                      have d7b : ∀ n, (w7.drewN n).cell? ⟨g1, K1, none⟩ = some (.string s1) := fun n => by
                        obtain ⟨g1', cg1', e1, -, -, d⟩ := H7.out.ur.get hs1
                        obtain rfl : g1 = g1' := by
                          injection e1 with e1
                          injection e1 with e1
                          injection e1
                        exact d
                      have hKi : (k : Int) - 1 = (K1 : Int) := by omega
                      have hKw : IntKind.i64.wrap ((k : Int) - 1) = (K1 : Int) := by rw [IntWalk.i64_in _ (by omega)]; omega
                      have hK1g : (K1 : Int) < gone := by omega
                      have hgo40 : (k : Int) ≤ 40 := by omega
                      have HK1 := Lib.hid hK1
                      clear hk0 hs1 hlt1 hK1
                      go_wp2_with fail
                      go_quiet (fail)
                      go_wp2_with fail
                      go_roundg (gone - (k + 1))
                      case measure => omega
                      case rel => exact ⟨k + 1, _, _, by omega, rfl, by go_num, rfl, rfl, Lib.hid (H7.out.same (kp_drewN (Kp.refl _ _) _))⟩
                  · obtain rfl : gone = k := by omega
                    have H8 := Lib.hid H6.out.ts.kp0
                    go_wp2_with fail
                    refine (tbAwake_any _).mono ?_
                    rintro e w9 ⟨rfl, hk9⟩
                    have H9 := Lib.hid (H8.out.trans' hk9)
                    clear hk9
                    go_wp2_with fail
                    go_ret
                    exact ⟨rfl, H9.out.below _ (Nat.le_refl _) (fun _ e => e.elim)⟩

set_option maxRecDepth 100000 in
theorem lifted (os : Os) (started : os.Started) (H : Type) (enc : TypeId × Value → H) :
    ReturnsInHanded {} Try.checked os 7 .any (Rows.tableNamesSpec.pre6 enc Try.prog Try.f7 Rows.tableNamesRow.domain false) (Rows.tableNamesSpec.post enc Try.prog Try.f7 false true false false) := by
  refine returnsInHanded_of_change (C := Try.checked) own started (by kernel_rfl) Try.func7
    (ChangeSpec.witness6 (enc := enc) (C := Try.checked) false ⟨#[], #[.slice none 0 0, .slice none 0 0, .int .i64 0], []⟩ 8 (by kernel_rfl) (by kernel_rfl) (by kernel_rfl) (by kernel_rfl)) ?_
  intro W base args ds gs before hval0 hW hcnd _
  have hval : ∀ (j : Nat) t v, Try.f7.params[j]? = some t → args[j]? = some v → Value.okWide Try.prog W .any base t v := hval0
  have hW' := hW
  obtain ⟨p, q, hA0, hV, rfl, hfz, hnd⟩ := hW
  have hA : DataW.TrodAll enc Try.prog W 0 (fun _ => true) true Try.f7.params.toList args.toList ds p := hA0
  rw [Try.params7] at hA hval
  obtain ⟨v0, vs0, d0, ds0, p0, q0, hargs, rfl, rfl, h0, r0⟩ := trodAll_cons hA
  obtain ⟨v1, vs1, d1, ds1, p1, q1, rfl, rfl, rfl, h1, r1⟩ := trodAll_cons r0
  obtain ⟨v2, vs2, d2, ds2, p2, q2, rfl, rfl, rfl, h2, r2⟩ := trodAll_cons r1
  obtain ⟨rfl, rfl, rfl⟩ := trodAll_nil r2
  obtain rfl : args = #[v0, v1, v2] := by cases args; simp_all
  obtain ⟨rfl, rfl⟩ := trodVars_none hV
  obtain ⟨a0, len0, cap0, rfl⟩ := okWide_slice Try.underlying32 (hval 0 32 v0 rfl rfl)
  have k0 := h0
  have lt0 : ∀ x ∈ p0, x.block < W.heap.size := by obtain ⟨m, hm⟩ := k0; exact DataW.trod_lt m _ _ _ hm
  obtain ⟨z0, w0⟩ : ∃ zs : Nat → ByteArray, StrIn W a0 len0 zs ∧ len0 ≤ cap0 ∧ cap0 ≤ 9223372036854775807 := by
    obtain ⟨fuel, hf⟩ := h0
    rcases Go.Deep.open_strs Try.underlying32 Try.underlying9 (by kernel_rfl) hf with ⟨hcs, _⟩ | ⟨x, l, c, m, Sx, hcs, _, hl, hm, hmm, _, hcell⟩
    · simp [Value.cells] at hcs
      obtain ⟨rfl, rfl, rfl⟩ := hcs
      exact ⟨fun _ => ByteArray.empty, ⟨by unfold StrIn; exact ⟨by omega, fun k hk => by omega⟩, by omega, by omega⟩⟩
    · simp [Value.cells] at hcs
      obtain ⟨rfl, rfl, rfl⟩ := hcs
      exact ⟨Sx, ⟨strIn_of (by omega) (fun k hk => hcell k (by rw [hmm]; split <;> omega)), hl, by unfold maxLen at hm; omega⟩⟩
  obtain ⟨a1, len1, cap1, rfl⟩ := okWide_slice Try.underlying49 (hval 1 49 v1 rfl rfl)
  have k1 := h1
  have lt1 : ∀ x ∈ p1, x.block < W.heap.size := by obtain ⟨m, hm⟩ := k1; exact DataW.trod_lt m _ _ _ hm
  obtain ⟨z1, w1⟩ : ∃ zs : Nat → Int, InRow W a1 len1 zs := by
    obtain ⟨fuel, hf⟩ := h1
    rcases open_ints Try.underlying49 Try.underlying3 (by kernel_rfl) hf with ⟨hcs, _⟩ | ⟨x, l, c, zs, hcs, _, hl, hm, hz, _, hcell, hwz⟩
    · simp [Value.cells] at hcs
      obtain ⟨rfl, rfl, rfl⟩ := hcs
      exact ⟨fun _ => 0, by unfold InRow; exact ⟨by omega, fun k hk => by omega⟩⟩
    · simp [Value.cells] at hcs
      obtain ⟨rfl, rfl, rfl⟩ := hcs
      exact ⟨_, inRow_of (zs := zs) (.inr ⟨_, rfl, hl, hm, by simpa using hz, hcell, hwz⟩)⟩
  obtain ⟨a2, rfl, rfl, rfl, w2⟩ := open_int Try.underlying3 (hval 2 3 v2 rfl rfl) h2
  clear hA0 hval0
  simp only [List.append_nil] at hW'
  refine (walk a0 len0 cap0 z0 a1 len1 cap1 z1 a2 W w0 w1 w2).mono fun e W' ⟨he, bel⟩ => ?_
  subst he
  exact ⟨_, rfl, _, _, _, [], _, [], hW', trodAll_mk1 (shut_bool Try.underlying4 _), (trodAll_cons_mk (Below.trod laidOut (by kernel_rfl) (of_decide_eq_true (by kernel_rfl)) k0 bel lt0) (trodAll_cons_mk (Below.trod laidOut (by kernel_rfl) (of_decide_eq_true (by kernel_rfl)) k1 bel lt1) (trodAll_cons_mk (shut_int Try.underlying3 w2) trodAll_mk0))), rfl, bel.frame _, fun h => by cases h⟩

theorem over : Rows.tableNamesRow.holds Try.pinned (OpenSpec.ofChange Rows.tableNamesSpec) :=
  OpenClaim.holds_of_wide 7 Try.f7 rfl rfl rfl rfl rfl rfl rfl ⟨rfl, rfl, rfl, rfl, rfl⟩ rfl rfl rfl rfl rfl (by kernel_rfl) Try.func7 (by kernel_rfl)
    (of_decide_eq_true (by kernel_rfl)) (by unfold Func.isWrapper; first | (rw [if_pos (by decide +kernel)]; kernel_rfl) | (rw [if_neg (by decide +kernel)]; exact ⟨rfl, rfl⟩))
    (fun os started H enc _ => lifted os started H enc)

theorem proved : Rows.TableNamesSaid := over
#print axioms proved
end Go.Proofs.Ytdcmdidikengbaa.tableNames
