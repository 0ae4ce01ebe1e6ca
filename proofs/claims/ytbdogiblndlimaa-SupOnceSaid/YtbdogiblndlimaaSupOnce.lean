/- one-for-one: who is never started again stays down; nothing is stopped for it -/
import Derived.Test.YtbdogiblndlimaaRows
import Derived.Test.YtbdogiblndlimaaSuOnce
import Derived.Test.YtbdogiblndlimaaLkIn
import Derived.BigGuardPart
import Derived.Deep.DeepCutAuto
import Derived.Deep.CutBlock
import Derived.WalkKit
import Derived.ProofKit
import Derived.OpenShut
import Derived.ShutString
import Derived.ChangeOld
import Derived.Below
import Derived.Deep.Strs
namespace Go.Proofs.Ytbdogiblndlimaa.supOnce
open Go.ChangeShapes Go.WideShapes Go.ChangeAt Go.RowKit
open Go.ChangeMaps (open_string shut_string)
set_option linter.unusedVariables false

theorem own : ownKnob Try.prog.godebug = none := by kernel_rfl
theorem laidOut : laidOutB Try.prog = true := by kernel_rfl

theorem Try.neAct (w : World) (a b c d : Int) : (binOp .neq 40 (.agg #[.int .i64 a, .int .i64 b]) (.agg #[.int .i64 c, .int .i64 d])).run Try.prog w = .ok (.bool (!(a == c && b == d))) w := by
  have h := Try.eqAct w a b c d
  rw [run_eql_struct] at h
  rw [run_neq_struct]
  cases hr : (Op.equalIn 10000 40 (.agg #[.int .i64 a, .int .i64 b]) (.agg #[.int .i64 c, .int .i64 d])).run Try.prog w <;> rw [hr] at h <;> simp [Result.andThen] at h ⊢
  simp [h.1, h.2]
set_option maxHeartbeats 8000000 in
set_option maxRecDepth 100000 in
theorem walk (a0 : Option Addr) (len0 cap0 : Nat) (z0 : Nat → Int) (a1 : Option Addr) (len1 cap1 : Nat) (z1 : Nat → Int) (a2 : Bool) (w : World) (h0 : InRow w a0 len0 z0 ∧ len0 ≤ cap0 ∧ cap0 ≤ 9223372036854775807) (h1 : InRowZ w a1 len1 z1) :
    Calls Try.prog 6 #[.slice a0 len0 cap0, .slice a1 len1 cap1, .bool a2] w fun e w' => e = .returned (.bool true) ∧ Below w.heap.size w w' := by
  obtain ⟨hr0, hc1, hc2⟩ := h0
  obtain ⟨hr1, hz1⟩ := h1
  have hl0 := hr0.1
  have hl1 := hr1.1
  -- at most ten
  obtain ⟨n, hn⟩ : ∃ n, n = min len0 10 := ⟨_, rfl⟩
  have hnl : n ≤ len0 := by omega
  have hn10 : n ≤ 10 := by omega
  have HIk := Lib.hid hr0
  have HId := Lib.hid hr1
  have HAW := Lib.hid suAwake_any
  by_cases hempty : n = 0
  · obtain rfl : len0 = 0 := by omega
    clear hr0 hr1 hn hnl hn10 hempty
    go_enter Try.func6, Try.ntmps6
    go_wp2_with fail
    refine (HAW.out _).mono ?_
    rintro e w10 ⟨rfl, hk10⟩
    have HG := Lib.hid (hk10.below w.heap.size (Nat.le_refl _) fun _ e => e.elim)
    clear hk10 HAW
    go_wp2_with fail
    go_ret
    exact ⟨rfl, HG.out⟩
  · have hn0 : 1 ≤ n := by omega
    have hsp0 : SpB w (w.alloc (.cells #[.int .i64 1, .int .i64 1000, .int .i64 1, .slice none 0 0] 33)) w.heap.size ⟨1, 1000, 1⟩ (.slice none 0 0) (chs z0 0) :=
      ⟨heap_alloc_new w _, ownsS_nil _ _ _, Nat.le_refl _, (fun g hg => by cases hg), (Kp.refl _ w).alloc _⟩
    have HS0 := Lib.hid hsp0
    have HN := Lib.hid hn
    have hni : (0 : Int) < n := by omega
    have hnz : ((n : Int) == 0) = false := by simp; omega
    clear hr0 hr1 hsp0 hn hempty
    go_enter Try.func6, Try.ntmps6
    go_upto_if 21 with (fail)
    go_cut [0] (fun s0 wx => s0 = .slice a0 n cap0 ∧ w = wx)
    case first =>
      by_cases hgt : 10 < len0
      · obtain rfl : n = 10 := by have := HN.out; omega
        have hgt2 : (10 : Int) < len0 := by omega
        go_wp2_with fail
        go_meet
        exact ⟨rfl, rfl⟩
      · obtain rfl : n = len0 := by have := HN.out; omega
        have hgt2 : ¬ (10 : Int) < n := by omega
        go_wp2_with fail
        go_meet
        exact ⟨rfl, rfl⟩
    case rest =>
      obtain ⟨rfl, rfl⟩ := hcut
      go_wp2_with fail
      go_loopg [8] n (fun gk s8 wr => ∃ (i : Nat), i ≤ n ∧ gk = n - i ∧ s8 = .int .i64 (i : Nat) ∧ Hid (∃ v, SpB w wr w.heap.size ⟨1, 1000, 1⟩ v (chs z0 i)))
      case atStart => exact ⟨0, by omega, rfl, rfl, Lib.hid ⟨_, HS0.out⟩⟩
      case round =>
        obtain ⟨i, hi, rfl, rfl, HR⟩ := hrel
        clear HS0
        obtain ⟨v, hR⟩ := HR.out
        clear HR
        by_cases hlt : i < n
        · have hii : (i : Int) < n := by omega
          have hwd : Kp (fun _ => False) wr wr.drew := (Kp.refl _ wr).drew
          obtain ⟨po, cap, hv, -, -⟩ := ownsS_form hR.row
          rw [chs_len] at hv
          subst hv
          have c3 : wr.cell? ⟨w.heap.size, 3, none⟩ = some (.slice po i cap) := by rw [cell_of_row _ _ 3 _ _ _ hR.main]; rfl
          have hBl : w.heap.size < wr.heap.size := (Array.getElem?_eq_some_iff.1 hR.main).1
          obtain ⟨b0, off0, rfl, c0, zb1, zb2⟩ := HIk.out.at' hR.kp i (by omega)
          obtain ⟨z, hz⟩ : ∃ z, z0 i = z := ⟨_, rfl⟩
          have HP := Lib.hid (hR.push (opF, z % 3, 5) (by rw [chs_len]; omega) (hwd.alloc (.cells #[.string opF, .int .i64 (z % 3), .int .i64 5] 29)))
          have hcs := chs_succ z0 i
          rw [hz] at c0 zb1 zb2 hcs
          have HPl := Lib.hid (fun W => place_any W z 3 zb1 zb2 (by omega) (by omega))
          obtain ⟨x, hx⟩ : ∃ x, z % 3 = x := ⟨_, rfl⟩
          rw [hx] at HP HPl hcs
          obtain ⟨v', w3, hr, d3, df, hN⟩ := HP.out
          have hz1 : (wr.drew.alloc (.cells #[.string opF, .int .i64 x, .int .i64 5] 29)).heap.size = wr.heap.size + 1 := by
            rw [World.size_alloc]; rfl
          rw [hz1] at hr
          rw [← hcs] at hN
          obtain ⟨po2, cap2, hv, -, -⟩ := ownsS_form hN.row
          rw [chs_len] at hv
          subst hv
          have HR3 := Lib.hid hr
          have HN3 := Lib.hid hN
          have hbl0 : b0 < wr.heap.size := World.block_lt_of_cell? _ _ c0
          clear hr hN HP hz1 hcs hwd hR hz hx zb1 zb2
          go_wp2_with fail
          go_region_law (first
            | (refine su_step_fn (by rfl) 10 #[.tmp 40, .const (.int .i64 3)] #[3, 3] (by rfl) cf_place #[.int .i64 z, .int .i64 3] (by first | (simp [Act.eval]; done) | simp [Act.eval, Act.put]) ?_; refine (HPl.out _).mono ?_; rintro e w5 ⟨rfl, rfl⟩; refine ⟨_, rfl, ?_⟩)
            | (refine su_step_fn (by rfl) 12 #[.tmp 41] #[3] (by rfl) cf_child #[.int .i64 x] (by first | (simp [Act.eval]; done) | simp [Act.eval, Act.put]) ?_; refine (child_any x _).mono ?_; rintro e w5 ⟨rfl, rfl⟩; refine ⟨_, rfl, ?_⟩; unfold opF)
            | (refine step_run (by rfl) (.tmp 36) (.tmp 43) 31 (by rfl) (.slice po i cap) (.slice (some ⟨wr.heap.size + 1, 0, none⟩) 1 1) (by first | (simp [Act.eval]; done) | simp [Act.eval, Act.put]) (by first | (simp [Act.eval]; done) | simp [Act.eval, Act.put]) _ _ HR3.out ?_))
          all_goals
            go_wp2_with fail
            go_roundg (n - (i + 1))
            case measure => omega
            case rel => exact ⟨i + 1, by omega, rfl, by go_num, Lib.hid ⟨_, HN3.out⟩⟩
        · obtain rfl : n = i := by omega
          have hm := hR.main
          have hrow := hR.row
          have c0 : wr.cell? ⟨w.heap.size, 0, none⟩ = some (.int .i64 1) := cell_of_row _ _ 0 _ _ _ hm
          have c1 : wr.cell? ⟨w.heap.size, 1, none⟩ = some (.int .i64 1000) := cell_of_row _ _ 1 _ _ _ hm
          have c2 : wr.cell? ⟨w.heap.size, 2, none⟩ = some (.int .i64 1) := cell_of_row _ _ 2 _ _ _ hm
          have c3 : wr.cell? ⟨w.heap.size, 3, none⟩ = some v := cell_of_row _ _ 3 _ _ _ hm
          have hchr : ChR wr v (chs z0 n) := ChR.of hrow (by
            intro c hc
            obtain ⟨j, rfl⟩ := chs_mem hc
            refine ⟨by show (1 : Nat) ≤ maxLen; unfold maxLen; omega, ?_, by show (-9223372036854775808 : Int) ≤ 5 ∧ (5 : Int) ≤ 9223372036854775807; omega⟩
            show (-9223372036854775808 : Int) ≤ z0 j % 3 ∧ z0 j % 3 ≤ 9223372036854775807
            omega)
          have hri : rightL ⟨1, 1000, 1⟩ (chs z0 n) = [] := rightL_nil (by
            rw [chs_len]
            simp [spOk, sgOk, isInB]
            omega) (by
            intro c hc
            obtain ⟨j, rfl⟩ := chs_mem hc
            have hj : z0 j % 3 = 0 ∨ z0 j % 3 = 1 ∨ z0 j % 3 = 2 := by omega
            rcases hj with e | e | e <;> (simp only [e]; decide))
          have HNw := Lib.hid (ss_new (w0 := w) (C := fun q => q = w.heap.size ∨ v.ownBlock = some q) (s := ⟨1, 1000, 1⟩) hchr (by unfold I64i; decide) (by unfold I64i; decide) hri hR.kp (fun q e => by
            rcases e with rfl | e
            · exact (Array.getElem?_eq_some_iff.1 hm).1
            · exact ownsS_lt hrow q e))
          have HOi := Lib.hid (Oi.first hri)
          unfold specV at HNw
          have Hrow := Lib.hid (And.intro hrow (And.intro c3 hR.vn))
          obtain ⟨po, cap, hv, -, -⟩ := ownsS_form hrow
          rw [chs_len] at hv
          subst hv
          have hBl : w.heap.size < wr.heap.size := (Array.getElem?_eq_some_iff.1 hm).1
          clear hR hm hrow hchr hri
          go_wp2_with fail
          refine HNw.out.mono ?_
          rintro e w3 ⟨b, rfl, hS, hk3⟩
          have HB := Lib.hid (ss_begin hS (by show ((chs z0 n).map kidOf).length ≤ 32; rw [List.length_map, chs_len]; omega))
          have Hrow3 : Hid (w3.ownsS 29 3 (.slice po n cap) (chs z0 n).length (chC (chs z0 n)) ∧ w3.cell? ⟨w.heap.size, 3, none⟩ = some (.slice po n cap)) :=
            Lib.hid ⟨hk3.rowS Hrow.out.1 (fun _ _ e => e), (hk3.cell (p := ⟨w.heap.size, 3, none⟩) hBl (fun e => e)).trans Hrow.out.2.1⟩
          clear hS HNw c0 c1 c2 c3 hk3
          go_wp2_with fail
          refine HB.out.mono ?_
          rintro e w4 ⟨va, rfl, ha, hna, hS1, hk4⟩
          have hal : (beginA (newS ⟨1, 1000, 1⟩ (chs z0 n))).length = n := by
            show (starts (List.range ((chs z0 n).map kidOf).length)).length = n
            rw [starts_len, List.length_range, List.length_map, chs_len]
          obtain ⟨pa, ca, hva, -, -⟩ := ha.form
          rw [hal] at hva
          subst hva
          have HK4 := Lib.hid (And.intro hS1 (And.intro (hk4.rowS Hrow3.out.1 fun g hg e => e (.inr hg)) ((hk4.cell (p := ⟨w.heap.size, 3, none⟩) (World.block_lt_of_cell? _ _ Hrow3.out.2) (fun e => e (.inl rfl))).trans Hrow3.out.2)))
          clear ha hna hS1 hk4 hal HB
          obtain ⟨i0, hi, hz0, hz1', hz2⟩ := info_parts Try.infoboC
          have HZ := Lib.hid (And.intro hi (And.intro hz0 (And.intro hz1' hz2)))
          clear hi hz0 hz1' hz2
          have hnn : ((n : Int) != (n : Int)) = false := by simp
          go_wp2_with (at_make; refine wpList_make_full _ rfl _ _ 46 rfl w4.heap.size 4 i0 _ 1 Try.underlying46 HZ.out.1 HZ.out.2.1 HZ.out.2.2.1 .i64 .i64 _ _ n rfl rfl rfl rfl (by rw [HZ.out.2.2.2]; omega) (by unfold maxLen; omega) (Nat.le_refl _) ?_; intro w5 hown hgrow; refine Hid.out ?_)
          have hk5 : Kp (fun _ => False) w4 w5 := (Kp.refl _ w4).grown hgrow (fun q e => by cases e)
          have hbo := BoAt.made hown
          have hz4 := HK4.out.1.kp0.size
          have hgl : w4.heap.size < w5.heap.size := (Array.getElem?_eq_some_iff.1 hbo).1
          have hon : On w w5 b w.heap.size w4.heap.size (.slice po n cap) (chs z0 n) (fl n 0) (beginS (newS ⟨1, 1000, 1⟩ (chs z0 n))) := by
            refine ⟨HK4.out.1.put hk5 (fun q hq => ?_), (hk5.cell (p := ⟨w.heap.size, 3, none⟩) (World.block_lt_of_cell? _ _ HK4.out.2.2) (fun e => e)).trans HK4.out.2.2, hk5.rowS HK4.out.2.1 (fun _ _ e => e), by rw [fl_zero]; exact hbo, hz4, ?_, fun e => ?_⟩
            · rcases hq with hq | hq | hq
              · exact .inl (.inl (.inl hq))
              · exact .inl (.inl (.inr hq))
              · exact .inr (by omega)
            · have := World.block_lt_of_cell? _ _ HK4.out.2.2
              simp only at this
              omega
            · have := ownsS_lt HK4.out.2.1 _ e
              omega
          obtain ⟨g, hg⟩ : ∃ g, w4.heap.size = g := ⟨_, rfl⟩
          rw [hg] at hon ⊢
          have HON := Lib.hid hon
          clear hown hgrow hk5 hbo hz4 hgl hon hg hnn HZ HK4 Hrow Hrow3
          refine Lib.hid ?_
          go_wp2_with fail
          go_loopg [12] n (fun gk s12 wr => ∃ (i : Nat), i ≤ n ∧ gk = n - i ∧ s12 = .int .i64 (i : Nat) ∧ Hid (On w wr b w.heap.size g (.slice po n cap) (chs z0 n) (fl n i) (beginS (newS ⟨1, 1000, 1⟩ (chs z0 n)))))
          case atStart => exact ⟨0, by omega, rfl, rfl, HON⟩
          case round =>
            obtain ⟨i, hi, rfl, rfl, HR⟩ := hrel
            clear HON
            by_cases hlt : i < n
            · have hR := HR.out
              have hii : (i : Int) < n := by omega
              have d0 := hR.bo.cell (fl_get (i := i) hlt)
              have hfz := hR.bo.fz
              have HN := Lib.hid (hR.put i true).1
              rw [fl_set hlt] at HN
              clear hR HR
              go_wp2_with fail
              go_roundg (n - (i + 1))
              case measure => omega
              case rel => exact ⟨i + 1, by omega, rfl, by go_num, HN⟩
            · obtain rfl : n = i := by omega
              have HL0 : Hid (∃ S, On w wr b w.heap.size g (.slice po n cap) (chs z0 n) (upsB S.cs) S ∧ Oi S (chs z0 n) 0) := Lib.hid ⟨_, by
                rw [show upsB (beginS (newS ⟨1, 1000, 1⟩ (chs z0 n))).cs = fl n n from upsB_all n (chs_len z0 n)]
                exact HR.out, HOi.out⟩
              have hni2 : ¬ (n : Int) < n := by omega
              clear HR HOi
              go_wp2_with fail
              clear hni2
              go_loopg [13, 14, 15, 16] len1 (fun gk s13 s14 s15 s16 wr => ∃ (j : Nat) (x14 x15 x16 : Value), j ≤ len1 ∧ gk = len1 - j ∧ s13 = .int .i64 (j : Nat) ∧ s14 = x14 ∧ s15 = x15 ∧ s16 = x16 ∧ Hid (∃ S, On w wr b w.heap.size g (.slice po n cap) (chs z0 n) (upsB S.cs) S ∧ Oi S (chs z0 n) j))
              case atStart => exact ⟨0, _, _, _, by omega, rfl, rfl, rfl, rfl, rfl, HL0⟩
              case round =>
                obtain ⟨j, x14, x15, x16, hj, rfl, rfl, h14, h15, h16, HR⟩ := hrel
                obtain rfl := h14.symm
                obtain rfl := h15.symm
                obtain rfl := h16.symm
                clear HL0
                obtain ⟨S, hS, hO⟩ := HR.out
                clear HR
                by_cases hlt : j < len1
                · have hjj : (j : Int) < len1 := by omega
                  obtain ⟨b1, off1, rfl, c1, zb1, zb2⟩ := HId.out.at' hS.ss.kp0 j (by omega)
                  obtain ⟨z, hz⟩ : ∃ z, z1 j = z := ⟨_, rfl⟩
                  rw [hz] at c1 zb1 zb2
                  have hnp : (0 : Int) < n := by omega
                  obtain ⟨c, hc⟩ : ∃ c : Nat, z % (n : Int) = c := ⟨(z % (n : Int)).toNat, by rw [Int.toNat_of_nonneg (Int.emod_nonneg _ (by omega))]⟩
                  have hcn : c < n := by have := Int.emod_lt_of_pos z hnp; omega
                  have HPl0 := fun W => place_any W z n zb1 zb2 hnp (by omega)
                  rw [hc] at HPl0
                  have HPl := Lib.hid HPl0
                  obtain ⟨⟨r, t, u⟩, hk⟩ : ∃ k, S.cs[c]? = some k := ⟨_, List.getElem?_eq_getElem (by rw [hO.len, chs_len]; exact hcn)⟩
                  have hkr : r = z0 c % 3 := by
                    obtain ⟨k', e1, e2⟩ := hO.kind c _ (chs_get hcn)
                    rw [hk] at e1
                    injection e1 with e1
                    rw [← e1] at e2
                    exact e2
                  have d0 := hS.bo.cell (upsB_get hk)
                  simp only at d0
                  have hcl : S.cs.length ≤ 32 := by rw [hO.len, chs_len]; omega
                  have hcc : (c : Int) < n := by omega
                  cases u with
                  | false =>
                    have HD := Lib.hid (ss_down_no hS.ss (c : Int) (fun i e => by obtain rfl : c = i := by omega
                                                                                  rw [upAt_of hk]) hcl a2 j)
                    have HN : Hid (∃ S, On w wr b w.heap.size g (.slice po n cap) (chs z0 n) (upsB S.cs) S ∧ Oi S (chs z0 n) (j + 1)) := Lib.hid ⟨S, hS, hO.next⟩
                    clear hS hO hk hkr hcl hc hnp hz zb1 zb2 HPl0
                    go_wp2_with fail
                    refine (HPl.out _).mono ?_
                    rintro e w5 ⟨rfl, rfl⟩
                    go_wp2_with fail
                    refine HD.out.mono ?_
                    rintro e w6 ⟨rfl, rfl⟩
                    clear HD HPl
                    go_wp2_with fail
                    go_roundg (len1 - (j + 1))
                    case measure => omega
                    case rel => exact ⟨j + 1, _, _, _, by omega, rfl, by go_num, rfl, rfl, rfl, HN⟩
                  | true =>
                    have hsz : S.cs.length = n := by rw [hO.len, chs_len]
                    have HD := Lib.hid (ss_down hS.ss hO.ok (by omega) (by rw [upAt_of hk]) (c := c) a2)
                    have HT := Lib.hid (fun e w5 S' A (ht : SsTo w _ wr b S' A e w5) => hS.told ht)
                    have HDn := Lib.hid (hO.down (normal := a2) hk rfl)
                    have HK := Lib.hid hk
                    have hglt : g < wr.heap.size := (Array.getElem?_eq_some_iff.1 hS.bo).1
                    clear hS hO hk hcl hc hnp hz zb1 zb2 HPl0 d0
                    go_wp2_with fail
                    refine (HPl.out _).mono ?_
                    rintro e w5 ⟨rfl, rfl⟩
                    go_wp2_with fail
                    refine HD.out.mono ?_
                    rintro e w6 ht
                    have hfr : ∀ l, e = .returned l → ∀ g', l.ownBlock = some g' → wr.heap.size ≤ g' := by
                      obtain ⟨v6, rfl, -, hv6, -, -⟩ := ht
                      intro l e g' hg'
                      injection e with e
                      rw [← e] at hg'
                      exact (hv6 g' hg').1
                    obtain ⟨l, rfl, ha, hS6⟩ := HT.out _ _ _ _ ht
                    have hfr2 := hfr l rfl
                    obtain ⟨hO6, hub, hda⟩ := HDn.out
                    rw [hda] at ha
                    have d6 := hS6.bo.cell (upsB_get HK.out)
                    simp only at d6
                    have hfz := hS6.bo.fz
                    have c3 := hS6.main
                    obtain ⟨gr, cr, er, -, -, k6⟩ := chC_cell hS6.row (j := 1) (chs_get hcn) rfl
                    rw [chs_len] at er
                    rw [er] at c3
                    clear er
                    have HN := (hS6.put c (againB r a2)).1
                    rw [← hub] at HN
                    have HN2 : Hid (∃ S, On w (w6.setCell ⟨g, c, none⟩ (.bool (againB r a2))) b w.heap.size g (.slice po n cap) (chs z0 n) (upsB S.cs) S ∧ Oi S (chs z0 n) (j + 1)) := Lib.hid ⟨_, HN, hO6⟩
                    simp only [← hkr] at k6
                    have hr3 : r = 0 ∨ r = 1 ∨ r = 2 := by omega
                    clear HD HT HDn HK ht hfr hO6 hub hda hS6 HN hkr hsz HPl
                    have hyes : againB r a2 = true → ∃ gl cl, l = .slice (some ⟨gl, 0, none⟩) 1 cl ∧ w6.cell? ⟨gl, 0, none⟩ = some (.int .i64 1) ∧ w6.cell? ⟨gl, 1, none⟩ = some (.int .i64 c) ∧ gl ≠ g := fun e => by
                      rw [if_pos e] at ha
                      obtain ⟨gl, cl, e1, e2, e3⟩ := ha.at (i := 0) rfl
                      refine ⟨gl, cl, e1, ?_, ?_, ?_⟩
                      · rw [Nat.zero_mul] at e2; exact e2
                      · rw [Nat.zero_mul, Nat.zero_add] at e3; exact e3
                      · have := hfr2 gl (by rw [e1]; rfl)
                        omega
                    have hno : againB r a2 = false → ∃ pl cl, l = .slice pl 0 cl := fun e => by
                      rw [e] at ha
                      obtain ⟨pl, cl, e1, -⟩ := ha.form
                      exact ⟨pl, cl, e1⟩
                    clear ha hfr2
                    rcases hr3 with rfl | rfl | rfl
                    · rw [show againB 0 a2 = true by rfl] at HN2
                      obtain ⟨gl, cl, rfl, l0, l1, hgl⟩ := hyes rfl
                      clear hyes hno
                      have hne := Try.neAct
                      go_wp2_with fail
                      go_roundg (len1 - (j + 1))
                      case measure => omega
                      case rel => exact ⟨j + 1, _, _, _, by omega, rfl, by go_num, rfl, rfl, rfl, HN2⟩
                    · cases a2
                      · rw [show againB 1 false = true by rfl] at HN2
                        obtain ⟨gl, cl, rfl, l0, l1, hgl⟩ := hyes rfl
                        clear hyes hno
                        have hne := Try.neAct
                        go_wp2_with fail
                        go_roundg (len1 - (j + 1))
                        case measure => omega
                        case rel => exact ⟨j + 1, _, _, _, by omega, rfl, by go_num, rfl, rfl, rfl, HN2⟩
                      · rw [show againB 1 true = false by rfl] at HN2
                        obtain ⟨pl, cl, rfl⟩ := hno rfl
                        clear hyes hno
                        go_wp2_with fail
                        go_roundg (len1 - (j + 1))
                        case measure => omega
                        case rel => exact ⟨j + 1, _, _, _, by omega, rfl, by go_num, rfl, rfl, rfl, HN2⟩
                    · rw [show againB 2 a2 = false by rfl] at HN2
                      obtain ⟨pl, cl, rfl⟩ := hno rfl
                      clear hyes hno
                      go_wp2_with fail
                      go_roundg (len1 - (j + 1))
                      case measure => omega
                      case rel => exact ⟨j + 1, _, _, _, by omega, rfl, by go_num, rfl, rfl, rfl, HN2⟩
                · obtain rfl : len1 = j := by omega
                  have hnjj : ¬ (len1 : Int) < len1 := by omega
                  have HS := Lib.hid hS
                  have HO := Lib.hid hO
                  have hsz : S.cs.length = n := by rw [hO.len, chs_len]
                  have HSZ := Lib.hid hsz
                  obtain ⟨wu, hwu⟩ : ∃ x, x = wr := ⟨_, rfl⟩
                  rw [← hwu] at HS
                  have HWU := Lib.hid hwu
                  clear hS hO hsz hwu
                  go_wp2_with fail
                  clear hnjj
                  go_loopg [17, 18] n (fun gk s17 s18 wx => ∃ (i : Nat) (lv : Value), i ≤ n ∧ gk = n - i ∧ s17 = lv ∧ s18 = .int .i64 (i : Nat) ∧ Hid (wx.ownsS 3 1 lv (upsI S.cs i).length (inC (upsI S.cs i)) ∧ (∀ g, lv.ownBlock = some g → wu.heap.size ≤ g) ∧ Kp (fun _ => False) wu wx))
                  case atStart => exact ⟨0, _, by omega, rfl, rfl, rfl, Lib.hid ⟨ownsS_nil _ _ _, (fun g hg => by cases hg), by rw [HWU.out]; exact Kp.refl _ wr⟩⟩
                  case round =>
                    obtain ⟨i, lv, hi, rfl, hlv, rfl, HR⟩ := hrel
                    obtain rfl := hlv.symm
                    by_cases hlt2 : i < n
                    · obtain ⟨hr, hn, hk0⟩ := HR.out
                      have hii : (i : Int) < n := by omega
                      obtain ⟨k, hk⟩ : ∃ k, S.cs[i]? = some k := ⟨_, List.getElem?_eq_getElem (by rw [HSZ.out]; exact hlt2)⟩
                      have hon := HS.out.same hk0
                      have d0 := hon.bo.cell (upsB_get hk)
                      have hsu := upsI_succ (cs := S.cs) (n := i)
                      rw [upAt_of hk] at hsu
                      have hul := @upsI_len S.cs i
                      obtain ⟨u, hu⟩ : ∃ u, k.u = u := ⟨_, rfl⟩
                      rw [hu] at d0 hsu
                      cases u with
                      | true =>
                        rw [if_pos rfl] at hsu
                        have hka : Kp (fun _ => False) wr (wr.alloc (.cells #[.int .i64 (i : Nat)] 3)) := (Kp.refl _ wr).alloc _
                        obtain ⟨v', w3, e1, e2, e3, e4⟩ := inC_push (p := ((i : Nat) : Int)) (hka.rowS hr fun _ _ e => e) (heap_alloc_new wr _) (by omega)
                        have HR3 := Lib.hid e1
                        have HN5 : Hid (w3.ownsS 3 1 v' (upsI S.cs (i + 1)).length (inC (upsI S.cs (i + 1))) ∧ (∀ g, v'.ownBlock = some g → wu.heap.size ≤ g) ∧ Kp (fun _ => False) wu w3) := by
                          rw [hsu]
                          have hz := hk0.size
                          refine Lib.hid ⟨e2, fun g hg => ?_, (hk0.trans' hka).trans (e3.mono fun q hq e => .inr ⟨hn q e, hq⟩)⟩
                          rcases e4 g hg with e | e
                          · exact hn g e
                          · simp at e; omega
                        clear hr hn hk0 HR hk hsu hu e1 e2 e3 e4 hka hul hon
                        go_wp2_with (at_builtin; refine wpList_run rfl _ _ 43 rfl lv (.slice (some ⟨wr.heap.size, 0, none⟩) 1 1) rfl rfl _ w3 HR3.out ?_)
                        go_roundg (n - (i + 1))
                        case measure => omega
                        case rel => exact ⟨i + 1, _, by omega, rfl, rfl, by go_num, HN5⟩
                      | false =>
                        have hs2 : upsI S.cs (i + 1) = upsI S.cs i := by rw [hsu]; simp
                        have HN5 : Hid (wr.ownsS 3 1 lv (upsI S.cs (i + 1)).length (inC (upsI S.cs (i + 1))) ∧ (∀ g, lv.ownBlock = some g → wu.heap.size ≤ g) ∧ Kp (fun _ => False) wu wr) := by
                          rw [hs2]; exact Lib.hid ⟨hr, hn, hk0⟩
                        clear hr hn hk0 HR hk hsu hu hul hs2 hon
                        go_wp2_with fail
                        go_roundg (n - (i + 1))
                        case measure => omega
                        case rel => exact ⟨i + 1, _, by omega, rfl, rfl, by go_num, HN5⟩
                    · obtain rfl : n = i := by omega
                      obtain ⟨hr, hn, hk0⟩ := HR.out
                      have hon := HS.out.same hk0
                      have hii : ¬ (n : Int) < n := by omega
                      have HU := Lib.hid (ss_up hon.ss (by rw [HSZ.out]; omega))
                      have HSI := Lib.hid (fun w9 v (e2 : w9.ownsS 3 1 v (upsI S.cs S.cs.length).length (inC (upsI S.cs S.cs.length))) (hk9 : Kp (fun _ => False) wr w9) => sameIn_any (InR.of e2) (InR.of (by rw [HSZ.out]; exact hk9.rowS hr fun _ _ e => e)))
                      have HD := Lib.hid (fun w9 (hk9 : Kp (fun _ => False) wr w9) => ss_done (hon.ss.same hk9))
                      rw [HO.out.st] at HD
                      have HK := Lib.hid hon.ss.kp0
                      clear hr hn hk0 HR hon HS HO
                      go_wp2_with fail
                      refine HU.out.mono ?_
                      rintro e w9 ⟨v, rfl, e2, -, e4⟩
                      have HSI2 := Lib.hid (HSI.out _ _ e2 e4)
                      have HE4 := Lib.hid e4
                      clear e2 e4 HSI HU
                      go_wp2_with fail
                      refine HSI2.out.mono ?_
                      rintro e w10 ⟨rfl, q, hq⟩
                      have HE5 : Hid (Kp (fun _ => False) wr w10) := Lib.hid (by rw [hq]; exact su_kpN HE4.out q)
                      have HD2 : Hid (Calls Try.prog 20 #[.pointer (some ⟨b, 0, none⟩)] w10 fun e w' => e = .returned (.bool false) ∧ w10 = w') := Lib.hid (HD.out w10 HE5.out)
                      clear hq HD HSI2 HE4
                      go_wp2_with fail
                      refine HD2.out.mono ?_
                      rintro e w11 ⟨rfl, rfl⟩
                      clear HD2
                      go_wp2_with fail
                      refine (HAW.out _).mono ?_
                      rintro e w12 ⟨rfl, hk12⟩
                      have HG := Lib.hid (((HK.out.trans' HE5.out).trans' hk12).below w.heap.size (Nat.le_refl _) fun _ e => e.elim)
                      clear hk12 HK HAW HE5
                      go_wp2_with fail
                      go_ret
                      exact ⟨rfl, HG.out⟩

set_option maxRecDepth 100000 in
theorem lifted (os : Os) (started : os.Started) (H : Type) (enc : TypeId × Value → H) :
    ReturnsInHanded {} Try.checked os 6 .any (Rows.supOnceSpec.pre6 enc Try.prog Try.f6 Rows.supOnceRow.domain false) (Rows.supOnceSpec.post enc Try.prog Try.f6 false true false false) := by
  refine returnsInHanded_of_change_sized (C := Try.checked) own started (by kernel_rfl) Try.func6
    (ChangeSpec.witness6 (enc := enc) (C := Try.checked) false ⟨#[], #[.slice none 0 0, .slice none 0 0, .bool false], []⟩ 8 (by kernel_rfl) (by kernel_rfl) (by kernel_rfl) (by kernel_rfl)) ?_
  intro W base args ds gs before hval0 hW hcnd hsz0 _
  have hval : ∀ (j : Nat) t v, Try.f6.params[j]? = some t → args[j]? = some v → Value.okWide Try.prog W .any base t v := hval0
  have hW' := hW
  obtain ⟨p, q, hA0, hV, rfl, hfz, hnd⟩ := hW
  have hA : DataW.TrodAll enc Try.prog W 0 (fun _ => true) true Try.f6.params.toList args.toList ds p := hA0
  rw [Try.params6] at hA hval
  obtain ⟨v0, vs0, d0, ds0, p0, q0, hargs, rfl, rfl, h0, r0⟩ := trodAll_cons hA
  obtain ⟨v1, vs1, d1, ds1, p1, q1, rfl, rfl, rfl, h1, r1⟩ := trodAll_cons r0
  obtain ⟨v2, vs2, d2, ds2, p2, q2, rfl, rfl, rfl, h2, r2⟩ := trodAll_cons r1
  obtain ⟨rfl, rfl, rfl⟩ := trodAll_nil r2
  obtain rfl : args = #[v0, v1, v2] := by cases args; simp_all
  obtain ⟨rfl, rfl⟩ := trodVars_none hV
  have hsz : ∀ (j : Nat) t d, ((Try.f6.params.toList) : List TypeId)[j]? = some t → [d0, d1, d2][j]? = some d → ∀ n ∈ d.weights Try.prog t, n ≤ reachBytes := fun j t d ht hd n hn => of_decide_eq_true (List.all_eq_true.1 hsz0 n (DataW.weights_mem_each (j := j) (List.getElem?_append_left (List.getElem?_eq_some_iff.1 ht).1 ▸ ht) (List.getElem?_append_left (List.getElem?_eq_some_iff.1 hd).1 ▸ hd) n hn))
  clear hsz0
  obtain ⟨a0, len0, cap0, rfl⟩ := okWide_slice Try.underlying43 (hval 0 43 v0 rfl rfl)
  have k0 := h0
  have lt0 : ∀ x ∈ p0, x.block < W.heap.size := by obtain ⟨m, hm⟩ := k0; exact DataW.trod_lt m _ _ _ hm
  obtain ⟨z0, w0⟩ : ∃ zs : Nat → Int, InRow W a0 len0 zs ∧ len0 ≤ cap0 ∧ cap0 ≤ 9223372036854775807 := by
    obtain ⟨fuel, hf⟩ := h0
    rcases open_ints Try.underlying43 Try.underlying3 (by kernel_rfl) hf with ⟨hcs, _⟩ | ⟨x, l, c, zs, hcs, _, hl, hm, hz, _, hcell, hwz⟩
    · simp [Value.cells] at hcs
      obtain ⟨rfl, rfl, rfl⟩ := hcs
      exact ⟨fun _ => 0, ⟨by unfold InRow; exact ⟨by omega, fun k hk => by omega⟩, by omega, by omega⟩⟩
    · simp [Value.cells] at hcs
      obtain ⟨rfl, rfl, rfl⟩ := hcs
      exact ⟨_, ⟨inRow_of (zs := zs) (.inr ⟨_, rfl, hl, hm, by simpa using hz, hcell, hwz⟩), hl, by unfold maxLen at hm; omega⟩⟩
  obtain ⟨a1, len1, cap1, rfl⟩ := okWide_slice Try.underlying43 (hval 1 43 v1 rfl rfl)
  have k1 := h1
  have lt1 : ∀ x ∈ p1, x.block < W.heap.size := by obtain ⟨m, hm⟩ := k1; exact DataW.trod_lt m _ _ _ hm
  obtain ⟨z1, w1⟩ : ∃ zs : Nat → Int, InRowZ W a1 len1 zs := by
    obtain ⟨fuel, hf⟩ := h1
    obtain ⟨po, l, cc, zs, hcs, hle⟩ := opened_intsz Try.underlying43 Try.underlying3 (by kernel_rfl) (by kernel_rfl) (hsz 1 _ _ rfl rfl) hf
    injection hcs with e1 e2 e3
    subst e1 e2 e3
    exact ⟨zs, hle⟩
  obtain ⟨a2, rfl, rfl, rfl⟩ := open_bool Try.underlying4 (hval 2 4 v2 rfl rfl) h2
  clear hA0 hval0
  simp only [List.append_nil] at hW'
  refine (walk a0 len0 cap0 z0 a1 len1 cap1 z1 a2 W w0 w1).mono fun e W' ⟨he, bel⟩ => ?_
  subst he
  exact ⟨_, rfl, _, _, _, [], _, [], hW', trodAll_mk1 (shut_bool Try.underlying4 _), (trodAll_cons_mk (Below.trod laidOut (by kernel_rfl) (of_decide_eq_true (by kernel_rfl)) k0 bel lt0) (trodAll_cons_mk (Below.trod laidOut (by kernel_rfl) (of_decide_eq_true (by kernel_rfl)) k1 bel lt1) (trodAll_cons_mk (shut_bool Try.underlying4 a2) trodAll_mk0))), rfl, bel.frame _, fun h => by cases h⟩

theorem over : Rows.supOnceRow.holds Try.pinned (OpenSpec.ofChange Rows.supOnceSpec) :=
  OpenClaim.holds_of_wide 6 Try.f6 rfl rfl rfl rfl rfl rfl rfl ⟨rfl, rfl, rfl, rfl, rfl⟩ rfl rfl rfl rfl rfl (by kernel_rfl) Try.func6 (by kernel_rfl)
    (of_decide_eq_true (by kernel_rfl)) (by unfold Func.isWrapper; first | (rw [if_pos (by decide +kernel)]; kernel_rfl) | (rw [if_neg (by decide +kernel)]; exact ⟨rfl, rfl⟩))
    (fun os started H enc _ => lifted os started H enc)

theorem proved : Rows.SupOnceSaid := over
#print axioms proved
end Go.Proofs.Ytbdogiblndlimaa.supOnce
