/- WheelParts: ticks in parts are the same as at once: the same timers, in the same order; at every two slices of ints, no condition. -/
import Derived.Test.YtmekhijmghddiaaRows
import Derived.Test.YtmekhijmghddiaaWhTwo
import Derived.WalkKit
import Derived.ProofKit
import Derived.OpenShut
import Derived.ShutString
import Derived.ChangeOld
import Derived.Below
import Derived.Deep.Strs
namespace Go.Proofs.Ytmekhijmghddiaa.wheelParts
open Go.ChangeShapes Go.WideShapes Go.ChangeAt Go.RowKit
open Go.ChangeMaps (open_string shut_string)
set_option linter.unusedVariables false

theorem own : ownKnob Try.prog.godebug = none := by kernel_rfl
theorem laidOut : laidOutB Try.prog = true := by kernel_rfl

set_option maxHeartbeats 16000000 in
set_option maxRecDepth 100000 in
theorem walk (a0 : Option Addr) (len0 cap0 : Nat) (z0 : Nat → Int) (a1 : Option Addr) (len1 cap1 : Nat) (z1 : Nat → Int) (w : World) (h0 : InRow w a0 len0 z0) (h1 : InRow w a1 len1 z1) :
    Calls Try.prog 4 #[.slice a0 len0 cap0, .slice a1 len1 cap1] w fun e w' => e = .returned (.bool true) ∧ Below w.heap.size w w' := by
  have hl0 := h0.1
  have hl1 := h1.1
  have HI := Lib.hid (And.intro h0 h1)
  have HNW := Lib.hid (show Calls Try.prog 9 #[.int .i64 1000] w _ from g_new w 1000 (by omega) (by omega))
  clear h0 h1
  go_enter Try.func4, Try.ntmps4
  go_wp2_with fail
  refine HNW.out.mono ?_
  rintro e w1 ⟨b1, rfl, g1, k1⟩
  have HNW2 := Lib.hid (show Calls Try.prog 9 #[.int .i64 1000] w1 _ from g_new w1 1000 (by omega) (by omega))
  have H1 := Lib.hid (And.intro g1 k1)
  clear g1 k1 HNW
  go_wp2_with fail
  refine HNW2.out.mono ?_
  rintro e w2 hg2
  obtain ⟨b2, rfl, hT⟩ := two_new H1.out.1 (fun q hq => hq.1) H1.out.2 hg2
  have HT := Lib.hid hT
  clear hT hg2 H1 HNW2
  go_wp2_with fail
  go_loopg [9, 10, 11, 12, 13, 14] (min len0 1000) (fun gk s9 s10 s11 s12 s13 s14 wr => ∃ (i : Nat) (tsA tsB : List Tm), i ≤ min len0 1000 ∧ gk = min len0 1000 - i ∧ s9 = .int .i64 (i : Nat) ∧ tsA.length = i ∧ tsB.length = i ∧ tsA.map tmKey = tsB.map tmKey ∧ (∀ t ∈ tsA, 0 < t.due) ∧
    Two w wr b1 0 i tsA b2 0 i tsB (.slice none 0 0) [])
  case atStart => exact ⟨0, [], [], by omega, rfl, rfl, rfl, rfl, rfl, fun t ht => by simp at ht, HT.out⟩
  case round =>
    obtain ⟨i, tsA, tsB, hi, rfl, rfl, htA, htB, hkey, hpos, hB⟩ := hrel
    clear HT
    have HK := Lib.hid (And.intro htA (And.intro htB (And.intro hkey hpos)))
    have hi2 : i ≤ 1000 := by omega
    have hi3 : (i : Int) ≤ 1000 := by omega
    by_cases hlt : i < len0
    · have hli : (i : Int) < len0 := by omega
      by_cases h1000 : i < 1000
      · have hli2 : (i : Int) < 1000 := by omega
        obtain ⟨b0, off0, rfl, c0, c1, c2⟩ := HI.out.1.at' hB.kp i hlt
        obtain ⟨x, hx⟩ : ∃ x, z0 i = x := ⟨_, rfl⟩
        rw [hx] at c0 c1 c2
        obtain ⟨K, hK, hK2⟩ : ∃ K : Nat, x % 100000 = K ∧ K < 100000 := ⟨(x % 100000).toNat, by omega, by omega⟩
        have HKK := Lib.hid hK
        obtain ⟨N, hN⟩ : ∃ N, 1 + K = N := ⟨_, rfl⟩
        have hN2 : (1 : Int) + (K : Int) = (N : Int) := by omega
        have HN := Lib.hid (And.intro hN hN2)
        have HS := Lib.hid (two_startA hB N (i : Int) (by omega) (by omega) (by omega) (by omega))
        have hcw : IntKind.i64.wrap (i : Int) = (i : Int) := IntWalk.i64_in _ (by omega)
        clear hK hx hN hN2 hB htA htB hkey hpos
        go_wp2_with fail
        refine (place_any _ x 100000 c1 c2 (by omega) (by omega)).mono ?_
        rintro e w' ⟨rfl, rfl⟩
        rw [HKK.out]
        clear c0 c1 c2
        go_wp2_with fail
        rw [HN.out.2]
        refine HS.out.mono ?_
        rintro e w3 ⟨rfl, gA, h3⟩
        have HS2 := Lib.hid (two_startB h3 N (i : Int) (by have := HN.out.1; omega) (by omega) (by omega) (by have := HK.out.2.1; omega))
        clear h3 HS
        go_wp2_with fail
        refine HS2.out.mono ?_
        rintro e w4 ⟨rfl, gB, h4⟩
        rw [Nat.zero_add N] at h4
        have H4 := Lib.hid h4
        clear h4 HS2
        go_wp2_with fail
        go_roundg (min len0 1000 - (i + 1))
        case measure => omega
        case rel =>
          refine ⟨i + 1, _, _, by omega, rfl, by go_num, by rw [List.length_append, HK.out.1]; rfl, by rw [List.length_append, HK.out.2.1]; rfl, ?_, ?_, H4.out⟩
          · rw [List.map_append, List.map_append, HK.out.2.2.1]
            rfl
          · intro t ht
            rcases List.mem_append.1 ht with ht | ht
            · exact HK.out.2.2.2 t ht
            · have : t.due = N := by simp at ht; rw [ht]
              have := HN.out.1
              omega
      · have hli2 : ¬ (i : Int) < 1000 := by omega
        have HB := Lib.hid hB
        clear hB htA htB hkey hpos hlt h1000
        go_wp2_with fail
        go_loopg [15, 16, 17, 18] (min len1 50) (fun gk s15 s16 s17 s18 wr => ∃ (k sum : Nat) (o tA : List Tm) (v : Value), k ≤ min len1 50 ∧ gk = min len1 50 - k ∧ s17 = .int .i64 (k : Nat) ∧ s16 = .int .i64 (sum : Nat) ∧ s15 = v ∧ sum ≤ 9999 * k ∧ DueBy tsA sum o tA ∧ Two w wr b1 sum i tA b2 0 i tsB v (idsOf o))
        case atStart => exact ⟨0, 0, [], tsA, _, by omega, rfl, rfl, rfl, rfl, by omega, DueBy.zero HK.out.2.2.2, HB.out⟩
        case round =>
          obtain ⟨k, sum, o, tA, v, hk, rfl, rfl, rfl, hv, hsum, hd, hB⟩ := hrel
          obtain rfl := hv.symm
          clear HB
          have hk2 : k ≤ 50 := by omega
          have hk3 : (k : Int) ≤ 50 := by omega
          have hsb : (sum : Int) ≤ 500000 := by omega
          by_cases hlt1 : k < len1
          · have hlk : (k : Int) < len1 := by omega
            by_cases h50 : k < 50
            · have hlk2 : (k : Int) < 50 := by omega
              obtain ⟨b0, off0, rfl, c0, c1, c2⟩ := HI.out.2.at' hB.kp k hlt1
              obtain ⟨x, hx⟩ : ∃ x, z1 k = x := ⟨_, rfl⟩
              rw [hx] at c0 c1 c2
              obtain ⟨N, hN, hN2⟩ : ∃ K : Nat, x % 10000 = K ∧ K < 10000 := ⟨(x % 10000).toNat, by omega, by omega⟩
              have HN := Lib.hid hN
              have hta : tA.length ≤ 1000 := by
                have h5 := hd.rest
                have h6 := List.length_filter_le (fun t : Tm => decide (sum < t.due)) tsA
                have := HK.out.1
                rw [← h5] at h6
                omega
              have HT := Lib.hid (two_tickA hB N (by omega) (by omega) (by omega))
              obtain ⟨po, cap, rfl⟩ := ownsW_form hB.row
              obtain ⟨OL, hOL⟩ : ∃ m, (idsOf o).length = m := ⟨_, rfl⟩
              have hol : OL ≤ 1000 := by
                obtain ⟨G1, G2, g1, g2, _⟩ := hB.wheels
                have hnd : (tsA.map Tm.id).Nodup := by
                  have : tsA.map Tm.id = tsB.map Tm.id := by
                    have h9 : ∀ l : List Tm, l.map Tm.id = (l.map tmKey).map Prod.fst := fun l => by simp [tmKey]
                    rw [h9, h9, HK.out.2.2.1]
                  rw [this]
                  exact g2.nodup
                have := hd.length hnd
                have := HK.out.1
                rw [← hOL, idsOf_len]
                omega
              have hnd : (tsA.map Tm.id).Nodup := by
                obtain ⟨G1, G2, g1, g2, _⟩ := hB.wheels
                have : tsA.map Tm.id = tsB.map Tm.id := by
                  have h9 : ∀ l : List Tm, l.map Tm.id = (l.map tmKey).map Prod.fst := fun l => by simp [tmKey]
                  rw [h9, h9, HK.out.2.2.1]
                rw [this]
                exact g2.nodup
              have HD := Lib.hid (And.intro hd (And.intro hOL hnd))
              rw [hOL] at HT ⊢
              have hnb : (N : Int) < 10000 := by omega
              clear hN hx hB hd hta hOL hnd
              go_wp2_with fail
              refine (place_any _ x 10000 c1 c2 (by omega) (by omega)).mono ?_
              rintro e w' ⟨rfl, rfl⟩
              rw [HN.out]
              clear c0 c1 c2
              go_wp2_with fail
              refine HT.out.mono ?_
              rintro e w3 ⟨u, o', tA', rfl, hu, hd', h3⟩
              obtain ⟨pu, cu, rfl⟩ : ∃ pu cu, u = .slice pu (idsOf o').length cu := by
                obtain ⟨pu, cu, e1, _⟩ := hu
                exact ⟨pu, cu, e1⟩
              have hd2 := HD.out.1.then hd' (by omega)
              have hlen2 : (idsOf o).length + (idsOf o').length ≤ 1000 := by
                have h7 := hd2.length HD.out.2.2
                have := HK.out.1
                rw [List.length_append] at h7
                rw [idsOf_len, idsOf_len]
                omega
              obtain ⟨v', w4, hr4, ho4, hk4, hg4⟩ := longs_append h3.row hu (by omega)
              rw [← idsOf_app] at ho4
              have H4 := Lib.hid (And.intro hr4 (And.intro (h3.grown ho4 hk4 hg4) hd2))
              obtain ⟨OM, hOM⟩ : ∃ m, (idsOf o').length = m := ⟨_, rfl⟩
              rw [hOM] at H4 ⊢
              clear hu hd' h3 hd2 hlen2 hr4 ho4 hk4 hg4 hOM HT
              go_wp2_with (at_builtin; refine wpList_run rfl _ _ 54 rfl (.slice po OL cap) (.slice pu OM cu) rfl rfl v' w4 H4.out.1 ?_)
              go_roundg (min len1 50 - (k + 1))
              case measure => omega
              case rel => exact ⟨k + 1, sum + N, _, tA', _, by omega, rfl, by go_num, by go_num, rfl, by omega, H4.out.2.2, H4.out.2.1⟩
            · have hlk2 : ¬ (k : Int) < 50 := by omega
              have HT := Lib.hid (two_tickB hB sum (by omega) (by omega) (by have := HK.out.2.1; omega))
              rw [Nat.zero_add sum] at HT
              have HD := Lib.hid hd
              obtain ⟨po, cap, rfl⟩ := ownsW_form hB.row
              clear hB hd HI
              go_wp2_with fail
              refine HT.out.mono ?_
              rintro e w3 ⟨u, oB, tB, rfl, hu, hdB, h3⟩
              obtain ⟨he1, he2⟩ := due_same HD.out hdB HK.out.2.2.1
              rw [← he1] at hu
              have HS := Lib.hid (sameLongs_any h3.row.rd hu)
              have H3 := Lib.hid (And.intro h3 he2)
              clear hu hdB h3 he1 he2 HT
              go_wp2_with fail
              refine HS.out.mono ?_
              rintro e w4 ⟨rfl, m4, hm4⟩
              have h4 : Two w w4 b1 sum i tA b2 sum i tB (.slice po (idsOf o).length cap) (idsOf o) := by rw [hm4]; exact H3.out.1.same (kp_drewN (Kp.refl _ _) m4)
              obtain ⟨G1, G2, g1, g2, -⟩ := h4.wheels
              have HN1 := Lib.hid (g_now g1)
              have HN2 := Lib.hid (g_now g2)
              have HL1 := Lib.hid (g_len g1)
              have HL2 := Lib.hid (g_len g2)
              rw [← H3.out.2] at HL2
              have H4 := Lib.hid h4
              clear hm4 h4 g1 g2 HS
              go_wp2_with fail
              refine HN1.out.mono ?_
              rintro e w5 ⟨rfl, rfl⟩
              go_wp2_with fail
              refine HN2.out.mono ?_
              rintro e w5 ⟨rfl, rfl⟩
              go_wp2_with fail
              refine HL1.out.mono ?_
              rintro e w5 ⟨rfl, rfl⟩
              go_wp2_with fail
              refine HL2.out.mono ?_
              rintro e w5 ⟨rfl, rfl⟩
              go_wp2_with fail
              refine (whAwake_any _).mono ?_
              rintro e w5 ⟨rfl, hk5⟩
              have H5 := Lib.hid (H4.out.same hk5).kp
              clear hk5
              go_wp2_with fail
              go_ret
              exact ⟨rfl, H5.out.below _ (Nat.le_refl _) (fun _ e => e.elim)⟩
          · have hlk : ¬ (k : Int) < len1 := by omega
            have HT := Lib.hid (two_tickB hB sum (by omega) (by omega) (by have := HK.out.2.1; omega))
            rw [Nat.zero_add sum] at HT
            have HD := Lib.hid hd
            obtain ⟨po, cap, rfl⟩ := ownsW_form hB.row
            clear hB hd HI
            go_wp2_with fail
            refine HT.out.mono ?_
            rintro e w3 ⟨u, oB, tB, rfl, hu, hdB, h3⟩
            obtain ⟨he1, he2⟩ := due_same HD.out hdB HK.out.2.2.1
            rw [← he1] at hu
            have HS := Lib.hid (sameLongs_any h3.row.rd hu)
            have H3 := Lib.hid (And.intro h3 he2)
            clear hu hdB h3 he1 he2 HT
            go_wp2_with fail
            refine HS.out.mono ?_
            rintro e w4 ⟨rfl, m4, hm4⟩
            have h4 : Two w w4 b1 sum i tA b2 sum i tB (.slice po (idsOf o).length cap) (idsOf o) := by rw [hm4]; exact H3.out.1.same (kp_drewN (Kp.refl _ _) m4)
            obtain ⟨G1, G2, g1, g2, -⟩ := h4.wheels
            have HN1 := Lib.hid (g_now g1)
            have HN2 := Lib.hid (g_now g2)
            have HL1 := Lib.hid (g_len g1)
            have HL2 := Lib.hid (g_len g2)
            rw [← H3.out.2] at HL2
            have H4 := Lib.hid h4
            clear hm4 h4 g1 g2 HS
            go_wp2_with fail
            refine HN1.out.mono ?_
            rintro e w5 ⟨rfl, rfl⟩
            go_wp2_with fail
            refine HN2.out.mono ?_
            rintro e w5 ⟨rfl, rfl⟩
            go_wp2_with fail
            refine HL1.out.mono ?_
            rintro e w5 ⟨rfl, rfl⟩
            go_wp2_with fail
            refine HL2.out.mono ?_
            rintro e w5 ⟨rfl, rfl⟩
            go_wp2_with fail
            refine (whAwake_any _).mono ?_
            rintro e w5 ⟨rfl, hk5⟩
            have H5 := Lib.hid (H4.out.same hk5).kp
            clear hk5
            go_wp2_with fail
            go_ret
            exact ⟨rfl, H5.out.below _ (Nat.le_refl _) (fun _ e => e.elim)⟩
    · have hli : ¬ (i : Int) < len0 := by omega
      have HB := Lib.hid hB
      clear hB htA htB hkey hpos hlt
      go_wp2_with fail
      go_loopg [15, 16, 17, 18] (min len1 50) (fun gk s15 s16 s17 s18 wr => ∃ (k sum : Nat) (o tA : List Tm) (v : Value), k ≤ min len1 50 ∧ gk = min len1 50 - k ∧ s17 = .int .i64 (k : Nat) ∧ s16 = .int .i64 (sum : Nat) ∧ s15 = v ∧ sum ≤ 9999 * k ∧ DueBy tsA sum o tA ∧ Two w wr b1 sum i tA b2 0 i tsB v (idsOf o))
      case atStart => exact ⟨0, 0, [], tsA, _, by omega, rfl, rfl, rfl, rfl, by omega, DueBy.zero HK.out.2.2.2, HB.out⟩
      case round =>
        obtain ⟨k, sum, o, tA, v, hk, rfl, rfl, rfl, hv, hsum, hd, hB⟩ := hrel
        obtain rfl := hv.symm
        clear HB
        have hk2 : k ≤ 50 := by omega
        have hk3 : (k : Int) ≤ 50 := by omega
        have hsb : (sum : Int) ≤ 500000 := by omega
        by_cases hlt1 : k < len1
        · have hlk : (k : Int) < len1 := by omega
          by_cases h50 : k < 50
          · have hlk2 : (k : Int) < 50 := by omega
            obtain ⟨b0, off0, rfl, c0, c1, c2⟩ := HI.out.2.at' hB.kp k hlt1
            obtain ⟨x, hx⟩ : ∃ x, z1 k = x := ⟨_, rfl⟩
            rw [hx] at c0 c1 c2
            obtain ⟨N, hN, hN2⟩ : ∃ K : Nat, x % 10000 = K ∧ K < 10000 := ⟨(x % 10000).toNat, by omega, by omega⟩
            have HN := Lib.hid hN
            have hta : tA.length ≤ 1000 := by
              have h5 := hd.rest
              have h6 := List.length_filter_le (fun t : Tm => decide (sum < t.due)) tsA
              have := HK.out.1
              rw [← h5] at h6
              omega
            have HT := Lib.hid (two_tickA hB N (by omega) (by omega) (by omega))
            obtain ⟨po, cap, rfl⟩ := ownsW_form hB.row
            obtain ⟨OL, hOL⟩ : ∃ m, (idsOf o).length = m := ⟨_, rfl⟩
            have hol : OL ≤ 1000 := by
              obtain ⟨G1, G2, g1, g2, _⟩ := hB.wheels
              have hnd : (tsA.map Tm.id).Nodup := by
                have : tsA.map Tm.id = tsB.map Tm.id := by
                  have h9 : ∀ l : List Tm, l.map Tm.id = (l.map tmKey).map Prod.fst := fun l => by simp [tmKey]
                  rw [h9, h9, HK.out.2.2.1]
                rw [this]
                exact g2.nodup
              have := hd.length hnd
              have := HK.out.1
              rw [← hOL, idsOf_len]
              omega
            have hnd : (tsA.map Tm.id).Nodup := by
              obtain ⟨G1, G2, g1, g2, _⟩ := hB.wheels
              have : tsA.map Tm.id = tsB.map Tm.id := by
                have h9 : ∀ l : List Tm, l.map Tm.id = (l.map tmKey).map Prod.fst := fun l => by simp [tmKey]
                rw [h9, h9, HK.out.2.2.1]
              rw [this]
              exact g2.nodup
            have HD := Lib.hid (And.intro hd (And.intro hOL hnd))
            rw [hOL] at HT ⊢
            have hnb : (N : Int) < 10000 := by omega
            clear hN hx hB hd hta hOL hnd
            go_wp2_with fail
            refine (place_any _ x 10000 c1 c2 (by omega) (by omega)).mono ?_
            rintro e w' ⟨rfl, rfl⟩
            rw [HN.out]
            clear c0 c1 c2
            go_wp2_with fail
            refine HT.out.mono ?_
            rintro e w3 ⟨u, o', tA', rfl, hu, hd', h3⟩
            obtain ⟨pu, cu, rfl⟩ : ∃ pu cu, u = .slice pu (idsOf o').length cu := by
              obtain ⟨pu, cu, e1, _⟩ := hu
              exact ⟨pu, cu, e1⟩
            have hd2 := HD.out.1.then hd' (by omega)
            have hlen2 : (idsOf o).length + (idsOf o').length ≤ 1000 := by
              have h7 := hd2.length HD.out.2.2
              have := HK.out.1
              rw [List.length_append] at h7
              rw [idsOf_len, idsOf_len]
              omega
            obtain ⟨v', w4, hr4, ho4, hk4, hg4⟩ := longs_append h3.row hu (by omega)
            rw [← idsOf_app] at ho4
            have H4 := Lib.hid (And.intro hr4 (And.intro (h3.grown ho4 hk4 hg4) hd2))
            obtain ⟨OM, hOM⟩ : ∃ m, (idsOf o').length = m := ⟨_, rfl⟩
            rw [hOM] at H4 ⊢
            clear hu hd' h3 hd2 hlen2 hr4 ho4 hk4 hg4 hOM HT
            go_wp2_with (at_builtin; refine wpList_run rfl _ _ 54 rfl (.slice po OL cap) (.slice pu OM cu) rfl rfl v' w4 H4.out.1 ?_)
            go_roundg (min len1 50 - (k + 1))
            case measure => omega
            case rel => exact ⟨k + 1, sum + N, _, tA', _, by omega, rfl, by go_num, by go_num, rfl, by omega, H4.out.2.2, H4.out.2.1⟩
          · have hlk2 : ¬ (k : Int) < 50 := by omega
            have HT := Lib.hid (two_tickB hB sum (by omega) (by omega) (by have := HK.out.2.1; omega))
            rw [Nat.zero_add sum] at HT
            have HD := Lib.hid hd
            obtain ⟨po, cap, rfl⟩ := ownsW_form hB.row
            clear hB hd HI
            go_wp2_with fail
            refine HT.out.mono ?_
            rintro e w3 ⟨u, oB, tB, rfl, hu, hdB, h3⟩
            obtain ⟨he1, he2⟩ := due_same HD.out hdB HK.out.2.2.1
            rw [← he1] at hu
            have HS := Lib.hid (sameLongs_any h3.row.rd hu)
            have H3 := Lib.hid (And.intro h3 he2)
            clear hu hdB h3 he1 he2 HT
            go_wp2_with fail
            refine HS.out.mono ?_
            rintro e w4 ⟨rfl, m4, hm4⟩
            have h4 : Two w w4 b1 sum i tA b2 sum i tB (.slice po (idsOf o).length cap) (idsOf o) := by rw [hm4]; exact H3.out.1.same (kp_drewN (Kp.refl _ _) m4)
            obtain ⟨G1, G2, g1, g2, -⟩ := h4.wheels
            have HN1 := Lib.hid (g_now g1)
            have HN2 := Lib.hid (g_now g2)
            have HL1 := Lib.hid (g_len g1)
            have HL2 := Lib.hid (g_len g2)
            rw [← H3.out.2] at HL2
            have H4 := Lib.hid h4
            clear hm4 h4 g1 g2 HS
            go_wp2_with fail
            refine HN1.out.mono ?_
            rintro e w5 ⟨rfl, rfl⟩
            go_wp2_with fail
            refine HN2.out.mono ?_
            rintro e w5 ⟨rfl, rfl⟩
            go_wp2_with fail
            refine HL1.out.mono ?_
            rintro e w5 ⟨rfl, rfl⟩
            go_wp2_with fail
            refine HL2.out.mono ?_
            rintro e w5 ⟨rfl, rfl⟩
            go_wp2_with fail
            refine (whAwake_any _).mono ?_
            rintro e w5 ⟨rfl, hk5⟩
            have H5 := Lib.hid (H4.out.same hk5).kp
            clear hk5
            go_wp2_with fail
            go_ret
            exact ⟨rfl, H5.out.below _ (Nat.le_refl _) (fun _ e => e.elim)⟩
        · have hlk : ¬ (k : Int) < len1 := by omega
          have HT := Lib.hid (two_tickB hB sum (by omega) (by omega) (by have := HK.out.2.1; omega))
          rw [Nat.zero_add sum] at HT
          have HD := Lib.hid hd
          obtain ⟨po, cap, rfl⟩ := ownsW_form hB.row
          clear hB hd HI
          go_wp2_with fail
          refine HT.out.mono ?_
          rintro e w3 ⟨u, oB, tB, rfl, hu, hdB, h3⟩
          obtain ⟨he1, he2⟩ := due_same HD.out hdB HK.out.2.2.1
          rw [← he1] at hu
          have HS := Lib.hid (sameLongs_any h3.row.rd hu)
          have H3 := Lib.hid (And.intro h3 he2)
          clear hu hdB h3 he1 he2 HT
          go_wp2_with fail
          refine HS.out.mono ?_
          rintro e w4 ⟨rfl, m4, hm4⟩
          have h4 : Two w w4 b1 sum i tA b2 sum i tB (.slice po (idsOf o).length cap) (idsOf o) := by rw [hm4]; exact H3.out.1.same (kp_drewN (Kp.refl _ _) m4)
          obtain ⟨G1, G2, g1, g2, -⟩ := h4.wheels
          have HN1 := Lib.hid (g_now g1)
          have HN2 := Lib.hid (g_now g2)
          have HL1 := Lib.hid (g_len g1)
          have HL2 := Lib.hid (g_len g2)
          rw [← H3.out.2] at HL2
          have H4 := Lib.hid h4
          clear hm4 h4 g1 g2 HS
          go_wp2_with fail
          refine HN1.out.mono ?_
          rintro e w5 ⟨rfl, rfl⟩
          go_wp2_with fail
          refine HN2.out.mono ?_
          rintro e w5 ⟨rfl, rfl⟩
          go_wp2_with fail
          refine HL1.out.mono ?_
          rintro e w5 ⟨rfl, rfl⟩
          go_wp2_with fail
          refine HL2.out.mono ?_
          rintro e w5 ⟨rfl, rfl⟩
          go_wp2_with fail
          refine (whAwake_any _).mono ?_
          rintro e w5 ⟨rfl, hk5⟩
          have H5 := Lib.hid (H4.out.same hk5).kp
          clear hk5
          go_wp2_with fail
          go_ret
          exact ⟨rfl, H5.out.below _ (Nat.le_refl _) (fun _ e => e.elim)⟩

set_option maxRecDepth 100000 in
theorem lifted (os : Os) (started : os.Started) (H : Type) (enc : TypeId × Value → H) :
    ReturnsInHanded {} Try.checked os 4 .any (Rows.wheelPartsSpec.pre6 enc Try.prog Try.f4 Rows.wheelPartsRow.domain false) (Rows.wheelPartsSpec.post enc Try.prog Try.f4 false true false false) := by
  refine returnsInHanded_of_change (C := Try.checked) own started (by kernel_rfl) Try.func4
    (ChangeSpec.witness6 (enc := enc) (C := Try.checked) false ⟨#[], #[.slice none 0 0, .slice none 0 0], []⟩ 8 (by kernel_rfl) (by kernel_rfl) (by kernel_rfl) (by kernel_rfl)) ?_
  intro W base args ds gs before hval0 hW hcnd _
  have hval : ∀ (j : Nat) t v, Try.f4.params[j]? = some t → args[j]? = some v → Value.okWide Try.prog W .any base t v := hval0
  have hW' := hW
  obtain ⟨p, q, hA0, hV, rfl, hfz, hnd⟩ := hW
  have hA : DataW.TrodAll enc Try.prog W 0 (fun _ => true) true Try.f4.params.toList args.toList ds p := hA0
  rw [Try.params4] at hA hval
  obtain ⟨v0, vs0, d0, ds0, p0, q0, hargs, rfl, rfl, h0, r0⟩ := trodAll_cons hA
  obtain ⟨v1, vs1, d1, ds1, p1, q1, rfl, rfl, rfl, h1, r1⟩ := trodAll_cons r0
  obtain ⟨rfl, rfl, rfl⟩ := trodAll_nil r1
  obtain rfl : args = #[v0, v1] := by cases args; simp_all
  obtain ⟨rfl, rfl⟩ := trodVars_none hV
  obtain ⟨a0, len0, cap0, rfl⟩ := okWide_slice Try.underlying60 (hval 0 60 v0 rfl rfl)
  have k0 := h0
  have lt0 : ∀ x ∈ p0, x.block < W.heap.size := by obtain ⟨m, hm⟩ := k0; exact DataW.trod_lt m _ _ _ hm
  obtain ⟨z0, w0⟩ : ∃ zs : Nat → Int, InRow W a0 len0 zs := by
    obtain ⟨fuel, hf⟩ := h0
    rcases open_ints Try.underlying60 Try.underlying3 (by kernel_rfl) hf with ⟨hcs, _⟩ | ⟨x, l, c, zs, hcs, _, hl, hm, hz, _, hcell, hwz⟩
    · simp [Value.cells] at hcs
      obtain ⟨rfl, rfl, rfl⟩ := hcs
      exact ⟨fun _ => 0, by unfold InRow; exact ⟨by omega, fun k hk => by omega⟩⟩
    · simp [Value.cells] at hcs
      obtain ⟨rfl, rfl, rfl⟩ := hcs
      exact ⟨_, inRow_of (zs := zs) (.inr ⟨_, rfl, hl, hm, by simpa using hz, hcell, hwz⟩)⟩
  obtain ⟨a1, len1, cap1, rfl⟩ := okWide_slice Try.underlying60 (hval 1 60 v1 rfl rfl)
  have k1 := h1
  have lt1 : ∀ x ∈ p1, x.block < W.heap.size := by obtain ⟨m, hm⟩ := k1; exact DataW.trod_lt m _ _ _ hm
  obtain ⟨z1, w1⟩ : ∃ zs : Nat → Int, InRow W a1 len1 zs := by
    obtain ⟨fuel, hf⟩ := h1
    rcases open_ints Try.underlying60 Try.underlying3 (by kernel_rfl) hf with ⟨hcs, _⟩ | ⟨x, l, c, zs, hcs, _, hl, hm, hz, _, hcell, hwz⟩
    · simp [Value.cells] at hcs
      obtain ⟨rfl, rfl, rfl⟩ := hcs
      exact ⟨fun _ => 0, by unfold InRow; exact ⟨by omega, fun k hk => by omega⟩⟩
    · simp [Value.cells] at hcs
      obtain ⟨rfl, rfl, rfl⟩ := hcs
      exact ⟨_, inRow_of (zs := zs) (.inr ⟨_, rfl, hl, hm, by simpa using hz, hcell, hwz⟩)⟩
  clear hA0 hval0
  refine (walk a0 len0 cap0 z0 a1 len1 cap1 z1 W w0 w1).mono fun e W' ⟨he, bel⟩ => ?_
  subst he
  exact ⟨_, rfl, _, _, _, [], _, [], hW', trodAll_mk1 (shut_bool Try.underlying4 _), (trodAll_cons_mk (Below.trod laidOut (by kernel_rfl) (of_decide_eq_true (by kernel_rfl)) k0 bel lt0) (trodAll_cons_mk (Below.trod laidOut (by kernel_rfl) (of_decide_eq_true (by kernel_rfl)) k1 bel lt1) trodAll_mk0)), rfl, bel.frame _, fun h => by cases h⟩

theorem over : Rows.wheelPartsRow.holds Try.pinned (OpenSpec.ofChange Rows.wheelPartsSpec) :=
  OpenClaim.holds_of_wide 4 Try.f4 rfl rfl rfl rfl rfl rfl rfl ⟨rfl, rfl, rfl, rfl, rfl⟩ rfl rfl rfl rfl rfl (by kernel_rfl) Try.func4 (by kernel_rfl)
    (of_decide_eq_true (by kernel_rfl)) (by unfold Func.isWrapper; first | (rw [if_pos (by decide +kernel)]; kernel_rfl) | (rw [if_neg (by decide +kernel)]; exact ⟨rfl, rfl⟩))
    (fun os started H enc _ => lifted os started H enc)

theorem proved : Rows.WheelPartsSaid := over
#print axioms proved
end Go.Proofs.Ytmekhijmghddiaa.wheelParts
