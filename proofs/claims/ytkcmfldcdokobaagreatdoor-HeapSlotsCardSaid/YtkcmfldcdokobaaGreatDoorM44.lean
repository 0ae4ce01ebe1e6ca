/- HeapSlots: the walk. -/
import Derived.Test.YtkcmfldcdokobaaGreatDoorM06
import Derived.Test.YtkcmfldcdokobaaGreatDoorM13
import Derived.Test.YtkcmfldcdokobaaGreatDoorM42
import Derived.Deep.LoopGhost
import Derived.Deep.DeepCutAuto
import Derived.Deep.CutBlock
/- HeapSlots: the walk. -/
namespace Go.Proofs.YtkcmfldcdokobaaGreatDoor
open Go.RowKit Go.Maps

set_option maxHeartbeats 4000000 in
set_option maxRecDepth 100000 in
theorem slots_walk (a0 : Option Addr) (lenA capA : Nat) (z0 : Nat → Int) (a1 : Option Addr) (len1 cap1 : Nat) (z1 : Nat → Int) (w : World) (h0 : InRow w a0 lenA z0) (hc0 : lenA ≤ capA) (hc1 : capA ≤ 9223372036854775807) (h1 : InRow w a1 len1 z1) (hg : Laid0 w) :
    Calls Tryz.prog 3 #[.slice a0 lenA capA, .slice a1 len1 cap1] w fun e w' => e = .returned (.bool true) ∧ Kp (fun _ => False) w w' := by
  have hl0 := h0.1
  have hl1 := h1.1
  have HI := Lib.hid (And.intro h0 (And.intro h1 hg))
  clear h0 h1 hg
  go_enter Tryz.func3, Tryz.ntmps3
  go_wp2_with fail
  refine (great_any w).mono ?_
  rintro e w1 ⟨o, hb, ab, tb, bb, xb, col, rfl, h1, h2, h3⟩
  have hM : Mid w w1 o hb ab tb bb (some ⟨xb, 0, none⟩) 0 (.slice none 0 0) 0 := ⟨col, _, _, _, _, _, h3, rfl, Ones.new _ _ (by omega) (by omega), Slots.none, ⟨Nat.le_refl _, fun i p h => by omega⟩, rfl, Nat.le_refl _, h1.box, h1.new, h2, World.ownsRow_nil _ _ _ _, fun g h => by simp [Value.ownBlock] at h⟩
  have H := Lib.hid hM
  clear h1 h2 h3 hM
  go_upto_if 23 with (fail)
  go_cut [0] (fun s0 wx => ∃ L cap : Nat, s0 = .slice a0 L cap ∧ L ≤ 60 ∧ L ≤ lenA ∧ wx = w1)
  case first =>
    clear H
    by_cases hbig : 60 < lenA
    · have hbi : (60 : Int) < lenA := by omega
      have hbc : (60 : Int) ≤ capA := by omega
      obtain ⟨b, off, rfl, _⟩ := HI.out.1.2 0 (by omega)
      go_wp2_with fail
      go_meet
      exact ⟨60, capA, rfl, Nat.le_refl _, by omega, rfl⟩
    · have hbi : ¬ (60 : Int) < lenA := by omega
      go_wp2_with fail
      go_meet
      exact ⟨lenA, capA, rfl, by omega, Nat.le_refl _, rfl⟩
  case rest =>
  obtain ⟨len0, cap0, rfl, hsm, hla, rfl⟩ := hcut
  have HI' := Lib.hid (And.intro (show InRow w a0 len0 z0 from ⟨by omega, fun k hk => HI.out.1.2 k (by omega)⟩) HI.out.2)
  clear HI hl0 hla hc0 hc1
  have hl0 : len0 ≤ 9223372036854775807 := by omega
  have HI := HI'
  clear HI'
  go_wp2_with fail
  go_loopg [7, 8] len0 (fun gk uv i wr => ∃ (k L : Nat) (v : Value), k ≤ len0 ∧ gk = len0 - k ∧ i = Value.int .i64 k ∧ v = uv ∧ Mid w wr o hb ab tb bb (some ⟨xb, 0, none⟩) k v L)
  case atStart => exact ⟨0, 0, _, by omega, rfl, rfl, rfl, H.out⟩
  case round =>
    clear H
    obtain ⟨k, L, v, hk, rfl, rfl, rfl, hM⟩ := hrel
    by_cases hlt : k < len0
    · obtain ⟨col, sv, least, sl, A, a, hH, hf, hA, hs, hfu, hL, hLk, hS⟩ := hM
      obtain ⟨bx, off, rfl, hcell, hz1, hz2⟩ := HI.out.1.at' hH.kp k hlt
      obtain ⟨z, hz⟩ : ∃ z, z0 k = z := ⟨_, rfl⟩
      rw [hz] at hcell hz1 hz2
      have ht1 := Int.tmod_lt_of_pos z (b := 1000) (by omega)
      have ht2 := Int.lt_tmod_of_pos z (b := 1000) (by omega)
      have e0 : wr.cell? ⟨o, 0, none⟩ = some (.pointer (some ⟨hb, 0, none⟩)) := cell_of hS.box 0
      obtain ⟨po, cap, rfl⟩ := slice_form hS.row
      have hMs : (sl.map (·.2)).length = sl.length := List.length_map _
      rw [hMs]
      have hkA : Kp (fun _ => False) wr (wr.alloc (.cells #[.int .i64 1, .int .i64 (z.tmod 1000), .string noS, .slice none 0 0, .slice none 0 0, .slice none 0 0] 41)).drew := ((Kp.refl _ wr).alloc _).drew
      have hbA : (wr.alloc (.cells #[.int .i64 1, .int .i64 (z.tmod 1000), .string noS, .slice none 0 0, .slice none 0 0, .slice none 0 0] 41)).drew.heap[wr.heap.size]? = some (.cells #[.int .i64 1, .int .i64 (z.tmod 1000), .string noS, .slice none 0 0, .slice none 0 0, .slice none 0 0] 41 (0, 0)) := heap_alloc_new wr _
      have hst := store_one (v := z.tmod 1000) hkA hbA hH hA (by omega) hf (by omega) (by omega) (by omega) (by omega) HI.out.2.2
      have hli : (k : Int) < len0 := by omega
      have HC := Lib.hid (And.intro hst (And.intro hf (And.intro hs (And.intro hfu (And.intro hL (And.intro hLk hS))))))
      clear hMs hkA hbA hz hst hf hs hfu hL hLk hS hH hA ht1 ht2
      have e0A : (wr.alloc (.cells #[.int .i64 1, .int .i64 (z.tmod 1000), .string noS, .slice none 0 0, .slice none 0 0, .slice none 0 0] 41)).cell? ⟨o, 0, none⟩ = some (.pointer (some ⟨hb, 0, none⟩)) := by
        rw [World.cell?_alloc_lt _ _ ⟨o, 0, none⟩ (World.block_lt_of_cell? _ _ e0)]
        exact e0
      unfold noS at e0A
      go_wp2_with fail
      go_cut [9, 10] (fun s9 s10 wx => s9 = .int .u64 (wordOf k) ∧ s10 = .nilIface ∧ ∃ col2 A2, Go1 col wr col2 wx ∧ Ones 20000 20000 (k + 1) A2 ∧ Hs w wx col2 hb ab tb bb sv least sl A2 [] (1 + 3000000 * k + 3000000) a)
      case first =>
        go_region_with (go_at_call 14; refine HC.out.1.mono ?_; rintro e w2 ⟨rfl, col2, A2, g2, hA2, h2⟩)
        all_goals (first | (go_wp2_with fail; go_meet; exact ⟨rfl, rfl, _, _, g2, hA2, h2⟩) | (simp [Act.put]; go_wp2_with fail; go_meet; exact ⟨rfl, rfl, _, _, g2, hA2, h2⟩))
      case rest =>
        obtain ⟨rfl, rfl, col2, A2, g2, hA2, h2⟩ := hcut
        have hS2 := HC.out.2.2.2.2.2.2.go g2
        obtain ⟨po', cap', e1, hel⟩ := hS2.at'
        injection e1 with e1 e2 e3
        subst e1 e3
        have hL2 : sl.length ≤ k := by have := HC.out.2.2.2.2.1; have := HC.out.2.2.2.2.2.1; omega
        have H2 := Lib.hid (And.intro g2 (And.intro hA2 (And.intro h2 (And.intro hS2 hel))))
        clear g2 hA2 h2 hS2 hel e0 e0A e2 hcell
        go_upto_block 2 with (fail)
        go_cut [11] (fun s11 wx => ∃ j : Nat, s11 = .int .i64 j ∧ FreeIx sl j ∧ wx = wc)
        case first =>
          go_wp2_with fail
          go_loopg [11] sl.length (fun gk wa wx => ∃ j : Nat, j ≤ sl.length ∧ gk = sl.length - j ∧ wa = Value.int .i64 j ∧ (∀ (i : Nat) (p : Int × Bool), i < j → sl[i]? = some p → p.2 = true) ∧ wc = wx)
          case atStart => exact ⟨0, by omega, rfl, rfl, fun i p h => by omega, rfl⟩
          case round =>
            obtain ⟨j, hj, rfl, rfl, hall, rfl⟩ := hrel
            have Ha := Lib.hid hall
            clear hall
            by_cases hlj : j < sl.length
            · obtain ⟨p, hp⟩ : ∃ p, sl[j]? = some p := ⟨_, List.getElem?_eq_getElem hlj⟩
              obtain ⟨g, rfl, d0, fg⟩ := H2.out.2.2.2.2 j p.2 (by rw [List.getElem?_map, hp]; rfl)
              obtain ⟨px, pb⟩ := p
              have hlji : (j : Int) < sl.length := by omega
              have Hp := Lib.hid hp
              clear hp
              cases pb with
              | true =>
                go_wp2_with fail
                go_roundg (sl.length - (j + 1))
                case measure => omega
                case rel =>
                  refine ⟨j + 1, by omega, rfl, by go_num, fun i p hi hp => ?_, rfl⟩
                  by_cases e : i = j
                  · subst e
                    rw [Hp.out] at hp
                    injection hp with hp
                    rw [← hp]
                  · exact Ha.out i p (by omega) hp
              | false =>
                go_wp2_with fail
                go_meet
                exact ⟨j, rfl, ⟨by omega, Ha.out, fun p hp => by rw [Hp.out] at hp; injection hp with hp; rw [← hp]⟩, rfl⟩
            · obtain rfl : j = sl.length := by omega
              go_wp2_with fail
              go_meet
              exact ⟨sl.length, rfl, ⟨Nat.le_refl _, Ha.out, fun p hp => by rw [List.getElem?_eq_none (Nat.le_refl _)] at hp; cases hp⟩, rfl⟩
        case rest =>
          obtain ⟨j, rfl, hfree, rfl⟩ := hcut
          have hjl := hfree.1
          have hhold := hold_any H2.out.2.2.1.hr HC.out.2.2.2.1 (by omega) (wordOf k)
          have e5 := cell_of H2.out.2.2.2.1.box 0
          have H3 := Lib.hid (And.intro hfree hhold)
          clear hfree hhold
          go_wp2_with (go_at_call 15; refine H3.out.2.mono ?_; rintro e w3 ⟨j2, rfl, hf2, hg3⟩; obtain rfl := H3.out.1.uniq hf2; refine Hid.out ?_)
          obtain ⟨sv3, h3⟩ := H2.out.2.2.1.stepH hg3
          have hS3 := H2.out.2.2.2.1.go (go1_recol (by omega) hg3.1)
          rw [List.length_map] at hS3
          have H4 := Lib.hid (And.intro hg3.1 (And.intro h3 hS3))
          clear hg3 hf2 h3 hS3 e5
          refine Lib.hid ?_
          go_upto_if 73 with (fail)
          have hL2' : sl.length ≤ 60 := by omega
          go_cut [7] (fun s7 wx => ∃ (us : List Bool) (col4 : Nat → Nat), us = (if j < sl.length then sl.map (·.2) else sl.map (·.2) ++ [true]) ∧ Side w wx o hb bb (some ⟨xb, 0, none⟩) s7 us col4 ∧ Hs w wx col4 hb ab tb bb sv3 (j + 1) (holdIn sl j (wordOf k)) A2 [] (1 + 3000000 * k + 3000000) a)
          case first =>
            by_cases hjlt : j < sl.length
            · have hne2 : ((j : Int) == (sl.length : Int)) = false := by simp; omega
              go_wp2_with fail
              go_meet
              exact ⟨_, _, (if_pos hjlt).symm, H4.out.2.2, H4.out.2.1⟩
            · obtain rfl : j = sl.length := by omega
              have hrow := H4.out.2.2.row
              rw [List.length_map] at hrow
              have hoA : ∀ o, (w3.alloc o).ownsRow w.heap.size 4 1 (.slice po sl.length cap) sl.length (marks (sl.map (·.2))) := fun o => hrow.alloc o
              have hnA : ∀ i u, [Value.bool true][i]? = some u → (w3.alloc (.cells #[Value.bool true] 4)).cell? ((⟨w3.heap.size, 0, none⟩ : Addr).add i) = some u :=
                World.news_of_block (cs := #[Value.bool true]) (heap_alloc_new w3 _)
              have hone : ∀ u ∈ [Value.bool true], u.oneCell' = true := by intro u hu; simp at hu; subst hu; rfl
              have hc1 : sl.length + 1 ≤ maxLen := by unfold maxLen; omega
              have hc2 : (sl.length + 1) * 1 ≤ 140737488355328 := by omega
              have hbz : ∀ o, w.heap.size ≤ (w3.alloc o).heap.size := fun o => by have := H4.out.2.1.kp.size; simp; omega
              obtain ⟨i0, hi, hz0, hz1', hz2'⟩ := info_parts Tryz.infoBool
              have Hc := Lib.hid (And.intro hc1 hc2)
              clear hc1 hc2 hrow hlt hli hL2 hjl
              go_wp2_with (at_builtin; refine wpList_append_lies _ rfl _ _ 26 rfl w.heap.size 4 i0 (.bool false) 1 1 Tryz.underlying26 hi hz0 hz1' hz2' rfl (by omega) (.slice po sl.length cap) sl.length _ rfl (hoA _) ⟨w3.heap.size, 0, none⟩ 1 1 [.bool true] rfl rfl hnA hone (by omega) Hc.out.1 Hc.out.2 (hbz _) (w3.heap.size + 1) (by simp) ?_; intro g1 cap1 w4 hown hgrow hat hlt4; refine Hid.out ?_)
              have hk4 : Kp (fun q => (Value.slice po sl.length cap).ownBlock = some q) w3 w4 := ((Kp.refl _ w3).alloc _).grown hgrow (fun q hq => .inl hq)
              have hsd := H4.out.2.2
              have hS4 : Side w w4 o hb bb (some ⟨xb, 0, none⟩) (.slice (some ⟨g1, 0, none⟩) (sl.length + 1) cap1) (sl.map (·.2) ++ [true]) (recol (recol col2 wc 1) w3 0) := by
                refine hsd.grown hk4 ?_ (fun g hg => ?_)
                · rw [List.length_append, List.length_map]
                  simpa [marks] using hown
                · have : g1 = g := by simpa [Value.ownBlock] using hg
                  subst this
                  exact hat.imp id (fun e => by omega)
              have h4 := H4.out.2.1.aside hk4 hsd.asideOk
              have H5 := Lib.hid (And.intro hS4 h4)
              clear hown hgrow hat hlt4 hk4 hsd hS4 h4 hoA hnA hone hbz
              refine Lib.hid ?_
              go_wp2_with fail
              go_meet
              exact ⟨_, _, (if_neg (by omega)).symm, H5.out.1, H5.out.2⟩
          case rest =>
            obtain ⟨us, col4, hus, hS4, h4⟩ := hcut
            obtain ⟨po4, cap4, rfl, hel4⟩ := hS4.at'
            have hjl4 : j < us.length := by
              rw [hus]
              split
              · rw [List.length_map]; omega
              · rw [List.length_append, List.length_map, List.length_singleton]; omega
            obtain ⟨b4, hb4⟩ : ∃ b, us[j]? = some b := ⟨_, List.getElem?_eq_getElem hjl4⟩
            obtain ⟨g4, rfl, d4, f4⟩ := hel4 j b4 hb4
            have hput := hS4.put rfl j true
            have h5 := h4.aside hput.2.1 hput.2.2
            have hmk : us.set j true = (holdIn sl j (wordOf k)).map (·.2) := by
              rw [hold_marks hjl, hus]
              split
              · rfl
              · have : j = sl.length := by omega
                subst this
                simp
            have hul : us.length ≤ 61 := by
              rw [hus]
              split
              · rw [List.length_map]; omega
              · rw [List.length_append, List.length_map, List.length_singleton]; omega
            obtain ⟨U, hU, hU2⟩ : ∃ U, us.length = U ∧ U ≤ 61 := ⟨_, rfl, hul⟩
            rw [hU] at hjl4
            rw [hU]
            have hjli : (j : Int) < U := by omega
            have hmid : Mid w (wc.setCell ⟨g4, j, none⟩ (.bool true)) o hb ab tb bb (some ⟨xb, 0, none⟩) (k + 1) (.slice (some ⟨g4, 0, none⟩) U cap4) (holdIn sl j (wordOf k)).length := by
              refine Mid.of h5 HC.out.2.1 H2.out.2.1 (HC.out.2.2.1.hold hjl) H3.out.1.full ?_ ?_
              · have := holdIn_len (x := wordOf k) hjl
                omega
              · have := hput.1
                rw [hmk, hU] at this
                exact this
            have H5 := Lib.hid (And.intro hput.1 (And.intro h5 (And.intro hmk (And.intro hU hmid))))
            clear hput h5 hmk hus hS4 h4 hb4 hel4 hul hU hmid
            by_cases hlk : k < len1
            · obtain ⟨b1, off1, rfl, hc1, hy1, hy2⟩ := HI.out.2.1.at' H5.out.2.1.kp k hlk
              obtain ⟨y, hy⟩ : ∃ y, z1 k = y := ⟨_, rfl⟩
              rw [hy] at hc1 hy1 hy2
              clear hy
              have hlki : (k : Int) < len1 := by omega
              by_cases hy0 : y.tmod 3 = 0
              · obtain ⟨W5, hW5⟩ : ∃ W, wc.setCell ⟨g4, j, none⟩ (.bool true) = W := ⟨_, rfl⟩
                obtain ⟨sl5, hsl5⟩ : ∃ s, holdIn sl j (wordOf k) = s := ⟨_, rfl⟩
                have hmd : (y % (U : Int)).toNat < U ∧ ((y % (U : Int)).toNat : Int) = y % (U : Int) := by
                  have h1 := Int.emod_nonneg y (b := (U : Int)) (by omega)
                  have h2 := Int.emod_lt_of_pos y (b := (U : Int)) (by omega)
                  omega
                obtain ⟨m, hm, hme⟩ : ∃ m : Nat, m < U ∧ (m : Int) = y % (U : Int) := ⟨_, hmd.1, hmd.2⟩
                have hsd := H5.out.1
                rw [H5.out.2.2.1, H5.out.2.2.2.1] at hsd
                have hU := H5.out.2.2.2.1
                have hUl : sl5.length = U := by
                  have h1 := congrArg List.length H5.out.2.2.1
                  rw [List.length_set, List.length_map, hU, hsl5] at h1
                  omega
                have hfin : Slots (k + 1) (holdIn sl j (wordOf k)) := HC.out.2.2.1.hold hjl
                have hpl := place_any (wc.setCell ⟨g4, j, none⟩ (.bool true)) y U hy1 hy2 (by omega) (by omega)
                rw [← hme] at hpl
                have HP := Lib.hid hpl
                have hmi : (m : Int) < U := by omega
                obtain ⟨bm, hbm⟩ : ∃ b, ((holdIn sl j (wordOf k)).map (·.2))[m]? = some b := ⟨_, List.getElem?_eq_getElem (by rw [List.length_map, hsl5]; omega)⟩
                obtain ⟨po6, cap6, e6, hel6⟩ := hsd.at'
                obtain ⟨g6, e7, d6, f6⟩ := hel6 m bm hbm
                have hga : g6 = g4 := by
                  injection e6 with e6 _ _
                  rw [e7] at e6
                  injection e6 with e6
                  injection e6 with e6
                  exact e6.symm
                subst hga
                have e8 := cell_of hsd.box 0
                have hkd : Kp (fun _ => False) (wc.setCell ⟨g6, j, none⟩ (.bool true)) (wc.setCell ⟨g6, j, none⟩ (.bool true)).drew := (Kp.refl _ _).drew
                have hlet := let_side (sl := holdIn sl j (wordOf k)) (H5.out.2.1.same hkd) H3.out.1.full (by rw [hsl5]; omega) m (by rw [hsl5]; omega) (hsd.go (Go0.same hkd).go1) rfl bm hbm
                rw [← hsl5] at hUl
                have HL := Lib.hid (And.intro hlet (And.intro hfin (And.intro hsd hUl)))
                have HB := Lib.hid hbm
                have hsll : (holdIn sl j (wordOf k)).length ≤ k + 1 := by
                  have h1 := holdIn_len (x := wordOf k) hjl
                  omega
                clear hlet hkd hfin hsd hpl hme hmd hsl5 hW5 hUl hU e6 e7 hel6 hbm
                go_wp2_with fail
                refine HP.out.mono ?_
                rintro e wq ⟨rfl, rfl⟩
                go_upto_region 23 with (fail)
                go_cut [110] (fun s110 wx => s110 = .bool false ∧ LetTo w w hb ab tb bb (1 + 3000000 * k + 3000000) A2 a [] o (some ⟨xb, 0, none⟩) (.slice (some ⟨g6, 0, none⟩) U cap4) (holdIn sl j (wordOf k)) m wx)
                case first =>
                  have hl := HL.out.1
                  cases bm with
                  | true =>
                    have hl1 : Calls Tryz.prog 17 #[.pointer (some ⟨hb, 0, none⟩), .int .i64 m] (wc.setCell ⟨g6, j, none⟩ (.bool true)).drew (fun e w' => e = .returned .nilIface ∧ w'.cell? ⟨g6, m, none⟩ = some (.bool true) ∧ w'.cell? ⟨o, 0, none⟩ = some (.pointer (some ⟨hb, 0, none⟩)) ∧ LetTo w w hb ab tb bb (1 + 3000000 * k + 3000000) A2 a [] o (some ⟨xb, 0, none⟩) (.slice (some ⟨g6, 0, none⟩) U cap4) (holdIn sl j (wordOf k)) m w') := hl.mono (by
                      rintro e w' ⟨⟨_, h1⟩ | ⟨h1, _⟩, h2⟩
                      · exact ⟨h1, h2⟩
                      · cases h1)
                    have hl2 := Lib.hid hl1
                    clear hl hl1
                    go_region_with (go_at_call 17; refine hl2.out.mono ?_; rintro e w6 ⟨rfl, d7, d8, hlt6⟩; have HT := Lib.hid hlt6; clear hlt6)
                    all_goals (first | (go_wp2_with fail; go_meet; exact ⟨rfl, HT.out⟩) | (simp [Act.put]; go_wp2_with fail; go_meet; exact ⟨rfl, HT.out⟩))
                  | false =>
                    have hl1 : Calls Tryz.prog 17 #[.pointer (some ⟨hb, 0, none⟩), .int .i64 m] (wc.setCell ⟨g6, j, none⟩ (.bool true)).drew (fun e w' => ∃ g, e = .returned (.iface 95 (.pointer (some ⟨g, 0, none⟩))) ∧ w'.cell? ⟨g6, m, none⟩ = some (.bool false) ∧ w'.cell? ⟨o, 0, none⟩ = some (.pointer (some ⟨hb, 0, none⟩)) ∧ LetTo w w hb ab tb bb (1 + 3000000 * k + 3000000) A2 a [] o (some ⟨xb, 0, none⟩) (.slice (some ⟨g6, 0, none⟩) U cap4) (holdIn sl j (wordOf k)) m w') := hl.mono (by
                      rintro e w' ⟨⟨h1, _⟩ | ⟨_, g, h1⟩, h2⟩
                      · cases h1
                      · exact ⟨g, h1, h2⟩)
                    have hl2 := Lib.hid hl1
                    clear hl hl1
                    go_region_with (go_at_call 17; refine hl2.out.mono ?_; rintro e w6 ⟨g7, rfl, d7, d8, hlt6⟩; have HT := Lib.hid hlt6; clear hlt6)
                    all_goals (first | (go_wp2_with fail; go_meet; exact ⟨rfl, HT.out⟩) | (simp [Act.put]; go_wp2_with fail; go_meet; exact ⟨rfl, HT.out⟩))
                case rest =>
                  obtain ⟨rfl, col6, sv6, least6, sl6, h6, hS6, hf6, hl6, hm6, hs6⟩ := hcut
                  obtain ⟨po7, cap7, e7, hel7⟩ := hS6.at'
                  obtain ⟨g7, e9, d7, f7⟩ := hel7 m bm HB.out
                  have hga : g6 = g7 := by
                    injection e7 with e7 _ _
                    rw [e9] at e7
                    have := Option.some.inj e7
                    injection this
                  subst hga
                  have hput7 := hS6.put (by rw [List.length_map, HL.out.2.2.2]) m false
                  have h7 := h6.aside hput7.2.1 hput7.2.2
                  have hmid7 : Mid w (wc.setCell ⟨g6, m, none⟩ (.bool false)) o hb ab tb bb (some ⟨xb, 0, none⟩) (k + 1) (.slice (some ⟨g6, 0, none⟩) U cap4) sl6.length := Mid.of h7 HC.out.2.1 H2.out.2.1 (hs6 _ HL.out.2.1) hf6 (by rw [hl6]; exact hsll) (by rw [hm6]; exact hput7.1)
                  have HM := Lib.hid hmid7
                  clear hput7 h7 hmid7 h6 hS6 hf6 hl6 hm6 hs6 e7 e9 hel7
                  go_wp2_with fail
                  go_roundg (len0 - (k + 1))
                  case measure => omega
                  case rel => exact ⟨k + 1, _, _, by omega, rfl, by go_num, rfl, HM.out⟩
              · go_wp2_with fail
                go_roundg (len0 - (k + 1))
                case measure => omega
                case rel => exact ⟨k + 1, _, _, by omega, rfl, by go_num, rfl, H5.out.2.2.2.2⟩
            · have hlki : ¬ (k : Int) < len1 := by omega
              go_wp2_with fail
              go_roundg (len0 - (k + 1))
              case measure => omega
              case rel => exact ⟨k + 1, _, _, by omega, rfl, by go_num, rfl, H5.out.2.2.2.2⟩
    · obtain rfl : k = len0 := by omega
      obtain ⟨col, sv, least, sl, A, a, hH, hf, hA, hs, hfu, hL, hLk, hS⟩ := hM
      obtain ⟨po, cap, rfl, hel⟩ := hS.at'
      rw [List.length_map, hL] at hS ⊢
      have e0 := cell_of hS.box 0
      have H := Lib.hid (And.intro hH (And.intro hA (And.intro hs (And.intro hL (And.intro hS hel)))))
      clear hH hf hA hs hfu hL hS hel
      go_wp2_with fail
      go_loopg [13, 14] L (fun gk ns i wx => ∃ (q m : Nat), q ≤ L ∧ gk = L - q ∧ i = Value.int .i64 q ∧ ns = Value.int .i64 m ∧ m = (heldTo sl q).length ∧ wx = wr)
      case atStart => exact ⟨0, 0, by omega, rfl, rfl, rfl, rfl, rfl⟩
      case round =>
        obtain ⟨q, m, hq, rfl, rfl, rfl, hm, rfl⟩ := hrel
        by_cases hlt : q < L
        · obtain ⟨p, hp⟩ : ∃ p, sl[q]? = some p := ⟨_, List.getElem?_eq_getElem (by have := H.out.2.2.2.1; omega)⟩
          obtain ⟨g, rfl, d0, fg⟩ := H.out.2.2.2.2.2 q p.2 (by rw [List.getElem?_map, hp]; rfl)
          have hsucc := heldTo_succ hp
          have hlen := heldTo_len sl q
          have hlti : (q : Int) < L := by omega
          obtain ⟨px, pb⟩ := p
          have hm2 : m ≤ q := by omega
          have Hs := Lib.hid (And.intro hsucc hm)
          clear hsucc hlen hp hm
          cases pb with
          | false =>
            go_wp2_with fail
            go_roundg (L - (q + 1))
            case measure => omega
            case rel => exact ⟨q + 1, m, by omega, rfl, by go_num, rfl, by rw [Hs.out.1, List.length_append, ← Hs.out.2]; rfl, rfl⟩
          | true =>
            go_wp2_with fail
            go_roundg (L - (q + 1))
            case measure => omega
            case rel => exact ⟨q + 1, m + 1, by omega, rfl, by go_num, by go_num, by rw [Hs.out.1, List.length_append, ← Hs.out.2]; rfl, rfl⟩
        · obtain rfl : q = L := by omega
          have hLs := H.out.2.2.2.1
          have hcol := collect_none H.out.1 (by omega) (by omega) (fun x hx => by
            obtain ⟨i, hi⟩ := held_mem.1 hx
            obtain ⟨j, hj, rfl⟩ := H.out.2.2.1.of i x hi
            unfold wordOf
            omega)
          have HC := Lib.hid hcol
          have Hm := Lib.hid hm
          have hmb : m ≤ 60 := by
            have := heldTo_len sl q
            omega
          clear hcol hm hLs
          go_wp2_with fail
          refine HC.out.mono ?_
          rintro e w2 ⟨ds, rfl, hds, col2, A2, a2, g2, hgv, h2⟩
          have hn := slots_left H.out.2.1 H.out.2.2.1 hds hgv h2.ar.inv
          have hmm : (heldTo sl sl.length).length = m := by rw [H.out.2.2.2.1, Hm.out]
          rw [hmm] at hn
          have hS2 := H.out.2.2.2.2.1.go g2.go1
          have hHeld : Calls Tryz.prog 19 #[.pointer (some ⟨hb, 0, none⟩)] w2 fun e w' => ∃ po cap, e = .returned (.slice po m cap) ∧ Kp (fun _ => False) w2 w' := by
            refine (held_any h2.hr (by have := H.out.2.2.2.1; omega)).mono ?_
            rintro e w' ⟨v, rfl, hrow, hk⟩
            rw [hmm] at hrow
            obtain ⟨po, cap, rfl⟩ := slice_form hrow
            exact ⟨po, cap, rfl, hk⟩
          have hBl : ∀ W, Kp (fun _ => False) w2 W → Calls Tryz.prog 20 #[.pointer (some ⟨ab, 0, none⟩)] W fun e w' => ∃ po cap, e = .returned (.slice po m cap) ∧ Kp (fun _ => False) w2 w' := fun W hk => by
            have h3 := h2.same hk
            refine (blocks_any h3.ar.rep h3.ar.lens.1).mono ?_
            rintro e w' ⟨v, rfl, hrow, hk2⟩
            rw [hn] at hrow
            obtain ⟨po, cap, rfl⟩ := slice_form hrow
            exact ⟨po, cap, rfl, hk.trans' hk2⟩
          have hLet : ∀ W, Kp (fun _ => False) w2 W → Calls Tryz.prog 17 #[.pointer (some ⟨hb, 0, none⟩), .int .i64 q] W fun e w' => ∃ g, e = .returned (.iface 95 (.pointer (some ⟨g, 0, none⟩))) ∧ Kp (fun _ => False) w2 w' := fun W hk => by
            have h3 := h2.same hk
            refine (let_bad h3.hr (by have := H.out.2.2.2.1; omega) (q : Int) (.inr (.inl (by have := H.out.2.2.2.1; omega)))).mono ?_
            rintro e w' ⟨v, rfl, hc, hk2⟩
            obtain ⟨g, rfl⟩ := Chain.form hc.out
            exact ⟨g, rfl, hk.trans' hk2⟩
          have hSw : ∀ W, Kp (fun _ => False) w2 W → Calls Tryz.prog 21 #[.pointer (some ⟨hb, 0, none⟩), .int .i64 (-1), .int .u64 8] W fun e w' => ∃ g, e = .returned (.iface 95 (.pointer (some ⟨g, 0, none⟩))) ∧ Kp (fun _ => False) w2 w' := fun W hk => by
            have h3 := h2.same hk
            refine (swap_bad h3.hr (by have := H.out.2.2.2.1; omega) (-1) (.inl (by omega)) 8).mono ?_
            rintro e w' ⟨v, rfl, hc, hk2⟩
            obtain ⟨g, rfl⟩ := Chain.form hc.out
            exact ⟨g, rfl, hk.trans' hk2⟩
          have hAw : ∀ W, Kp (fun _ => False) w2 W → Calls Tryz.prog 22 #[] W fun e w' => e = .returned (.bool true) ∧ Kp (fun _ => False) w w' := fun W hk => by
            have hkw := h2.kp.trans' hk
            refine (hpAwake_any W ((hkw.cell (World.block_lt_of_cell? _ _ HI.out.2.2) (fun e => e)).trans HI.out.2.2)).mono ?_
            rintro e w' ⟨rfl, h1⟩
            exact ⟨rfl, hkw.trans' h1⟩
          have e2 := cell_of hS2.box 0
          have e3 := h2.hr.cells.1
          have HF := Lib.hid (And.intro hHeld (And.intro hBl (And.intro hLet (And.intro hSw hAw))))
          have HE := Lib.hid (And.intro e2 e3)
          clear hHeld hBl hLet hSw hAw hS2 h2 hgv hds hn hmm g2 e0 e3
          go_wp2_with (first
            | (go_at_call 19; refine HF.out.1.mono ?_; rintro e w3 ⟨po3, cap3, rfl, hk3⟩; have e03 := (hk3.cell (World.block_lt_of_cell? _ _ HE.out.1) (fun e => e)).trans HE.out.1; have e13 := (hk3.cell (World.block_lt_of_cell? _ _ HE.out.2) (fun e => e)).trans HE.out.2; have H3 := Lib.hid hk3; clear hk3)
            | (go_at_call 20; refine (HF.out.2.1 _ H3.out).mono ?_; rintro e w4 ⟨po4, cap4, rfl, hk4⟩; have e04 := (hk4.cell (World.block_lt_of_cell? _ _ HE.out.1) (fun e => e)).trans HE.out.1; have H4 := Lib.hid hk4; clear hk4)
            | (go_at_call 17; refine (HF.out.2.2.1 _ H4.out).mono ?_; rintro e w5 ⟨g5, rfl, hk5⟩; have e05 := (hk5.cell (World.block_lt_of_cell? _ _ HE.out.1) (fun e => e)).trans HE.out.1; have H5 := Lib.hid hk5; clear hk5)
            | (go_at_call 21; refine (HF.out.2.2.2.1 _ H5.out).mono ?_; rintro e w6 ⟨g6, rfl, hk6⟩; have H6 := Lib.hid hk6; clear hk6)
            | (go_at_call 22; refine (HF.out.2.2.2.2 _ H6.out).mono ?_; rintro e w7 ⟨rfl, hk7⟩; have H7 := Lib.hid hk7; clear hk7))
          go_ret
          exact ⟨rfl, H7.out⟩
end Go.Proofs.YtkcmfldcdokobaaGreatDoor
