/- Jumps within and without; behind the last instruction. -/
import Derived.Test.YtpbapiphafnipaaDoorM21
/- Jumps within and without; behind the last instruction. -/
namespace Go.Proofs.YtpbapiphafnipaaDoor
open Go.RowKit

theorem labCode_12 (k : Nat) (label : Int) (falls : Bool) : ∀ x ∈ labCode k label falls, x.op ≠ 12 := by
  intro x hx
  obtain ⟨p, hp, rfl⟩ := List.getElem_of_mem hx
  rcases labCode_at (List.getElem?_eq_getElem hp) with ⟨-, e⟩ | ⟨-, e⟩ | ⟨-, -, e⟩ | ⟨-, -, e⟩ <;> rw [e] <;> simp
theorem labCode_wf (k : Nat) (label : Int) (falls : Bool) (hl : isI64 label) : ∀ x ∈ labCode k label falls, x.wf := by
  intro x hx
  obtain ⟨p, hp, rfl⟩ := List.getElem_of_mem hx
  have z : isI64 0 := ⟨by decide, by decide⟩
  rcases labCode_at (List.getElem?_eq_getElem hp) with ⟨-, e⟩ | ⟨-, e⟩ | ⟨-, -, e⟩ | ⟨-, -, e⟩ <;> rw [e]
  · exact wf4 (by omega) z z z
  · exact wf4 (by omega) z z hl
  · exact wf4 (by omega) z z z
  · exact wf4 (by omega) z z z
set_option maxRecDepth 100000 in
set_option maxHeartbeats 4000000 in
theorem labels_walk (a0 label : Int) (falls : Bool) (w : World) (b1 : -9223372036854775808 ≤ a0) (b2 : a0 ≤ 9223372036854775807) (b3 : -9223372036854775808 ≤ label) (b4 : label ≤ 9223372036854775807) (hg : Laid0 w) :
    Calls Tryd.prog 4 #[.int .i64 a0, .int .i64 label, .bool falls] w fun e w' => e = .returned (.bool true) ∧ Kp (fun _ => False) w w' := by
  have HG := Lib.hid hg
  have HI := Lib.hid (And.intro b1 (And.intro b2 (And.intro b3 b4)))
  clear hg b1 b2 b3 b4
  go_enter Tryd.func4, Tryd.ntmps4
  go_wp2_with fail
  refine Calls.mono (vplace _ a0 10 HI.out.1 HI.out.2.1 (by omega) (by omega)) ?_
  rintro e w' ⟨p, rfl, hp, rfl⟩
  go_wp2_with fail
  go_loopg [8, 9] (1 + p) (fun gk vv ii wr => ∃ (i : Nat) (po : Option Addr) (m c : Nat), i ≤ 1 + p ∧ gk = 1 + p - i ∧ ii = .int .i64 i ∧ vv = .slice po m c ∧ CRow w wr po m c (List.replicate i ⟨40, 0, 0, 0⟩))
  case atStart => exact ⟨0, none, 0, 0, by omega, rfl, rfl, rfl, crow_nil w⟩
  case round =>
    obtain ⟨i, po, m, c, hi, rfl, rfl, rfl, hr⟩ := hrel
    by_cases hlt : i < 1 + p
    · have hlti : (i : Int) < 1 + p := by omega
      obtain ⟨p2, n2, c2, w2, hr2, hc2⟩ := crow_push hr (by simp; omega) 40 0 0 0
      have H2 := Lib.hid (And.intro hr2 hc2)
      clear hr2 hc2 hr
      go_wp2_with (at_builtin; refine wpList_run rfl (.tmp 19) (.tmp 21) 30 rfl (.slice po m c) (.slice (some ⟨wr.heap.size, 0, none⟩) 1 1) rfl rfl _ w2 H2.out.1 ?_)
      go_roundg (1 + p - (i + 1))
      case measure => omega
      case rel => exact ⟨i + 1, _, _, _, by omega, rfl, by go_num, rfl, by rw [vrep_snoc]; exact H2.out.2⟩
    · obtain rfl : i = 1 + p := by omega
      have hlti : ¬ ((1 + p : Nat) : Int) < 1 + p := by omega
      obtain ⟨p2, n2, c2, w2, hr2, hc2⟩ := crow_push hr (by simp; omega) 5 0 0 label
      rcases falls with _ | _
      · obtain ⟨p3, m3, c3, w3, hr3, hc3⟩ := crow_push hc2 (by simp; omega) 15 0 0 0
        have hcode : (List.replicate (1 + p) (⟨40, 0, 0, 0⟩ : In4) ++ [⟨5, 0, 0, label⟩]) ++ [⟨15, 0, 0, 0⟩] = labCode (1 + p) label false := by simp [labCode]
        rw [hcode] at hc3
        have hcd := crow_code hc3 (by rw [labCode_len]; omega) (labCode_wf _ _ _ ⟨HI.out.2.2.1, HI.out.2.2.2⟩)
        obtain ⟨hm, -, hk3⟩ := hc3
        have hm3 : (m3 : Int) = 1 + p + 2 := by rw [hm, labCode_len]; omega
        have H3 := Lib.hid (And.intro hcd (And.intro hk3 hm))
        have H2 := Lib.hid (And.intro hr2 hr3)
        clear hr2 hc2 hr hcd hk3 hm hr3 hcode
        go_wp2_with (at_builtin; first | (refine wpList_run rfl (.tmp 23) (.tmp 26) 30 rfl (.slice po m c) (.slice (some ⟨wr.heap.size, 0, none⟩) 1 1) rfl rfl _ w2 H2.out.1 ?_) | (refine wpList_run rfl (.tmp 33) (.tmp 35) 30 rfl (.slice p2 n2 c2) (.slice (some ⟨w2.heap.size, 0, none⟩) 1 1) rfl rfl _ w3 H2.out.2 ?_))
        refine (one_any _ rfl _).mono ?_
        rintro e w4 ⟨g, rfl, hb4, hlo, hk4⟩
        rw [H3.out.2.2] at hb4
        have hz4 := hk4.size
        have hfs := fns_one (s := 0) (code := labCode (1 + p) label false) hb4 (by omega) (H3.out.1.imp (fun q e => Nat.lt_of_lt_of_le e hz4) (fun _ _ _ _ e => keeps_cell hk4 e))
        have hg4 := laid0_kp HG.out (H3.out.2.1.trans' hk4)
        have hlen : 1 ≤ (labCode (1 + p) label false).length ∧ (labCode (1 + p) label false).length ≤ 16384 := by rw [labCode_len]; omega
        have HW := Lib.hid (whole_md (hh := 0) lits_nil hfs (by simp) (by simp) (by simp) (by simp) (vop12 (labCode_12 _ _ _)) hg4)
        have H4 := Lib.hid (And.intro (H3.out.2.1.trans' hk4) (And.intro hg4 (And.intro (head_f 0 0 (labCode (1 + p) label false) [] (by omega) (by omega) hlen) trivial)))
        clear hk4 hb4 hfs hg4 hlo hz4 hlen
        go_wp2_with fail
        by_cases hin : 0 ≤ label ∧ label < ((1 + p + 2 : Nat) : Int)
        · have hneg : ¬ label < 0 := by omega
          have hsml : ¬ (m3 : Int) ≤ label := by omega
          refine (module_nil HW.out (fun i f ls => one_right H4.out.2.2.1 (fun p k h => lab_ret hin h) i f ls)).mono ?_
          rintro e w5 ⟨rfl, hk5⟩
          have H5 := Lib.hid (H4.out.1.trans' hk5)
          have HA := Lib.hid (vawake_any w5 (laid0_kp H4.out.2.1 hk5))
          clear hk5
          go_wp2_with fail
          refine HA.out.mono ?_
          rintro e w6 ⟨rfl, hk6⟩
          have H6 := Lib.hid (H5.out.trans' hk6)
          clear hk6
          go_wp2_with fail
          go_ret
          exact ⟨rfl, H6.out⟩
        · refine (module_wrong HW.out (fun h => (lab_out hin).1 (h 0 _ rfl)) (fun i f ls => one_wrong H4.out.2.2.1 (lab_out hin).2 i f ls)).mono ?_
          rintro e w5 ⟨v5, rfl, hch, hk5⟩
          have hcast : ((1 + p : Nat) : Int) = 1 + (p : Int) := by omega
          rw [hcast] at hch
          have H5 := Lib.hid (And.intro (H4.out.1.trans' hk5) (And.intro hch.out (laid0_kp H4.out.2.1 hk5)))
          clear hch hk5
          simp only [id]
          have hor : label < 0 ∨ ¬ label < 0 ∧ (m3 : Int) ≤ label := by omega
          rcases hor with hneg | ⟨hneg, hbig⟩
          all_goals
            go_wp2_with fail
            refine (wrong_any (1 + (p : Int)) 13 (by decide) _).mono ?_
            rintro e w6 ⟨v6, rfl, hch6, hk6⟩
            have HE := Lib.hid (err_any _ _ _ _ (by simp) (Chain.kp hk6 _ _ H5.out.2.1) hch6)
            have H6 := Lib.hid (And.intro (H5.out.1.trans' hk6) (laid0_kp H5.out.2.2 hk6))
            clear hch6 hk6
            go_wp2_with fail
            refine HE.out.mono ?_
            rintro e w7 ⟨rfl, hk7⟩
            have HA := Lib.hid (vawake_any w7 (laid0_kp H6.out.2 hk7))
            have H7 := Lib.hid (H6.out.1.trans' hk7)
            clear hk7
            go_wp2_with fail
            refine HA.out.mono ?_
            rintro e w8 ⟨rfl, hk8⟩
            have H8 := Lib.hid (H7.out.trans' hk8)
            clear hk8
            go_wp2_with fail
            go_ret
            exact ⟨rfl, H8.out⟩
      · obtain ⟨p3, m3, c3, w3, hr3, hc3⟩ := crow_push hc2 (by simp; omega) 40 0 0 0
        have hcode : (List.replicate (1 + p) (⟨40, 0, 0, 0⟩ : In4) ++ [⟨5, 0, 0, label⟩]) ++ [⟨40, 0, 0, 0⟩] = labCode (1 + p) label true := by simp [labCode]
        rw [hcode] at hc3
        have hcd := crow_code hc3 (by rw [labCode_len]; omega) (labCode_wf _ _ _ ⟨HI.out.2.2.1, HI.out.2.2.2⟩)
        obtain ⟨hm, -, hk3⟩ := hc3
        have hm3 : (m3 : Int) = 1 + p + 2 := by rw [hm, labCode_len]; omega
        have H3 := Lib.hid (And.intro hcd (And.intro hk3 hm))
        have H2 := Lib.hid (And.intro hr2 hr3)
        clear hr2 hc2 hr hcd hk3 hm hr3 hcode
        go_wp2_with (at_builtin; first | (refine wpList_run rfl (.tmp 23) (.tmp 26) 30 rfl (.slice po m c) (.slice (some ⟨wr.heap.size, 0, none⟩) 1 1) rfl rfl _ w2 H2.out.1 ?_) | (refine wpList_run rfl (.tmp 29) (.tmp 31) 30 rfl (.slice p2 n2 c2) (.slice (some ⟨w2.heap.size, 0, none⟩) 1 1) rfl rfl _ w3 H2.out.2 ?_))
        refine (one_any _ rfl _).mono ?_
        rintro e w4 ⟨g, rfl, hb4, hlo, hk4⟩
        rw [H3.out.2.2] at hb4
        have hz4 := hk4.size
        have hfs := fns_one (s := 0) (code := labCode (1 + p) label true) hb4 (by omega) (H3.out.1.imp (fun q e => Nat.lt_of_lt_of_le e hz4) (fun _ _ _ _ e => keeps_cell hk4 e))
        have hg4 := laid0_kp HG.out (H3.out.2.1.trans' hk4)
        have hlen : 1 ≤ (labCode (1 + p) label true).length ∧ (labCode (1 + p) label true).length ≤ 16384 := by rw [labCode_len]; omega
        have HW := Lib.hid (whole_md (hh := 0) lits_nil hfs (by simp) (by simp) (by simp) (by simp) (vop12 (labCode_12 _ _ _)) hg4)
        have H4 := Lib.hid (And.intro (H3.out.2.1.trans' hk4) (And.intro hg4 (And.intro (head_f 0 0 (labCode (1 + p) label true) [] (by omega) (by omega) hlen) trivial)))
        clear hk4 hb4 hfs hg4 hlo hz4 hlen
        go_wp2_with fail
        by_cases hin : 0 ≤ label ∧ label < ((1 + p + 2 : Nat) : Int)
        · have hneg : ¬ label < 0 := by omega
          have hsml : ¬ (m3 : Int) ≤ label := by omega
          refine (module_wrong HW.out (fun h => (lab_falls hin).1 (h 0 _ rfl)) (fun i f ls => one_wrong H4.out.2.2.1 (lab_falls hin).2 i f ls)).mono ?_
          rintro e w5 ⟨v5, rfl, hch, hk5⟩
          have hcast : ((1 + p + 1 : Nat) : Int) = 1 + (p : Int) + 1 := by omega
          rw [hcast] at hch
          have H5 := Lib.hid (And.intro (H4.out.1.trans' hk5) (And.intro hch.out (laid0_kp H4.out.2.1 hk5)))
          clear hch hk5
          simp only [id]
          go_wp2_with fail
          refine (wrong_any (1 + (p : Int) + 1) 13 (by decide) _).mono ?_
          rintro e w6 ⟨v6, rfl, hch6, hk6⟩
          have HE := Lib.hid (err_any _ _ _ _ (by simp) (Chain.kp hk6 _ _ H5.out.2.1) hch6)
          have H6 := Lib.hid (And.intro (H5.out.1.trans' hk6) (laid0_kp H5.out.2.2 hk6))
          clear hch6 hk6
          go_wp2_with fail
          refine HE.out.mono ?_
          rintro e w7 ⟨rfl, hk7⟩
          have HA := Lib.hid (vawake_any w7 (laid0_kp H6.out.2 hk7))
          have H7 := Lib.hid (H6.out.1.trans' hk7)
          clear hk7
          go_wp2_with fail
          refine HA.out.mono ?_
          rintro e w8 ⟨rfl, hk8⟩
          have H8 := Lib.hid (H7.out.trans' hk8)
          clear hk8
          go_wp2_with fail
          go_ret
          exact ⟨rfl, H8.out⟩
        · refine (module_wrong HW.out (fun h => (lab_out hin).1 (h 0 _ rfl)) (fun i f ls => one_wrong H4.out.2.2.1 (lab_out hin).2 i f ls)).mono ?_
          rintro e w5 ⟨v5, rfl, hch, hk5⟩
          have hcast : ((1 + p : Nat) : Int) = 1 + (p : Int) := by omega
          rw [hcast] at hch
          have H5 := Lib.hid (And.intro (H4.out.1.trans' hk5) (And.intro hch.out (laid0_kp H4.out.2.1 hk5)))
          clear hch hk5
          simp only [id]
          have hor : label < 0 ∨ ¬ label < 0 ∧ (m3 : Int) ≤ label := by omega
          rcases hor with hneg | ⟨hneg, hbig⟩
          all_goals
            go_wp2_with fail
            refine (wrong_any (1 + (p : Int)) 13 (by decide) _).mono ?_
            rintro e w6 ⟨v6, rfl, hch6, hk6⟩
            have HE := Lib.hid (err_any _ _ _ _ (by simp) (Chain.kp hk6 _ _ H5.out.2.1) hch6)
            have H6 := Lib.hid (And.intro (H5.out.1.trans' hk6) (laid0_kp H5.out.2.2 hk6))
            clear hch6 hk6
            go_wp2_with fail
            refine HE.out.mono ?_
            rintro e w7 ⟨rfl, hk7⟩
            have HA := Lib.hid (vawake_any w7 (laid0_kp H6.out.2 hk7))
            have H7 := Lib.hid (H6.out.1.trans' hk7)
            clear hk7
            go_wp2_with fail
            refine HA.out.mono ?_
            rintro e w8 ⟨rfl, hk8⟩
            have H8 := Lib.hid (H7.out.trans' hk8)
            clear hk8
            go_wp2_with fail
            go_ret
            exact ⟨rfl, H8.out⟩
end Go.Proofs.YtpbapiphafnipaaDoor
