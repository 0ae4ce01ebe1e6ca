/- The document's example of a wheel. -/
import Derived.Test.YtmekhijmghddiaaWhLaw
namespace Go.Proofs.Ytmekhijmghddiaa
open Go.RowKit

set_option maxRecDepth 100000 in
set_option maxHeartbeats 4000000 in
theorem whAwake_any (w : World) : Calls Try.prog 12 #[] w fun e w' => e = .returned (.bool true) ∧ Kp (fun _ => False) w w' := by
  have HN := Lib.hid (show Calls Try.prog 9 #[.int .i64 5] w _ from n_new w 5 (by omega) (by omega))
  go_enter Try.func12, Try.ntmps12
  go_wp2_with fail
  refine HN.out.mono ?_
  rintro e w1 ⟨b, rfl, h1⟩
  have HS := Lib.hid (show Calls Try.prog 14 #[.pointer (some ⟨b, 0, none⟩), .int .i64 3, .int .i64 70] w1 _ from n_start h1 3 70 (by omega) (by omega) (by omega) (by simp) (by omega))
  clear h1 HN
  go_wp2_with fail
  refine HS.out.mono ?_
  rintro e w2 ⟨rfl, g0, h2⟩
  have HS2 := Lib.hid (show Calls Try.prog 14 #[.pointer (some ⟨b, 0, none⟩), .int .i64 1, .int .i64 71] w2 _ from n_start h2 1 71 (by omega) (by omega) (by omega) (by simp) (by omega))
  clear h2 HS
  go_wp2_with fail
  refine HS2.out.mono ?_
  rintro e w3 ⟨rfl, g1, h3⟩
  have HT := Lib.hid (n_tick h3 2 (by omega) (by omega) (by omega) (by simp))
  clear h3 HS2
  go_wp2_with fail
  refine HT.out.mono ?_
  rintro e w4 ⟨v, o, ts', rfl, hv, hd, h4⟩
  rw [show (0 + ticksOf 2) = 2 from rfl] at hd h4
  obtain rfl : o = [⟨1, 71, 1, g1⟩] := hd.is (by simp) (fun t => by
    simp only [List.nil_append, List.mem_append, List.mem_cons, List.not_mem_nil, or_false]
    constructor
    · rintro rfl
      exact ⟨.inr rfl, by simp⟩
    · rintro ⟨rfl | rfl, h⟩
      · simp at h
      · rfl)
  have hts : ts' = [⟨0, 70, 3, g0⟩] := by rw [hd.rest]; rfl
  subst hts
  have hvi : idsOf [(⟨1, 71, 1, g1⟩ : Tm)] = [1] := rfl
  rw [hvi] at hv
  have HL := Lib.hid (show Calls Try.prog 18 #[.pointer (some ⟨b, 0, none⟩), .int .i64 0] w4 (LeftIs 1 w4) from n_left (t := ⟨0, 70, 3, g0⟩) h4 (by decide) rfl)
  have H4 := Lib.hid (And.intro h4 hv)
  clear hd hv h4 hvi HT
  go_wp2_with fail
  refine HL.out.mono ?_
  rintro e w5 ⟨rfl, m5, hm5⟩
  have h5 : WhN w w5 b 5 2 2 [⟨0, 70, 3, g0⟩] := by rw [hm5]; exact H4.out.1.same (kp_drewN (Kp.refl _ w4) m5)
  have hv5 : Lr w5 v [1] := by rw [hm5]; exact H4.out.2.same (kp_drewN (Kp.refl _ w4) m5)
  have hk6 : Kp (fun _ => False) w5 (w5.alloc (.cells #[.int .i64 1] 2)) := (Kp.refl _ w5).alloc _
  have HE := Lib.hid (sameLongs_any (hv5.same hk6) (lr_lit1 1 (heap_alloc_new w5 _)))
  have H5 := Lib.hid (h5.same hk6)
  clear hm5 h5 hv5 hk6 H4 HL
  go_wp2_with fail
  refine HE.out.mono ?_
  rintro e w7 ⟨rfl, m7, hm7⟩
  have h7 : WhN w w7 b 5 2 2 [⟨0, 70, 3, g0⟩] := by rw [hm7]; exact H5.out.same (kp_drewN (Kp.refl _ _) m7)
  have HT7 := Lib.hid (n_tick h7 1 (by omega) (by omega) (by omega) (by simp))
  clear hm7 h7 H5 HE
  go_wp2_with fail
  refine HT7.out.mono ?_
  rintro e w8 ⟨v8, o, ts', rfl, hv, hd, h8⟩
  rw [show (2 + ticksOf 1) = 3 from rfl] at hd h8
  obtain rfl : o = [⟨0, 70, 3, g0⟩] := hd.is (by simp) (fun t => by
    simp only [List.mem_cons, List.not_mem_nil, or_false]
    constructor
    · rintro rfl
      exact ⟨rfl, by simp⟩
    · rintro ⟨rfl, h⟩
      rfl)
  have hvi : idsOf [(⟨0, 70, 3, g0⟩ : Tm)] = [0] := rfl
  rw [hvi] at hv
  have hk9 : Kp (fun _ => False) w8 (w8.alloc (.cells #[.int .i64 0] 2)) := (Kp.refl _ w8).alloc _
  have HE := Lib.hid (sameLongs_any (hv.same hk9) (lr_lit1 0 (heap_alloc_new w8 _)))
  have H9 := Lib.hid (h8.same hk9)
  clear hv hd h8 hvi hk9 HT7
  go_wp2_with fail
  refine HE.out.mono ?_
  rintro e w9 ⟨rfl, m9, hm9⟩
  have h9 : WhN w w9 b 5 3 2 ts' := by rw [hm9]; exact H9.out.same (kp_drewN (Kp.refl _ _) m9)
  have H10 := Lib.hid h9
  clear hm9 h9 H9 HE
  go_wp2_with fail
  go_ret
  obtain ⟨G, _, _, h⟩ := H10.out
  exact ⟨rfl, h⟩
end Go.Proofs.Ytmekhijmghddiaa
