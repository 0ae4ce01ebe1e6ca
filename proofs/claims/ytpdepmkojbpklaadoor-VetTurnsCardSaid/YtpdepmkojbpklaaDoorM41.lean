/- What the reference says of an operand: of any. -/
import Derived.Test.YtpdepmkojbpklaaDoorM38
import Derived.Test.YtpdepmkojbpklaaDoorM39
import Derived.Test.YtpdepmkojbpklaaDoorM40
/- What the reference says of an operand: of any. -/
namespace Go.Proofs.YtpdepmkojbpklaaDoor
open Go.RowKit
section
variable {w : World} {c0 n0 n1 : Value} {pl pf pc : Option Addr} {nl cl nf cf nc cc : Nat} {sl v : Int}
set_option maxRecDepth 100000 in
set_option maxHeartbeats 2000000 in
theorem rop_5 : Calls Tryd.prog 45 #[.agg #[c0, .slice pl nl cl, .slice pf nf cf], .agg #[n0, n1, .int .i64 sl, .slice pc nc cc], .int .u8 98, .int .i64 v] w fun e w' => e = .returned (.int .i64 ((vopA nl nf nc sl 5 v).getD 0)) ∧ Kp (fun _ => False) w w' := by
  have HK := Lib.hid ((((Kp.refl (fun _ => False) w).alloc (.cells #[c0, .slice pl nl cl, .slice pf nf cf] 26)).alloc (.cells #[n0, n1, .int .i64 sl, .slice pc nc cc] 32)).alloc (.cells fsArr 103))
  obtain ⟨w2, hw2⟩ : ∃ w2, (w.alloc (.cells #[c0, .slice pl nl cl, .slice pf nf cf] 26)).alloc (.cells #[n0, n1, .int .i64 sl, .slice pc nc cc] 32) = w2 := ⟨_, rfl⟩
  rw [hw2] at HK
  have HW := Lib.hid hw2
  clear hw2
  by_cases hc : 0 ≤ v ∧ v < 40
  · have hres : (vopA nl nf nc sl 5 v).getD 0 = 0 := by
      simp only [vopA, vrng]
      rw [if_pos trivial, if_pos (by omega)]; rfl
    rw [hres]
    have HI := Lib.hid (show decide (0 ≤ v ∧ v < 40) = true from by simp only [decide_eq_true_eq]; omega)
    clear hres
    go_enter Tryd.func45, Tryd.ntmps45
    go_wp2_with fail
    rw [HW.out]
    refine (rfs_any _).mono ?_
    rintro e w8 ⟨rfl, hw8⟩
    rw [← hw8] at HK
    clear hw8
    go_wp2_with fail
    refine (rin_any _ _ _).mono ?_
    rintro e w9 ⟨rfl, rfl⟩
    rw [HI.out]
    go_wp2_with fail
    go_ret
    exact ⟨rfl, HK.out⟩
  · have hres : (vopA nl nf nc sl 5 v).getD 0 = 12 := by
      simp only [vopA, vrng]
      rw [if_pos trivial, if_neg (by omega)]; rfl
    rw [hres]
    have HI := Lib.hid (show decide (0 ≤ v ∧ v < 40) = false from by simp only [decide_eq_false_iff_not]; omega)
    clear hres
    go_enter Tryd.func45, Tryd.ntmps45
    go_wp2_with fail
    rw [HW.out]
    refine (rfs_any _).mono ?_
    rintro e w8 ⟨rfl, hw8⟩
    rw [← hw8] at HK
    clear hw8
    go_wp2_with fail
    refine (rin_any _ _ _).mono ?_
    rintro e w9 ⟨rfl, rfl⟩
    rw [HI.out]
    go_wp2_with fail
    go_ret
    exact ⟨rfl, HK.out⟩
theorem rop_any (what : Int) (hw0 : 0 ≤ what) (hw9 : what ≤ 9) (hv : isI64 v) (hs0 : 0 ≤ sl) (hs1 : sl ≤ 32) (hnl : nl ≤ 100000) (hnf : nf ≤ 100000) (hnc : nc ≤ 100000) :
    Calls Tryd.prog 45 #[.agg #[c0, .slice pl nl cl, .slice pf nf cf], .agg #[n0, n1, .int .i64 sl, .slice pc nc cc], .int .u8 (rch what), .int .i64 v] w fun e w' => e = .returned (.int .i64 ((vopA nl nf nc sl what v).getD 0)) ∧ Kp (fun _ => False) w w' := by
  obtain rfl | rfl | rfl | rfl | rfl | rfl | rfl | rfl | rfl | rfl : what = 0 ∨ what = 1 ∨ what = 2 ∨ what = 3 ∨ what = 4 ∨ what = 5 ∨ what = 6 ∨ what = 7 ∨ what = 8 ∨ what = 9 := by omega
  · exact rop_0 hv hs0 hs1 hnl hnf hnc
  · exact rop_1 hv hs0 hs1 hnl hnf hnc
  · exact rop_2 hv hs0 hs1 hnl hnf hnc
  · exact rop_3 hv hs0 hs1 hnl hnf hnc
  · exact rop_4 hv hs0 hs1 hnl hnf hnc
  · exact rop_5
  · exact rop_6 hv hs0 hs1 hnl hnf hnc
  · exact rop_7 hv hs0 hs1 hnl hnf hnc
  · exact rop_8 hv hs0 hs1 hnl hnf hnc
  · exact rop_9 hv hs0 hs1 hnl hnf hnc
end
end Go.Proofs.YtpdepmkojbpklaaDoor
