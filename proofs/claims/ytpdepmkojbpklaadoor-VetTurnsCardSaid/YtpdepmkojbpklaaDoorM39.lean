/- What the reference says of an operand: the same. -/
import Derived.Test.YtpdepmkojbpklaaDoorM36
/- What the reference says of an operand: the same. -/
namespace Go.Proofs.YtpdepmkojbpklaaDoor
open Go.RowKit
theorem near_w64 {v k m : Int} (h : decide (0 ≤ IntKind.i64.wrap (v - k) ∧ IntKind.i64.wrap (v - k) < m) = true) : decide (0 ≤ wrap64 (v - k) ∧ wrap64 (v - k) < m) = true := by
  rw [IntKind.wrap_i64] at h
  simp only [decide_eq_true_eq] at h ⊢
  unfold wrap64
  omega
theorem far_w64 {v k m : Int} (h : decide (0 ≤ IntKind.i64.wrap (v - k) ∧ IntKind.i64.wrap (v - k) < m) = false) : decide (0 ≤ wrap64 (v - k) ∧ wrap64 (v - k) < m) = false := by
  rw [IntKind.wrap_i64] at h
  simp only [decide_eq_false_iff_not] at h ⊢
  unfold wrap64
  omega
set_option linter.unusedVariables false
section
variable {w : World} {c0 n0 n1 : Value} {pl pf pc : Option Addr} {nl cl nf cf nc cc : Nat} {sl v : Int}
set_option maxRecDepth 100000 in
set_option maxHeartbeats 2000000 in
theorem rop_1 (hv : isI64 v) (hs0 : 0 ≤ sl) (hs1 : sl ≤ 32) (hnl : nl ≤ 100000) (hnf : nf ≤ 100000) (hnc : nc ≤ 100000) :
    Calls Tryd.prog 45 #[.agg #[c0, .slice pl nl cl, .slice pf nf cf], .agg #[n0, n1, .int .i64 sl, .slice pc nc cc], .int .u8 112, .int .i64 v] w fun e w' => e = .returned (.int .i64 ((vopA nl nf nc sl 1 v).getD 0)) ∧ Kp (fun _ => False) w w' := by
  have HK := Lib.hid (((Kp.refl (fun _ => False) w).alloc (.cells #[c0, .slice pl nl cl, .slice pf nf cf] 26)).alloc (.cells #[n0, n1, .int .i64 sl, .slice pc nc cc] 32))
  by_cases hc0 : 0 ≤ v ∧ v < 16
  · have hres : (vopA nl nf nc sl 1 v).getD 0 = 0 := by
      unfold vopA vop vrng
      repeat' split
      all_goals first | rfl | omega | (simp only [Option.getD_some, Option.getD_none]; omega) | (exfalso; omega)
    rw [hres]
    clear hres
    have HI00 := Lib.hid (show decide (0 ≤ v ∧ v < 16) = true from by simp only [decide_eq_true_eq]; omega)
    clear hnl hnf hnc hs0 hs1 hv
    go_enter Tryd.func45, Tryd.ntmps45
    go_wp2_with fail
    refine (rin_any _ _ _).mono ?_
    rintro e w9 ⟨rfl, rfl⟩
    first | rw [HI00.out]
    go_wp2_with fail
    go_ret
    exact ⟨rfl, HK.out⟩
  by_cases hc1 : 16 ≤ v ∧ v < 16 + sl
  · have hres : (vopA nl nf nc sl 1 v).getD 0 = 0 := by
      unfold vopA vop vrng
      repeat' split
      all_goals first | rfl | omega | (simp only [Option.getD_some, Option.getD_none]; omega) | (exfalso; omega)
    rw [hres]
    clear hres
    have HI00 := Lib.hid (show decide (0 ≤ v ∧ v < 16) = false from by simp only [decide_eq_false_iff_not]; omega)
    have HI10 := Lib.hid (show decide (0 ≤ IntKind.i64.wrap (v - 16) ∧ IntKind.i64.wrap (v - 16) < sl) = true from near_wrap (by omega) (by omega) (by omega) (by omega))
    have HI11 := Lib.hid (show decide (0 ≤ v - 16 ∧ v - 16 < sl) = true from near_plain (by omega))
    have HI12 := Lib.hid (show decide (0 ≤ wrap64 (v - 16) ∧ wrap64 (v - 16) < sl) = true from near_w64 (near_wrap (by omega) (by omega) (by omega) (by omega)))
    clear hnl hnf hnc hs0 hs1 hv
    go_enter Tryd.func45, Tryd.ntmps45
    go_wp2_with fail
    refine (rin_any _ _ _).mono ?_
    rintro e w9 ⟨rfl, rfl⟩
    first | rw [HI00.out]
    go_wp2_with fail
    refine (rin_any _ _ _).mono ?_
    rintro e w9 ⟨rfl, rfl⟩
    first | rw [HI10.out] | rw [HI11.out] | rw [HI12.out]
    go_wp2_with fail
    go_ret
    exact ⟨rfl, HK.out⟩
  have hres : (vopA nl nf nc sl 1 v).getD 0 = 12 := by
    unfold vopA vop vrng
    repeat' split
    all_goals first | rfl | omega | (simp only [Option.getD_some, Option.getD_none]; omega) | (exfalso; omega)
  rw [hres]
  clear hres
  have HI00 := Lib.hid (show decide (0 ≤ v ∧ v < 16) = false from by simp only [decide_eq_false_iff_not]; omega)
  have HI10 := Lib.hid (show decide (0 ≤ IntKind.i64.wrap (v - 16) ∧ IntKind.i64.wrap (v - 16) < sl) = false from far_wrap hv (by omega) (by omega) (by omega) (by omega))
  have HI11 := Lib.hid (show decide (0 ≤ v - 16 ∧ v - 16 < sl) = false from far_plain (by omega))
  have HI12 := Lib.hid (show decide (0 ≤ wrap64 (v - 16) ∧ wrap64 (v - 16) < sl) = false from far_w64 (far_wrap hv (by omega) (by omega) (by omega) (by omega)))
  clear hnl hnf hnc hs0 hs1 hv
  go_enter Tryd.func45, Tryd.ntmps45
  go_wp2_with fail
  refine (rin_any _ _ _).mono ?_
  rintro e w9 ⟨rfl, rfl⟩
  first | rw [HI00.out]
  go_wp2_with fail
  refine (rin_any _ _ _).mono ?_
  rintro e w9 ⟨rfl, rfl⟩
  first | rw [HI10.out] | rw [HI11.out] | rw [HI12.out]
  go_wp2_with fail
  go_ret
  exact ⟨rfl, HK.out⟩

set_option maxRecDepth 100000 in
set_option maxHeartbeats 2000000 in
theorem rop_2 (hv : isI64 v) (hs0 : 0 ≤ sl) (hs1 : sl ≤ 32) (hnl : nl ≤ 100000) (hnf : nf ≤ 100000) (hnc : nc ≤ 100000) :
    Calls Tryd.prog 45 #[.agg #[c0, .slice pl nl cl, .slice pf nf cf], .agg #[n0, n1, .int .i64 sl, .slice pc nc cc], .int .u8 115, .int .i64 v] w fun e w' => e = .returned (.int .i64 ((vopA nl nf nc sl 2 v).getD 0)) ∧ Kp (fun _ => False) w w' := by
  have HK := Lib.hid (((Kp.refl (fun _ => False) w).alloc (.cells #[c0, .slice pl nl cl, .slice pf nf cf] 26)).alloc (.cells #[n0, n1, .int .i64 sl, .slice pc nc cc] 32))
  by_cases hc0 : 0 ≤ v ∧ v < 16
  · have hres : (vopA nl nf nc sl 2 v).getD 0 = 0 := by
      unfold vopA vop vrng
      repeat' split
      all_goals first | rfl | omega | (simp only [Option.getD_some, Option.getD_none]; omega) | (exfalso; omega)
    rw [hres]
    clear hres
    have HI00 := Lib.hid (show decide (0 ≤ v ∧ v < 16) = true from by simp only [decide_eq_true_eq]; omega)
    clear hnl hnf hnc hs0 hs1 hv
    go_enter Tryd.func45, Tryd.ntmps45
    go_wp2_with fail
    refine (rin_any _ _ _).mono ?_
    rintro e w9 ⟨rfl, rfl⟩
    first | rw [HI00.out]
    go_wp2_with fail
    go_ret
    exact ⟨rfl, HK.out⟩
  by_cases hc1 : 16 ≤ v ∧ v < 16 + sl
  · have hres : (vopA nl nf nc sl 2 v).getD 0 = 0 := by
      unfold vopA vop vrng
      repeat' split
      all_goals first | rfl | omega | (simp only [Option.getD_some, Option.getD_none]; omega) | (exfalso; omega)
    rw [hres]
    clear hres
    have HI00 := Lib.hid (show decide (0 ≤ v ∧ v < 16) = false from by simp only [decide_eq_false_iff_not]; omega)
    have HI10 := Lib.hid (show decide (0 ≤ IntKind.i64.wrap (v - 16) ∧ IntKind.i64.wrap (v - 16) < sl) = true from near_wrap (by omega) (by omega) (by omega) (by omega))
    have HI11 := Lib.hid (show decide (0 ≤ v - 16 ∧ v - 16 < sl) = true from near_plain (by omega))
    have HI12 := Lib.hid (show decide (0 ≤ wrap64 (v - 16) ∧ wrap64 (v - 16) < sl) = true from near_w64 (near_wrap (by omega) (by omega) (by omega) (by omega)))
    clear hnl hnf hnc hs0 hs1 hv
    go_enter Tryd.func45, Tryd.ntmps45
    go_wp2_with fail
    refine (rin_any _ _ _).mono ?_
    rintro e w9 ⟨rfl, rfl⟩
    first | rw [HI00.out]
    go_wp2_with fail
    refine (rin_any _ _ _).mono ?_
    rintro e w9 ⟨rfl, rfl⟩
    first | rw [HI10.out] | rw [HI11.out] | rw [HI12.out]
    go_wp2_with fail
    go_ret
    exact ⟨rfl, HK.out⟩
  by_cases hc2 : 64 ≤ v ∧ v < 64 + (nl : Int)
  · have hres : (vopA nl nf nc sl 2 v).getD 0 = 0 := by
      unfold vopA vop vrng
      repeat' split
      all_goals first | rfl | omega | (simp only [Option.getD_some, Option.getD_none]; omega) | (exfalso; omega)
    rw [hres]
    clear hres
    have HI00 := Lib.hid (show decide (0 ≤ v ∧ v < 16) = false from by simp only [decide_eq_false_iff_not]; omega)
    have HI10 := Lib.hid (show decide (0 ≤ IntKind.i64.wrap (v - 16) ∧ IntKind.i64.wrap (v - 16) < sl) = false from far_wrap hv (by omega) (by omega) (by omega) (by omega))
    have HI11 := Lib.hid (show decide (0 ≤ v - 16 ∧ v - 16 < sl) = false from far_plain (by omega))
    have HI12 := Lib.hid (show decide (0 ≤ wrap64 (v - 16) ∧ wrap64 (v - 16) < sl) = false from far_w64 (far_wrap hv (by omega) (by omega) (by omega) (by omega)))
    have HI20 := Lib.hid (show decide (0 ≤ IntKind.i64.wrap (v - 64) ∧ IntKind.i64.wrap (v - 64) < (nl : Int)) = true from near_wrap (by omega) (by omega) (by omega) (by omega))
    have HI21 := Lib.hid (show decide (0 ≤ v - 64 ∧ v - 64 < (nl : Int)) = true from near_plain (by omega))
    have HI22 := Lib.hid (show decide (0 ≤ wrap64 (v - 64) ∧ wrap64 (v - 64) < (nl : Int)) = true from near_w64 (near_wrap (by omega) (by omega) (by omega) (by omega)))
    clear hnl hnf hnc hs0 hs1 hv
    go_enter Tryd.func45, Tryd.ntmps45
    go_wp2_with fail
    refine (rin_any _ _ _).mono ?_
    rintro e w9 ⟨rfl, rfl⟩
    first | rw [HI00.out]
    go_wp2_with fail
    refine (rin_any _ _ _).mono ?_
    rintro e w9 ⟨rfl, rfl⟩
    first | rw [HI10.out] | rw [HI11.out] | rw [HI12.out]
    go_wp2_with fail
    refine (rin_any _ _ _).mono ?_
    rintro e w9 ⟨rfl, rfl⟩
    first | rw [HI20.out] | rw [HI21.out] | rw [HI22.out]
    go_wp2_with fail
    go_ret
    exact ⟨rfl, HK.out⟩
  have hres : (vopA nl nf nc sl 2 v).getD 0 = 12 := by
    unfold vopA vop vrng
    repeat' split
    all_goals first | rfl | omega | (simp only [Option.getD_some, Option.getD_none]; omega) | (exfalso; omega)
  rw [hres]
  clear hres
  have HI00 := Lib.hid (show decide (0 ≤ v ∧ v < 16) = false from by simp only [decide_eq_false_iff_not]; omega)
  have HI10 := Lib.hid (show decide (0 ≤ IntKind.i64.wrap (v - 16) ∧ IntKind.i64.wrap (v - 16) < sl) = false from far_wrap hv (by omega) (by omega) (by omega) (by omega))
  have HI11 := Lib.hid (show decide (0 ≤ v - 16 ∧ v - 16 < sl) = false from far_plain (by omega))
  have HI12 := Lib.hid (show decide (0 ≤ wrap64 (v - 16) ∧ wrap64 (v - 16) < sl) = false from far_w64 (far_wrap hv (by omega) (by omega) (by omega) (by omega)))
  have HI20 := Lib.hid (show decide (0 ≤ IntKind.i64.wrap (v - 64) ∧ IntKind.i64.wrap (v - 64) < (nl : Int)) = false from far_wrap hv (by omega) (by omega) (by omega) (by omega))
  have HI21 := Lib.hid (show decide (0 ≤ v - 64 ∧ v - 64 < (nl : Int)) = false from far_plain (by omega))
  have HI22 := Lib.hid (show decide (0 ≤ wrap64 (v - 64) ∧ wrap64 (v - 64) < (nl : Int)) = false from far_w64 (far_wrap hv (by omega) (by omega) (by omega) (by omega)))
  clear hnl hnf hnc hs0 hs1 hv
  go_enter Tryd.func45, Tryd.ntmps45
  go_wp2_with fail
  refine (rin_any _ _ _).mono ?_
  rintro e w9 ⟨rfl, rfl⟩
  first | rw [HI00.out]
  go_wp2_with fail
  refine (rin_any _ _ _).mono ?_
  rintro e w9 ⟨rfl, rfl⟩
  first | rw [HI10.out] | rw [HI11.out] | rw [HI12.out]
  go_wp2_with fail
  refine (rin_any _ _ _).mono ?_
  rintro e w9 ⟨rfl, rfl⟩
  first | rw [HI20.out] | rw [HI21.out] | rw [HI22.out]
  go_wp2_with fail
  go_ret
  exact ⟨rfl, HK.out⟩
end
end Go.Proofs.YtpdepmkojbpklaaDoor
