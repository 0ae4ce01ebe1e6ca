/- What the reference says of an operand: the same. -/
import Derived.Test.YtpdepmkojbpklaaDoorM36
/- What the reference says of an operand: the same. -/
namespace Go.Proofs.YtpdepmkojbpklaaDoor
open Go.RowKit
set_option linter.unusedVariables false
section
variable {w : World} {c0 n0 n1 : Value} {pl pf pc : Option Addr} {nl cl nf cf nc cc : Nat} {sl v : Int}
set_option maxRecDepth 100000 in
set_option maxHeartbeats 2000000 in
theorem rop_9 (hv : isI64 v) (hs0 : 0 ≤ sl) (hs1 : sl ≤ 32) (hnl : nl ≤ 100000) (hnf : nf ≤ 100000) (hnc : nc ≤ 100000) :
    Calls Tryd.prog 45 #[.agg #[c0, .slice pl nl cl, .slice pf nf cf], .agg #[n0, n1, .int .i64 sl, .slice pc nc cc], .int .u8 105, .int .i64 v] w fun e w' => e = .returned (.int .i64 ((vopA nl nf nc sl 9 v).getD 0)) ∧ Kp (fun _ => False) w w' := by
  have HK := Lib.hid (((Kp.refl (fun _ => False) w).alloc (.cells #[c0, .slice pl nl cl, .slice pf nf cf] 26)).alloc (.cells #[n0, n1, .int .i64 sl, .slice pc nc cc] 32))
  by_cases hc0 : 0 ≤ v ∧ v < 65537
  · have hres : (vopA nl nf nc sl 9 v).getD 0 = 0 := by
      unfold vopA vop vrng
      repeat' split
      all_goals first | rfl | omega | (simp only [Option.getD_some, Option.getD_none]; omega) | (exfalso; omega)
    rw [hres]
    clear hres
    have HI00 := Lib.hid (show decide (0 ≤ v ∧ v < 65537) = true from by simp only [decide_eq_true_eq]; omega)
    clear hnl hnf hnc hs0 hs1 hv
    go_enter Tryd.func45, Tryd.ntmps45
    go_wp2_with fail
    refine (rin_any _ _ _).mono ?_
    rintro e w9 ⟨rfl, rfl⟩
    first | rw [HI00.out]
    go_wp2_with fail
    go_ret
    exact ⟨rfl, HK.out⟩
  have hres : (vopA nl nf nc sl 9 v).getD 0 = 1 := by
    unfold vopA vop vrng
    repeat' split
    all_goals first | rfl | omega | (simp only [Option.getD_some, Option.getD_none]; omega) | (exfalso; omega)
  rw [hres]
  clear hres
  have HI00 := Lib.hid (show decide (0 ≤ v ∧ v < 65537) = false from by simp only [decide_eq_false_iff_not]; omega)
  clear hnl hnf hnc hs0 hs1 hv
  go_enter Tryd.func45, Tryd.ntmps45
  go_wp2_with fail
  refine (rin_any _ _ _).mono ?_
  rintro e w9 ⟨rfl, rfl⟩
  first | rw [HI00.out]
  go_wp2_with fail
  go_ret
  exact ⟨rfl, HK.out⟩

set_option maxRecDepth 100000 in
set_option maxHeartbeats 2000000 in
theorem rop_7 (hv : isI64 v) (hs0 : 0 ≤ sl) (hs1 : sl ≤ 32) (hnl : nl ≤ 100000) (hnf : nf ≤ 100000) (hnc : nc ≤ 100000) :
    Calls Tryd.prog 45 #[.agg #[c0, .slice pl nl cl, .slice pf nf cf], .agg #[n0, n1, .int .i64 sl, .slice pc nc cc], .int .u8 107, .int .i64 v] w fun e w' => e = .returned (.int .i64 ((vopA nl nf nc sl 7 v).getD 0)) ∧ Kp (fun _ => False) w w' := by
  have HK := Lib.hid (((Kp.refl (fun _ => False) w).alloc (.cells #[c0, .slice pl nl cl, .slice pf nf cf] 26)).alloc (.cells #[n0, n1, .int .i64 sl, .slice pc nc cc] 32))
  by_cases hc0 : v < 1
  · have hres : (vopA nl nf nc sl 7 v).getD 0 = 1 := by
      unfold vopA vop vrng
      repeat' split
      all_goals first | rfl | omega | (simp only [Option.getD_some, Option.getD_none]; omega) | (exfalso; omega)
    rw [hres]
    clear hres
    clear hnl hnf hnc hs0 hs1 hv
    go_enter Tryd.func45, Tryd.ntmps45
    go_wp2_with fail
    go_ret
    exact ⟨rfl, HK.out⟩
  by_cases hc1 : 9 < v
  · have hres : (vopA nl nf nc sl 7 v).getD 0 = 1 := by
      unfold vopA vop vrng
      repeat' split
      all_goals first | rfl | omega | (simp only [Option.getD_some, Option.getD_none]; omega) | (exfalso; omega)
    rw [hres]
    clear hres
    clear hnl hnf hnc hs0 hs1 hv
    go_enter Tryd.func45, Tryd.ntmps45
    go_wp2_with fail
    go_ret
    exact ⟨rfl, HK.out⟩
  have hres : (vopA nl nf nc sl 7 v).getD 0 = 0 := by
    unfold vopA vop vrng
    repeat' split
    all_goals first | rfl | omega | (simp only [Option.getD_some, Option.getD_none]; omega) | (exfalso; omega)
  rw [hres]
  clear hres
  have k1 : ¬ v < 1 := hc0
  have k2 : ¬ 9 < v := hc1
  clear hnl hnf hnc hs0 hs1 hv
  go_enter Tryd.func45, Tryd.ntmps45
  go_wp2_with fail
  go_ret
  exact ⟨rfl, HK.out⟩
end
end Go.Proofs.YtpdepmkojbpklaaDoor
