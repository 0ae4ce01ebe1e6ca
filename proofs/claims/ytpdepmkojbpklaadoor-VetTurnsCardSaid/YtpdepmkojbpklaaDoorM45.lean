/- A right module with one instruction turned: vet and the reference tell the same of it. The two variables that are laid: the handle of the type error, the table of functions of bif; a world that has them. The table of the functions of bif out of the condition. The table of the functions of bif out of the condition: just the reference's numbers. -/
import Derived.Test.YtpdepmkojbpklaaDoorRows
import Derived.Test.YtpdepmkojbpklaaDoorM17
import Derived.Test.YtpdepmkojbpklaaDoorM26
import Derived.Test.YtpdepmkojbpklaaDoorM30
import Derived.Test.YtpdepmkojbpklaaDoorM37
import Derived.Test.YtpdepmkojbpklaaDoorM44
import Derived.Deep.RegionHeld3
import Derived.ChangeSame
import Derived.ChangeVars
import Derived.JoinedOf
import Derived.RowKit
import Derived.RowKitTokens
import Derived.LaidLaws
import Derived.LaidHandle
import Derived.Handed
import Derived.Stop.Joined
import Derived.Lay
import Derived.OpenShut
import Derived.ChangeArms
/- A right module with one instruction turned: vet and the reference tell the same of it. -/
namespace Go.Proofs.YtpdepmkojbpklaaDoor
set_option linter.unusedVariables false
open Go.RowKit

theorem agg4_of {v : Value} {c0 c1 c2 c3 : Value} (h : v.cells.toList = [c0, c1, c2, c3]) : v = .agg #[c0, c1, c2, c3] := by
  cases v with
  | agg cs =>
    have : cs.toList = [c0, c1, c2, c3] := h
    obtain rfl : cs = #[c0, c1, c2, c3] := by cases cs; simp_all
    rfl
  | _ => simp [Value.cells] at h
theorem vplace2 (w : World) (v : Int) (n : Nat) (h1 : -9223372036854775808 ≤ v) (h2 : v ≤ 9223372036854775807) (hn : 0 < n) (hn2 : n ≤ 1000000) :
    Calls Tryd.prog 9 #[.int .i64 v, .int .i64 (n : Nat)] w fun e w' => ∃ k : Nat, e = .returned (.int .i64 k) ∧ k < n ∧ w = w' := by
  refine (place_any w v n h1 h2 (by omega) (by omega)).mono ?_
  rintro e w' ⟨rfl, rfl⟩
  have := Int.emod_nonneg v (b := n) (by omega)
  have := Int.emod_lt_of_pos v (b := n) (by omega)
  exact ⟨(v % n).toNat, by rw [Int.toNat_of_nonneg (by omega)], by omega, rfl⟩

set_option maxRecDepth 100000 in
set_option maxHeartbeats 16000000 in
theorem turns_walk {w : World} {hh : Nat} {m : Md} {pl : Option Addr} {cl : Nat} {pf : Option Addr} {cf : Nat} (hM : MdAt (fun q => q < w.heap.size) w hh m [.string m.name, .slice pl m.lits.length cl, .slice pf m.funcs.length cf]) (a1 a2 : Int)
    (b1 : -9223372036854775808 ≤ a1) (b2 : a1 ≤ 9223372036854775807) (b3 : -9223372036854775808 ≤ a2) (b4 : a2 ≤ 9223372036854775807) (xo xa xb xc : Int) (hx : (⟨xo, xa, xb, xc⟩ : In4).wf) (hg : Laid0 w) (hFl : LaidF rtab w) (hR : RRight hh) :
    Calls Tryd.prog 8 #[.agg #[.string m.name, .slice pl m.lits.length cl, .slice pf m.funcs.length cf], .int .i64 a1, .int .i64 a2, .agg #[.int .i64 xo, .int .i64 xa, .int .i64 xb, .int .i64 xc]] w fun e w' => e = .returned (.bool true) ∧ Kp (fun _ => False) w w' := by
  obtain ⟨nm, lits, fns⟩ := m
  simp only at hM ⊢
  have HI := Lib.hid (And.intro b1 (And.intro b2 (And.intro b3 b4)))
  have HG := Lib.hid (And.intro hg (And.intro hFl (And.intro hR hx)))
  obtain ⟨w0, hw0⟩ : ∃ w0, w.alloc (.cells #[.string nm, .slice pl lits.length cl, .slice pf fns.length cf] 26) = w0 := ⟨_, rfl⟩
  have hk0 : Kp (fun _ => False) w w0 := by rw [← hw0]; exact (Kp.refl _ w).alloc _
  have hbx : w0.heap[w.heap.size]? = some (.cells #[.string nm, .slice pl lits.length cl, .slice pf fns.length cf] 26 (0, 0)) := by rw [← hw0]; exact heap_alloc_new w _
  obtain ⟨w1, hw1⟩ : ∃ w1, w0.alloc (.cells #[.int .i64 xo, .int .i64 xa, .int .i64 xb, .int .i64 xc] 29) = w1 := ⟨_, rfl⟩
  have hk01 : Kp (fun _ => False) w0 w1 := by rw [← hw1]; exact (Kp.refl _ w0).alloc _
  have hbi : w1.heap[w0.heap.size]? = some (.cells #[.int .i64 xo, .int .i64 xa, .int .i64 xb, .int .i64 xc] 29 (0, 0)) := by rw [← hw1]; exact heap_alloc_new w0 _
  have hk1 := hk0.trans' hk01
  obtain ⟨y0, y1, y2⟩ := vthree_facts ((hk01.block _ (Array.getElem?_eq_some_iff.1 hbx).1 (fun e => e)).trans hbx)
  have hfl : fns.length * 56 ≤ 140737488351232 := by
    obtain ⟨_, _, _, -, -, po, cap, -, -, h, -⟩ := hM
    exact h
  have hnm : nm.size ≤ maxLen := by
    obtain ⟨_, _, _, h, -⟩ := hM
    exact h
  have HC1 := Lib.hid (copyModule_own (mdAt_kp2 hM hk1))
  have H1 := Lib.hid (And.intro hk1 (And.intro hbi hnm))
  clear b1 b2 b3 b4 hg hFl hR hx hk0 hk01 hk1 hbx hbi hM hnm
  go_enter Tryd.func8, Tryd.ntmps8
  go_wp2_with fail
  refine HC1.out.mono ?_
  rintro e w2 ⟨W2, p2, c2, q2, d2, cls, rfl, hW2, hW2', hL2, hO2, hk2⟩
  obtain ⟨w3, hw3⟩ : ∃ w3, w2.alloc (.cells #[.string nm, .slice p2 lits.length c2, .slice q2 fns.length d2] 26) = w3 := ⟨_, rfl⟩
  have hk3 : Kp (fun _ => False) w2 w3 := by rw [← hw3]; exact (Kp.refl _ w2).alloc _
  have hb3 : w3.heap[w2.heap.size]? = some (.cells #[.string nm, .slice p2 lits.length c2, .slice q2 fns.length d2] 26 (0, 0)) := by rw [← hw3]; exact heap_alloc_new w2 _
  obtain ⟨n0, n1, n2⟩ := vthree_facts hb3
  have hL3 := vListAt_kp (hL2.imp (fun q e => e.2) (fun _ _ _ _ e => e) (fun t cs e => TermAt.imp (fun q e => e.2) (fun _ _ _ _ e => e) _ t cs e)) hk3 (fun _ _ e => e)
  have hO3 := hO2.kpB hk3 (fun _ e => e.elim)
  have hI3 : MdIn w3 hh ⟨nm, lits, fns⟩ p2 c2 q2 d2 := copy_in2 hL3 (by have := hk3.size; omega) hO3 hfl
  have hbi3 := ((hk2.trans' hk3).block _ (Array.getElem?_eq_some_iff.1 H1.out.2.1).1 (fun e => e)).trans H1.out.2.1
  have HM := Lib.hid (ref_md HG.out.2.2.1 hI3)
  have HO2 := Lib.hid hO2
  have hk03 := H1.out.1.trans' (hk2.trans' hk3)
  have H3 := Lib.hid (And.intro hk03 (And.intro hL3 (And.intro hO3 (And.intro hbi3 (And.intro hb3 (And.intro hW2' (show w1.heap.size ≤ W2 from hW2)))))))
  clear hk2 hk3 hL2 hO2 hb3 hL3 hO3 hI3 hbi3 hk03 hW2 hW2' y0 y1 y2
  go_wp2_with fail
  refine HM.out.mono ?_
  rintro e w4 ⟨⟨rfl, hr⟩ | ⟨g, rfl, -⟩, hk4⟩
  rotate_left
  · as_aux_lemma =>
    have hk04 := H3.out.1.trans' hk4
    have HA := Lib.hid (vawake_any w4 (laid0_kp HG.out.1 hk04))
    have H4 := Lib.hid hk04
    clear hk4 hk04
    go_wp2_with fail
    refine HA.out.mono ?_
    rintro e w5 ⟨rfl, hk5⟩
    have H5 := Lib.hid (H4.out.trans' hk5)
    clear hk5
    go_wp2_with fail
    go_ret
    exact ⟨rfl, H5.out⟩
  have hone := hr.rone
  have hmost := hr.rmost
  have HR := Lib.hid hr
  have e0 := keeps_cell hk4 n0
  have e1 := keeps_cell hk4 n1
  have e2 := keeps_cell hk4 n2
  have hL4 := vListAt_kp H3.out.2.1 hk4 (fun _ _ e => e)
  have hO4 := H3.out.2.2.1.kpB hk4 (fun _ e => e.elim)
  have hbi4 := (hk4.block _ (Array.getElem?_eq_some_iff.1 H3.out.2.2.2.1).1 (fun e => e)).trans H3.out.2.2.2.1
  have hb4 := (hk4.block _ (Array.getElem?_eq_some_iff.1 H3.out.2.2.2.2.1).1 (fun e => e)).trans H3.out.2.2.2.2.1
  have hk04 := H3.out.1.trans' hk4
  have H4 := Lib.hid (And.intro hk04 (And.intro hL4 (And.intro hO4 (And.intro hbi4 (And.intro hb4 hk4)))))
  clear hr hk4 hL4 hO4 hbi4 hb4 hk04 n0 n1 n2
  go_wp2_with fail
  refine Calls.mono (vplace _ a1 fns.length HI.out.1 HI.out.2.1 (by omega) (by omega)) ?_
  rintro e w' ⟨k, rfl, hk, rfl⟩
  obtain ⟨f, hf⟩ : ∃ f, fns[k]? = some f := ⟨fns[k], List.getElem?_eq_getElem hk⟩
  obtain ⟨u, hu⟩ : ∃ u, cls[k]? = some u := ⟨cls[k]'(by rw [H4.out.2.2.1.clen]; exact hk), List.getElem?_eq_getElem _⟩
  obtain ⟨⟨pk, ck, rfl⟩, hck⟩ := H4.out.2.2.1.crow k f u hf hu
  obtain ⟨bF, capF, hq4, -⟩ := H4.out.2.2.1.frow.form (by omega)
  injection hq4 with hq4 _ hd4
  subst hq4 hd4
  have hcl : 1 ≤ f.code.length ∧ f.code.length ≤ 16384 := by
    have h1 := (HR.out.rfn k f hf).head
    unfold vhead at h1
    simp only [Bool.and_eq_true] at h1
    have d := wi_true.1 h1.2.2
    omega
  obtain ⟨g, cap, hpk, -⟩ := hck.form (by omega)
  injection hpk with hpk _ hcap
  subst hpk hcap
  have hcell : ∀ j v, j < 4 → [Value.string f.name, .int .i64 f.args, .int .i64 f.slots, .slice (some ⟨g, 0, none⟩) f.code.length ck][j]? = some v → w4.cell? ⟨bF, k * 4 + j, none⟩ = some v := fun j v hj e => by
    rw [H4.out.2.2.1.frow.cellAt _ (by omega), fnCells_at hf hu hj]; exact e
  have f3 := hcell 3 _ (by omega) rfl
  have hki : (k : Int) < fns.length := by omega
  have HK := Lib.hid (And.intro hf (And.intro hu hck))
  obtain ⟨hc1, hc2⟩ := hcl
  clear hcell hf hu
  go_wp2_with fail
  refine Calls.mono (vplace2 _ a2 f.code.length HI.out.2.2.1 HI.out.2.2.2 (by omega) (by omega)) ?_
  rintro e w' ⟨i, rfl, hi, rfl⟩
  have hii : (i : Int) < f.code.length := by omega
  obtain ⟨y, hy⟩ : ∃ y, f.code[i]? = some y := ⟨f.code[i], List.getElem?_eq_getElem hi⟩
  have hcy : ∀ j v, j < 4 → [Value.int .i64 y.op, .int .i64 y.a, .int .i64 y.b, .int .i64 y.c][j]? = some v → w4.cell? ⟨g, i * 4 + j, none⟩ = some v := fun j v hj e => by
    rw [hck.cellAt _ (by omega), vins_get _ _ _ _ hy hj]; exact e
  have t0 := hcy 0 _ (by omega) rfl
  have t1 := hcy 1 _ (by omega) rfl
  have t2 := hcy 2 _ (by omega) rfl
  have t3 := hcy 3 _ (by omega) rfl
  have hfz : ∀ j, w4.frozen? ⟨g, j, none⟩ = false := fun j => hck.frozenAt j
  obtain ⟨x0, x1, x2, x3, -⟩ := vfour_facts H4.out.2.2.2.1
  rw [Nat.add_zero] at t0
  have HY := Lib.hid hy
  clear hy hcy hck
  go_wp2_with fail
  go_still_tail 9, (by kernel_rfl)
  obtain ⟨w5, hw5⟩ : ∃ w5, insPut w4 g (i * 4) ⟨xo, xa, xb, xc⟩ = w5 := ⟨_, rfl⟩
  have hg4 : W2 ≤ g ∧ g < w2.heap.size := HO2.out.blk HK.out.2.1 rfl
  have hk45 : Kp (fun q => q = g) w4 w5 := by rw [← hw5]; exact insPut_kp _ _ _ _
  have hO5 : FOwn W2 w5 (.slice (some ⟨bF, 0, none⟩) fns.length d2) (fns.set k (fnPut f i ⟨xo, xa, xb, xc⟩)) cls := by
    rw [← hw5]
    exact H4.out.2.2.1.put HK.out.1 hi HG.out.2.2.2 HK.out.2.1
  have hL5 := vListAt_kp H4.out.2.1 hk45 (fun q e e2 => by have h1 := e; have h2 := hg4.1; omega)
  have hz4 := H4.out.2.2.2.2.2.size
  have hz5 := hk45.size
  have hzm := (Array.getElem?_eq_some_iff.1 H3.out.2.2.2.2.1).1
  have hgm : w2.heap.size ≠ g := by have := hg4.2; omega
  have m0 := (hk45.cell (World.block_lt_of_cell? _ _ e0) hgm).trans e0
  have m1 := (hk45.cell (World.block_lt_of_cell? _ _ e1) hgm).trans e1
  have m2 := (hk45.cell (World.block_lt_of_cell? _ _ e2) hgm).trans e2
  have hlen : (fns.set k (fnPut f i ⟨xo, xa, xb, xc⟩)).length = fns.length := by simp
  obtain ⟨fs, hfs⟩ : ∃ fs, fns.set k (fnPut f i ⟨xo, xa, xb, xc⟩) = fs := ⟨_, rfl⟩
  rw [hfs] at hO5 hlen
  have hW5 : W2 ≤ w5.heap.size := by have h1 := H3.out.2.2.2.2.2.1; omega
  have hI5 : MdIn w5 hh ⟨nm, lits, fs⟩ p2 c2 (some ⟨bF, 0, none⟩) d2 := copy_in2 (m := ⟨nm, lits, fs⟩) hL5 hW5 (by simp only [hlen]; exact hO5) (by simp only [hlen]; exact hfl)
  have hsm : SmallM nm lits fs := ⟨HR.out.rnm, HR.out.rfew, by rw [hlen]; exact hone, by rw [hlen]; exact hmost⟩
  have hkw5 : Kp (fun _ => False) w w5 := kp_fresh H4.out.1 (hk45.mono fun q _ e => .inr (by
    have h1 := hg4.1
    have h2 := H3.out.2.2.2.2.2.2
    have h3 := H1.out.1.size
    omega))
  have hg5 := laid0_kp HG.out.1 hkw5
  have hF5 := HG.out.2.1.kp hkw5
  have hC := fun u (hu : Kp (fun _ => False) w5 u) => copy_cp H1.out.2.2 (hI5.kp hu) (by rw [hlen]; exact hfl)
  have hM := fun u (hu : Kp (fun _ => False) w5 u) => ref_ok HG.out.2.2.1 (hI5.kp hu) hsm HR.out.rlit
  simp only [hlen] at hC hM
  have HC := Lib.hid hC
  have HM := Lib.hid hM
  have HV := Lib.hid (fun u v (hu : Kp (fun _ => False) w5 u) (h : CpOk hh nm lits fs u v) => vet_cp h (laid0_kp hg5 hu) (hF5.kp hu))
  have HF := Lib.hid (fun u v v2 (h : VOk hh nm lits fs u v) (h2 : ROk hh nm lits fs u v2) => ref_same hsm HR.out.rlit h h2)
  have HA := Lib.hid (fun u (hu : Kp (fun _ => False) w5 u) => vawake_any u (laid0_kp hg5 hu))
  have HS := Lib.hid (fun u (hu : Kp (fun _ => False) w5 u) => And.intro (keeps_cell hu m0) (And.intro (keeps_cell hu m1) (keeps_cell hu m2)))
  have HW5 := Lib.hid hkw5
  unfold insPut at hw5
  simp only at hw5
  clear hg4 hk45 hO5 hL5 hz4 hz5 hzm hgm hlen hfs hW5 hI5 hsm hkw5 hg5 hF5 hC hM
  go_wp2_with fail
  have K0 := Lib.hid ((Kp.refl (fun _ => False) w5).drew.drew)
  clear e0 e1 e2 f3 t0 t1 t2 t3 hfz x0 x1 x2 x3 m0 m1 m2 hki hii
  go_region_held3 (fun w' => w'.cell? ⟨w2.heap.size, 0, none⟩ = some (.string nm) ∧ w'.cell? ⟨w2.heap.size, 1, none⟩ = some (.slice p2 lits.length c2) ∧ w'.cell? ⟨w2.heap.size, 2, none⟩ = some (.slice (some ⟨bF, 0, none⟩) fns.length d2))
    (first | (with_reducible exact HS.out _ Kg.out) | (with_reducible exact HS.out _ Kf.out) | (with_reducible exact HS.out _ Kv.out) | (with_reducible exact HS.out _ Kc.out) | (with_reducible exact HS.out _ Kr.out) | (with_reducible exact HS.out _ K0.out)) (first
    | (go_at_call 15; refine (HC.out _ (by first | with_reducible exact Kr.out | with_reducible exact K0.out)).mono ?_; rintro e wa ⟨vc, rfl, hvc, hka⟩; have Kc := Lib.hid ((show Kp (fun _ => False) w5 _ from by first | with_reducible exact Kr.out | with_reducible exact K0.out).trans' hka); have HVc := Lib.hid hvc; (try have HRr := Lib.hid (HRr.out.kp hka)); clear hvc hka)
    | (go_at_call 11; refine (HV.out _ _ (by first | with_reducible exact Kr.out | with_reducible exact Kc.out) HVc.out).mono ?_; rintro e wb ⟨vv, rfl, hvv, hkb⟩; have Kv := Lib.hid ((show Kp (fun _ => False) w5 _ from by first | with_reducible exact Kr.out | with_reducible exact Kc.out).trans' hkb); have HVv := Lib.hid hvv; (try have HRr := Lib.hid (HRr.out.kp hkb)); clear hvv hkb)
    | (go_at_call 19; refine (HM.out _ (by first | with_reducible exact Kv.out | with_reducible exact Kc.out | with_reducible exact K0.out)).mono ?_; rintro e wr ⟨vr, rfl, hvr, hkr⟩; have Kr := Lib.hid ((show Kp (fun _ => False) w5 _ from by first | with_reducible exact Kv.out | with_reducible exact Kc.out | with_reducible exact K0.out).trans' hkr); have HRr := Lib.hid hvr; (try have HVc := Lib.hid (HVc.out.kp hkr)); (try have HVv := Lib.hid (HVv.out.kp hkr)); clear hvr hkr)
    | (go_at_call 20; refine (HF.out _ _ _ HVv.out HRr.out).mono ?_; rintro e wf ⟨rfl, hkf⟩; have Kf := Lib.hid ((show Kp (fun _ => False) w5 _ from by first | with_reducible exact Kv.out | with_reducible exact Kr.out).trans' hkf); clear hkf)
    | (go_at_call 12; refine (HA.out _ Kf.out).mono ?_; rintro e wg ⟨rfl, hkg⟩; have Kg := Lib.hid (Kf.out.trans' hkg); clear hkg))
  all_goals
    go_wp2_with fail
    go_ret
    exact ⟨rfl, HW5.out.trans' Kg.out⟩
end Go.Proofs.YtpdepmkojbpklaaDoor

/- The two variables that are laid: the handle of the type error, the table of functions of bif; a world that has them. -/
namespace Go.Proofs.YtpdepmkojbpklaaDoor
open Go.ChangeShapes Go.WideShapes Go.RowKit

def laidList : List (String × DataW Unit) := [("errors.errorType", Rows.laid_errors_errorType), ("troupe/bif.functions", Rows.laid_troupe_bif_functions)]
def laidFns : List (String × DataW Unit) := [("troupe/bif.functions", Rows.laid_troupe_bif_functions)]
theorem Tryd.et : Tryd.prog.globalNamed "errors.errorType" = some 0 := by kernel_rfl
theorem Tryd.rt : (Tryd.prog.cutTypes.find? (·.1 == "internal/reflectlite.rtype")).map (·.2) = some 155 := by kernel_rfl
theorem Tryd.oneRow : ((List.range Tryd.prog.types.size).filter fun t => Tryd.prog.rowNamed t [101, 114, 114, 111, 114]) = [37] := by kernel_rfl

/-- what the condition gives a walk: the variable's one cell -/
theorem laid0_of {W : World} (h : laidMetH Tryd.prog laidList W) : Laid0 W := by
  have h' : laidMet Tryd.prog laidFns W ∧ handlesMet Tryd.prog [("errors.errorType", Rows.laid_errors_errorType)] W := h
  obtain ⟨name, u, ty, e1, e2, e3, e4, e5⟩ := h'.2 _ (List.mem_singleton.2 rfl)
  have en : name = [101, 114, 114, 111, 114] := (Option.some.inj e1).symm
  subst en
  obtain rfl := Option.some.inj (Tryd.rt.symm.trans e2)
  have hm : ty ∈ (List.range Tryd.prog.types.size).filter fun t => Tryd.prog.rowNamed t [101, 114, 114, 111, 114] := List.mem_filter.2 ⟨List.mem_range.2 e3, e4⟩
  rw [Tryd.oneRow] at hm
  obtain rfl := List.mem_singleton.1 hm
  have hh : typeHandle Tryd.prog 37 = .pointer (some ⟨2, 37, none⟩) := by kernel_rfl
  rw [hh] at e5
  unfold Laid0
  simpa using World.var?_cell Tryd.et e5 0

/-- a variable's one cell is laid -/
def layCell (v : Value) : Obj → Obj
  | .cells _ t frozen => .cells #[v] t frozen
  | o => o
/-- a world whose first variable is laid -/
noncomputable def laidW0 (os : Os) : World := { World.holding Tryd.prog os ⟨#[], #[], []⟩ with heap := (World.holding Tryd.prog os ⟨#[], #[], []⟩).heap.modify 0 (layCell (.iface 155 (.agg #[.pointer (some ⟨2, 37, none⟩)]))) }
/-- .. and the second -/
noncomputable def laidW (os : Os) : World := (laidW0 os).layVars Tryd.prog laidFns
theorem laidW_os (os : Os) : (laidW os).os = os := World.layVars_os _ _ _
/-- it meets the condition -/
theorem laidWorld_met (os : Os) (args : Array Value) : laidMetH Tryd.prog laidList ((laidW os).forCall (fun _ _ => 0) ⟨#[], args, []⟩).memory :=
  laidMetH_of_parts (laidMet_layVars (w0 := laidW0 os) (laid := laidFns) ["troupe/bif.functions"] [] (by simp [World.memory, World.forCall, Input.heap]; rfl) (by kernel_rfl) (by kernel_rfl) LaidIn.none) (by kernel_rfl)
end Go.Proofs.YtpdepmkojbpklaaDoor

/- The table of the functions of bif out of the condition. -/
namespace Go.Proofs.YtpdepmkojbpklaaDoor
open Go.ChangeShapes Go.WideShapes Go.RowKit

theorem gFns : Tryd.prog.globalNamed "troupe/bif.functions" = some 1 := by kernel_rfl
theorem tFns : (Tryd.prog.globals[1]?).map (·.type) = some 172 := by kernel_rfl
theorem laidF_of {W : World} (h : laidMetH Tryd.prog laidList W) : ∃ tab, LaidF tab W := by
  have h' : laidMet Tryd.prog laidFns W ∧ handlesMet Tryd.prog [("errors.errorType", Rows.laid_errors_errorType)] W := h
  obtain ⟨ps, ⟨g, t, cs, fuel, p, q, hg, ht, hv, hd, -, -⟩, -, -⟩ := h'.1
  obtain rfl := Option.some.inj (gFns.symm.trans hg)
  obtain rfl := Option.some.inj (tFns.symm.trans ht)
  obtain ⟨xs, m1, rfl, hx1, hlen, hn, hel⟩ := DataW.trod_array Tryd.underlying172 hd
  have hcell := World.var?_cell hg hv
  have c1 : Tryd.prog.cellsOf 171 = 3 := by kernel_rfl
  have cs1 : Tryd.prog.cellsOf 9 = 1 := by kernel_rfl
  have key : ∀ n : Nat, n < 40 → ∃ nm s : ByteArray, W.cell? ⟨1, n * 3, none⟩ = some (.string nm) ∧ W.cell? ⟨1, n * 3 + 2, none⟩ = some (.string s) ∧ s.size ≤ maxLen := by
    intro n hlt
    have he := hel n hlt
    rw [c1] at he
    obtain ⟨y, hy⟩ : ∃ y, xs[n]? = some y := ⟨xs[n], List.getElem?_eq_getElem (by omega)⟩
    rw [hy] at he
    obtain ⟨ys, m2, rfl, hy2, hl2, hn2, hf⟩ := DataW.trod_struct Tryd.underlying171 he
    obtain ⟨z0, hz0⟩ : ∃ z, ys[0]? = some z := ⟨ys[0]'(by rw [hn2]; decide), List.getElem?_eq_getElem _⟩
    obtain ⟨z2, hz2⟩ : ∃ z, ys[2]? = some z := ⟨ys[2]'(by rw [hn2]; decide), List.getElem?_eq_getElem _⟩
    have f0 := (hf 0 _ rfl).trans hz0
    have f2 := (hf 2 _ rfl).trans hz2
    obtain ⟨s0, e0, -, -⟩ := DataW.trod_string Tryd.underlying9 f0
    obtain ⟨s2, e2, -, hs2⟩ := DataW.trod_string Tryd.underlying9 f2
    have g0 := congrArg (fun l : List Value => l[0]?) e0
    have g2 := congrArg (fun l : List Value => l[0]?) e2
    have k1 : Tryd.prog.cellsOf 9 = 1 := cs1
    simp [k1] at g0 g2
    exact ⟨s0, s2, (hcell _).trans g0, (hcell _).trans g2, hs2⟩
  exact ⟨fun n => if hn : n < 40 then ((key n hn).choose_spec.choose.size : Int) else 0, fun n hn => ⟨(key n hn).choose, (key n hn).choose_spec.choose, (key n hn).choose_spec.choose_spec.1, (key n hn).choose_spec.choose_spec.2.1, by simp only [hn, dif_pos], (key n hn).choose_spec.choose_spec.2.2⟩⟩
end Go.Proofs.YtpdepmkojbpklaaDoor

/- The table of the functions of bif out of the condition: just the reference's numbers. -/
namespace Go.Proofs.YtpdepmkojbpklaaDoor
open Go.ChangeShapes Go.WideShapes Go.RowKit

def tabOf (d : DataW Unit) (n : Nat) : Option Int := match d with
  | .agg l => match l[n]? with
    | some (.agg [_, _, .lit (.string s)]) => some s.length
    | _ => none
  | _ => none
theorem tabOf_all : ∀ n : _root_.Fin 40, tabOf Rows.laid_troupe_bif_functions n.val = some (rtab n.val) := by decide +kernel
theorem laidT_of {W : World} (h : laidMetH Tryd.prog laidList W) : LaidF rtab W := by
  have h' : laidMet Tryd.prog laidFns W ∧ handlesMet Tryd.prog [("errors.errorType", Rows.laid_errors_errorType)] W := h
  obtain ⟨ps, ⟨g, t, cs, fuel, p, q, hg, ht, hv, hd, -, -⟩, -, -⟩ := h'.1
  obtain rfl := Option.some.inj (gFns.symm.trans hg)
  obtain rfl := Option.some.inj (tFns.symm.trans ht)
  obtain ⟨xs, m1, rfl, hx1, hlen, hn, hel⟩ := DataW.trod_array Tryd.underlying172 hd
  have hcell := World.var?_cell hg hv
  have c1 : Tryd.prog.cellsOf 171 = 3 := by kernel_rfl
  have cs1 : Tryd.prog.cellsOf 9 = 1 := by kernel_rfl
  intro n hlt
  have hdat := congrArg Prod.fst hx1
  simp only at hdat
  have he := hel n hlt
  rw [c1] at he
  obtain ⟨y, hy⟩ : ∃ y, xs[n]? = some y := ⟨xs[n], List.getElem?_eq_getElem (by omega)⟩
  rw [hy] at he
  obtain ⟨ys, m2, rfl, hy2, hl2, hn2, hf⟩ := DataW.trod_struct Tryd.underlying171 he
  obtain ⟨z0, hz0⟩ : ∃ z, ys[0]? = some z := ⟨ys[0]'(by rw [hn2]; decide), List.getElem?_eq_getElem _⟩
  obtain ⟨z2, hz2⟩ : ∃ z, ys[2]? = some z := ⟨ys[2]'(by rw [hn2]; decide), List.getElem?_eq_getElem _⟩
  have f0 := (hf 0 _ rfl).trans hz0
  have f2 := (hf 2 _ rfl).trans hz2
  obtain ⟨s0, e0, -, -⟩ := DataW.trod_string Tryd.underlying9 f0
  obtain ⟨s2, e2, hz3, hs2⟩ := DataW.trod_string Tryd.underlying9 f2
  have g0 := congrArg (fun l : List Value => l[0]?) e0
  have g2 := congrArg (fun l : List Value => l[0]?) e2
  have k1 : Tryd.prog.cellsOf 9 = 1 := cs1
  simp [k1] at g0 g2
  refine ⟨s0, s2, (hcell _).trans g0, (hcell _).trans g2, ?_, hs2⟩
  have ht := tabOf_all ⟨n, hlt⟩
  simp only at ht
  rw [hdat] at ht
  unfold tabOf at ht
  simp only [List.getElem?_map, hy, Option.map_some, hy2] at ht
  match ys, hn2, hz2 with
  | [u0, u1, u2], _, hz2 =>
    have hu : u2 = z2 := by simpa using hz2
    rw [hu] at ht
    simp only [List.map_cons, List.map_nil, hz3] at ht
    rw [← Option.some.inj ht]
    simp
end Go.Proofs.YtpdepmkojbpklaaDoor
