/- An instruction more, behind the last one, that is never reached. The table of the functions of bif out of the condition. -/
import Derived.Test.YtpbapiphafnipaaDoorM01
import Derived.Test.YtpbapiphafnipaaDoorM22
import Derived.Test.YtpbapiphafnipaaDoorM26
import Derived.Test.YtpbapiphafnipaaDoorM29
import Derived.OpenShut
import Derived.ChangeArms
/- An instruction more, behind the last one, that is never reached. -/
namespace Go.Proofs.YtpbapiphafnipaaDoor
open Go.RowKit

theorem mdAt_kp {w w' : World} {hh : Nat} {m : Md} {cs : List Value} (h : MdAt (fun q => q < w.heap.size) w hh m cs) (hk : Kp (fun _ => False) w w') : MdAt (fun q => q < w'.heap.size) w' hh m cs := by
  have hz := hk.size
  exact h.imp (fun q e => Nat.lt_of_lt_of_le e hz) (fun b j u _ e => keeps_cell hk e)
/-- a copy, as a module in memory -/
theorem copy_in {w : World} {hh W0 : Nat} {m : Md} {pl : Option Addr} {cl : Nat} {pf : Option Addr} {cf : Nat} {cls : List Value} (hL : ListAt (fun q => q < W0) w (TermAt (fun q => q < W0) w hh) m.lits (.slice pl m.lits.length cl)) (hW : W0 ≤ w.heap.size)
    (hO : FOwn W0 w (.slice pf m.funcs.length cf) m.funcs cls) (hl : m.funcs.length * 56 ≤ 140737488351232) : MdIn w hh m pl cl pf cf :=
  ⟨hL.imp (fun _ e => Nat.lt_of_lt_of_le e hW) (fun _ _ _ _ e => e) (fun t cs e => TermAt.imp (fun _ e => Nat.lt_of_lt_of_le e hW) (fun _ _ _ _ e => e) _ t cs e), hO.fns hl⟩
set_option maxRecDepth 100000 in
set_option maxHeartbeats 8000000 in
theorem dead_walk {tab : Nat → Int} {w : World} {hh : Nat} {m : Md} {pl : Option Addr} {cl : Nat} {pf : Option Addr} {cf : Nat} (hM : MdAt (fun q => q < w.heap.size) w hh m [.string m.name, .slice pl m.lits.length cl, .slice pf m.funcs.length cf]) (a1 a2 : Int)
    (b1 : -9223372036854775808 ≤ a1) (b2 : a1 ≤ 9223372036854775807) (b3 : -9223372036854775808 ≤ a2) (b4 : a2 ≤ 9223372036854775807) (hg : Laid0 w) (hFl : LaidF tab w) :
    Calls Tryd.prog 7 #[.agg #[.string m.name, .slice pl m.lits.length cl, .slice pf m.funcs.length cf], .int .i64 a1, .int .i64 a2] w fun e w' => e = .returned (.bool true) ∧ Kp (fun _ => False) w w' := by
  obtain ⟨nm, lits, fns⟩ := m
  simp only at hM ⊢
  have HI := Lib.hid (And.intro b1 (And.intro b2 (And.intro b3 b4)))
  have HG := Lib.hid (And.intro hg hFl)
  obtain ⟨w1, hw1⟩ : ∃ w1, w.alloc (.cells #[.string nm, .slice pl lits.length cl, .slice pf fns.length cf] 26) = w1 := ⟨_, rfl⟩
  have hk1 : Kp (fun _ => False) w w1 := by rw [← hw1]; exact (Kp.refl _ w).alloc _
  have hbx : w1.heap[w.heap.size]? = some (.cells #[.string nm, .slice pl lits.length cl, .slice pf fns.length cf] 26 (0, 0)) := by rw [← hw1]; exact heap_alloc_new w _
  obtain ⟨y0, y1, y2⟩ := vthree_facts hbx
  have hfl : fns.length * 56 ≤ 140737488351232 := by
    obtain ⟨_, _, _, -, -, po, cap, -, -, h, -⟩ := hM
    exact h
  have hM1 := mdAt_kp hM hk1
  have HC1 := Lib.hid (copyModule_own hM1)
  have H1 := Lib.hid (And.intro hk1 (And.intro hbx hM))
  clear b1 b2 b3 b4 hg hFl hk1 hbx hM hM1
  go_enter Tryd.func7, Tryd.ntmps7
  go_wp2_with fail
  refine HC1.out.mono ?_
  rintro e w2 ⟨W2, p2, c2, q2, d2, cls2, rfl, hW2, hW2', hL2, hO2, hk2⟩
  have hk02 := H1.out.1.trans' hk2
  have hI2 : MdIn w2 hh ⟨nm, lits, fns⟩ p2 c2 q2 d2 := copy_in (hL2.imp (fun q e => e.2) (fun _ _ _ _ e => e) (fun t cs e => TermAt.imp (fun q e => e.2) (fun _ _ _ _ e => e) _ t cs e)) hW2' hO2 hfl
  have hg2 := laid0_kp HG.out.1 hk02
  have hF2 := HG.out.2.kp hk02
  by_cases hr : RightM tab hh nm lits fns
  · have HM := Lib.hid (moduleA_ok (m := ⟨nm, lits, fns⟩) hI2 hg2 hF2 hr)
    have e0 := keeps_cell hk2 y0
    have e1 := keeps_cell hk2 y1
    have e2 := keeps_cell hk2 y2
    have HR := Lib.hid hr
    have H2 := Lib.hid hk02
    clear hW2 hW2' hL2 hO2 hk2 hI2 hg2 hF2 hr hk02 y0 y1 y2
    go_wp2_with fail
    refine HM.out.mono ?_
    rintro e w3 ⟨rfl, hk3⟩
    have y0 := keeps_cell hk3 e0
    have y1 := keeps_cell hk3 e1
    have y2 := keeps_cell hk3 e2
    have hk03 := H2.out.trans' hk3
    have HC3 := Lib.hid (copyModule_own (mdAt_kp H1.out.2.2 hk03))
    have H3 := Lib.hid hk03
    clear hk3 hk03 e0 e1 e2
    go_wp2_with fail
    refine HC3.out.mono ?_
    rintro e w4 ⟨W4, p4, c4, q4, d4, cls4, rfl, hW4, hW4', hL4, hO4, hk4⟩
    obtain ⟨w5, hw5⟩ : ∃ w5, w4.alloc (.cells #[.string nm, .slice p4 lits.length c4, .slice q4 fns.length d4] 26) = w5 := ⟨_, rfl⟩
    have hk5 : Kp (fun _ => False) w4 w5 := by rw [← hw5]; exact (Kp.refl _ w4).alloc _
    have hb5 : w5.heap[w4.heap.size]? = some (.cells #[.string nm, .slice p4 lits.length c4, .slice q4 fns.length d4] 26 (0, 0)) := by rw [← hw5]; exact heap_alloc_new w4 _
    obtain ⟨n0, n1, n2⟩ := vthree_facts hb5
    have hk45 := hk4.trans' hk5
    have e0 := keeps_cell hk45 y0
    have e1 := keeps_cell hk45 y1
    have e2 := keeps_cell hk45 y2
    have hz3 := H3.out.size
    have hL5 := vListAt_kp (hL4.imp (fun q e => e.2) (fun _ _ _ _ e => e) (fun t cs e => TermAt.imp (fun q e => e.2) (fun _ _ _ _ e => e) _ t cs e)) hk5 (fun _ _ e => e)
    have hO5 := hO4.kpB hk5 (fun _ e => e.elim)
    have hz5 := hk5.size
    have HO4 := Lib.hid hO4
    have H5 := Lib.hid (And.intro hL5 (And.intro hO5 (And.intro (H3.out.trans' hk45) (And.intro hb5 (And.intro (show w.heap.size ≤ W4 by omega) (And.intro hW4' hz5))))))
    have hone := HR.out.rone
    have hmost := HR.out.rmost
    clear hk4 hk5 hk45 hL4 hO4 hW4 hW4' hb5 hL5 hO5 hz3 hz5 y0 y1 y2
    go_wp2_with fail
    refine Calls.mono (vplace _ a1 fns.length HI.out.1 HI.out.2.1 (by omega) (by omega)) ?_
    rintro e w' ⟨k, rfl, hk, rfl⟩
    obtain ⟨f, hf⟩ : ∃ f, fns[k]? = some f := ⟨fns[k], List.getElem?_eq_getElem hk⟩
    obtain ⟨u, hu⟩ : ∃ u, cls4[k]? = some u := ⟨cls4[k]'(by rw [H5.out.2.1.clen]; exact hk), List.getElem?_eq_getElem _⟩
    obtain ⟨⟨pk, ck, rfl⟩, hck⟩ := H5.out.2.1.crow k f u hf hu
    obtain ⟨bF, capF, hq4, -⟩ := H5.out.2.1.frow.form (by omega)
    injection hq4 with hq4 _ hd4
    subst hq4 hd4
    have hcell : ∀ j v, j < 4 → [Value.string f.name, .int .i64 f.args, .int .i64 f.slots, .slice pk f.code.length ck][j]? = some v → w5.cell? ⟨bF, k * 4 + j, none⟩ = some v := fun j v hj e => by
      rw [H5.out.2.1.frow.cellAt _ (by omega), fnCells_at hf hu hj]; exact e
    have f3 := hcell 3 _ (by omega) rfl
    have hki : (k : Int) < fns.length := by omega
    have HK := Lib.hid (And.intro hf (And.intro hu (And.intro hck hcell)))
    clear hcell hck hf hu
    by_cases hbig : 16384 ≤ f.code.length
    · have hbi : (16384 : Int) ≤ f.code.length := by omega
      have HA := Lib.hid (vawake_any w5 (laid0_kp HG.out.1 H5.out.2.2.1))
      go_wp2_with fail
      refine HA.out.mono ?_
      rintro e w6 ⟨rfl, hk6⟩
      have H6 := Lib.hid (H5.out.2.2.1.trans' hk6)
      clear hk6
      go_wp2_with fail
      go_ret
      exact ⟨rfl, H6.out⟩
    have hbi : ¬ (16384 : Int) ≤ f.code.length := by omega
    have HC5 := Lib.hid (copyModule_own (mdAt_kp H1.out.2.2 H5.out.2.2.1))
    go_wp2_with fail
    refine HC5.out.mono ?_
    rintro e w6 ⟨W6, p6, c6, q6, d6, cls6, rfl, hW6, hW6', hL6, hO6, hk6⟩
    have hI6 : MdIn w6 hh ⟨nm, lits, fns⟩ p6 c6 q6 d6 := copy_in (hL6.imp (fun q e => e.2) (fun _ _ _ _ e => e) (fun t cs e => TermAt.imp (fun q e => e.2) (fun _ _ _ _ e => e) _ t cs e)) hW6' hO6 hfl
    have hk06 := H5.out.2.2.1.trans' hk6
    have HT := Lib.hid (triesA (m := ⟨nm, lits, fns⟩) hI6 (laid0_kp HG.out.1 hk06) (HG.out.2.kp hk06) HR.out k f HK.out.1)
    have y0 := keeps_cell hk6 n0
    have y1 := keeps_cell hk6 n1
    have y2 := keeps_cell hk6 n2
    have y3 := keeps_cell hk6 f3
    have H6 := Lib.hid hk6
    clear hW6 hW6' hL6 hO6 hI6 hk6 hk06 n0 n1 n2 f3 e0 e1 e2
    go_wp2_with fail
    refine HT.out.mono ?_
    rintro e w7 ⟨tg, tc, ts, rfl, hts, htg, hwk, hk7⟩
    obtain ⟨w8, hw8⟩ : ∃ w8, w7.alloc (.cells #[.int .i64 15, .int .i64 0, .int .i64 0, .int .i64 0, .int .i64 25, .int .i64 0, .int .i64 0, .int .i64 0, .int .i64 1, .int .i64 0, .int .i64 0, .int .i64 0, .int .i64 24, .int .i64 0, .int .i64 0, .int .i64 0, .int .i64 40, .int .i64 0, .int .i64 0, .int .i64 0] 29) = w8 := ⟨_, rfl⟩
    have hk8 : Kp (fun _ => False) w7 w8 := by rw [← hw8]; exact (Kp.refl _ w7).alloc _
    have hb8 : w8.heap[w7.heap.size]? = some (.cells #[.int .i64 15, .int .i64 0, .int .i64 0, .int .i64 0, .int .i64 25, .int .i64 0, .int .i64 0, .int .i64 0, .int .i64 1, .int .i64 0, .int .i64 0, .int .i64 0, .int .i64 24, .int .i64 0, .int .i64 0, .int .i64 0, .int .i64 40, .int .i64 0, .int .i64 0, .int .i64 0] 29 (0, 0)) := by rw [← hw8]; exact heap_alloc_new w7 _
    have hk78 := hk7.trans' hk8
    have n0 := keeps_cell hk78 y0
    have n1 := keeps_cell hk78 y1
    have n2 := keeps_cell hk78 y2
    have f3 := keeps_cell hk78 y3
    have H8 := Lib.hid (And.intro (H6.out.trans' hk78) (And.intro (hts.kp hk8 (fun e => e)) (And.intro htg (And.intro hwk hb8))))
    clear hts htg hwk hk7 hk8 hk78 y0 y1 y2 y3 hb8
    go_upto_region 8 with fail
    go_cut [11] (fun s11 wx => ∃ (j A : Nat), s11 = .pointer (some ⟨A, 0, none⟩) ∧ wx.heap[A]? = some (.cells #[.int .i64 (fiveIns j).op, .int .i64 (fiveIns j).a, .int .i64 (fiveIns j).b, .int .i64 (fiveIns j).c] 29 (0, 0)) ∧ w8.heap.size ≤ A ∧ Kp (fun _ => False) w8 wx)
    case first =>
      go_wp2_with fail
      refine Calls.mono (vplace _ a2 5 HI.out.2.2.1 HI.out.2.2.2 (by omega) (by omega)) ?_
      rintro e w' ⟨j, rfl, hj, rfl⟩
      have hj5 : j = 0 ∨ j = 1 ∨ j = 2 ∨ j = 3 ∨ j = 4 := by omega
      rcases hj5 with rfl | rfl | rfl | rfl | rfl
      · have x0 : w8.cell? ⟨w7.heap.size, 0, none⟩ = some (.int .i64 15) := by rw [cell_of_row w8 _ 0 _ _ _ H8.out.2.2.2.2]; rfl
        have x1 : w8.cell? ⟨w7.heap.size, 1, none⟩ = some (.int .i64 0) := by rw [cell_of_row w8 _ 1 _ _ _ H8.out.2.2.2.2]; rfl
        have x2 : w8.cell? ⟨w7.heap.size, 2, none⟩ = some (.int .i64 0) := by rw [cell_of_row w8 _ 2 _ _ _ H8.out.2.2.2.2]; rfl
        have x3 : w8.cell? ⟨w7.heap.size, 3, none⟩ = some (.int .i64 0) := by rw [cell_of_row w8 _ 3 _ _ _ H8.out.2.2.2.2]; rfl
        go_wp2_with fail
        go_meet
        exact ⟨0, _, rfl, heap_alloc_new w8 _, Nat.le_refl _, (Kp.refl _ w8).alloc _⟩
      · have x0 : w8.cell? ⟨w7.heap.size, 4, none⟩ = some (.int .i64 25) := by rw [cell_of_row w8 _ 4 _ _ _ H8.out.2.2.2.2]; rfl
        have x1 : w8.cell? ⟨w7.heap.size, 5, none⟩ = some (.int .i64 0) := by rw [cell_of_row w8 _ 5 _ _ _ H8.out.2.2.2.2]; rfl
        have x2 : w8.cell? ⟨w7.heap.size, 6, none⟩ = some (.int .i64 0) := by rw [cell_of_row w8 _ 6 _ _ _ H8.out.2.2.2.2]; rfl
        have x3 : w8.cell? ⟨w7.heap.size, 7, none⟩ = some (.int .i64 0) := by rw [cell_of_row w8 _ 7 _ _ _ H8.out.2.2.2.2]; rfl
        go_wp2_with fail
        go_meet
        exact ⟨1, _, rfl, heap_alloc_new w8 _, Nat.le_refl _, (Kp.refl _ w8).alloc _⟩
      · have x0 : w8.cell? ⟨w7.heap.size, 8, none⟩ = some (.int .i64 1) := by rw [cell_of_row w8 _ 8 _ _ _ H8.out.2.2.2.2]; rfl
        have x1 : w8.cell? ⟨w7.heap.size, 9, none⟩ = some (.int .i64 0) := by rw [cell_of_row w8 _ 9 _ _ _ H8.out.2.2.2.2]; rfl
        have x2 : w8.cell? ⟨w7.heap.size, 10, none⟩ = some (.int .i64 0) := by rw [cell_of_row w8 _ 10 _ _ _ H8.out.2.2.2.2]; rfl
        have x3 : w8.cell? ⟨w7.heap.size, 11, none⟩ = some (.int .i64 0) := by rw [cell_of_row w8 _ 11 _ _ _ H8.out.2.2.2.2]; rfl
        go_wp2_with fail
        go_meet
        exact ⟨2, _, rfl, heap_alloc_new w8 _, Nat.le_refl _, (Kp.refl _ w8).alloc _⟩
      · have x0 : w8.cell? ⟨w7.heap.size, 12, none⟩ = some (.int .i64 24) := by rw [cell_of_row w8 _ 12 _ _ _ H8.out.2.2.2.2]; rfl
        have x1 : w8.cell? ⟨w7.heap.size, 13, none⟩ = some (.int .i64 0) := by rw [cell_of_row w8 _ 13 _ _ _ H8.out.2.2.2.2]; rfl
        have x2 : w8.cell? ⟨w7.heap.size, 14, none⟩ = some (.int .i64 0) := by rw [cell_of_row w8 _ 14 _ _ _ H8.out.2.2.2.2]; rfl
        have x3 : w8.cell? ⟨w7.heap.size, 15, none⟩ = some (.int .i64 0) := by rw [cell_of_row w8 _ 15 _ _ _ H8.out.2.2.2.2]; rfl
        go_wp2_with fail
        go_meet
        exact ⟨3, _, rfl, heap_alloc_new w8 _, Nat.le_refl _, (Kp.refl _ w8).alloc _⟩
      · have x0 : w8.cell? ⟨w7.heap.size, 16, none⟩ = some (.int .i64 40) := by rw [cell_of_row w8 _ 16 _ _ _ H8.out.2.2.2.2]; rfl
        have x1 : w8.cell? ⟨w7.heap.size, 17, none⟩ = some (.int .i64 0) := by rw [cell_of_row w8 _ 17 _ _ _ H8.out.2.2.2.2]; rfl
        have x2 : w8.cell? ⟨w7.heap.size, 18, none⟩ = some (.int .i64 0) := by rw [cell_of_row w8 _ 18 _ _ _ H8.out.2.2.2.2]; rfl
        have x3 : w8.cell? ⟨w7.heap.size, 19, none⟩ = some (.int .i64 0) := by rw [cell_of_row w8 _ 19 _ _ _ H8.out.2.2.2.2]; rfl
        go_wp2_with fail
        go_meet
        exact ⟨4, _, rfl, heap_alloc_new w8 _, Nat.le_refl _, (Kp.refl _ w8).alloc _⟩
    case rest =>
      obtain ⟨j, A, rfl, hbA, hA, hk9⟩ := hcut
      have hk59 := H8.out.1.trans' hk9
      have hO9 := H5.out.2.1.kpB hk59 (fun _ e => e.elim)
      have hL9 := vListAt_kp H5.out.1 hk59 (fun _ _ e => e)
      have hck9 := hk59.row HK.out.2.2.1 (fun _ _ e => e)
      obtain ⟨x0, x1, x2, x3, -⟩ := vfour_facts hbA
      have r0 := keeps_cell hk9 n0
      have r1 := keeps_cell hk9 n1
      have r2 := keeps_cell hk9 n2
      have r3 := keeps_cell hk9 f3
      obtain ⟨g, cap, w10, hrun, hrow, hk10, hgg⟩ := vins_row (World.ownsRow.drew hck9) (show W4 ≤ wc.drew.heap.size by have := hk59.size; have := H5.out.2.2.2.2.2; simp; omega) (by omega) (fiveIns j)
      have hd9 : Kp (fun _ => False) wc wc.drew := (Kp.refl _ wc).drew
      have hk10' : Kp (fun q => (Value.slice pk f.code.length ck).ownBlock = some q) wc w10 := (hd9.mono fun _ _ e => e.elim).trans' hk10
      have hmore := hO9.more HK.out.1 (x := fiveIns j) (by unfold fiveIns; split <;> (try split) <;> (try split) <;> (try split) <;> exact wf4 (by omega) ⟨by decide, by decide⟩ ⟨by decide, by decide⟩ ⟨by decide, by decide⟩) (by omega) HK.out.2.1 hrow hk10' (hgg.imp id (fun e => e))
      have hfr : w10.ownsRow W4 32 4 (.slice (some ⟨bF, 0, none⟩) fns.length d4) fns.length (fnCells fns cls4) := hk10'.row hO9.frow (fun q e e2 => hO9.coff k _ q HK.out.2.1 e2 e)
      have f10 : w10.cell? ⟨bF, k * 4 + 3, none⟩ = some (.slice pk f.code.length ck) := by
        rw [hfr.cellAt _ (by omega), fnCells_at HK.out.1 HK.out.2.1 (by omega)]; rfl
      have ff10 := hfr.frozenAt (k * 4 + 3)
      have hlt4 : bF < w4.heap.size := (HO4.out.frow.lt bF rfl).2
      have hown4 : ∀ q, (Value.slice pk f.code.length ck).ownBlock = some q → W4 ≤ q ∧ q < w4.heap.size := fun q e => HO4.out.blk HK.out.2.1 e
      have hz49 : w4.heap.size < wc.heap.size := by have := hk59.size; have := (Array.getElem?_eq_some_iff.1 H5.out.2.2.2.1).1; omega
      have m2 := (hk10'.cell (World.block_lt_of_cell? _ _ r2) (fun e => by have := (hown4 _ e).2; simp only at this; omega)).trans r2
      have hks : Kp (fun q => q = bF) w10 (w10.setCell ⟨bF, k * 4 + 3, none⟩ (.slice (some ⟨g, 0, none⟩) (f.code.length + 1) cap)) := (Kp.refl _ w10).setCell _ _ (.inl rfl)
      have hkc : Kp (fun q => q = bF ∨ (Value.slice pk f.code.length ck).ownBlock = some q) wc (w10.setCell ⟨bF, k * 4 + 3, none⟩ (.slice (some ⟨g, 0, none⟩) (f.code.length + 1) cap)) := (hk10'.mono fun _ _ e => .inr e).trans' (hks.mono fun _ _ e => .inl e)
      have hkp : (k : Int) < fns.length := by omega
      have H9 := Lib.hid (And.intro hk59 (And.intro hL9 (And.intro hmore (And.intro hkc (And.intro hlt4 (And.intro hown4 (And.intro hrun hk9)))))))
      clear hk9 hk59 hO9 hL9 hck9 hbA hA n0 n1 n2 f3 hrow hk10 hgg hd9 hk10' hmore hfr hlt4 hown4 hz49 hks hkc hrun
      go_upto_region 9 with fail
      go_cut [62] (fun s62 wx => FOwn W4 wx (.slice (some ⟨bF, 0, none⟩) fns.length d4) (fns.set k (fnMore f (fiveIns j))) (cls4.set k (.slice (some ⟨g, 0, none⟩) (f.code.length + 1) cap)) ∧ Kp (fun q => q = bF ∨ (Value.slice pk f.code.length ck).ownBlock = some q) wc wx)
      case first =>
        have ka := (Kp.refl (fun _ => False) wc).alloc (.cells #[.int .i64 (fiveIns j).op, .int .i64 (fiveIns j).a, .int .i64 (fiveIns j).b, .int .i64 (fiveIns j).c] 29)
        have ea2 := keeps_cell ka r2
        have ea3 := keeps_cell ka r3
        have ex0 := keeps_cell ka x0
        have ex1 := keeps_cell ka x1
        have ex2 := keeps_cell ka x2
        have ex3 := keeps_cell ka x3
        clear ka
        go_region_law (refine step_run (by rfl) (.tmp 59) (.tmp 61) 30 (by rfl) (.slice pk f.code.length ck) (.slice (some ⟨wc.heap.size, 0, none⟩) 1 1) (by first | rfl | (simp [Act.eval]; done) | simp [Act.eval, Act.put]) (by first | rfl | (simp [Act.eval]; done) | simp [Act.eval, Act.put]) _ _ H9.out.2.2.2.2.2.2.1 ?_)
        all_goals
          refine Met.intro ?_
          go_step
          go_meet
          exact ⟨H9.out.2.2.1, H9.out.2.2.2.1⟩
      case rest =>
        obtain ⟨hO10, hk10⟩ := hcut
        have hmb : w4.heap.size ≠ bF := by have := H9.out.2.2.2.2.1; omega
        have hF10 : ∀ b, b = w4.heap.size ∨ b < W4 → ¬ (b = bF ∨ (Value.slice pk f.code.length ck).ownBlock = some b) := fun b hb e => by
          have h1 := H9.out.2.2.2.2.1
          have h2 := (H5.out.2.1.frow.lt bF rfl).1
          rcases e with e | e
          · rcases hb with hb | hb
            · omega
            · omega
          · have h3 := H9.out.2.2.2.2.2.1 _ e
            rcases hb with hb | hb
            · omega
            · omega
        have n0 := (hk10.cell (World.block_lt_of_cell? _ _ r0) (hF10 _ (.inl rfl))).trans r0
        have n1 := (hk10.cell (World.block_lt_of_cell? _ _ r1) (hF10 _ (.inl rfl))).trans r1
        have n2 := (hk10.cell (World.block_lt_of_cell? _ _ r2) (hF10 _ (.inl rfl))).trans r2
        have hL10 := vListAt_kp H9.out.2.1 hk10 (fun q e => hF10 q (.inr e))
        have hk010 : Kp (fun _ => False) w wc := kp_fresh (H5.out.2.2.1.trans' H9.out.1) (hk10.mono fun q _ e => .inr (by
          have h1 := H5.out.2.2.2.2.1
          rcases e with e | e
          · have h9 : W4 ≤ bF := (H5.out.2.1.frow.lt bF rfl).1
            omega
          · have h9 := (H9.out.2.2.2.2.2.1 _ e).1
            omega))
        have hlen2 : (fns.set k (fnMore f (fiveIns j))).length = fns.length := by simp
        have hW10 : W4 ≤ wc.heap.size := by have := hk10.size; have := H9.out.1.size; have := H5.out.2.2.2.2.2; omega
        have hO10' := hO10
        rw [← hlen2] at hO10'
        have hI10 : MdIn wc hh ⟨nm, lits, fns.set k (fnMore f (fiveIns j))⟩ p4 c4 (some ⟨bF, 0, none⟩) d4 := copy_in (m := ⟨nm, lits, fns.set k (fnMore f (fiveIns j))⟩) hL10 hW10 hO10' (by simp only [hlen2]; exact hfl)
        have hr2 := right_more HR.out HK.out.1 (by omega) j
        have hk10ts : Ir wc tg tc ts := by
          refine (H8.out.2.1.kp H9.out.2.2.2.2.2.2.2 (fun e => e)).kp hk10 (fun e => ?_)
          have h1 := H9.out.2.2.2.2.1
          have h2 := H8.out.2.2.1
          have h3 := H6.out.size
          have h4 := H5.out.2.2.2.2.2.2
          rcases e with e | e
          · omega
          · have h9 := (H9.out.2.2.2.2.2.1 _ e).2
            omega
        have hnm : nm.size ≤ maxLen := by have := HR.out.rnm; unfold maxLen; omega
        have hMd : MdAt (fun q => q < wc.heap.size) wc hh ⟨nm, lits, fns.set k (fnMore f (fiveIns j))⟩ [.string nm, .slice p4 lits.length c4, .slice (some ⟨bF, 0, none⟩) (fns.set k (fnMore f (fiveIns j))).length d4] := ⟨_, _, rfl, hnm, hI10.lits, hI10.fns⟩
        have hCn := copyModule_own hMd
        simp only [hlen2] at hCn
        have HCn := Lib.hid hCn
        have hfk : (fns.set k (fnMore f (fiveIns j)))[k]? = some (fnMore f (fiveIns j)) := List.getElem?_set_self (by have := (List.getElem?_eq_some_iff.1 HK.out.1).1; omega)
        have HX := Lib.hid (And.intro hk010 (And.intro hI10 (And.intro hr2 (And.intro hk10ts (And.intro hlen2 hfk)))))
        clear hO10 hk10 hmb hF10 r0 r1 r2 r3 x0 x1 x2 x3 f10 ff10 m2 hL10 hk010 hO10' hI10 hr2 hk10ts hW10 hMd hCn hnm hlen2 hfk
        go_wp2_with fail
        refine HCn.out.mono ?_
        rintro e w11 ⟨W11, p11, c11, q11, d11, cls11, rfl, hW11, hW11', hL11, hO11, hk11⟩
        have hI11 : MdIn w11 hh ⟨nm, lits, fns.set k (fnMore f (fiveIns j))⟩ p11 c11 q11 d11 := copy_in (m := ⟨nm, lits, fns.set k (fnMore f (fiveIns j))⟩) (hL11.imp (fun q e => e.2) (fun _ _ _ _ e => e) (fun t cs e => TermAt.imp (fun q e => e.2) (fun _ _ _ _ e => e) _ t cs e)) hW11' (by simp only [HX.out.2.2.2.2.1]; exact hO11) (by simp only [HX.out.2.2.2.2.1]; exact hfl)
        have hk011 := HX.out.1.trans' hk11
        have hMo := moduleA_ok (m := ⟨nm, lits, fns.set k (fnMore f (fiveIns j))⟩) hI11 (laid0_kp HG.out.1 hk011) (HG.out.2.kp hk011) HX.out.2.2.1
        simp only [HX.out.2.2.2.2.1] at hMo
        have HMo := Lib.hid hMo
        have s0 := keeps_cell hk11 n0
        have s1 := keeps_cell hk11 n1
        have s2 := keeps_cell hk11 n2
        have H11 := Lib.hid hk11
        clear hW11 hW11' hL11 hO11 hI11 hk11 hk011 hMo n0 n1 n2
        go_wp2_with fail
        refine HMo.out.mono ?_
        rintro e w12 ⟨rfl, hk12⟩
        have hkc12 := H11.out.trans' hk12
        have hk012 := HX.out.1.trans' hkc12
        have n0 := keeps_cell hk12 s0
        have n1 := keeps_cell hk12 s1
        have n2 := keeps_cell hk12 s2
        have hTn := triesA (m := ⟨nm, lits, fns.set k (fnMore f (fiveIns j))⟩) (HX.out.2.1.kp hkc12) (laid0_kp HG.out.1 hk012) (HG.out.2.kp hk012) HX.out.2.2.1 k _ HX.out.2.2.2.2.2
        simp only [HX.out.2.2.2.2.1] at hTn
        have HTn := Lib.hid hTn
        have H12 := Lib.hid (And.intro hkc12 hk012)
        clear hk12 hkc12 hk012 hTn s0 s1 s2
        go_wp2_with fail
        refine HTn.out.mono ?_
        rintro e w13 ⟨tg2, tc2, ts2, rfl, hir2, -, hwk2, hk13⟩
        have hkc13 := H12.out.1.trans' hk13
        have hts : ts ++ [-1] = ts2 := walked_one (walked_more H8.out.2.2.2.1 (fiveIns j)) hwk2
        have hlt : ts.length = f.code.length := H8.out.2.2.2.1.len
        have hlen1 : 0 < ts.length := by
          have := wi_true.1 (Bool.and_eq_true_iff.1 (Bool.and_eq_true_iff.1 (HR.out.rfn k f HK.out.1).head).2).2
          omega
        have hlt2 : ts2.length = f.code.length + 1 := by rw [← hts]; simp [hlt]
        have hml : (fnMore f (fiveIns j)).code.length = f.code.length + 1 := by simp [fnMore]
        have hCI := copyInts_own (HX.out.2.2.2.1.kp hkc13 (fun e => e)) hlen1 (by omega)
        rw [hlt] at hCI
        have HCI := Lib.hid hCI
        have H13 := Lib.hid (And.intro hir2 (And.intro hts (And.intro hlt2 (And.intro (H12.out.2.trans' hk13) hlt))))
        clear hir2 hwk2 hk13 hkc13 hts hCI hlen1 hlt hlt2
        rw [hml]
        go_wp2_with fail
        refine HCI.out.mono ?_
        rintro e w14 ⟨g14, c14, rfl, ho14, hk14⟩
        obtain ⟨g15, c15, w15, hr15, ho15, hk15⟩ := ints_push ho14 hk14.size (by omega) (-1)
        have hir15 := (ir_row (H13.out.1.kp hk14 (fun e => e)))
        have hown14 : ∀ q, (Value.slice (some ⟨g14, 0, none⟩) f.code.length c14).ownBlock = some q → w13.heap.size ≤ q := fun q e => (ho14.lt q e).1
        have hirw := hk15.row hir15 (fun q e e2 => by
          have h1 := hown14 q e2
          have h2 := H13.out.1.lt
          have e3 := Option.some.inj e
          simp only at e3
          omega)
        have ho15' := row_le ho15 (Nat.zero_le _)
        have hmap : ts.map (Value.int .i64) ++ [Value.int .i64 (-1)] = ts2.map (Value.int .i64) := by rw [← H13.out.2.1]; simp
        rw [hmap] at ho15'
        have hk15' := kp_fresh (H13.out.2.2.2.1.trans' hk14) (hk15.mono fun q _ e => .inr (by have := hown14 q e; have := H13.out.2.2.2.1.size; omega))
        rw [← H13.out.2.2.1] at ho15'
        have HS := Lib.hid (sameInts_any ts2 _ _ w15 0 (by have := H13.out.2.2.1; omega) hirw ho15')
        have H15 := Lib.hid (And.intro hr15 (And.intro hk15' H13.out.2.2.1))
        clear ho14 hk14 hr15 ho15 hk15 hir15 hown14 hirw ho15' hmap hk15'
        rw [H15.out.2.2] at HS
        go_wp2_with (at_builtin; refine wpList_runw rfl (.tmp 84) (.tmp 85) 45 rfl (.slice (some ⟨g14, 0, none⟩) f.code.length c14) (.slice (some ⟨w14.heap.size, 0, none⟩) 1 1) rfl rfl _ w15 H15.out.1 ?_)
        refine HS.out.mono ?_
        rintro e w16 ⟨rfl, hk16⟩
        have hk016 := H15.out.2.1.trans' hk16
        have HA := Lib.hid (vawake_any w16 (laid0_kp HG.out.1 hk016))
        have H16 := Lib.hid hk016
        clear hk16 hk016
        go_wp2_with fail
        refine HA.out.mono ?_
        rintro e w17 ⟨rfl, hk17⟩
        have H17 := Lib.hid (H16.out.trans' hk17)
        clear hk17
        go_wp2_with fail
        go_ret
        exact ⟨rfl, H17.out⟩
  · have HM := Lib.hid (moduleA_bad (m := ⟨nm, lits, fns⟩) hI2 hg2 hF2 hr)
    have HR := Lib.hid hr
    have H2 := Lib.hid (And.intro hk02 hg2)
    clear hW2 hW2' hL2 hO2 hk2 hI2 hg2 hF2 hr hk02
    go_wp2_with fail
    refine HM.out.mono ?_
    rintro e w3 ⟨t, x, rfl, hk3⟩
    have HA := Lib.hid (vawake_any w3 (laid0_kp H2.out.2 hk3))
    have H3 := Lib.hid (H2.out.1.trans' hk3)
    clear hk3
    go_wp2_with fail
    refine HA.out.mono ?_
    rintro e w4 ⟨rfl, hk4⟩
    have H4 := Lib.hid (H3.out.trans' hk4)
    clear hk4
    go_wp2_with fail
    go_ret
    exact ⟨rfl, H4.out⟩
end Go.Proofs.YtpbapiphafnipaaDoor

/- The table of the functions of bif out of the condition. -/
namespace Go.Proofs.YtpbapiphafnipaaDoor
open Go.ChangeShapes Go.WideShapes Go.RowKit

theorem gFns : Tryd.prog.globalNamed "troupe/bif.functions" = some 1 := by kernel_rfl
theorem tFns : (Tryd.prog.globals[1]?).map (·.type) = some 172 := by kernel_rfl
theorem laidF_of {W : World} (h : laidMetH Tryd.prog laidList W) : ∃ tab, LaidF tab W := by
  have h' : laidMet Tryd.prog laidFns W ∧ handlesMet Tryd.prog [("errors.errorType", Rows.laid_errors_errorType)] W := h
  obtain ⟨ps, ⟨g, t, cs, fuel, p, q, hg, ht, hv, hd, -, -⟩, -, -⟩ := h'.1
  obtain rfl := Option.some.inj (gFns.symm.trans hg)
  obtain rfl := Option.some.inj (tFns.symm.trans ht)
  obtain ⟨xs, m1, rfl, hx1, hlen, hn, hel⟩ := DataW.trod_array Tryd.underlying172 hd
  have hcell := World.var?_cell hg hv
  have c1 : Tryd.prog.cellsOf 171 = 3 := by kernel_rfl
  have cs1 : Tryd.prog.cellsOf 9 = 1 := by kernel_rfl
  have key : ∀ n : Nat, n < 40 → ∃ nm s : ByteArray, W.cell? ⟨1, n * 3, none⟩ = some (.string nm) ∧ W.cell? ⟨1, n * 3 + 2, none⟩ = some (.string s) ∧ s.size ≤ maxLen := by
    intro n hlt
    have he := hel n hlt
    rw [c1] at he
    obtain ⟨y, hy⟩ : ∃ y, xs[n]? = some y := ⟨xs[n], List.getElem?_eq_getElem (by omega)⟩
    rw [hy] at he
    obtain ⟨ys, m2, rfl, hy2, hl2, hn2, hf⟩ := DataW.trod_struct Tryd.underlying171 he
    obtain ⟨z0, hz0⟩ : ∃ z, ys[0]? = some z := ⟨ys[0]'(by rw [hn2]; decide), List.getElem?_eq_getElem _⟩
    obtain ⟨z2, hz2⟩ : ∃ z, ys[2]? = some z := ⟨ys[2]'(by rw [hn2]; decide), List.getElem?_eq_getElem _⟩
    have f0 := (hf 0 _ rfl).trans hz0
    have f2 := (hf 2 _ rfl).trans hz2
    obtain ⟨s0, e0, -, -⟩ := DataW.trod_string Tryd.underlying9 f0
    obtain ⟨s2, e2, -, hs2⟩ := DataW.trod_string Tryd.underlying9 f2
    have g0 := congrArg (fun l : List Value => l[0]?) e0
    have g2 := congrArg (fun l : List Value => l[0]?) e2
    have k1 : Tryd.prog.cellsOf 9 = 1 := cs1
    simp [k1] at g0 g2
    exact ⟨s0, s2, (hcell _).trans g0, (hcell _).trans g2, hs2⟩
  exact ⟨fun n => if hn : n < 40 then ((key n hn).choose_spec.choose.size : Int) else 0, fun n hn => ⟨(key n hn).choose, (key n hn).choose_spec.choose, (key n hn).choose_spec.choose_spec.1, (key n hn).choose_spec.choose_spec.2.1, by simp only [hn, dif_pos], (key n hn).choose_spec.choose_spec.2.2⟩⟩
end Go.Proofs.YtpbapiphafnipaaDoor
