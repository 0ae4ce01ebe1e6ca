/- trouperef10.Module of any module: nothing, and it is right; or the chain of what is wrong first. -/
import Derived.Test.YtpdepmkojbpklaaDoorM35
import Derived.Test.YtpdepmkojbpklaaDoorM36
import Derived.Test.YtpdepmkojbpklaaDoorM37
import Derived.Test.YtpdepmkojbpklaaDoorM41
import Derived.Test.YtpdepmkojbpklaaDoorM42
import Derived.BigGuardPart
import Derived.Deep.Light
/- trouperef10.Module of any module: nothing, and it is right; or the chain of what is wrong first. -/
namespace Go.Proofs.YtpdepmkojbpklaaDoor
set_option linter.unusedVariables false
open Go.RowKit

/-- what Right of the reference tells of a term -/
def RRight (hh : Nat) : Prop := ∀ (F : Nat → Prop) (wr : World) (T : Tm) (cs : List Value), TermAt F wr hh T cs →
  Calls Tryd.prog 29 #[.agg cs.toArray] wr fun e w' => ((e = .returned (.pointer none) ∧ tok 200 T ∧ tsz hh T ≤ 65536) ∨ ((∃ p, e = .returned (.pointer (some p))) ∧ ¬ (tok 200 T ∧ tsz hh T ≤ 65536))) ∧ Kp (fun _ => False) wr w'
def SmallM (nm : ByteArray) (lits : List Tm) (fns : List Fn4) : Prop := nm.size ≤ 255 ∧ lits.length ≤ 65536 ∧ 1 ≤ fns.length ∧ fns.length ≤ 256
/-- what the reference's Module tells -/
def MRef (hh : Nat) (nm : ByteArray) (lits : List Tm) (fns : List Fn4) (w : World) (e : Ending) (w' : World) : Prop :=
  ((e = .returned (.pointer none) ∧ RightM rtab hh nm lits fns) ∨ ∃ g, e = .returned (.pointer (some ⟨g, 0, none⟩)) ∧ (¬ (SmallM nm lits fns ∧ ∀ t ∈ lits, tok 200 t ∧ tsz hh t ≤ 65536) ∨
    ∃ L, WhyF rtab lits.length fns L ∧ XCh w' (.pointer (some ⟨g, 0, none⟩)) (Lk.fault modS 0 :: L))) ∧ Kp (fun _ => False) w w'
def headBad (f : Fn4) : Bool := decide (¬ (1 ≤ (f.name.size : Int) ∧ (f.name.size : Int) ≤ 255 ∧ 0 ≤ f.args ∧ f.args ≤ 8 ∧ 0 ≤ f.slots ∧ f.slots ≤ 32 ∧ 1 ≤ (f.code.length : Int) ∧ (f.code.length : Int) ≤ 16384))
theorem head_eq (fns : List Fn4) (i : Nat) (f : Fn4) : (headBad f || vnamed (fns.take i) f.name) = !vhead fns i f := by
  unfold headBad
  by_cases hc : 1 ≤ (f.name.size : Int) ∧ (f.name.size : Int) ≤ 255 ∧ 0 ≤ f.args ∧ f.args ≤ 8 ∧ 0 ≤ f.slots ∧ f.slots ≤ 32 ∧ 1 ≤ (f.code.length : Int) ∧ (f.code.length : Int) ≤ 16384
  · rw [decide_eq_false (fun h => h hc)]
    unfold vhead
    rw [wi_true.2 ⟨hc.1, hc.2.1⟩, wi_true.2 ⟨hc.2.2.1, hc.2.2.2.1⟩, wi_true.2 ⟨hc.2.2.2.2.1, hc.2.2.2.2.2.1⟩, wi_true.2 ⟨hc.2.2.2.2.2.2.1, hc.2.2.2.2.2.2.2⟩]
    cases vnamed (fns.take i) f.name <;> rfl
  · rw [decide_eq_true hc]
    cases hv : vhead fns i f with
    | false => cases vnamed (fns.take i) f.name <;> rfl
    | true =>
      exfalso
      apply hc
      unfold vhead at hv
      simp only [Bool.and_eq_true] at hv
      obtain ⟨⟨a, -⟩, ⟨b, c⟩, d⟩ := hv
      have a := wi_true.1 a
      have b := wi_true.1 b
      have c := wi_true.1 c
      have d := wi_true.1 d
      exact ⟨a.1, a.2, b.1, b.2, c.1, c.2, d.1, d.2⟩
theorem vnamed_next {fns : List Fn4} {k : Nat} {g : Fn4} (h : fns[k]? = some g) (nm : ByteArray) : vnamed (fns.take (k + 1)) nm = (vnamed (fns.take k) nm || decide (g.name = nm)) := by
  unfold vnamed
  rw [List.take_add_one, h]
  simp
theorem lkbad_nz {code : List In4} {p : Nat} {t k : Int} (h : LeastBad code p t k) : k ≠ 0 := stepBad_nz h.steps.2

set_option maxRecDepth 100000 in
set_option maxHeartbeats 16000000 in
theorem rmodule_any {F : Nat → Prop} {w : World} {hh : Nat} {nm : ByteArray} {lits : List Tm} {pl : Option Addr} {nl cl : Nat} {fns : List Fn4} {pf : Option Addr} {nf cf : Nat} (hL : ListAt F w (TermAt F w hh) lits (.slice pl nl cl)) (h : FnsAt F w fns (.slice pf nf cf))
    (hF : ∀ q, F q → q < w.heap.size) (hR : RRight hh) :
    Calls Tryd.prog 19 #[.agg #[.string nm, .slice pl nl cl, .slice pf nf cf]] w (MRef hh nm lits fns w) := by
  have hS := Lib.hid (And.intro hL h)
  obtain ⟨pl', cl', e, l1, l2, l3⟩ := hL
  simp only [Value.slice.injEq] at e
  obtain ⟨rfl, rfl, rfl⟩ := e
  obtain ⟨pf', cf', e, f1, f2, f3⟩ := h
  simp only [Value.slice.injEq] at e
  obtain ⟨rfl, rfl, rfl⟩ := e
  obtain ⟨w1, hw1⟩ : ∃ w1, w.alloc (.cells #[.string nm, .slice pl lits.length cl, .slice pf fns.length cf] 26) = w1 := ⟨_, rfl⟩
  have hk1 : Kp (fun _ => False) w w1 := by rw [← hw1]; exact (Kp.refl _ w).alloc _
  have hb : w1.heap[w.heap.size]? = some (.cells #[.string nm, .slice pl lits.length cl, .slice pf fns.length cf] 26 (0, 0)) := by rw [← hw1]; exact heap_alloc_new w _
  have y0 : w1.cell? ⟨w.heap.size, 0, none⟩ = some (.string nm) := by rw [cell_of_row w1 _ 0 _ _ _ hb]; rfl
  have y1 : w1.cell? ⟨w.heap.size, 1, none⟩ = some (.slice pl lits.length cl) := by rw [cell_of_row w1 _ 1 _ _ _ hb]; rfl
  have y2 : w1.cell? ⟨w.heap.size, 2, none⟩ = some (.slice pf fns.length cf) := by rw [cell_of_row w1 _ 2 _ _ _ hb]; rfl
  have H := Lib.hid (And.intro hF (And.intro hR (And.intro hk1 (And.intro hb (And.intro l3 f3)))))
  clear l1 l2 l3 f1 f2 f3 hF hR hk1 hb
  by_cases hn : (255 : Int) < nm.size
  · as_aux_lemma =>
    go_enter Tryd.func19, Tryd.ntmps19
    go_wp2_with fail
    refine (xk_ch 11 _).mono ?_
    rintro e w2 ⟨g2, rfl, -, hk2⟩
    have H2 := Lib.hid (H.out.2.2.1.trans' hk2)
    clear hk2
    go_wp2_with fail
    refine (xf10_ptr _ _).mono ?_
    rintro e w3 ⟨g3, rfl, hk3⟩
    have H3 := Lib.hid (H2.out.trans' hk3)
    clear hk3
    go_wp2_with fail
    go_ret
    exact ⟨.inr ⟨g3, rfl, .inl fun hs => by have := hs.1.1; have := hs.1.2.1; have := hs.1.2.2.1; have := hs.1.2.2.2; omega⟩, H3.out⟩
  have hn21 : ¬ (255 : Int) < nm.size := hn
  clear hn
  by_cases hn : (65536 : Int) < lits.length
  · as_aux_lemma =>
    go_enter Tryd.func19, Tryd.ntmps19
    go_wp2_with fail
    refine (xk_ch 11 _).mono ?_
    rintro e w2 ⟨g2, rfl, -, hk2⟩
    have H2 := Lib.hid (H.out.2.2.1.trans' hk2)
    clear hk2
    go_wp2_with fail
    refine (xf10_ptr _ _).mono ?_
    rintro e w3 ⟨g3, rfl, hk3⟩
    have H3 := Lib.hid (H2.out.trans' hk3)
    clear hk3
    go_wp2_with fail
    go_ret
    exact ⟨.inr ⟨g3, rfl, .inl fun hs => by have := hs.1.1; have := hs.1.2.1; have := hs.1.2.2.1; have := hs.1.2.2.2; omega⟩, H3.out⟩
  have hn27 : ¬ (65536 : Int) < lits.length := hn
  clear hn
  by_cases hn : (fns.length : Int) < 1
  · as_aux_lemma =>
    go_enter Tryd.func19, Tryd.ntmps19
    go_wp2_with fail
    refine (xk_ch 11 _).mono ?_
    rintro e w2 ⟨g2, rfl, -, hk2⟩
    have H2 := Lib.hid (H.out.2.2.1.trans' hk2)
    clear hk2
    go_wp2_with fail
    refine (xf10_ptr _ _).mono ?_
    rintro e w3 ⟨g3, rfl, hk3⟩
    have H3 := Lib.hid (H2.out.trans' hk3)
    clear hk3
    go_wp2_with fail
    go_ret
    exact ⟨.inr ⟨g3, rfl, .inl fun hs => by have := hs.1.1; have := hs.1.2.1; have := hs.1.2.2.1; have := hs.1.2.2.2; omega⟩, H3.out⟩
  have hn22 : ¬ (fns.length : Int) < 1 := hn
  clear hn
  by_cases hn : (256 : Int) < fns.length
  · as_aux_lemma =>
    go_enter Tryd.func19, Tryd.ntmps19
    go_wp2_with fail
    refine (xk_ch 11 _).mono ?_
    rintro e w2 ⟨g2, rfl, -, hk2⟩
    have H2 := Lib.hid (H.out.2.2.1.trans' hk2)
    clear hk2
    go_wp2_with fail
    refine (xf10_ptr _ _).mono ?_
    rintro e w3 ⟨g3, rfl, hk3⟩
    have H3 := Lib.hid (H2.out.trans' hk3)
    clear hk3
    go_wp2_with fail
    go_ret
    exact ⟨.inr ⟨g3, rfl, .inl fun hs => by have := hs.1.1; have := hs.1.2.1; have := hs.1.2.2.1; have := hs.1.2.2.2; omega⟩, H3.out⟩
  have hn24 : ¬ (256 : Int) < fns.length := hn
  clear hn
  have hsm : SmallM nm lits fns := ⟨by omega, by omega, by omega, by omega⟩
  have HS := Lib.hid hsm
  have hl1 : lits.length ≤ 65536 := by omega
  have hf2 : fns.length ≤ 256 := by omega
  clear hsm
  go_enter Tryd.func19, Tryd.ntmps19
  go_wp2_with fail
  clear y0 y1 y2
  go_loopg [3, 4] lits.length (fun gk jj ee wr => ∃ j : Nat, j ≤ lits.length ∧ gk = lits.length - j ∧ jj = .int .i64 j ∧ (∀ (i : Nat) (t : Tm), i < j → lits[i]? = some t → tok 200 t ∧ tsz hh t ≤ 65536) ∧ Kp (fun _ => False) w1 wr)
  case atStart => exact ⟨0, by omega, rfl, rfl, fun i t hi => by omega, Kp.refl _ _⟩
  case round =>
    obtain ⟨j, hj, hgk, rfl, hlo, hk⟩ := hrel
    have hb6 := (hk.block _ (Array.getElem?_eq_some_iff.1 H.out.2.2.2.1).1 (fun e => e)).trans H.out.2.2.2.1
    have y1 : wr.cell? ⟨w.heap.size, 1, none⟩ = some (.slice pl lits.length cl) := by rw [cell_of_row wr _ 1 _ _ _ hb6]; rfl
    have HB6 := Lib.hid hb6
    clear hb6
    by_cases hlt : j < lits.length
    · as_aux_lemma =>
      obtain ⟨t, hjt⟩ : ∃ t, lits[j]? = some t := ⟨lits[j], List.getElem?_eq_getElem hlt⟩
      obtain ⟨b, off, c0, c1, c2, c3, c4, c5, rfl, hb, a0, a1, a2, a3, a4, a5, hT⟩ := H.out.2.2.2.2.1 j t hjt
      obtain ⟨k, n, s, a, l, c, pa2, pl2, pd, pa3, pl3, pe, hc⟩ := hT.form
      simp only [List.cons.injEq, and_true] at hc
      obtain ⟨rfl, rfl, rfl, rfl, rfl, rfl⟩ := hc
      have hkw := H.out.2.2.1.trans' hk
      have x0 := keeps_cell hkw a0
      have x1 := keeps_cell hkw a1
      have x2 := keeps_cell hkw a2
      have x3 := keeps_cell hkw a3
      have x4 := keeps_cell hkw a4
      have x5 := keeps_cell hkw a5
      have hli : (j : Int) < lits.length := by omega
      have HC := Lib.hid (H.out.2.1 F wr t _ (TermAt.imp (fun _ e => e) (fun b j u _ e => keeps_cell hkw e) _ _ _ hT))
      have H6 := Lib.hid (And.intro hk (And.intro hkw (And.intro hlo hjt)))
      clear hk hkw hb hT a0 a1 a2 a3 a4 a5 hjt hlo
      go_wp2_with fail
      refine HC.out.mono ?_
      rintro e w3 ⟨⟨rfl, hyes⟩ | ⟨⟨p, rfl⟩, hno⟩, hk3⟩
      · have H7 := Lib.hid (And.intro (H6.out.1.trans' hk3) hyes)
        clear hk3 hyes
        go_wp2_with fail
        go_roundg (lits.length - (j + 1))
        case measure => omega
        case rel => exact ⟨j + 1, by omega, rfl, by go_num, fun i t hi ht => by
          rcases Nat.lt_or_ge i j with h1 | h1
          · exact H6.out.2.2.1 i t h1 ht
          · obtain rfl : i = j := by omega
            obtain rfl := Option.some.inj (H6.out.2.2.2.symm.trans ht)
            exact H7.out.2, H7.out.1⟩
      · have H7 := Lib.hid (And.intro (H6.out.2.1.trans' hk3) hno)
        clear hk3 hno
        go_wp2_with fail
        refine (xF_ptr _ _ p _).mono ?_
        rintro e w4 ⟨g4, rfl, hk4⟩
        have H8 := Lib.hid (H7.out.1.trans' hk4)
        clear hk4
        go_wp2_with fail
        refine (xf10_ptr _ _).mono ?_
        rintro e w5 ⟨g5, rfl, hk5⟩
        have H9 := Lib.hid (H8.out.trans' hk5)
        clear hk5
        go_wp2_with fail
        go_ret
        exact ⟨.inr ⟨g5, rfl, .inl fun hs => H7.out.2 (hs.2 t (List.mem_of_getElem? H6.out.2.2.2))⟩, H9.out⟩
    · have hlt' : ¬ (j : Int) < lits.length := by omega
      have hlall : ∀ t ∈ lits, tok 200 t ∧ tsz hh t ≤ 65536 := fun t ht => by
        obtain ⟨i, hi, e⟩ := List.getElem_of_mem ht
        exact hlo i t (by omega) (by rw [List.getElem?_eq_getElem hi, e])
      have HLA := Lib.hid hlall
      have H6 := Lib.hid (H.out.2.2.1.trans' hk)
      clear hlall hlo hk
      go_wp2_with fail
      clear y1
      go_loopg [5, 6, 7, 8, 9, 10, 11, 12, 13] fns.length (fun gk nn s6 s7 s8 s9 s10 s11 s12 s13 wx => ∃ i : Nat, i ≤ fns.length ∧ gk = fns.length - i ∧ nn = .int .i64 i ∧ (∀ (i' : Nat) (f' : Fn4), i' < i → fns[i']? = some f' → FunGoodA rtab lits.length fns i' f') ∧ Kp (fun _ => False) wr wx)
      case atStart => exact ⟨0, by omega, rfl, rfl, fun i f hi => by omega, Kp.refl _ _⟩
      case round =>
        obtain ⟨i, hi, hgk2, rfl, hgo, hkx⟩ := hrel
        obtain ⟨wx, hwx⟩ : ∃ v, v = wr := ⟨_, rfl⟩
        subst hwx
        have hb7 := (hkx.block _ (Array.getElem?_eq_some_iff.1 HB6.out).1 (fun e => e)).trans HB6.out
        have q2 : wx.cell? ⟨w.heap.size, 2, none⟩ = some (.slice pf fns.length cf) := by rw [cell_of_row wx _ 2 _ _ _ hb7]; rfl
        by_cases hlf : i < fns.length
        · obtain ⟨f, hif⟩ : ∃ f, fns[i]? = some f := ⟨fns[i], List.getElem?_eq_getElem hlf⟩
          have hii : (i : Int) < fns.length := by omega
          have hkw := H6.out.trans' hkx
          obtain ⟨b, off, c0, c1, c2, c3, rfl, hbF, a0, a1, a2, a3, vc, hq, hqa, hqs, hqn, hcf⟩ := H.out.2.2.2.2.2 i f hif
          obtain ⟨pc, cc, rfl, hcc, hcm, -⟩ := id hcf
          simp only [List.cons.injEq, and_true] at hq
          obtain ⟨rfl, rfl, rfl, rfl⟩ := hq
          have x0 := keeps_cell hkw a0
          have x1 := keeps_cell hkw a1
          have x2 := keeps_cell hkw a2
          have x3 := keeps_cell hkw a3
          obtain ⟨wa, hwa⟩ : ∃ wa, wx.alloc (.cells #[.string f.name, .int .i64 f.args, .int .i64 f.slots, .slice pc f.code.length cc] 32) = wa := ⟨_, rfl⟩
          have hka : Kp (fun _ => False) wx wa := by rw [← hwa]; exact (Kp.refl _ wx).alloc _
          have hba : wa.heap[wx.heap.size]? = some (.cells #[.string f.name, .int .i64 f.args, .int .i64 f.slots, .slice pc f.code.length cc] 32 (0, 0)) := by rw [← hwa]; exact heap_alloc_new wx _
          have hbm := (hka.block _ (Array.getElem?_eq_some_iff.1 hb7).1 (fun e => e)).trans hb7
          have u0 : wa.cell? ⟨wx.heap.size, 0, none⟩ = some (.string f.name) := by rw [cell_of_row wa _ 0 _ _ _ hba]; rfl
          have u1 : wa.cell? ⟨wx.heap.size, 1, none⟩ = some (.int .i64 f.args) := by rw [cell_of_row wa _ 1 _ _ _ hba]; rfl
          have u2 : wa.cell? ⟨wx.heap.size, 2, none⟩ = some (.int .i64 f.slots) := by rw [cell_of_row wa _ 2 _ _ _ hba]; rfl
          have u3 : wa.cell? ⟨wx.heap.size, 3, none⟩ = some (.slice pc f.code.length cc) := by rw [cell_of_row wa _ 3 _ _ _ hba]; rfl
          obtain ⟨B0, hB0⟩ : ∃ B0, headBad f = B0 := ⟨_, rfl⟩
          have HB0 := Lib.hid hB0
          have H7 := Lib.hid (And.intro (hkw.trans' hka) (And.intro hgo (And.intro (hkx.trans' hka) (And.intro hif (And.intro hcf (And.intro hba hbm))))))
          have HWF := Lib.hid (And.intro hqa (And.intro hqs hqn))
          have hne : w.heap.size ≠ wx.heap.size := by
            have := hka.size
            have := hkw.size
            have := (Array.getElem?_eq_some_iff.1 hb7).1
            omega
          clear hkw hka hgo hkx hif hcf hba hbm hb7 hqa hqs hqn hB0 a0 a1 a2 a3
          go_upto_region 13 with fail
          clear x0 x1 x2 x3 q2 hwa
          go_cut [7] from 69 to 110 (fun s7 wy => s7 = .bool B0 ∧ wy = wa)
          case first =>
            as_aux_lemma =>
            go_wp2_with fail
            all_goals (go_meet; go_light; refine ⟨?_, rfl⟩; rw [← HB0.out]; unfold headBad; first | exact congrArg Value.bool (decide_eq_true (by omega)).symm | exact congrArg Value.bool (decide_eq_decide.2 (by omega)))
          case rest =>
            obtain ⟨rfl, hwc⟩ := hcut
            subst hwc
            clear u1 u2 u3
            go_wp2_with fail
            go_loopg [7, 8] i (fun gk bb kk wy => ∃ k : Nat, k ≤ i ∧ gk = i - k ∧ bb = .bool (B0 || vnamed (fns.take k) f.name) ∧ kk = .int .i64 k ∧ Kp (fun _ => False) wc wy)
            case atStart => exact ⟨0, by omega, by omega, by cases B0 <;> rfl, rfl, Kp.refl _ _⟩
            case round =>
              obtain ⟨k, hk, rfl, rfl, rfl, hky⟩ := hrel
              obtain ⟨wy, hwy⟩ : ∃ v, v = wr := ⟨_, rfl⟩
              subst hwy
              have hby := (hky.block _ (Array.getElem?_eq_some_iff.1 H7.out.2.2.2.2.2.2).1 (fun e => e)).trans H7.out.2.2.2.2.2.2
              have hbx := (hky.block _ (Array.getElem?_eq_some_iff.1 H7.out.2.2.2.2.2.1).1 (fun e => e)).trans H7.out.2.2.2.2.2.1
              by_cases hlk : k < i
              · as_aux_lemma =>
                obtain ⟨g, hg⟩ : ∃ g, fns[k]? = some g := ⟨fns[k]'(by omega), List.getElem?_eq_getElem (by omega)⟩
                obtain ⟨b3, off3, d0, d1, d2, d3, e3, hbF, a0, a1, a2, a3, vc3, hq, -, -, -, hcf3⟩ := H.out.2.2.2.2.2 k g hg
                obtain ⟨pc3, cc3, rfl, -⟩ := id hcf3
                simp only [Option.some.injEq, Addr.mk.injEq, and_true] at e3
                obtain ⟨rfl, rfl⟩ := e3
                simp only [List.cons.injEq, and_true] at hq
                obtain ⟨rfl, rfl, rfl, rfl⟩ := hq
                have hkw := H7.out.1.trans' hky
                have x0 := keeps_cell hkw a0
                have q2 : wy.cell? ⟨w.heap.size, 2, none⟩ = some (.slice (some ⟨b, off, none⟩) fns.length cf) := by rw [cell_of_row wy _ 2 _ _ _ hby]; rfl
                have u0 : wy.cell? ⟨wx.heap.size, 0, none⟩ = some (.string f.name) := by rw [cell_of_row wy _ 0 _ _ _ hbx]; rfl
                have hki : (k : Int) < i := by omega
                have hkf : (k : Int) < fns.length := by omega
                have HN := Lib.hid (vnamed_next hg f.name)
                have HK := Lib.hid hky
                have hdr : ∀ n, Kp (fun _ => False) wc (wy.drewN n) := fun n => kp_drewN hky n
                have HD := Lib.hid hdr
                clear hcf3 a0 a1 a2 a3 hby hbx hkw hky hdr hg
                cases hB : (B0 || vnamed (fns.take k) f.name)
                · have HBK := Lib.hid hB
                  clear hB
                  by_cases hnm : g.name = f.name
                  · have heq : (g.name.toList == f.name.toList) = true := by rw [hnm]; exact beq_self_eq_true _
                    have HV := Lib.hid (show (B0 || vnamed (fns.take (k + 1)) f.name) = true by rw [HN.out, ← Bool.or_assoc, HBK.out, decide_eq_true hnm]; rfl)
                    clear hnm
                    go_wp2_with fail
                    go_quiet (fail)
                    go_wp2_with fail
                    go_roundg (i - (k + 1))
                    case measure => omega
                    case rel => exact ⟨k + 1, by omega, rfl, by rw [HV.out], by go_num, by first | exact HD.out _ | exact HK.out⟩
                  · have heq : (g.name.toList == f.name.toList) = false := vname_ne hnm
                    have HV := Lib.hid (show (B0 || vnamed (fns.take (k + 1)) f.name) = false by rw [HN.out, ← Bool.or_assoc, HBK.out, decide_eq_false hnm]; rfl)
                    clear hnm
                    go_wp2_with fail
                    go_quiet (fail)
                    go_wp2_with fail
                    go_roundg (i - (k + 1))
                    case measure => omega
                    case rel => exact ⟨k + 1, by omega, rfl, by rw [HV.out], by go_num, by first | exact HD.out _ | exact HK.out⟩
                · have HV := Lib.hid (show (B0 || vnamed (fns.take (k + 1)) f.name) = true by rw [HN.out, ← Bool.or_assoc, hB]; rfl)
                  clear hB
                  go_wp2_with fail
                  go_quiet (fail)
                  go_wp2_with fail
                  go_roundg (i - (k + 1))
                  case measure => omega
                  case rel => exact ⟨k + 1, by omega, rfl, by rw [HV.out], by go_num, by first | exact HD.out _ | exact HK.out⟩
              · obtain rfl : k = i := by omega
                have hki : ¬ (k : Int) < k := by omega
                have hV0 : (B0 || vnamed (fns.take k) f.name) = !vhead fns k f := by rw [← HB0.out]; exact head_eq fns k f
                rw [hV0]
                clear hV0
                have hkw := H7.out.1.trans' hky
                have HK := Lib.hid (And.intro hkw (And.intro hky (And.intro hby hbx)))
                clear hkw hky hby hbx hlk
                cases hV : vhead fns k f
                · as_aux_lemma =>
                  have HV := Lib.hid hV
                  clear hV
                  simp only [Bool.not_false]
                  go_wp2_with fail
                  refine (xk_ch 11 _).mono ?_
                  rintro e w5 ⟨g5, rfl, hch5, hk5⟩
                  have H8 := Lib.hid (And.intro hch5 (HK.out.1.trans' hk5))
                  clear hch5 hk5
                  go_wp2_with fail
                  refine (xfun_ch _ H8.out.1).mono ?_
                  rintro e w6 ⟨g6, rfl, hch6, hk6⟩
                  have H9 := Lib.hid (And.intro hch6 (H8.out.2.trans' hk6))
                  clear hch6 hk6
                  go_wp2_with fail
                  go_ret
                  exact ⟨.inr ⟨g6, rfl, .inr ⟨_, ⟨k, f, H7.out.2.2.2.1, H7.out.2.1, .inl ⟨HV.out, rfl⟩⟩, H9.out.1⟩⟩, H9.out.2⟩
                · have HV := Lib.hid hV
                  clear hV
                  simp only [Bool.not_true]
                  go_wp2_with fail
                  have hbds : 0 ≤ f.slots ∧ f.slots ≤ 32 ∧ 1 ≤ f.code.length ∧ f.code.length ≤ 16384 := by
                    have h1 := HV.out
                    unfold vhead at h1
                    simp only [Bool.and_eq_true] at h1
                    obtain ⟨-, ⟨-, c⟩, d⟩ := h1
                    have c := wi_true.1 c
                    have d := wi_true.1 d
                    exact ⟨c.1, c.2, by omega, by omega⟩
                  have hcl : f.code.length ≤ 16384 := hbds.2.2.2
                  have HBD := Lib.hid hbds
                  clear hbds
                  go_loopg [9, 10] f.code.length (fun gk ii ee wz => ∃ p : Nat, p ≤ f.code.length ∧ gk = f.code.length - p ∧ ii = .int .i64 p ∧ (∀ (q : Nat) (x : In4), q < p → f.code[q]? = some x → vcodeA rtab lits.length fns f x = none) ∧ Kp (fun _ => False) wy wz)
                  case atStart => exact ⟨0, by omega, by omega, rfl, fun q x hq => by omega, Kp.refl _ _⟩
                  case round =>
                    obtain ⟨p, hp, rfl, rfl, hall, hkz⟩ := hrel
                    obtain ⟨wz, hwz⟩ : ∃ v, v = wr := ⟨_, rfl⟩
                    subst hwz
                    have hby := (hkz.block _ (Array.getElem?_eq_some_iff.1 HK.out.2.2.1).1 (fun e => e)).trans HK.out.2.2.1
                    have hbx := (hkz.block _ (Array.getElem?_eq_some_iff.1 HK.out.2.2.2).1 (fun e => e)).trans HK.out.2.2.2
                    have u0 : wz.cell? ⟨wx.heap.size, 0, none⟩ = some (.string f.name) := by rw [cell_of_row wz _ 0 _ _ _ hbx]; rfl
                    have u1 : wz.cell? ⟨wx.heap.size, 1, none⟩ = some (.int .i64 f.args) := by rw [cell_of_row wz _ 1 _ _ _ hbx]; rfl
                    have u2 : wz.cell? ⟨wx.heap.size, 2, none⟩ = some (.int .i64 f.slots) := by rw [cell_of_row wz _ 2 _ _ _ hbx]; rfl
                    have u3 : wz.cell? ⟨wx.heap.size, 3, none⟩ = some (.slice pc f.code.length cc) := by rw [cell_of_row wz _ 3 _ _ _ hbx]; rfl
                    have hkwz := HK.out.1.trans' hkz
                    by_cases hlp : p < f.code.length
                    · as_aux_lemma =>
                      have q0 : wz.cell? ⟨w.heap.size, 0, none⟩ = some (.string nm) := by rw [cell_of_row wz _ 0 _ _ _ hby]; rfl
                      have q1 : wz.cell? ⟨w.heap.size, 1, none⟩ = some (.slice pl lits.length cl) := by rw [cell_of_row wz _ 1 _ _ _ hby]; rfl
                      have q2 : wz.cell? ⟨w.heap.size, 2, none⟩ = some (.slice (some ⟨b, off, none⟩) fns.length cf) := by rw [cell_of_row wz _ 2 _ _ _ hby]; rfl
                      obtain ⟨x, hx⟩ : ∃ x, f.code[p]? = some x := ⟨f.code[p], List.getElem?_eq_getElem hlp⟩
                      obtain ⟨pc4, cc4, e4, -, -, hel⟩ := H7.out.2.2.2.2.1
                      simp only [Value.slice.injEq, true_and] at e4
                      obtain ⟨rfl, rfl⟩ := e4
                      obtain ⟨bi, oi, rfl, -, i0, i1, i2, i3, hxw⟩ := hel p x hx
                      have x0 := keeps_cell hkwz i0
                      have x1 := keeps_cell hkwz i1
                      have x2 := keeps_cell hkwz i2
                      have x3 := keeps_cell hkwz i3
                      have hpl : (p : Int) < f.code.length := by omega
                      have HF := Lib.hid (hS.out.2.imp (G := F) (w' := wz.drew) (fun _ e => e) (fun b j u _ e => keeps_cell hkwz e))
                      have HO := Lib.hid (rown_any (w := wz.drew) (nm := nm) (fnm := f.name) (pl := pl) (pc := some ⟨bi, oi, none⟩) (nl := lits.length) (cl := cl) (nc := f.code.length) (cc := cc) (sl := f.slots) (fa := f.args) HF.out x hxw
                        (fun what v u h0 h9 hv => rop_any what h0 h9 hv HBD.out.1 HBD.out.2.1 (by omega) (by omega) (by omega)))
                      have H8 := Lib.hid (And.intro hkz (And.intro hkwz (And.intro hall hx)))
                      obtain ⟨xo, xa, xb, xc⟩ := x
                      clear hby hbx hkz hkwz hall hx hel i0 i1 i2 i3 hxw
                      simp only at x0 x1 x2 x3
                      go_wp2_with fail
                      go_still_tail 7, (by kernel_rfl)
                      go_wp2_with fail
                      refine HO.out.mono ?_
                      rintro e w5 ⟨rfl, hk5⟩
                      have hkz5 : Kp (fun _ => False) wz w5 := ((Kp.refl (fun _ => False) wz).drew).trans' hk5
                      cases hv : vcodeA rtab lits.length fns f ⟨xo, xa, xb, xc⟩ with
                      | none =>
                        have hv' : (vinsA rtab lits.length fns.length f.code.length f.slots ⟨xo, xa, xb, xc⟩ (arOf fns ⟨xo, xa, xb, xc⟩)).getD 0 = 0 := by
                          have : vinsA rtab lits.length fns.length f.code.length f.slots ⟨xo, xa, xb, xc⟩ (arOf fns ⟨xo, xa, xb, xc⟩) = none := hv
                          rw [this]; rfl
                        rw [hv']
                        have H9 := Lib.hid (And.intro hv (H8.out.1.trans' hkz5))
                        clear hv hv' hk5 hkz5
                        go_wp2_with fail
                        go_roundg (f.code.length - (p + 1))
                        case measure => omega
                        case rel => exact ⟨p + 1, by omega, rfl, by go_num, fun q y hq hy => by
                          rcases Nat.lt_or_ge q p with h1 | h1
                          · exact H8.out.2.2.1 q y h1 hy
                          · obtain rfl : q = p := by omega
                            obtain rfl := Option.some.inj (H8.out.2.2.2.symm.trans hy)
                            exact H9.out.1, H9.out.2⟩
                      | some kk =>
                        have hkk : kk ≠ 0 := vinsA_nz hv
                        have hv' : (vinsA rtab lits.length fns.length f.code.length f.slots ⟨xo, xa, xb, xc⟩ (arOf fns ⟨xo, xa, xb, xc⟩)).getD 0 = kk := by
                          have : vinsA rtab lits.length fns.length f.code.length f.slots ⟨xo, xa, xb, xc⟩ (arOf fns ⟨xo, xa, xb, xc⟩) = some kk := hv
                          rw [this]; rfl
                        rw [hv']
                        have H9 := Lib.hid (And.intro hv (H8.out.2.1.trans' hkz5))
                        clear hv hv' hk5 hkz5
                        go_wp2_with fail
                        refine (xk_ch kk _).mono ?_
                        rintro e w6 ⟨g6, rfl, hch6, hk6⟩
                        have H10 := Lib.hid (And.intro hch6 (H9.out.2.trans' hk6))
                        clear hch6 hk6
                        go_wp2_with fail
                        refine (xF_ch atS _ H10.out.1).mono ?_
                        rintro e w7 ⟨g7, rfl, hch7, hk7⟩
                        have H11 := Lib.hid (And.intro hch7 (H10.out.2.trans' hk7))
                        clear hch7 hk7
                        go_wp2_with fail
                        refine (xfun_ch _ H11.out.1).mono ?_
                        rintro e w8 ⟨g8, rfl, hch8, hk8⟩
                        have H12 := Lib.hid (And.intro hch8 (H11.out.2.trans' hk8))
                        clear hch8 hk8
                        go_wp2_with fail
                        go_ret
                        exact ⟨.inr ⟨g8, rfl, .inr ⟨_, ⟨k, f, H7.out.2.2.2.1, H7.out.2.1, .inr ⟨p, kk, ⟨HV.out, .inl ⟨_, H8.out.2.2.2, fun j y hj hy => H8.out.2.2.1 j y hj hy, H9.out.1⟩⟩, rfl⟩⟩, H12.out.1⟩⟩, H12.out.2⟩
                    · as_aux_lemma =>
                      obtain rfl : p = f.code.length := by omega
                      have hpl : ¬ (f.code.length : Int) < f.code.length := by omega
                      have hall' : ∀ (q : Nat) (x : In4), f.code[q]? = some x → vcodeA rtab lits.length fns f x = none := fun q x hq => hall q x (List.getElem?_eq_some_iff.1 hq).1 hq
                      have HW := Lib.hid (rwalk_any (F := F) (w := wz) (po := pc) (cc := cc) f.name f.args f.slots (H7.out.2.2.2.2.1.imp (fun _ e => e) (fun b j u _ e => keeps_cell hkwz e)) (fun q e => Nat.lt_of_lt_of_le (H.out.1 q e) hkwz.size) HBD.out.2.2.1 (by omega) hcc (labOk_fn hall') (fun q x hx => rlab_in (hall' q x hx)))
                      have H8 := Lib.hid (And.intro (HK.out.2.1.trans' hkz) (And.intro hkwz hall'))
                      clear hby hbx hkz hkwz hall hall'
                      go_wp2_with fail
                      refine HW.out.mono ?_
                      rintro e w5 (⟨tg, tc, ts, rfl, -, -, hlr, hk5⟩ | ⟨p, t, kk, rfl, hlb, hk5⟩)
                      · have H9 := Lib.hid (And.intro (LRun.walked hlr) (H8.out.1.trans' hk5))
                        clear hlr hk5
                        go_wp2_with fail
                        go_roundg (fns.length - (k + 1))
                        case measure => omega
                        case rel => exact ⟨k + 1, by omega, rfl, by go_num, fun i' f' hi' hf' => by
                          rcases Nat.lt_or_ge i' k with h1 | h1
                          · exact H7.out.2.1 i' f' h1 hf'
                          · obtain rfl : i' = k := by omega
                            obtain rfl := Option.some.inj (H7.out.2.2.2.1.symm.trans hf')
                            exact ⟨HV.out, H8.out.2.2, _, H9.out.1⟩, H7.out.2.2.1.trans' H9.out.2⟩
                      · have hkk := lkbad_nz hlb
                        have H9 := Lib.hid (And.intro hlb (H8.out.2.1.trans' hk5))
                        clear hlb hk5
                        go_wp2_with fail
                        refine (xk_ch kk _).mono ?_
                        rintro e w6 ⟨g6, rfl, hch6, hk6⟩
                        have H10 := Lib.hid (And.intro hch6 (H9.out.2.trans' hk6))
                        clear hch6 hk6
                        go_wp2_with fail
                        refine (xF_ch atS _ H10.out.1).mono ?_
                        rintro e w7 ⟨g7, rfl, hch7, hk7⟩
                        have H11 := Lib.hid (And.intro hch7 (H10.out.2.trans' hk7))
                        clear hch7 hk7
                        go_wp2_with fail
                        refine (xfun_ch _ H11.out.1).mono ?_
                        rintro e w8 ⟨g8, rfl, hch8, hk8⟩
                        have H12 := Lib.hid (And.intro hch8 (H11.out.2.trans' hk8))
                        clear hch8 hk8
                        go_wp2_with fail
                        go_ret
                        exact ⟨.inr ⟨g8, rfl, .inr ⟨_, ⟨k, f, H7.out.2.2.2.1, H7.out.2.1, .inr ⟨p, kk, ⟨HV.out, .inr ⟨H8.out.2.2, t, H9.out.1.steps.1, H9.out.1.steps.2, H9.out.1⟩⟩, rfl⟩⟩, H12.out.1⟩⟩, H12.out.2⟩
        · have hlf' : ¬ (i : Int) < fns.length := by omega
          have hall : ∀ (i : Nat) (f : Fn4), fns[i]? = some f → FunGoodA rtab lits.length fns i f := fun i f hf => hgo i f (by have := (List.getElem?_eq_some_iff.1 hf).1; omega) hf
          have H9 := Lib.hid (And.intro (H6.out.trans' hkx) hall)
          clear hkx hall hgo hb7
          go_wp2_with fail
          go_ret
          exact ⟨.inl ⟨rfl, ⟨HS.out.1, HS.out.2.1, HS.out.2.2.1, HS.out.2.2.2, HLA.out, H9.out.2⟩⟩, H9.out.1⟩
end Go.Proofs.YtpdepmkojbpklaaDoor
