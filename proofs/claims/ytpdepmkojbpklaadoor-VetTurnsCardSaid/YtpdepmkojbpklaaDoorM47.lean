/- trouperef02.look of any term: whether it is right. BEGUN: see NOTES.md. -/
import Derived.Test.YtpdepmkojbpklaaDoorM46
import Derived.BigGuardPart
import Derived.Deep.Light
/- trouperef02.look of any term: whether it is right. BEGUN: see NOTES.md. -/
namespace Go.Proofs.YtpdepmkojbpklaaDoor
set_option linter.unusedVariables false
open Go.RowKit

/-- the last statement of a sequence: what follows gets a name, so that it can be cut around -/
theorem to_then {P : Program} {s : Code} {Q : Exit → Act → World → Prop} {a : Act} {w : World} (h : ∀ K : Act → World → Prop, (∀ a' w', Q .normal a' w' → K a' w') → s.wp P (Exit.then K Q) a w) : s.wp P Q a w := by
  refine wp_mono (h (fun a' w' => Q .normal a' w') (fun _ _ q => q)) ?_
  intro e a' w' hq
  cases e <;> exact hq

set_option maxRecDepth 100000 in
set_option maxHeartbeats 8000000 in
theorem look_succ {h : Nat} (ih : LookIs h) : LookIs (h + 1) := by
  intro F T w cs b l n d hT hg hl hn hnl hd1 hd2 hFb
  have hT' := hT
  obtain ⟨k, tn, s, it, re, bys⟩ := T
  obtain ⟨vi, vr, vb, rfl, hbd, h1, h2, h3⟩ := hT
  obtain ⟨p1, c1, rfl, hcap1, hl1, hel1⟩ := h1
  obtain ⟨p2, c2, rfl, hcap2, hl2, hel2⟩ := h2
  obtain ⟨p3, c3, rfl, hcap3, hl3, hel3⟩ := h3
  have hbl := (Array.getElem?_eq_some_iff.1 hg).1
  obtain ⟨w1, hw1⟩ : ∃ w1, w.alloc (.cells #[.int .i64 k, .int .i64 tn, .string s, .slice p1 it.length c1, .slice p2 re.length c2, .slice p3 bys.length c3] 35) = w1 := ⟨_, rfl⟩
  have hk1 : Kp (fun _ => False) w w1 := by rw [← hw1]; exact (Kp.refl _ w).alloc _
  have hr0 : w1.heap[w.heap.size]? = some (.cells #[.int .i64 k, .int .i64 tn, .string s, .slice p1 it.length c1, .slice p2 re.length c2, .slice p3 bys.length c3] 35 (0, 0)) := by rw [← hw1]; exact heap_alloc_new w _
  have hg1 : w1.heap[b]? = some (lCells l n (.pointer none)) := (hk1.block b hbl (fun e => e)).trans hg
  have hne : w.heap.size ≠ b := by omega
  have H1 := Lib.hid (And.intro hk1 (And.intro hr0 (And.intro hg1 (And.intro hT' (And.intro ih (And.intro hel1 (And.intro hel2 hFb)))))))
  clear hk1 hr0 hg1 hT' ih hel1 hel2 hel3 hg hFb
  go_enter Tryd.func43, Tryd.ntmps43
  have u1 : w1.cell? ⟨b, 1, none⟩ = some (.int .i64 n) := by rw [cell_of_row w1 b 1 _ _ _ H1.out.2.2.1]; rfl
  have u2 : w1.cell? ⟨b, 2, none⟩ = some (.pointer none) := by rw [cell_of_row w1 b 2 _ _ _ H1.out.2.2.1]; rfl
  have u0 : w1.cell? ⟨b, 0, none⟩ = some (.int .i64 l) := by rw [cell_of_row w1 b 0 _ _ _ H1.out.2.2.1]; rfl
  have uf : ∀ j, w1.frozen? ⟨b, j, none⟩ = false := fun j => by simp [World.frozen?, H1.out.2.2.1, lCells]
  have l0 : w1.cell? ⟨w.heap.size, 0, none⟩ = some (.int .i64 k) := by rw [cell_of_row w1 _ 0 _ _ _ H1.out.2.1]; rfl
  have wn : IntKind.i64.wrap (n + 1) = n + 1 := IntWalk.i64_in _ (by omega)
  have wl : IntKind.i64.wrap (l - 1) = l - 1 := IntWalk.i64_in _ (by omega)
  go_upto_if 40 with fail
  obtain ⟨w2, hw2⟩ : ∃ w2, ((w1.setCell ⟨b, 1, none⟩ (.int .i64 (n + 1))).setCell ⟨b, 0, none⟩ (.int .i64 (l - 1))) = w2 := ⟨_, rfl⟩
  rw [hw2]
  have hg2 : w2.heap[b]? = some (lCells (l - 1) (n + 1) (.pointer none)) := by rw [← hw2]; exact (heap_set_same (heap_set_same H1.out.2.2.1 _) _).trans rfl
  have hk2 : Kp (fun q => q = b) w1 w2 := by rw [← hw2]; exact ((Kp.refl (fun q => q = b) w1).setCell _ _ (.inl rfl)).setCell _ _ (.inl rfl)
  have hr2 := (hk2.block _ (Array.getElem?_eq_some_iff.1 H1.out.2.1).1 hne).trans H1.out.2.1
  have hk02 : Kp (fun q => q = b) w w2 := (H1.out.1.mono fun _ _ e => e.elim).trans' hk2
  have H2 := Lib.hid (And.intro hg2 (And.intro hr2 hk02))
  obtain ⟨l2, hl2'⟩ : ∃ l2, (if k = 8 then l - 1 - (bys.length : Int) else l - 1) = l2 := ⟨_, rfl⟩
  have HL2 := Lib.hid hl2'
  clear hg2 hk2 hr2 hk02 hw2 hw1 u0 u1 u2 uf l0 hl2'
  go_cut [6] (fun s6 wx => s6 = .int .i64 n ∧ wx.heap[b]? = some (lCells l2 (n + 1) (.pointer none)) ∧ wx.heap[w.heap.size]? = some (.cells #[.int .i64 k, .int .i64 tn, .string s, .slice p1 it.length c1, .slice p2 re.length c2, .slice p3 bys.length c3] 35 (0, 0)) ∧ Kp (fun q => q = b) w wx)
  case first =>
    by_cases h8 : k = 8
    · have hl3 := HL2.out
      rw [if_pos h8] at hl3
      have HL3 := Lib.hid hl3
      clear hl3
      subst h8
      have u0 : w2.cell? ⟨b, 0, none⟩ = some (.int .i64 (l - 1)) := by rw [cell_of_row w2 b 0 _ _ _ H2.out.1]; rfl
      have uf : w2.frozen? ⟨b, 0, none⟩ = false := by simp [World.frozen?, H2.out.1, lCells]
      have l5 : w2.cell? ⟨w.heap.size, 5, none⟩ = some (.slice p3 bys.length c3) := by rw [cell_of_row w2 _ 5 _ _ _ H2.out.2.1]; rfl
      have wl3 : IntKind.i64.wrap (l - 1 - bys.length) = l - 1 - bys.length := IntWalk.i64_in _ (by omega)
      go_wp2_with fail
      go_still_tail 10, (by kernel_rfl)
      go_wp2_with fail
      go_meet
      have hkx : Kp (fun q => q = b) w2 (w2.drew.setCell ⟨b, 0, none⟩ (.int .i64 (l - 1 - bys.length))) := (Kp.refl (fun q => q = b) w2).drew.setCell _ _ (.inl rfl)
      exact ⟨rfl, by rw [← HL3.out]; exact (heap_set_same (w := w2.drew) H2.out.1 _).trans rfl, (hkx.block _ (Array.getElem?_eq_some_iff.1 H2.out.2.1).1 hne).trans H2.out.2.1, H2.out.2.2.trans' hkx⟩
    · have hl3 := HL2.out
      rw [if_neg h8] at hl3
      go_wp2_with fail
      go_meet
      exact ⟨rfl, by rw [← hl3]; exact H2.out.1, H2.out.2.1, H2.out.2.2⟩
  case rest =>
    obtain ⟨rfl, hg3, hr3, hk3⟩ := hcut
    have e0 : wc.cell? ⟨b, 0, none⟩ = some (.int .i64 l2) := by rw [cell_of_row wc b 0 _ _ _ hg3]; rfl
    have d0 : wc.cell? ⟨w.heap.size, 0, none⟩ = some (.int .i64 k) := by rw [cell_of_row wc _ 0 _ _ _ hr3]; rfl
    have d1 : wc.cell? ⟨w.heap.size, 1, none⟩ = some (.int .i64 tn) := by rw [cell_of_row wc _ 1 _ _ _ hr3]; rfl
    have d2 : wc.cell? ⟨w.heap.size, 2, none⟩ = some (.string s) := by rw [cell_of_row wc _ 2 _ _ _ hr3]; rfl
    have d3 : wc.cell? ⟨w.heap.size, 3, none⟩ = some (.slice p1 it.length c1) := by rw [cell_of_row wc _ 3 _ _ _ hr3]; rfl
    have d4 : wc.cell? ⟨w.heap.size, 4, none⟩ = some (.slice p2 re.length c2) := by rw [cell_of_row wc _ 4 _ _ _ hr3]; rfl
    have d5 : wc.cell? ⟨w.heap.size, 5, none⟩ = some (.slice p3 bys.length c3) := by rw [cell_of_row wc _ 5 _ _ _ hr3]; rfl
    have hnot1 : l2 < 0 → ¬ (tok (201 - d).toNat (.mk k tn s it re bys) ∧ tsz (h + 1) (.mk k tn s it re bys) ≤ l) := by
      intro h0 hx
      have hx2 := hx.2
      have h9 := HL2.out
      rw [show tsz (h + 1) (.mk k tn s it re bys) = 1 + bys.length + (it.map (tsz h)).sum + (re.map (tsz h)).sum from rfl] at hx2
      split at h9 <;> omega
    have H3 := Lib.hid (And.intro hg3 (And.intro hr3 (And.intro hk3 hnot1)))
    clear hg3 hr3 hk3 hnot1
    by_cases hlt : l2 < 0
    · go_wp2_with fail
      refine (lfail_new b l2 (n + 1) n 2 wc H3.out.1).mono ?_
      rintro e w4 ⟨rfl, ⟨p, hp⟩, hk4⟩
      have H4 := Lib.hid (And.intro hp hk4)
      clear hp hk4
      go_wp2_with fail
      refine bodyPost_ret (results_none rfl _ _ _) rfl ?_
      exact ⟨rfl, H3.out.2.2.1.trans' H4.out.2, .inr ⟨H3.out.2.2.2 hlt, _, _, _, H4.out.1⟩⟩
    · by_cases hd : 200 < d
      · go_wp2_with fail
        refine (lfail_new b l2 (n + 1) n 2 wc H3.out.1).mono ?_
        rintro e w4 ⟨rfl, ⟨p, hp⟩, hk4⟩
        have H4 := Lib.hid (And.intro hp hk4)
        clear hp hk4
        go_wp2_with fail
        refine bodyPost_ret (results_none rfl _ _ _) rfl ?_
        exact ⟨rfl, H3.out.2.2.1.trans' H4.out.2, .inr ⟨fun hx => tok_none d hd _ hx.1, _, _, _, H4.out.1⟩⟩
      · go_upto_region 13 with fail
        generalize hm : (tn != 0) = m
        generalize hf : (!s.toList.isEmpty) = f
        generalize hi : decide (0 < it.length) = i
        generalize hr : decide (0 < re.length) = r
        generalize hy : decide (0 < bys.length) = y
        have HM := Lib.hid (fitsK_flags k tn s it re bys hm hf hi hr hy)
        have HR := Lib.hid hr
        have HY := Lib.hid (congrArg Value.bool hy)
        clear hm hf hi hr hy
        go_cut [7, 8, 9, 10, 11] from 63 to 80 (fun s7 s8 s9 s10 s11 wx => s7 = .bool m ∧ s8 = .bool f ∧ s9 = .bool i ∧ s10 = .bool r ∧ s11 = .bool y ∧ wx = wc)
        case first =>
          go_wp2_with fail
          go_meet
          exact ⟨rfl, rfl, rfl, rfl, HY.out, rfl⟩
        case rest =>
        obtain ⟨rfl, rfl, rfl, rfl, rfl, hwc⟩ := hcut
        subst hwc
        go_upto_block 0 with fail
        go_cut [7, 8, 9, 10, 11, 12] (fun s7 s8 s9 s10 s11 s12 wx => s12 = .bool (!fitsK k tn s it re bys) ∧ wx = wc)
        case first =>
          by_cases h1 : k = 1
          · as_aux_lemma =>
            subst h1
            go_upto_region 17 with fail
            refine to_then fun KK hKK => ?_
            go_cut [7, 8, 9, 10, 11, 12] from 85 to 94 (fun s7 s8 s9 s10 s11 s12 wx => s12 = .bool (!fitsK 1 tn s it re bys) ∧ wx = wc)
            case first =>
              go_wp2_with fail
              all_goals (go_meet; go_light; exact ⟨by rw [HM.out]; simp [*], rfl⟩)
            case rest =>
              obtain ⟨rfl, hwc⟩ := hcut
              subst hwc
              refine hKK _ _ ?_
              go_wp2_with fail
              go_meet
              exact ⟨rfl, rfl⟩
          by_cases h2 : k = 2
          · as_aux_lemma =>
            subst h2
            go_upto_region 19 with fail
            refine to_then fun KK hKK => ?_
            go_cut [7, 8, 9, 10, 11, 12] from 97 to 116 (fun s7 s8 s9 s10 s11 s12 wx => s12 = .bool (!fitsK 2 tn s it re bys) ∧ wx = wc)
            case first =>
              by_cases hqL : 255 < s.size
              · have hq2 : (255 : Int) < s.size := by omega
                go_wp2_with fail
                all_goals (go_meet; go_light; exact ⟨by rw [HM.out]; simp [*], rfl⟩)
              · have hq2 : ¬ (255 : Int) < s.size := by omega
                go_wp2_with fail
                all_goals (go_meet; go_light; exact ⟨by rw [HM.out]; simp [*], rfl⟩)
            case rest =>
              obtain ⟨rfl, hwc⟩ := hcut
              subst hwc
              refine hKK _ _ ?_
              go_wp2_with fail
              go_meet
              exact ⟨rfl, rfl⟩
          by_cases h3 : k = 3
          · as_aux_lemma =>
            subst h3
            go_upto_region 22 with fail
            refine to_then fun KK hKK => ?_
            go_cut [7, 8, 9, 10, 11, 12] from 120 to 139 (fun s7 s8 s9 s10 s11 s12 wx => s12 = .bool (!fitsK 3 tn s it re bys) ∧ wx = wc)
            case first =>
              by_cases hqN0 : tn < 0
              · go_wp2_with fail
                all_goals (go_meet; go_light; exact ⟨by rw [HM.out]; simp [*], rfl⟩)
              · by_cases hqN1 : 1152921504606846976 ≤ tn
                · go_wp2_with fail
                  all_goals (go_meet; go_light; exact ⟨by rw [HM.out]; simp [*], rfl⟩)
                · go_wp2_with fail
                  all_goals (go_meet; go_light; exact ⟨by rw [HM.out]; simp [*], rfl⟩)
            case rest =>
              obtain ⟨rfl, hwc⟩ := hcut
              subst hwc
              refine hKK _ _ ?_
              go_wp2_with fail
              go_meet
              exact ⟨rfl, rfl⟩
          by_cases h4 : k = 4
          · as_aux_lemma =>
            subst h4
            go_upto_region 22 with fail
            refine to_then fun KK hKK => ?_
            go_cut [7, 8, 9, 10, 11, 12] from 120 to 139 (fun s7 s8 s9 s10 s11 s12 wx => s12 = .bool (!fitsK 4 tn s it re bys) ∧ wx = wc)
            case first =>
              by_cases hqN0 : tn < 0
              · go_wp2_with fail
                all_goals (go_meet; go_light; exact ⟨by rw [HM.out]; simp [*], rfl⟩)
              · by_cases hqN1 : 1152921504606846976 ≤ tn
                · go_wp2_with fail
                  all_goals (go_meet; go_light; exact ⟨by rw [HM.out]; simp [*], rfl⟩)
                · go_wp2_with fail
                  all_goals (go_meet; go_light; exact ⟨by rw [HM.out]; simp [*], rfl⟩)
            case rest =>
              obtain ⟨rfl, hwc⟩ := hcut
              subst hwc
              refine hKK _ _ ?_
              go_wp2_with fail
              go_meet
              exact ⟨rfl, rfl⟩
          by_cases h5 : k = 5
          · as_aux_lemma =>
            subst h5
            go_upto_region 24 with fail
            refine to_then fun KK hKK => ?_
            go_cut [7, 8, 9, 10, 11, 12] from 142 to 151 (fun s7 s8 s9 s10 s11 s12 wx => s12 = .bool (!fitsK 5 tn s it re bys) ∧ wx = wc)
            case first =>
              go_wp2_with fail
              all_goals (go_meet; go_light; exact ⟨by rw [HM.out]; simp [*], rfl⟩)
            case rest =>
              obtain ⟨rfl, hwc⟩ := hcut
              subst hwc
              refine hKK _ _ ?_
              go_wp2_with fail
              go_meet
              exact ⟨rfl, rfl⟩
          by_cases h6 : k = 6
          · as_aux_lemma =>
            subst h6
            go_upto_region 26 with fail
            refine to_then fun KK hKK => ?_
            go_cut [7, 8, 9, 10, 11, 12] from 154 to 166 (fun s7 s8 s9 s10 s11 s12 wx => s12 = .bool (!fitsK 6 tn s it re bys) ∧ wx = wc)
            case first =>
              go_wp2_with fail
              all_goals (go_meet; go_light; exact ⟨by rw [HM.out]; simp [*], rfl⟩)
            case rest =>
              obtain ⟨rfl, hwc⟩ := hcut
              subst hwc
              refine hKK _ _ ?_
              go_wp2_with fail
              go_meet
              exact ⟨rfl, rfl⟩
          by_cases h8 : k = 8
          · as_aux_lemma =>
            subst h8
            go_upto_region 30 with fail
            refine to_then fun KK hKK => ?_
            go_cut [7, 8, 9, 10, 11, 12] from 207 to 216 (fun s7 s8 s9 s10 s11 s12 wx => s12 = .bool (!fitsK 8 tn s it re bys) ∧ wx = wc)
            case first =>
              go_wp2_with fail
              all_goals (go_meet; go_light; exact ⟨by rw [HM.out]; simp [*], rfl⟩)
            case rest =>
              obtain ⟨rfl, hwc⟩ := hcut
              subst hwc
              refine hKK _ _ ?_
              go_wp2_with fail
              go_meet
              exact ⟨rfl, rfl⟩
          by_cases h7 : k = 7
          · as_aux_lemma =>
            subst h7
            go_upto_region 28 with fail
            refine to_then fun KK hKK => ?_
            go_cut [7, 8, 9, 10, 11, 12] from 169 to 204 (fun s7 s8 s9 s10 s11 s12 wx => s12 = .bool (!fitsK 7 tn s it re bys) ∧ wx = wc)
            case first =>
              obtain ⟨-, -, -, -, -, -, hel2, hFb⟩ := H1.out
              have hend : ∀ t0, re[0]? = some t0 → ∃ bx off jk, p2 = some ⟨bx, off, none⟩ ∧ wc.cell? ⟨bx, off, none⟩ = some (.int .i64 jk) ∧ endK re = ((jk == 7) || (jk == 6)) := by
                intro t0 h0
                obtain ⟨bx, off, q0, q1, q2, q3, q4, q5, e, hbF, a0, a1, a2, a3, a4, a5, htT⟩ := hel2 0 t0 h0
                cases h with
                | zero => exact htT.elim
                | succ h =>
                  obtain ⟨jk, jn, js, jit, jre, jbys⟩ := t0
                  obtain ⟨vi, vr, vb, e2, _⟩ := htT
                  injection e2 with e2 _
                  subst e2
                  rw [Nat.zero_mul, Nat.add_zero] at a0
                  refine ⟨bx, off, jk, e, cells_kp H3.out.2.2.1 (F := F) hFb _ _ _ hbF a0, ?_⟩
                  match re, h0 with
                  | _ :: _, h0 => obtain rfl := Option.some.inj h0; rfl
              have HE := Lib.hid hend
              clear hend hel2 hFb
              by_cases hq1 : 1 < re.length
              · have hq2 : (1 : Int) < re.length := by omega
                go_wp2_with fail
                all_goals (go_meet; go_light; exact ⟨by rw [HM.out]; simp [*], rfl⟩)
              · have hq2 : ¬ (1 : Int) < re.length := by omega
                have hr := HR.out
                cases r
                · clear hr
                  go_wp2_with fail
                  all_goals (go_meet; go_light; exact ⟨by rw [HM.out]; simp [*], rfl⟩)
                · have hr0 : 0 < re.length := by simpa using hr
                  obtain ⟨bx, off, jk, rfl, x0, he⟩ := HE.out re[0] (List.getElem?_eq_getElem hr0)
                  have hr1 : (0 : Int) < re.length := by omega
                  have HK := Lib.hid he
                  clear he hr
                  by_cases h77 : jk = 7
                  · subst h77
                    go_wp2_with fail
                    all_goals (go_meet; go_light; exact ⟨by rw [HM.out]; simp [*, HK.out], rfl⟩)
                  · by_cases h66 : jk = 6
                    · subst h66
                      go_wp2_with fail
                      all_goals (go_meet; go_light; exact ⟨by rw [HM.out]; simp [*, HK.out], rfl⟩)
                    · go_wp2_with fail
                      all_goals (go_meet; go_light; exact ⟨by rw [HM.out]; simp [*, HK.out], rfl⟩)
            case rest =>
              obtain ⟨rfl, hwc⟩ := hcut
              subst hwc
              refine hKK _ _ ?_
              go_wp2_with fail
              go_meet
              exact ⟨rfl, rfl⟩
          · go_wp2_with fail
            go_meet
            go_light
            exact ⟨by rw [HM.out]; simp [*], rfl⟩
        case rest =>
          obtain ⟨rfl, hwc⟩ := hcut
          subst hwc
          have hd3 : d ≤ 200 := by omega
          obtain ⟨B, hB⟩ : ∃ B, (!fitsK k tn s it re bys) = B := ⟨_, rfl⟩
          rw [hB]
          have HB := Lib.hid hB
          clear hB HM HR
          cases B
          · have hfit : fitsK k tn s it re bys = true := by simpa using HB.out
            have HF := Lib.hid hfit
            clear hfit d0 d1 d2 d5 e0
            have hl20 : 0 ≤ l2 := by omega
            have hs0 : LAt wc b l2 True := .inl ⟨trivial, hl20, n + 1, H3.out.1, by omega, by have := HL2.out; split at this <;> omega⟩
            have H4 := Lib.hid (And.intro hs0 H3.out.2.2.1)
            have hw3 : IntKind.i64.wrap (d + 1) = d + 1 := IntWalk.i64_in _ (by omega)
            clear hs0
            go_wp2_with fail
            go_loopg [13] it.length (fun gk ii wr => ∃ j : Nat, j ≤ it.length ∧ gk = it.length - j ∧ ii = Value.int .i64 j ∧ Kp (fun q => q = b) w wr ∧ wr.heap[w.heap.size]? = some (.cells #[.int .i64 k, .int .i64 tn, .string s, .slice p1 it.length c1, .slice p2 re.length c2, .slice p3 bys.length c3] 35 (0, 0)) ∧ LAt wr b (l2 - ((it.take j).map (tsz h)).sum) (∀ t ∈ it.take j, tok (200 - d).toNat t))
            case atStart => exact ⟨0, by omega, rfl, rfl, H4.out.2, H3.out.2.1, by simpa using H4.out.1⟩
            case round =>
              obtain ⟨j, hj, rfl, rfl, hkr, hrr, hsr⟩ := hrel
              have dr : wr.cell? ⟨w.heap.size, 3, none⟩ = some (.slice p1 it.length c1) := by rw [cell_of_row wr _ 3 _ _ _ hrr]; rfl
              by_cases hlt : j < it.length
              · obtain ⟨tj, htj⟩ : ∃ tj, it[j]? = some tj := ⟨it[j], List.getElem?_eq_getElem hlt⟩
                obtain ⟨-, -, -, -, ih, hel1, hel2, hFb⟩ := H1.out
                obtain ⟨bx, off, q0, q1, q2, q3, q4, q5, rfl, hbF, a0, a1, a2, a3, a4, a5, htT⟩ := hel1 j tj htj
                obtain ⟨jk, jn, js, ja, jl, jc, ja2, jl2, jd, ja3, jl3, je, hq⟩ := htT.form
                simp only [List.cons.injEq, and_true] at hq
                obtain ⟨rfl, rfl, rfl, rfl, rfl, rfl⟩ := hq
                have kc : ∀ i u, w.cell? ⟨bx, i, none⟩ = some u → wr.cell? ⟨bx, i, none⟩ = some u := fun i u e => cells_kp hkr (F := F) hFb bx i u hbF e
                have x0 := kc _ _ a0
                have x1 := kc _ _ a1
                have x2 := kc _ _ a2
                have x3 := kc _ _ a3
                have x4 := kc _ _ a4
                have x5 := kc _ _ a5
                have hli : (j : Int) < it.length := by omega
                have hwj : IntKind.i64.wrap ((j : Int) + 1) = ((j + 1 : Nat) : Int) := by rw [IntWalk.i64_in _ (by omega)]; omega
                have HC := Lib.hid (look_next ih (htT.kp hkr hFb) hsr hd1 hd3 hFb)
                have Hr := Lib.hid (And.intro hkr hrr)
                have Hj := Lib.hid htj
                clear kc a0 a1 a2 a3 a4 a5 htT hkr hrr hsr ih hel1 hel2 hFb htj
                go_wp2_with fail
                refine HC.out.mono ?_
                rintro e w5 ⟨rfl, hk5, hs5⟩
                have hr5 := (hk5.block _ (Array.getElem?_eq_some_iff.1 Hr.out.2).1 hne).trans Hr.out.2
                have H5 := Lib.hid (And.intro (Hr.out.1.trans' hk5) (And.intro hr5 hs5))
                clear hk5 hr5 hs5 x0 x1 x2 x3 x4 x5 dr
                go_wp2_with fail
                go_roundg (it.length - (j + 1))
                case measure => omega
                case rel => exact ⟨j + 1, by omega, rfl, by go_num, H5.out.1, H5.out.2.1, by
                  have := H5.out.2.2
                  rw [sum_take_succ (tsz h) Hj.out, all_next Hj.out]
                  rw [show l2 - (((it.take j).map (tsz h)).sum + tsz h tj : Nat) = l2 - ((it.take j).map (tsz h)).sum - tsz h tj by omega]
                  exact this⟩
              · obtain rfl : it.length = j := by omega
                rw [List.take_length] at hsr
                have H6 := Lib.hid (And.intro hkr (And.intro hrr hsr))
                clear hkr hrr hsr
                go_wp2_with fail
                go_loopg [14] re.length (fun gk ii wr => ∃ j : Nat, j ≤ re.length ∧ gk = re.length - j ∧ ii = Value.int .i64 j ∧ Kp (fun q => q = b) w wr ∧ wr.heap[w.heap.size]? = some (.cells #[.int .i64 k, .int .i64 tn, .string s, .slice p1 it.length c1, .slice p2 re.length c2, .slice p3 bys.length c3] 35 (0, 0)) ∧ LAt wr b (l2 - (it.map (tsz h)).sum - ((re.take j).map (tsz h)).sum) ((∀ t ∈ it, tok (200 - d).toNat t) ∧ ∀ t ∈ re.take j, tok (200 - d).toNat t))
                case atStart => exact ⟨0, by omega, rfl, rfl, H6.out.1, H6.out.2.1, by simpa using H6.out.2.2⟩
                case round =>
                  obtain ⟨j, hj, rfl, rfl, hkr, hrr, hsr⟩ := hrel
                  have dr : wr.cell? ⟨w.heap.size, 4, none⟩ = some (.slice p2 re.length c2) := by rw [cell_of_row wr _ 4 _ _ _ hrr]; rfl
                  by_cases hlt : j < re.length
                  · obtain ⟨tj, htj⟩ : ∃ tj, re[j]? = some tj := ⟨re[j], List.getElem?_eq_getElem hlt⟩
                    obtain ⟨-, -, -, -, ih, hel1, hel2, hFb⟩ := H1.out
                    obtain ⟨bx, off, q0, q1, q2, q3, q4, q5, rfl, hbF, a0, a1, a2, a3, a4, a5, htT⟩ := hel2 j tj htj
                    obtain ⟨jk, jn, js, ja, jl, jc, ja2, jl2, jd, ja3, jl3, je, hq⟩ := htT.form
                    simp only [List.cons.injEq, and_true] at hq
                    obtain ⟨rfl, rfl, rfl, rfl, rfl, rfl⟩ := hq
                    have kc : ∀ i u, w.cell? ⟨bx, i, none⟩ = some u → wr.cell? ⟨bx, i, none⟩ = some u := fun i u e => cells_kp hkr (F := F) hFb bx i u hbF e
                    have x0 := kc _ _ a0
                    have x1 := kc _ _ a1
                    have x2 := kc _ _ a2
                    have x3 := kc _ _ a3
                    have x4 := kc _ _ a4
                    have x5 := kc _ _ a5
                    have hli : (j : Int) < re.length := by omega
                    have hwj : IntKind.i64.wrap ((j : Int) + 1) = ((j + 1 : Nat) : Int) := by rw [IntWalk.i64_in _ (by omega)]; omega
                    have HC := Lib.hid (look_next ih (htT.kp hkr hFb) hsr hd1 hd3 hFb)
                    have Hr := Lib.hid (And.intro hkr hrr)
                    have Hj := Lib.hid htj
                    clear kc a0 a1 a2 a3 a4 a5 htT hkr hrr hsr ih hel1 hel2 hFb htj
                    go_wp2_with fail
                    refine HC.out.mono ?_
                    rintro e w5 ⟨rfl, hk5, hs5⟩
                    have hr5 := (hk5.block _ (Array.getElem?_eq_some_iff.1 Hr.out.2).1 hne).trans Hr.out.2
                    have H5 := Lib.hid (And.intro (Hr.out.1.trans' hk5) (And.intro hr5 hs5))
                    clear hk5 hr5 hs5 x0 x1 x2 x3 x4 x5 dr
                    go_wp2_with fail
                    go_roundg (re.length - (j + 1))
                    case measure => omega
                    case rel => exact ⟨j + 1, by omega, rfl, by go_num, H5.out.1, H5.out.2.1, by
                      have := H5.out.2.2
                      rw [sum_take_succ (tsz h) Hj.out, all_next Hj.out]
                      rw [show l2 - (it.map (tsz h)).sum - (((re.take j).map (tsz h)).sum + tsz h tj : Nat) = l2 - (it.map (tsz h)).sum - ((re.take j).map (tsz h)).sum - tsz h tj by omega, ← and_assoc]
                      exact this⟩
                  · obtain rfl : re.length = j := by omega
                    rw [List.take_length] at hsr
                    have H6 := Lib.hid (And.intro hkr hsr)
                    clear hkr hsr hrr
                    go_wp2_with fail
                    go_end0
                    exact looked_of H6.out.1 hd3 HF.out HL2.out H6.out.2
          · have hno : ¬ (tok (201 - d).toNat (.mk k tn s it re bys) ∧ tsz (h + 1) (.mk k tn s it re bys) ≤ l) := by
              intro hx
              have h9 : fitsK k tn s it re bys = true := (tok_parts hd3 hx.1).1
              have h10 := HB.out
              rw [h9] at h10
              cases h10
            have HN := Lib.hid hno
            clear hno
            go_wp2_with fail
            refine (lfail_new b l2 (n + 1) n 1 wc H3.out.1).mono ?_
            rintro e w4 ⟨rfl, ⟨p, hp⟩, hk4⟩
            have H4 := Lib.hid (And.intro hp hk4)
            clear hp hk4
            go_wp2_with fail
            refine bodyPost_ret (results_none rfl _ _ _) rfl ?_
            exact ⟨rfl, H3.out.2.2.1.trans' H4.out.2, .inr ⟨HN.out, _, _, _, H4.out.1⟩⟩

end Go.Proofs.YtpdepmkojbpklaaDoor
