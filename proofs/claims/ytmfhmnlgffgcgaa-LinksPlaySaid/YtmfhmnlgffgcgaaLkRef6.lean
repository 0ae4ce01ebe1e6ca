/- The document's own net: Linked, Watchers, Watches. -/
import Derived.Test.YtmfhmnlgffgcgaaLkRef5
namespace Go.Proofs.Ytmfhmnlgffgcgaa
open Go.RowKit
set_option linter.unusedVariables false

section
variable {F : Nat → Prop} {w w' : World} {b next : Nat} {v vl vm : Value} {ls : List (Int × Int)} {ms : List Mo} {a x r : Int}
set_option maxRecDepth 100000 in
set_option maxHeartbeats 8000000 in
theorem xlinked_any (h : RNt w b vl vm ls ms next) (hl : ls.length ≤ 8796093022208) :
    Calls Try.prog 22 #[.pointer (some ⟨b, 0, none⟩), .int .i64 a] w (FreshRow w (nbs ls a)) := by
  obtain ⟨po, cp, hvl, hcp, hcp2⟩ := ownsS_form h.lr
  obtain ⟨n, hn⟩ : ∃ n, ls.length = n := ⟨_, rfl⟩
  have HQ := Lib.hid (And.intro h (And.intro hn hl))
  rw [hn] at hvl hcp
  subst hvl
  have hnm : (n : Int) ≤ 8796093022208 := by omega
  have HS : Hid (NewRow w (nbsD (ls.take 0) a) (.slice none 0 0) w) := Lib.hid ⟨Lw.nil w, fun g e => (by cases e), Kp.refl _ w⟩
  clear h hl hn
  go_enter Try.func22, Try.ntmps22
  go_wp2_with fail
  go_loopg [5, 6] n (fun gk s5 s6 wr => ∃ (i : Nat) (lv : Value), i ≤ n ∧ gk = n - i ∧ s5 = lv ∧ s6 = .int .i64 (i : Nat) ∧ Hid (NewRow w (nbsD (ls.take i) a) lv wr))
  case atStart => exact ⟨0, _, by omega, rfl, rfl, rfl, HS⟩
  case round =>
    obtain ⟨i, lv, hi, rfl, hlv, rfl, HR⟩ := hrel
    obtain rfl := hlv.symm
    clear HS
    have hrr := HQ.out.1.same HR.out.2.2
    obtain ⟨c0, -, -, -⟩ := hrr.facts
    by_cases hlt : i < n
    · have hli : (i : Int) < n := by omega
      obtain ⟨p, hp⟩ : ∃ p, ls[i]? = some p := ⟨_, List.getElem?_eq_getElem (by rw [HQ.out.2.1]; exact hlt)⟩
      obtain ⟨g, cap, eg, -, -, q0⟩ := lkC_cell (j := 0) hrr.lr hp rfl
      obtain ⟨g2, cap2, eg2, -, -, q1⟩ := lkC_cell (j := 1) hrr.lr hp rfl
      obtain ⟨rfl, rfl⟩ : po = some ⟨g, 0, none⟩ ∧ cp = cap := by
        injection eg with e1 _ e2
        exact ⟨e1, e2⟩
      obtain rfl : g = g2 := by
        injection eg2 with e1
        injection e1 with e1
        injection e1 with e1
      rw [Nat.add_zero] at q0
      obtain ⟨p1, p2⟩ := p
      have HP_ := Lib.hid hp
      have hmore := nbsD_more (a := a) hp
      obtain ⟨pl, cl, hlf⟩ := HR.out.1.form
      have hln := nbsD_len (ls.take i) a
      rw [List.length_take] at hln
      have hnl := HQ.out.2.1
      have hnx := HQ.out.2.2
      have hlb : (nbsD (ls.take i) a).length + 2 ≤ 17592186044416 := by omega
      obtain ⟨K, hK⟩ : ∃ K, nbsD (ls.take i) a = K := ⟨_, rfl⟩
      rw [hK] at HR hlf hlb hmore
      obtain ⟨k, hk⟩ : ∃ k, K.length = k := ⟨_, rfl⟩
      rw [hk] at hlf hlb
      subst hlf
      have HK := Lib.hid hk
      have HM := Lib.hid hmore
      clear eg eg2 hmore hnl hnx hln hK hk hp
      have F : ∀ w5, Kp (fun _ => False) w w5 → w5.cell? ⟨b, 0, none⟩ = some (.slice (some ⟨g, 0, none⟩) n cp) ∧ w5.cell? ⟨g, i * 2, none⟩ = some (.int .i64 p1) ∧ w5.cell? ⟨g, i * 2 + 1, none⟩ = some (.int .i64 p2) := by
        intro w5 hk5
        have h5 := HQ.out.1.same hk5
        have hF := h5.facts.1
        have hpp : ls[i]? = some (p1, p2) := HP_.out
        obtain ⟨g3, cap3, e3, -, -, r0⟩ := lkC_cell (j := 0) h5.lr hpp rfl
        obtain ⟨g4, cap4, e4, -, -, r1⟩ := lkC_cell (j := 1) h5.lr hpp rfl
        injection e3 with e3
        injection e3 with e3
        injection e3 with e3
        injection e4 with e4
        injection e4 with e4
        injection e4 with e4
        subst e3 e4
        rw [Nat.add_zero] at r0
        exact ⟨hF, r0, r1⟩
      have HF := Lib.hid F
      clear F hrr
      by_cases h1 : p1 = a
      · subst h1
        obtain ⟨ga, ca, wa, hra, hNa⟩ := HR.out.push (by rw [HK.out]; omega) p2
        rw [HK.out] at hra hNa
        have HRa := Lib.hid hra
        have HNa := Lib.hid hNa
        obtain ⟨s0, s1, s2⟩ := HF.out wa hNa.2.2
        clear hra hNa
        by_cases h2 : p2 = p1
        · subst h2
          obtain ⟨gb, cb, wb, hrb, hNb⟩ := HNa.out.push (by rw [List.length_append, HK.out]; simp; omega) p2
          rw [List.length_append, HK.out, List.length_singleton] at hrb hNb
          have HRb := Lib.hid hrb
          have HFin : Hid (NewRow w (nbsD (ls.take (i + 1)) p2) (.slice (some ⟨gb, 0, none⟩) (k + 1 + 1) cb) wb) := Lib.hid (by rw [HM.out, if_pos rfl, ← List.append_assoc]; exact hNb)
          clear hrb hNb HNa HF HM HR
          go_wp2_with (at_builtin; first | (refine wpList_run rfl _ _ 32 rfl (.slice pl k cl) (.slice (some ⟨wr.heap.size, 0, none⟩) 1 1) rfl rfl _ wa HRa.out ?_) | (refine wpList_run rfl _ _ 32 rfl (.slice (some ⟨ga, 0, none⟩) (k + 1) ca) (.slice (some ⟨wa.heap.size, 0, none⟩) 1 1) rfl rfl _ wb HRb.out ?_))
          go_roundg (n - (i + 1))
          case measure => omega
          case rel => exact ⟨i + 1, _, by omega, rfl, rfl, by go_num, HFin⟩
        · have h2b : (p2 == p1) = false := by rw [beq_eq_false_iff_ne]; exact h2
          have HFin : Hid (NewRow w (nbsD (ls.take (i + 1)) p1) (.slice (some ⟨ga, 0, none⟩) (k + 1) ca) wa) := Lib.hid (by rw [HM.out, if_pos rfl, if_neg h2, List.append_nil]; exact HNa.out)
          clear HNa HF HM HR h2
          go_wp2_with (at_builtin; refine wpList_run rfl _ _ 32 rfl (.slice pl k cl) (.slice (some ⟨wr.heap.size, 0, none⟩) 1 1) rfl rfl _ wa HRa.out ?_)
          go_roundg (n - (i + 1))
          case measure => omega
          case rel => exact ⟨i + 1, _, by omega, rfl, rfl, by go_num, HFin⟩
      · have h1b : (p1 == a) = false := by rw [beq_eq_false_iff_ne]; exact h1
        by_cases h2 : p2 = a
        · subst h2
          obtain ⟨ga, ca, wa, hra, hNa⟩ := HR.out.push (by rw [HK.out]; omega) p1
          rw [HK.out] at hra hNa
          have HRa := Lib.hid hra
          have HFin : Hid (NewRow w (nbsD (ls.take (i + 1)) p2) (.slice (some ⟨ga, 0, none⟩) (k + 1) ca) wa) := Lib.hid (by rw [HM.out, if_neg h1, if_pos rfl, List.nil_append]; exact hNa)
          clear hra hNa HF HM HR h1
          go_wp2_with (at_builtin; refine wpList_run rfl _ _ 32 rfl (.slice pl k cl) (.slice (some ⟨wr.heap.size, 0, none⟩) 1 1) rfl rfl _ wa HRa.out ?_)
          go_roundg (n - (i + 1))
          case measure => omega
          case rel => exact ⟨i + 1, _, by omega, rfl, rfl, by go_num, HFin⟩
        · have h2b : (p2 == a) = false := by rw [beq_eq_false_iff_ne]; exact h2
          have HFin : Hid (NewRow w (nbsD (ls.take (i + 1)) a) (.slice pl k cl) wr) := Lib.hid (by rw [HM.out, if_neg h1, if_neg h2, List.append_nil, List.append_nil]; exact HR.out)
          clear HF HM HR h1 h2
          go_wp2_with fail
          go_roundg (n - (i + 1))
          case measure => omega
          case rel => exact ⟨i + 1, _, by omega, rfl, rfl, by go_num, HFin⟩
    · obtain rfl : i = n := by omega
      have hall : nbsD (ls.take i) a = colOf (both ls) a := by rw [List.take_of_length_le (by rw [HQ.out.2.1]; exact Nat.le_refl _), nbsD_perm]
      have hR := HR.out
      rw [hall] at hR
      have hb := nbsD_len ls a
      rw [nbsD_perm] at hb
      have HX := Lib.hid (xsorted_any hR.1 (by have := HQ.out.2.2; omega))
      have HR2 := Lib.hid hR
      clear hrr hall hR hb HR
      go_wp2_with fail
      refine HX.out.mono ?_
      rintro e w9 ⟨rfl, k1, k2⟩
      have HF : Hid (FreshRow w (nbs ls a) (.returned lv) w9) := Lib.hid ⟨lv, rfl, k1, HR2.out.2.1, HR2.out.2.2.trans (k2.mono fun q hq e => .inr ⟨HR2.out.2.1 q e, hq⟩)⟩
      clear k1 k2 HX
      go_wp2_with fail
      go_ret
      exact HF.out
def obsD (ms : List Mo) (a : Int) : List Int := (ms.filter fun m => decide (m.whom = a)).map Mo.ref
theorem obsD_eq (h : MoOk next ms) (a : Int) : obsD ms a = obs ms a := by
  have h1 : obsD ms a = colOf (byWhom ms) a := by
    unfold obsD colOf byWhom
    rw [List.filter_map, List.map_map]
    rfl
  rw [h1]
  exact (srt_self (whom_sorted h a)).symm
theorem obsD_more {i : Nat} {m : Mo} (hi : ms[i]? = some m) : obsD (ms.take (i + 1)) a = obsD (ms.take i) a ++ (if m.whom = a then [m.ref] else []) := by
  obtain ⟨hj, hjx⟩ := List.getElem?_eq_some_iff.1 hi
  rw [List.take_succ_eq_append_getElem hj, hjx]
  unfold obsD
  rw [List.filter_append, List.map_append]
  congr 1
  by_cases h : m.whom = a <;> simp [h]
theorem obsD_len (ms : List Mo) (a : Int) : (obsD ms a).length ≤ ms.length := by
  unfold obsD
  rw [List.length_map]
  exact List.length_filter_le _ _
set_option maxRecDepth 100000 in
set_option maxHeartbeats 8000000 in
theorem xwatchers_any (h : RNt w b vl vm ls ms next) (hok : MoOk next ms) (hl : ms.length ≤ 5864062014805) :
    Calls Try.prog 27 #[.pointer (some ⟨b, 0, none⟩), .int .i64 a] w (FreshRow w (obs ms a)) := by
  obtain ⟨po, cp, hvl, hcp, hcp2⟩ := ownsS_form h.mr
  obtain ⟨n, hn⟩ : ∃ n, ms.length = n := ⟨_, rfl⟩
  have HQ := Lib.hid (And.intro h (And.intro hn (And.intro hl hok)))
  rw [hn] at hvl hcp
  subst hvl
  have hnm : (n : Int) ≤ 5864062014805 := by omega
  have HS : Hid (NewRow w (obsD (ms.take 0) a) (.slice none 0 0) w) := Lib.hid ⟨Lw.nil w, fun g e => (by cases e), Kp.refl _ w⟩
  clear h hl hn hok
  go_enter Try.func27, Try.ntmps27
  go_wp2_with fail
  go_loopg [5, 6] n (fun gk s5 s6 wr => ∃ (i : Nat) (lv : Value), i ≤ n ∧ gk = n - i ∧ s5 = lv ∧ s6 = .int .i64 (i : Nat) ∧ Hid (NewRow w (obsD (ms.take i) a) lv wr))
  case atStart => exact ⟨0, _, by omega, rfl, rfl, rfl, HS⟩
  case round =>
    obtain ⟨i, lv, hi, rfl, hlv, rfl, HR⟩ := hrel
    obtain rfl := hlv.symm
    clear HS
    have hrr := HQ.out.1.same HR.out.2.2
    obtain ⟨-, c0, -, -⟩ := hrr.facts
    by_cases hlt : i < n
    · have hli : (i : Int) < n := by omega
      obtain ⟨p, hp⟩ : ∃ p, ms[i]? = some p := ⟨_, List.getElem?_eq_getElem (by rw [HQ.out.2.1]; exact hlt)⟩
      obtain ⟨g, cap, eg, -, -, q0⟩ := moC_cell (j := 0) hrr.mr hp rfl
      obtain ⟨g2, cap2, eg2, -, -, q1⟩ := moC_cell (j := 2) hrr.mr hp rfl
      obtain ⟨rfl, rfl⟩ : po = some ⟨g, 0, none⟩ ∧ cp = cap := by
        injection eg with e1 _ e2
        exact ⟨e1, e2⟩
      obtain rfl : g = g2 := by
        injection eg2 with e1
        injection e1 with e1
        injection e1 with e1
      rw [Nat.add_zero] at q0
      have hmore := obsD_more (a := a) hp
      obtain ⟨p1, p0, p2⟩ := p
      obtain ⟨pl, cl, hlf⟩ := HR.out.1.form
      have hln := obsD_len (ms.take i) a
      rw [List.length_take] at hln
      have hnl := HQ.out.2.1
      have hnx := HQ.out.2.2.1
      have hlb : (obsD (ms.take i) a).length + 2 ≤ 17592186044416 := by omega
      obtain ⟨K, hK⟩ : ∃ K, obsD (ms.take i) a = K := ⟨_, rfl⟩
      rw [hK] at HR hlf hlb hmore
      obtain ⟨k, hk⟩ : ∃ k, K.length = k := ⟨_, rfl⟩
      rw [hk] at hlf hlb
      subst hlf
      have HK := Lib.hid hk
      have HM := Lib.hid hmore
      clear eg eg2 hmore hnl hnx hln hK hk hp hrr
      by_cases h2 : p2 = a
      · subst h2
        obtain ⟨ga, ca, wa, hra, hNa⟩ := HR.out.push (by rw [HK.out]; omega) p1
        rw [HK.out] at hra hNa
        have HRa := Lib.hid hra
        have HFin : Hid (NewRow w (obsD (ms.take (i + 1)) p2) (.slice (some ⟨ga, 0, none⟩) (k + 1) ca) wa) := Lib.hid (by rw [HM.out, if_pos rfl]; exact hNa)
        clear hra hNa HM HR
        go_wp2_with (at_builtin; refine wpList_run rfl _ _ 32 rfl (.slice pl k cl) (.slice (some ⟨wr.heap.size, 0, none⟩) 1 1) rfl rfl _ wa HRa.out ?_)
        go_roundg (n - (i + 1))
        case measure => omega
        case rel => exact ⟨i + 1, _, by omega, rfl, rfl, by go_num, HFin⟩
      · have h2b : (p2 == a) = false := by rw [beq_eq_false_iff_ne]; exact h2
        have HFin : Hid (NewRow w (obsD (ms.take (i + 1)) a) (.slice pl k cl) wr) := Lib.hid (by rw [HM.out, if_neg h2, List.append_nil]; exact HR.out)
        clear HM HR h2
        go_wp2_with fail
        go_roundg (n - (i + 1))
        case measure => omega
        case rel => exact ⟨i + 1, _, by omega, rfl, rfl, by go_num, HFin⟩
    · obtain rfl : i = n := by omega
      have hR := HR.out
      rw [List.take_of_length_le (by rw [HQ.out.2.1]; exact Nat.le_refl _), obsD_eq HQ.out.2.2.2] at hR
      have HF : Hid (FreshRow w (obs ms a) (.returned lv) wr) := Lib.hid ⟨lv, rfl, hR⟩
      clear hrr hR HR
      go_wp2_with fail
      go_ret
      exact HF.out
set_option maxRecDepth 100000 in
set_option maxHeartbeats 8000000 in
theorem xwatches_any (h : RNt w b vl vm ls ms next) (hl : ms.length ≤ 5864062014805) (r : Int) :
    Calls Try.prog 26 #[.pointer (some ⟨b, 0, none⟩), .int .i64 r] w fun e w' => e = .returned (.tuple #[.int .i64 (whoOf (moOf ms r)), .int .i64 (whomOf (moOf ms r)), .bool (moOf ms r).isSome]) ∧ Kp (fun _ => False) w w' := by
  obtain ⟨po, cp, hvl, hcp, hcp2⟩ := ownsS_form h.mr
  obtain ⟨n, hn⟩ : ∃ n, ms.length = n := ⟨_, rfl⟩
  have HQ := Lib.hid (And.intro h hn)
  rw [hn] at hvl hcp
  subst hvl
  have hnm : (n : Int) ≤ 5864062014805 := by omega
  obtain ⟨A, hA⟩ : ∃ A, whoOf (moOf ms r) = A := ⟨_, rfl⟩
  obtain ⟨B, hB⟩ : ∃ B, whomOf (moOf ms r) = B := ⟨_, rfl⟩
  obtain ⟨C, hC⟩ : ∃ C, (moOf ms r).isSome = C := ⟨_, rfl⟩
  rw [hA, hB, hC]
  have HD := Lib.hid (And.intro hA (And.intro hB hC))
  clear h hl hn hA hB hC
  go_enter Try.func26, Try.ntmps26
  go_wp2_with fail
  go_loopg [7] n (fun gk s7 wr => ∃ (i : Nat), i ≤ n ∧ gk = n - i ∧ s7 = .int .i64 (i : Nat) ∧ Hid (moOf (ms.take i) r = none) ∧ w = wr)
  case atStart => exact ⟨0, by omega, rfl, rfl, Lib.hid rfl, rfl⟩
  case round =>
    obtain ⟨i, hi, rfl, rfl, HR, rfl⟩ := hrel
    obtain ⟨-, c0, -, -⟩ := HQ.out.1.facts
    by_cases hlt : i < n
    · have hli : (i : Int) < n := by omega
      obtain ⟨p, hp⟩ : ∃ p, ms[i]? = some p := ⟨_, List.getElem?_eq_getElem (by rw [HQ.out.2]; exact hlt)⟩
      obtain ⟨g, cap, eg, -, -, q0⟩ := moC_cell (j := 0) HQ.out.1.mr hp rfl
      obtain ⟨g2, cap2, eg2, -, -, q1⟩ := moC_cell (j := 1) HQ.out.1.mr hp rfl
      obtain ⟨g3, cap3, eg3, -, -, q2⟩ := moC_cell (j := 2) HQ.out.1.mr hp rfl
      obtain ⟨rfl, rfl⟩ : po = some ⟨g, 0, none⟩ ∧ cp = cap := by
        injection eg with e1 _ e2
        exact ⟨e1, e2⟩
      obtain rfl : g = g2 := by
        injection eg2 with e1
        injection e1 with e1
        injection e1 with e1
      obtain rfl : g = g3 := by
        injection eg3 with e1
        injection e1 with e1
        injection e1 with e1
      rw [Nat.add_zero] at q0
      have hsp : moOf (ms.take (i + 1)) r = if p.ref = r then some p else none := by
        obtain ⟨hj, hjx⟩ := List.getElem?_eq_some_iff.1 hp
        have h1 := HR.out
        unfold moOf at h1 ⊢
        rw [List.take_succ_eq_append_getElem hj, hjx, List.find?_append, h1]
        by_cases h : p.ref = r <;> simp [h]
      have hall : p.ref = r → moOf ms r = some p := fun e => by
        have h1 : ms = ms.take (i + 1) ++ ms.drop (i + 1) := (List.take_append_drop _ _).symm
        rw [if_pos e] at hsp
        unfold moOf at hsp ⊢
        rw [h1, List.find?_append, hsp]
        rfl
      obtain ⟨p1, p0, p2⟩ := p
      have HA := Lib.hid (And.intro hsp hall)
      clear eg eg2 eg3 hp hsp hall
      by_cases h1 : p1 = r
      · subst h1
        have hfin : p0 = A ∧ p2 = B ∧ C = true := by
          obtain ⟨h1, h2, h3⟩ := HD.out
          rw [HA.out.2 rfl] at h1 h2 h3
          exact ⟨h1, h2, h3.symm⟩
        obtain ⟨rfl, rfl, rfl⟩ := hfin
        clear HR HA
        go_wp2_with fail
        go_region
        go_wp2_with fail
        refine bodyPost_ret (v := .tuple #[.int .i64 p0, .int .i64 p2, .bool true]) (by simp [results, Try.results26, go_sem]) rfl ?_
        exact ⟨rfl, (Kp.refl _ w).drew⟩
      · have h1b : (p1 == r) = false := by rw [beq_eq_false_iff_ne]; exact h1
        have HF : Hid (moOf (ms.take (i + 1)) r = none) := Lib.hid (by rw [HA.out.1]; exact if_neg h1)
        clear HR HA h1
        go_wp2_with fail
        go_roundg (n - (i + 1))
        case measure => omega
        case rel => exact ⟨i + 1, by omega, rfl, by go_num, HF, rfl⟩
    · obtain rfl : i = n := by omega
      have hno : moOf ms r = none := by
        have h1 := HR.out
        rwa [List.take_of_length_le (by rw [HQ.out.2]; exact Nat.le_refl _)] at h1
      have hfin : A = 0 ∧ B = 0 ∧ C = false := by
        obtain ⟨h1, h2, h3⟩ := HD.out
        rw [hno] at h1 h2 h3
        exact ⟨h1.symm, h2.symm, h3.symm⟩
      obtain ⟨rfl, rfl, rfl⟩ := hfin
      clear HR hno
      go_wp2_with fail
      refine bodyPost_ret (v := .tuple #[.int .i64 0, .int .i64 0, .bool false]) (by simp [results, Try.results26, go_sem]) rfl ?_
      exact ⟨rfl, Kp.refl _ w⟩
end
end Go.Proofs.Ytmfhmnlgffgcgaa
