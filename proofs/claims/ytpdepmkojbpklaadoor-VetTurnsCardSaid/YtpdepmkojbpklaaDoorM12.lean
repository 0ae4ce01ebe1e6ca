/- container/heap over a heap of places, with its order: up, Push, down, Pop. (As VtUp and VtDown; for the exact place in a walk.) container/heap over a heap of places, with its order: down and Pop. -/
import Derived.Test.YtpdepmkojbpklaaDoorM11
/- container/heap over a heap of places, with its order: up, Push, down, Pop. (As VtUp and VtDown; for the exact place in a walk.) -/
namespace Go.Proofs.YtpdepmkojbpklaaDoor
open Go.RowKit

def gt (l : List Int) : Nat → Int := fun k => l.getD k 0
theorem gt_at {l : List Int} {k : Nat} {x : Int} (h : l[k]? = some x) : gt l k = x := by simp [gt, h]
theorem gt_swap {l : List Int} {i k : Nat} {x y : Int} (hk : l[k]? = some x) (hi : l[i]? = some y) (hik : i ≠ k) : gt ((l.set i x).set k y) = swapF (gt l) i k := by
  have l1 := (List.getElem?_eq_some_iff.1 hi).1
  have l2 := (List.getElem?_eq_some_iff.1 hk).1
  funext q
  unfold swapF
  by_cases hq : q = k
  · subst hq
    rw [if_pos rfl, gt_at hi]
    exact gt_at (by rw [List.getElem?_set_self (by simpa using l2)])
  · rw [if_neg hq]
    by_cases hq2 : q = i
    · subst hq2
      rw [if_pos rfl, gt_at hk]
      exact gt_at (by rw [List.getElem?_set_ne (fun e => hq e.symm), List.getElem?_set_self l1])
    · rw [if_neg hq2]
      simp only [gt, List.getD_eq_getElem?_getD]
      rw [List.getElem?_set_ne (fun e => hq e.symm), List.getElem?_set_ne (fun e => hq2 e.symm)]
set_option maxRecDepth 100000 in
set_option maxHeartbeats 4000000 in
theorem up_hp {w : World} {W : Nat} {c0 c1 : Value} {g cap : Nat} {l : List Int} {j : Nat} (h : PlAt w W c0 c1 g cap l) (hj : j < l.length) (hl : l.length ≤ 1000000) :
    Calls Tryd.prog 74 #[.iface 89 (.pointer (some ⟨W, 2, none⟩)), .int .i64 j] w fun e w' => e = .returned (.tuple #[]) ∧ ∃ l', PlAt w' W c0 c1 g cap l' ∧ Alikes l l' ∧ (UpAt (gt l) l.length j → IsHp (gt l') l'.length) ∧ Kp (fun q => q = g) w w' := by
  have H := Lib.hid (And.intro h (And.intro hj hl))
  clear h hj hl
  go_enter Tryd.func74, Tryd.ntmps74
  go_wp2_with fail
  go_loopg [1, 4] j (fun gk jj i0 wr => ∃ (k : Nat) (l' : List Int), gk = k ∧ jj = .int .i64 k ∧ k < l'.length ∧ PlAt wr W c0 c1 g cap l' ∧ Alikes l l' ∧ (UpAt (gt l) l.length j → UpAt (gt l') l'.length k) ∧ Kp (fun q => q = g) w wr)
  case atStart => exact ⟨j, l, rfl, rfl, H.out.2.1, H.out.1, Alikes.refl l, id, Kp.refl _ w⟩
  case round =>
    obtain ⟨k, l', hgk, rfl, hj, hp, ha, hv, hk⟩ := hrel
    have HV := Lib.hid hv
    clear hv
    have hl' : l'.length ≤ 1000000 := by rw [← ha.1]; exact H.out.2.2
    obtain ⟨f0, f1, f2, ff⟩ := hp.facts
    have hml := m_less _ _ _ f2
    obtain ⟨i, hi⟩ : ∃ i, i = (k - 1) / 2 := ⟨_, rfl⟩
    have HIK := Lib.hid hi
    obtain ⟨x, hx⟩ : ∃ x, l'[k]? = some x := ⟨_, List.getElem?_eq_getElem hj⟩
    obtain ⟨y, hy⟩ : ∃ y, l'[i]? = some y := ⟨_, List.getElem?_eq_getElem (by omega)⟩
    have HP := Lib.hid (And.intro hp (And.intro ha (And.intro hk (And.intro hx (And.intro hy (And.intro hj hl'))))))
    by_cases h0 : k = 0
    · have hq : ((k : Int) - 1).tdiv 2 = k := by subst h0; rfl
      clear hp ha hk f0 f1 f2 ff hx hy hi hml
      go_wp2_with fail
      go_end0
      exact ⟨rfl, l', HP.out.1, HP.out.2.1, fun h => up_stop (HV.out h) (.inl h0), HP.out.2.2.1⟩
    · have hq : ((k : Int) - 1).tdiv 2 = (i : Int) := by
        rw [Int.tdiv_eq_ediv_of_nonneg (by omega), hi]; omega
      have hne : ((i : Int) == (k : Int)) = false := by simp; omega
      have hik : i < k := by omega
      clear hp ha hk hx hy hi f0 f1 f2 ff
      go_wp2_with fail
      refine (less_any HP.out.1.2.2 HP.out.2.2.2.1 HP.out.2.2.2.2.1).mono ?_
      rintro e w2 ⟨rfl, hk2⟩
      have hp2 := HP.out.1.kp hk2 (fun e => e) (fun e => e)
      obtain ⟨f0, f1, f2, ff⟩ := hp2.facts
      have hms := m_swap _ _ _ f2
      have H2 := Lib.hid (And.intro hp2 hk2)
      clear hml hp2 hk2 f0 f1 f2 ff
      by_cases hxy : x < y
      · have hd : decide (x < y) = true := by simpa using hxy
        have HXY := Lib.hid hxy
        clear hxy
        go_wp2_with fail
        refine (swap_any H2.out.1.2.2 HP.out.2.2.2.2.1 HP.out.2.2.2.1).mono ?_
        rintro e w3 ⟨rfl, hi3, hk3⟩
        have hp3 : PlAt w3 W c0 c1 g cap ((l'.set i x).set k y) := ⟨by simpa using (hk3.block W (Array.getElem?_eq_some_iff.1 H2.out.1.1).1 (Ne.symm H2.out.1.2.1)).trans H2.out.1.1, H2.out.1.2.1, hi3⟩
        have H3 := Lib.hid (And.intro hp3 ((HP.out.2.2.1.trans' (H2.out.2.mono fun _ _ e => e.elim)).trans' hk3))
        clear hp3 hi3 hk3
        go_wp2_with fail
        go_roundg i
        case measure => omega
        case rel => exact ⟨i, _, rfl, rfl, by simpa using (by have := HP.out.2.2.2.2.2.1; omega : i < l'.length), H3.out.1, HP.out.2.1.trans (swap_alike HP.out.2.2.2.2.1 HP.out.2.2.2.1), fun h => by
          have hu := HV.out h
          have h1 : gt l' k < gt l' ((k - 1) / 2) := by rw [← HIK.out, gt_at HP.out.2.2.2.1, gt_at HP.out.2.2.2.2.1]; exact HXY.out
          have := up_swap (by omega) HP.out.2.2.2.2.2.1 h1 hu
          rw [← HIK.out] at this
          rw [gt_swap HP.out.2.2.2.1 HP.out.2.2.2.2.1 (by omega)]
          simpa using this, H3.out.2⟩
      · have hd : decide (x < y) = false := by simpa using hxy
        have HXY := Lib.hid hxy
        clear hxy
        go_wp2_with fail
        go_end0
        exact ⟨rfl, l', H2.out.1, HP.out.2.1, fun h => up_stop (HV.out h) (.inr (by rw [← HIK.out, gt_at HP.out.2.2.2.1, gt_at HP.out.2.2.2.2.1]; have := HXY.out; omega)), HP.out.2.2.1.trans' (H2.out.2.mono fun _ _ e => e.elim)⟩

set_option maxRecDepth 100000 in
set_option maxHeartbeats 4000000 in
theorem hpush_hp {w : World} {W : Nat} {c0 c1 : Value} {g cap : Nat} {l : List Int} {x : Int} (h : PlAt w W c0 c1 g cap l) (hl : l.length ≤ 900000) :
    Calls Tryd.prog 67 #[.iface 89 (.pointer (some ⟨W, 2, none⟩)), .iface 3 (.int .i64 x)] w fun e w' => e = .returned (.tuple #[]) ∧ ∃ g' cap' l', PlAt w' W c0 c1 g' cap' l' ∧ Alikes (l ++ [x]) l' ∧ (IsHp (gt l) l.length → IsHp (gt l') l'.length) ∧ (g' = g ∨ w.heap.size ≤ g') ∧ Kp (fun q => q = W ∨ q = g) w w' := by
  have hm := m_push ⟨W, 2, none⟩ w
  have H := Lib.hid (And.intro h hl)
  clear h hl
  go_enter Tryd.func67, Tryd.ntmps67
  go_wp2_with fail
  refine (push_any H.out.1 (by have := H.out.2; omega)).mono ?_
  rintro e w2 ⟨rfl, g', cap', hp2, hg2, hk2⟩
  obtain ⟨l2, hl2⟩ : ∃ l2, l ++ [x] = l2 := ⟨_, rfl⟩
  obtain ⟨n, hn⟩ : ∃ n, l2.length = n + 1 := ⟨l.length, by rw [← hl2]; simp⟩
  have hn2 : n + 1 ≤ 1000000 := by have := H.out.2; rw [← hl2] at hn; simp at hn; omega
  rw [hl2] at hp2
  obtain ⟨f0, f1, f2, ff⟩ := hp2.facts
  have hml := m_len _ _ _ f2
  have hw : wrap64 ((l2.length : Int) - 1) = (n : Int) := by rw [hn]; unfold wrap64; omega
  have H2 := Lib.hid (And.intro hp2 (And.intro hg2 (And.intro hk2 (And.intro hn (And.intro hn2 hl2)))))
  clear hm hp2 hg2 hk2 f0 f1 f2 ff hn hn2 hl2
  go_wp2_with fail
  refine (plen_any _ _ _ _).mono ?_
  rintro e w3 ⟨rfl, rfl⟩
  clear hml
  go_wp2_with fail
  refine Calls.mono (up_hp H2.out.1 (j := n) (by have := H2.out.2.2.2.1; omega) (by have := H2.out.2.2.2; omega)) ?_
  rintro e w4 ⟨rfl, l', hp4, ha4, hv4, hk4⟩
  have HV4 := Lib.hid hv4
  clear hv4
  have H4 := Lib.hid (And.intro hp4 (And.intro ha4 (H2.out.2.2.1.trans (hk4.mono fun q hq e => by
    subst e
    rcases H2.out.2.1 with e | e
    · exact .inl (.inr e)
    · exact .inr ⟨e, hq⟩))))
  clear hp4 ha4 hk4
  go_wp2_with fail
  go_end0
  exact ⟨rfl, g', cap', l', H4.out.1, by rw [H2.out.2.2.2.2.2]; exact H4.out.2.1, fun h => HV4.out (by
    have e1 := H2.out.2.2.2.1
    have e2 := H2.out.2.2.2.2.2
    rw [e1, ← e2]
    have e3 : n = l.length := by rw [← e2] at e1; simpa using e1.symm
    rw [e3]
    refine hp_push (n := l.length) (f := gt (l ++ [x])) fun k k0 kn => ?_
    have e4 : ∀ q, q < l.length → gt (l ++ [x]) q = gt l q := fun q hq => by simp only [gt, List.getD_eq_getElem?_getD]; rw [List.getElem?_append_left hq]
    rw [e4 _ (by omega), e4 _ kn]
    exact h k k0 kn), H2.out.2.1, H4.out.2.2⟩
end Go.Proofs.YtpdepmkojbpklaaDoor

/- container/heap over a heap of places, with its order: down and Pop. -/
namespace Go.Proofs.YtpdepmkojbpklaaDoor
open Go.RowKit

set_option maxRecDepth 100000 in
set_option maxHeartbeats 8000000 in
theorem down_hp {w : World} {W : Nat} {c0 c1 : Value} {g cap : Nat} {l : List Int} {n : Nat} (h : PlAt w W c0 c1 g cap l) (hn : n ≤ l.length) (hl : l.length ≤ 1000000) :
    Calls Tryd.prog 54 #[.iface 89 (.pointer (some ⟨W, 2, none⟩)), .int .i64 0, .int .i64 n] w fun e w' => ∃ b l', e = .returned (.bool b) ∧ PlAt w' W c0 c1 g cap l' ∧ Alikes l l' ∧ (∀ k, n ≤ k → l'[k]? = l[k]?) ∧ (DnAt (gt l) n 0 → IsHp (gt l') n) ∧ Kp (fun q => q = g) w w' := by
  have H := Lib.hid (And.intro h (And.intro hn hl))
  have hnn : n ≤ 1000000 := by omega
  clear h hn hl
  go_enter Tryd.func54, Tryd.ntmps54
  go_wp2_with fail
  go_loopg [7, 8, 9, 10] n (fun gk ii j1 j0 j2 wr => ∃ (i : Nat) (l' : List Int), gk = n - i ∧ ii = .int .i64 i ∧ i ≤ n ∧ PlAt wr W c0 c1 g cap l' ∧ Alikes l l' ∧ (∀ k, n ≤ k → l'[k]? = l[k]?) ∧ (DnAt (gt l) n 0 → DnAt (gt l') n i) ∧ Kp (fun q => q = g) w wr)
  case atStart => exact ⟨0, l, rfl, rfl, by omega, H.out.1, Alikes.refl l, fun _ _ => rfl, id, Kp.refl _ w⟩
  case round =>
    obtain ⟨i, l', hgk, rfl, hi, hp, ha, ht, hv, hk⟩ := hrel
    have HV := Lib.hid hv
    clear hv
    have hi2 : (i : Int) ≤ 1000000 := by omega
    by_cases hbr : n ≤ 2 * i + 1
    · have hc : ((n : Int) ≤ 2 * (i : Int) + 1) := by omega
      have HP := Lib.hid (And.intro hp (And.intro ha (And.intro ht hk)))
      clear hp ha ht hk
      go_wp2_with fail
      go_ret
      exact ⟨_, l', rfl, HP.out.1, HP.out.2.1, HP.out.2.2.1, fun h => dn_stop (HV.out h) (fun q q0 qn qp => by omega), HP.out.2.2.2⟩
    obtain ⟨a, ha0⟩ : ∃ a : Nat, a = 2 * i + 1 := ⟨_, rfl⟩
    have ea : 2 * (i : Int) + 1 = (a : Int) := by omega
    obtain ⟨b, hb0⟩ : ∃ b : Nat, b = a + 1 := ⟨_, rfl⟩
    have eb : (a : Int) + 1 = (b : Int) := by omega
    have HE := Lib.hid (And.intro ea (And.intro eb (And.intro ha0 hb0)))
    have hia : i < a := by omega
    have hab : a < b := by omega
    have han : a < n := by omega
    clear ea eb ha0 hb0
    have hc : ¬ ((n : Int) ≤ 2 * (i : Int) + 1) := by have := HE.out.2.2; omega
    have hc0 : ¬ (2 * (i : Int) + 1 < 0) := by omega
    obtain ⟨x, hx⟩ : ∃ x, l'[i]? = some x := ⟨_, List.getElem?_eq_getElem (by have := ha.1; have := H.out.2.1; omega)⟩
    obtain ⟨f0, f1, f2, ff⟩ := hp.facts
    have hml := m_less _ _ _ f2
    have HP := Lib.hid (And.intro hp (And.intro ha (And.intro ht (And.intro hk (And.intro hx (And.intro han H.out.2.1))))))
    clear hp ha ht hk hx f0 f1 f2 ff
    by_cases hj2 : b < n
    · have HJ2 := Lib.hid hj2
      have hc2 : (2 * (i : Int) + 1 + 1 < (n : Int)) := by have := HE.out.2.2; omega
      obtain ⟨y1, hy1⟩ : ∃ y, l'[a]? = some y := ⟨_, List.getElem?_eq_getElem (by have := HP.out.2.1.1; have := HP.out.2.2.2.2.2; omega)⟩
      obtain ⟨y2, hy2⟩ : ∃ y, l'[b]? = some y := ⟨_, List.getElem?_eq_getElem (by have := HP.out.2.1.1; have := HP.out.2.2.2.2.2; omega)⟩
      have HY2 := Lib.hid (And.intro hy1 hy2)
      clear hy1 hy2
      go_wp2_with fail
      rw [HE.out.1, HE.out.2.1]
      refine (less_any HP.out.1.2.2 HY2.out.2 HY2.out.1).mono ?_
      rintro e w2 ⟨rfl, hk2⟩
      have hp2 := HP.out.1.kp hk2 (fun e => e) (fun e => e)
      obtain ⟨f0, f1, f2, ff⟩ := hp2.facts
      have hml := m_less _ _ _ f2
      have H2 := Lib.hid (And.intro hp2 (HP.out.2.2.2.1.trans' (hk2.mono fun _ _ e => e.elim)))
      clear hp2 hk2 f0 f1 f2 ff
      cases hd1 : decide (y2 < y1)
      · have HD1 := Lib.hid hd1
        go_wp2_with fail
        -- Less(j, i)
        obtain ⟨y, hy⟩ : ∃ y, l'[a]? = some y := ⟨_, List.getElem?_eq_getElem (by have := HP.out.2.2.2.2.2; have := HP.out.2.1.1; omega)⟩
        have HY := Lib.hid hy
        clear hy
        refine (less_any H2.out.1.2.2 HY.out HP.out.2.2.2.2.1).mono ?_
        rintro e w3 ⟨rfl, hk3⟩
        have hp3 := H2.out.1.kp hk3 (fun e => e) (fun e => e)
        obtain ⟨f0, f1, f2, ff⟩ := hp3.facts
        have hms := m_swap _ _ _ f2
        have H3 := Lib.hid (And.intro hp3 (H2.out.2.trans' (hk3.mono fun _ _ e => e.elim)))
        clear hp3 hk3 f0 f1 f2 ff
        cases hd : decide (y < x)
        · have HD := Lib.hid hd
          go_wp2_with fail
          go_ret
          exact ⟨_, l', rfl, H3.out.1, HP.out.2.1, HP.out.2.2.1, fun h => dn_stop (HV.out h) (fun q q0 qn qp => by
            have e1 := gt_at HP.out.2.2.2.2.1
            have e4 := gt_at HY.out
            have e7 := HE.out.2.2.1
            have e8 := HE.out.2.2.2
            have e2 := gt_at HY2.out.1
            have e3 := gt_at HY2.out.2
            have e5 := HD1.out
            simp only [decide_eq_false_iff_not] at e5
            have e6 := HD.out
            simp only [decide_eq_false_iff_not] at e6
            have e9 : q = a ∨ q = b := by omega
            rcases e9 with rfl | rfl <;> omega), H3.out.2⟩
        · have HD := Lib.hid hd
          go_wp2_with fail
          refine (swap_any H3.out.1.2.2 HP.out.2.2.2.2.1 HY.out).mono ?_
          rintro e w4 ⟨rfl, hi4, hk4⟩
          have hp4 : PlAt w4 W c0 c1 g cap ((l'.set i y).set a x) := ⟨by simpa using (hk4.block W (Array.getElem?_eq_some_iff.1 H3.out.1.1).1 (Ne.symm H3.out.1.2.1)).trans H3.out.1.1, H3.out.1.2.1, hi4⟩
          have H4 := Lib.hid (And.intro hp4 (H3.out.2.trans' hk4))
          clear hp4 hi4 hk4 hms
          go_wp2_with fail
          go_roundg (n - a)
          case measure => omega
          case rel => exact ⟨a, _, rfl, rfl, by omega, H4.out.1, HP.out.2.1.trans (swap_alike HP.out.2.2.2.2.1 HY.out), fun q hq => by
            rw [List.getElem?_set_ne (by omega), List.getElem?_set_ne (by omega)]
            exact HP.out.2.2.1 q hq, fun h => by
            have e1 := gt_at HP.out.2.2.2.2.1
            have e4 := gt_at HY.out
            have e7 := HE.out.2.2.1
            have e8 := HE.out.2.2.2
            have e2 := gt_at HY2.out.1
            have e3 := gt_at HY2.out.2
            have e5 := HD1.out
            simp only [decide_eq_false_iff_not] at e5
            have e6 := HD.out
            simp only [decide_eq_true_eq] at e6
            rw [gt_swap HY.out HP.out.2.2.2.2.1 (by omega)]
            refine dn_swap HP.out.2.2.2.2.2.1 (by omega) (by omega) (by omega) (fun q q0 qn qp => ?_) (HV.out h)
            have e9 : q = a ∨ q = b := by omega
            rcases e9 with rfl | rfl <;> omega, H4.out.2⟩
      · have HD1 := Lib.hid hd1
        go_wp2_with fail
        -- Less(j, i)
        obtain ⟨y, hy⟩ : ∃ y, l'[b]? = some y := ⟨_, List.getElem?_eq_getElem (by have := HP.out.2.2.2.2.2; have := HP.out.2.1.1; omega)⟩
        have HY := Lib.hid hy
        clear hy
        refine (less_any H2.out.1.2.2 HY.out HP.out.2.2.2.2.1).mono ?_
        rintro e w3 ⟨rfl, hk3⟩
        have hp3 := H2.out.1.kp hk3 (fun e => e) (fun e => e)
        obtain ⟨f0, f1, f2, ff⟩ := hp3.facts
        have hms := m_swap _ _ _ f2
        have H3 := Lib.hid (And.intro hp3 (H2.out.2.trans' (hk3.mono fun _ _ e => e.elim)))
        clear hp3 hk3 f0 f1 f2 ff
        cases hd : decide (y < x)
        · have HD := Lib.hid hd
          go_wp2_with fail
          go_ret
          exact ⟨_, l', rfl, H3.out.1, HP.out.2.1, HP.out.2.2.1, fun h => dn_stop (HV.out h) (fun q q0 qn qp => by
            have e1 := gt_at HP.out.2.2.2.2.1
            have e4 := gt_at HY.out
            have e7 := HE.out.2.2.1
            have e8 := HE.out.2.2.2
            have e2 := gt_at HY2.out.1
            have e3 := gt_at HY2.out.2
            have e5 := HD1.out
            simp only [decide_eq_true_eq] at e5
            have e6 := HD.out
            simp only [decide_eq_false_iff_not] at e6
            have e9 : q = a ∨ q = b := by omega
            rcases e9 with rfl | rfl <;> omega), H3.out.2⟩
        · have HD := Lib.hid hd
          go_wp2_with fail
          refine (swap_any H3.out.1.2.2 HP.out.2.2.2.2.1 HY.out).mono ?_
          rintro e w4 ⟨rfl, hi4, hk4⟩
          have hp4 : PlAt w4 W c0 c1 g cap ((l'.set i y).set b x) := ⟨by simpa using (hk4.block W (Array.getElem?_eq_some_iff.1 H3.out.1.1).1 (Ne.symm H3.out.1.2.1)).trans H3.out.1.1, H3.out.1.2.1, hi4⟩
          have H4 := Lib.hid (And.intro hp4 (H3.out.2.trans' hk4))
          clear hp4 hi4 hk4 hms
          go_wp2_with fail
          go_roundg (n - b)
          case measure => omega
          case rel => exact ⟨b, _, rfl, rfl, by omega, H4.out.1, HP.out.2.1.trans (swap_alike HP.out.2.2.2.2.1 HY.out), fun q hq => by
            rw [List.getElem?_set_ne (by omega), List.getElem?_set_ne (by omega)]
            exact HP.out.2.2.1 q hq, fun h => by
            have e1 := gt_at HP.out.2.2.2.2.1
            have e4 := gt_at HY.out
            have e7 := HE.out.2.2.1
            have e8 := HE.out.2.2.2
            have e2 := gt_at HY2.out.1
            have e3 := gt_at HY2.out.2
            have e5 := HD1.out
            simp only [decide_eq_true_eq] at e5
            have e6 := HD.out
            simp only [decide_eq_true_eq] at e6
            rw [gt_swap HY.out HP.out.2.2.2.2.1 (by omega)]
            refine dn_swap HJ2.out (by omega) (by omega) (by omega) (fun q q0 qn qp => ?_) (HV.out h)
            have e9 : q = a ∨ q = b := by omega
            rcases e9 with rfl | rfl <;> omega, H4.out.2⟩
    · have hc2n := Lib.hid hj2
      have hc2 : ¬ (2 * (i : Int) + 1 + 1 < (n : Int)) := by have := HE.out.2.2; omega
      have H2 := Lib.hid (And.intro HP.out.1 HP.out.2.2.2.1)
      go_wp2_with fail
      rw [HE.out.1]
      -- Less(j, i)
      obtain ⟨y, hy⟩ : ∃ y, l'[a]? = some y := ⟨_, List.getElem?_eq_getElem (by have := HP.out.2.2.2.2.2; have := HP.out.2.1.1; omega)⟩
      have HY := Lib.hid hy
      clear hy
      refine (less_any H2.out.1.2.2 HY.out HP.out.2.2.2.2.1).mono ?_
      rintro e w3 ⟨rfl, hk3⟩
      have hp3 := H2.out.1.kp hk3 (fun e => e) (fun e => e)
      obtain ⟨f0, f1, f2, ff⟩ := hp3.facts
      have hms := m_swap _ _ _ f2
      have H3 := Lib.hid (And.intro hp3 (H2.out.2.trans' (hk3.mono fun _ _ e => e.elim)))
      clear hp3 hk3 f0 f1 f2 ff
      cases hd : decide (y < x)
      · have HD := Lib.hid hd
        go_wp2_with fail
        go_ret
        exact ⟨_, l', rfl, H3.out.1, HP.out.2.1, HP.out.2.2.1, fun h => dn_stop (HV.out h) (fun q q0 qn qp => by
          have e1 := gt_at HP.out.2.2.2.2.1
          have e4 := gt_at HY.out
          have e7 := HE.out.2.2.1
          have e8 := HE.out.2.2.2
          have e6 := HD.out
          simp only [decide_eq_false_iff_not] at e6
          have e9 : q = a := by have := hc2n.out; omega
          subst e9
          omega), H3.out.2⟩
      · have HD := Lib.hid hd
        go_wp2_with fail
        refine (swap_any H3.out.1.2.2 HP.out.2.2.2.2.1 HY.out).mono ?_
        rintro e w4 ⟨rfl, hi4, hk4⟩
        have hp4 : PlAt w4 W c0 c1 g cap ((l'.set i y).set a x) := ⟨by simpa using (hk4.block W (Array.getElem?_eq_some_iff.1 H3.out.1.1).1 (Ne.symm H3.out.1.2.1)).trans H3.out.1.1, H3.out.1.2.1, hi4⟩
        have H4 := Lib.hid (And.intro hp4 (H3.out.2.trans' hk4))
        clear hp4 hi4 hk4 hms
        go_wp2_with fail
        go_roundg (n - a)
        case measure => omega
        case rel => exact ⟨a, _, rfl, rfl, by omega, H4.out.1, HP.out.2.1.trans (swap_alike HP.out.2.2.2.2.1 HY.out), fun q hq => by
          rw [List.getElem?_set_ne (by omega), List.getElem?_set_ne (by omega)]
          exact HP.out.2.2.1 q hq, fun h => by
          have e1 := gt_at HP.out.2.2.2.2.1
          have e4 := gt_at HY.out
          have e7 := HE.out.2.2.1
          have e8 := HE.out.2.2.2
          have e6 := HD.out
          simp only [decide_eq_true_eq] at e6
          rw [gt_swap HY.out HP.out.2.2.2.2.1 (by omega)]
          refine dn_swap HP.out.2.2.2.2.2.1 (by omega) (by omega) (by omega) (fun q q0 qn qp => ?_) (HV.out h)
          have e9 : q = a := by have := hc2n.out; omega
          subst e9
          omega, H4.out.2⟩

set_option maxRecDepth 100000 in
set_option maxHeartbeats 4000000 in
theorem hpop_hp {w : World} {W : Nat} {c0 c1 : Value} {g cap : Nat} {l : List Int} (h : PlAt w W c0 c1 g cap l) (h0 : l ≠ []) (hl : l.length ≤ 1000000) :
    Calls Tryd.prog 41 #[.iface 89 (.pointer (some ⟨W, 2, none⟩))] w fun e w' => ∃ x l', e = .returned (.iface 3 (.int .i64 x)) ∧ PlAt w' W c0 c1 g cap l' ∧ l.length = l'.length + 1 ∧ (∀ y, y ∈ l ↔ y = x ∨ y ∈ l') ∧ (IsHp (gt l) l.length → IsHp (gt l') l'.length ∧ ∀ y, y ∈ l' → x ≤ y) ∧ Kp (fun q => q = W ∨ q = g) w w' := by
  have hpos := List.length_pos_iff.2 h0
  obtain ⟨n, hn⟩ : ∃ n, l.length = n + 1 := ⟨l.length - 1, by omega⟩
  obtain ⟨f0, f1, f2, ff⟩ := h.facts
  have hml := m_len _ _ _ f2
  obtain ⟨x, hx⟩ : ∃ x, l[0]? = some x := ⟨_, List.getElem?_eq_getElem (by omega)⟩
  obtain ⟨y, hy⟩ : ∃ y, l[n]? = some y := ⟨_, List.getElem?_eq_getElem (by omega)⟩
  have hw : wrap64 ((l.length : Int) - 1) = (n : Int) := by rw [hn]; unfold wrap64; omega
  have H := Lib.hid (And.intro h (And.intro hx (And.intro hy (And.intro hn hl))))
  clear h hx hy hn hl h0 hpos f0 f1 f2 ff
  go_enter Tryd.func41, Tryd.ntmps41
  go_wp2_with fail
  refine (plen_any _ _ _ _).mono ?_
  rintro e w1 ⟨rfl, rfl⟩
  obtain ⟨f0, f1, f2, ff⟩ := H.out.1.facts
  have hms := m_swap _ _ _ f2
  clear hml f0 f1 f2 ff
  go_wp2_with fail
  refine Calls.mono (swap_any H.out.1.2.2 (i := 0) (j := n) H.out.2.1 H.out.2.2.1) ?_
  rintro e w2 ⟨rfl, hi2, hk2⟩
  have hp2 : PlAt w2 W c0 c1 g cap ((l.set 0 y).set n x) := ⟨by simpa using (hk2.block W (Array.getElem?_eq_some_iff.1 H.out.1.1).1 (Ne.symm H.out.1.2.1)).trans H.out.1.1, H.out.1.2.1, hi2⟩
  have H2 := Lib.hid (And.intro hp2 hk2)
  clear hp2 hi2 hk2 hms
  go_wp2_with fail
  refine (down_hp H2.out.1 (n := n) (by simp; have := H.out.2.2.2.1; omega) (by simpa using H.out.2.2.2.2)).mono ?_
  rintro e w3 ⟨b, l3, rfl, hp3, ha3, ht3, hv3, hk3⟩
  have hln : l3.length = n + 1 := by rw [← ha3.1]; simpa using H.out.2.2.2.1
  obtain ⟨l4, z, rfl⟩ : ∃ l4 z, l3 = l4 ++ [z] := ⟨l3.dropLast, l3.getLast (by intro e; simp [e] at hln), (List.dropLast_concat_getLast _).symm⟩
  have hl4 : l4.length = n := by simpa using hln
  have hm := m_pop ⟨W, 2, none⟩ w3
  have H3 := Lib.hid (And.intro hp3 (And.intro ha3 (And.intro hl4 (H2.out.2.trans' hk3))))
  have H3v := Lib.hid (And.intro ht3 hv3)
  clear hp3 ha3 ht3 hv3 hk3 hln hl4
  go_wp2_with fail
  refine (pop_any H3.out.1).mono ?_
  rintro e w4 ⟨rfl, hp4, hk4⟩
  have hk34 : Kp (fun q => q = W ∨ q = g) w w4 := (H3.out.2.2.2.mono fun _ _ e => .inr e).trans' (hk4.mono fun _ _ e => .inl e)
  have H4 := Lib.hid (And.intro hp4 hk34)
  clear hp4 hk4 hk34 hm
  go_wp2_with fail
  go_ret
  refine ⟨z, l4, rfl, H4.out.1, by have := H.out.2.2.2.1; have := H3.out.2.2.1; omega, fun q => ?_, fun h => ?_, H4.out.2⟩
  · rw [(swap_alike H.out.2.1 H.out.2.2.1).2 q, H3.out.2.1.2 q]
    simp [or_comm]
  · have hn := H.out.2.2.2.1
    have hl4 := H3.out.2.2.1
    have hz : z = x := by
      have h1 := H3v.out.1 n (Nat.le_refl _)
      rw [List.getElem?_append_right (by omega), hl4, Nat.sub_self, List.getElem?_set_self (by simp; omega)] at h1
      exact Option.some.inj h1
    have hdn : DnAt (gt ((l.set 0 y).set n x)) n 0 := by
      by_cases h0n : n = 0
      · subst h0n
        exact ⟨fun k k0 kn => by omega, fun k k0 kn => by omega⟩
      · rw [gt_swap H.out.2.2.1 H.out.2.1 (by omega)]
        exact hp_pop (by rw [← hn]; exact h)
    have hh := H3v.out.2 hdn
    refine ⟨fun k k0 kn => ?_, fun q hq => ?_⟩
    · have := hh k k0 (by omega)
      have e4 : ∀ q, q < l4.length → gt (l4 ++ [z]) q = gt l4 q := fun q hq => by simp only [gt, List.getD_eq_getElem?_getD]; rw [List.getElem?_append_left hq]
      rw [e4 _ (by omega), e4 _ kn] at this
      exact this
    · have hql : q ∈ l := by
        rw [(swap_alike H.out.2.1 H.out.2.2.1).2 q, H3.out.2.1.2 q]
        exact List.mem_append_left _ hq
      obtain ⟨k, hk, e⟩ := List.getElem_of_mem hql
      have h2 := hp_least h k hk
      rw [gt_at H.out.2.1, gt_at (show l[k]? = some q by rw [List.getElem?_eq_getElem hk, e])] at h2
      rw [hz]; exact h2
end Go.Proofs.YtpdepmkojbpklaaDoor
