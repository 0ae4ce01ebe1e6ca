/- container/heap over a heap of places: up and Push. container/heap over a heap of places: down and Pop. A heap of numbers, as plain data: up, down, the least first. (Not yet used: for the exact place in a walk.) -/
import Derived.Test.YtpdepmkojbpklaaDoorM10
/- container/heap over a heap of places: up and Push. -/
namespace Go.Proofs.YtpdepmkojbpklaaDoor
open Go.RowKit

theorem m_less (a : Addr) (v : Value) (w : World) (h : w.cell? a = some v) : (Go.method 301 89 (.pointer (some a)) "Less").run Tryd.prog w = .ok (96, v) w := by
  have e : (Go.method 301 89 (.pointer (some a)) "Less").run Tryd.prog w = ((fun v => (96, v)) <$> load a).run Tryd.prog w := by kernel_rfl
  rw [e]
  simp [h, Result.andThen]
theorem m_len (a : Addr) (v : Value) (w : World) (h : w.cell? a = some v) : (Go.method 301 89 (.pointer (some a)) "Len").run Tryd.prog w = .ok (40, v) w := by
  have e : (Go.method 301 89 (.pointer (some a)) "Len").run Tryd.prog w = ((fun v => (40, v)) <$> load a).run Tryd.prog w := by kernel_rfl
  rw [e]
  simp [h, Result.andThen]
theorem m_swap (a : Addr) (v : Value) (w : World) (h : w.cell? a = some v) : (Go.method 301 89 (.pointer (some a)) "Swap").run Tryd.prog w = .ok (97, v) w := by
  have e : (Go.method 301 89 (.pointer (some a)) "Swap").run Tryd.prog w = ((fun v => (97, v)) <$> load a).run Tryd.prog w := by kernel_rfl
  rw [e]
  simp [h, Result.andThen]
theorem m_pop (a : Addr) (w : World) : (Go.method 301 89 (.pointer (some a)) "Pop").run Tryd.prog w = .ok (98, .pointer (some a)) w := by kernel_rfl
theorem m_push (a : Addr) (w : World) : (Go.method 301 89 (.pointer (some a)) "Push").run Tryd.prog w = .ok (99, .pointer (some a)) w := by kernel_rfl
theorem plen_any (w : World) (po : Option Addr) (n c : Nat) : Calls Tryd.prog 40 #[.slice po n c] w fun e w' => e = .returned (.int .i64 n) ∧ w = w' := by
  go_enter Tryd.func40, Tryd.ntmps40
  go_wp2_with fail
  go_ret
  exact ⟨rfl, rfl⟩

set_option maxRecDepth 100000 in
set_option maxHeartbeats 4000000 in
theorem up_any {w : World} {W : Nat} {c0 c1 : Value} {g cap : Nat} {l : List Int} {j : Nat} (h : PlAt w W c0 c1 g cap l) (hj : j < l.length) (hl : l.length ≤ 1000000) :
    Calls Tryd.prog 74 #[.iface 89 (.pointer (some ⟨W, 2, none⟩)), .int .i64 j] w fun e w' => e = .returned (.tuple #[]) ∧ ∃ l', PlAt w' W c0 c1 g cap l' ∧ Alikes l l' ∧ Kp (fun q => q = g) w w' := by
  have H := Lib.hid (And.intro h (And.intro hj hl))
  clear h hj hl
  go_enter Tryd.func74, Tryd.ntmps74
  go_wp2_with fail
  go_loopg [1, 4] j (fun gk jj i0 wr => ∃ (k : Nat) (l' : List Int), gk = k ∧ jj = .int .i64 k ∧ k < l'.length ∧ PlAt wr W c0 c1 g cap l' ∧ Alikes l l' ∧ Kp (fun q => q = g) w wr)
  case atStart => exact ⟨j, l, rfl, rfl, H.out.2.1, H.out.1, Alikes.refl l, Kp.refl _ w⟩
  case round =>
    obtain ⟨k, l', hgk, rfl, hj, hp, ha, hk⟩ := hrel
    have hl' : l'.length ≤ 1000000 := by rw [← ha.1]; exact H.out.2.2
    obtain ⟨f0, f1, f2, ff⟩ := hp.facts
    have hml := m_less _ _ _ f2
    obtain ⟨i, hi⟩ : ∃ i, i = (k - 1) / 2 := ⟨_, rfl⟩
    obtain ⟨x, hx⟩ : ∃ x, l'[k]? = some x := ⟨_, List.getElem?_eq_getElem hj⟩
    obtain ⟨y, hy⟩ : ∃ y, l'[i]? = some y := ⟨_, List.getElem?_eq_getElem (by omega)⟩
    have HP := Lib.hid (And.intro hp (And.intro ha (And.intro hk (And.intro hx (And.intro hy (And.intro hj hl'))))))
    by_cases h0 : k = 0
    · have hq : ((k : Int) - 1).tdiv 2 = k := by subst h0; rfl
      clear hp ha hk f0 f1 f2 ff hx hy hi hml
      go_wp2_with fail
      go_end0
      exact ⟨rfl, l', HP.out.1, HP.out.2.1, HP.out.2.2.1⟩
    · have hq : ((k : Int) - 1).tdiv 2 = (i : Int) := by
        rw [Int.tdiv_eq_ediv_of_nonneg (by omega), hi]; omega
      have hne : ((i : Int) == (k : Int)) = false := by simp; omega
      have hik : i < k := by omega
      clear hp ha hk hx hy hi f0 f1 f2 ff
      go_wp2_with fail
      refine (less_any HP.out.1.2.2 HP.out.2.2.2.1 HP.out.2.2.2.2.1).mono ?_
      rintro e w2 ⟨rfl, hk2⟩
      have hp2 := HP.out.1.kp hk2 (fun e => e) (fun e => e)
      obtain ⟨f0, f1, f2, ff⟩ := hp2.facts
      have hms := m_swap _ _ _ f2
      have H2 := Lib.hid (And.intro hp2 hk2)
      clear hml hp2 hk2 f0 f1 f2 ff
      by_cases hxy : x < y
      · have hd : decide (x < y) = true := by simpa using hxy
        clear hxy
        go_wp2_with fail
        refine (swap_any H2.out.1.2.2 HP.out.2.2.2.2.1 HP.out.2.2.2.1).mono ?_
        rintro e w3 ⟨rfl, hi3, hk3⟩
        have hp3 : PlAt w3 W c0 c1 g cap ((l'.set i x).set k y) := ⟨by simpa using (hk3.block W (Array.getElem?_eq_some_iff.1 H2.out.1.1).1 (Ne.symm H2.out.1.2.1)).trans H2.out.1.1, H2.out.1.2.1, hi3⟩
        have H3 := Lib.hid (And.intro hp3 ((HP.out.2.2.1.trans' (H2.out.2.mono fun _ _ e => e.elim)).trans' hk3))
        clear hp3 hi3 hk3
        go_wp2_with fail
        go_roundg i
        case measure => omega
        case rel => exact ⟨i, _, rfl, rfl, by simpa using (by have := HP.out.2.2.2.2.2.1; omega : i < l'.length), H3.out.1, HP.out.2.1.trans (swap_alike HP.out.2.2.2.2.1 HP.out.2.2.2.1), H3.out.2⟩
      · have hd : decide (x < y) = false := by simpa using hxy
        clear hxy
        go_wp2_with fail
        go_end0
        exact ⟨rfl, l', H2.out.1, HP.out.2.1, HP.out.2.2.1.trans' (H2.out.2.mono fun _ _ e => e.elim)⟩

set_option maxRecDepth 100000 in
set_option maxHeartbeats 4000000 in
theorem hpush_any {w : World} {W : Nat} {c0 c1 : Value} {g cap : Nat} {l : List Int} {x : Int} (h : PlAt w W c0 c1 g cap l) (hl : l.length ≤ 900000) :
    Calls Tryd.prog 67 #[.iface 89 (.pointer (some ⟨W, 2, none⟩)), .iface 3 (.int .i64 x)] w fun e w' => e = .returned (.tuple #[]) ∧ ∃ g' cap' l', PlAt w' W c0 c1 g' cap' l' ∧ Alikes (l ++ [x]) l' ∧ (g' = g ∨ w.heap.size ≤ g') ∧ Kp (fun q => q = W ∨ q = g) w w' := by
  have hm := m_push ⟨W, 2, none⟩ w
  have H := Lib.hid (And.intro h hl)
  clear h hl
  go_enter Tryd.func67, Tryd.ntmps67
  go_wp2_with fail
  refine (push_any H.out.1 (by have := H.out.2; omega)).mono ?_
  rintro e w2 ⟨rfl, g', cap', hp2, hg2, hk2⟩
  obtain ⟨l2, hl2⟩ : ∃ l2, l ++ [x] = l2 := ⟨_, rfl⟩
  obtain ⟨n, hn⟩ : ∃ n, l2.length = n + 1 := ⟨l.length, by rw [← hl2]; simp⟩
  have hn2 : n + 1 ≤ 1000000 := by have := H.out.2; rw [← hl2] at hn; simp at hn; omega
  rw [hl2] at hp2
  obtain ⟨f0, f1, f2, ff⟩ := hp2.facts
  have hml := m_len _ _ _ f2
  have hw : wrap64 ((l2.length : Int) - 1) = (n : Int) := by rw [hn]; unfold wrap64; omega
  have H2 := Lib.hid (And.intro hp2 (And.intro hg2 (And.intro hk2 (And.intro hn (And.intro hn2 hl2)))))
  clear hm hp2 hg2 hk2 f0 f1 f2 ff hn hn2 hl2
  go_wp2_with fail
  refine (plen_any _ _ _ _).mono ?_
  rintro e w3 ⟨rfl, rfl⟩
  clear hml
  go_wp2_with fail
  refine Calls.mono (up_any H2.out.1 (j := n) (by have := H2.out.2.2.2.1; omega) (by have := H2.out.2.2.2; omega)) ?_
  rintro e w4 ⟨rfl, l', hp4, ha4, hk4⟩
  have H4 := Lib.hid (And.intro hp4 (And.intro ha4 (H2.out.2.2.1.trans (hk4.mono fun q hq e => by
    subst e
    rcases H2.out.2.1 with e | e
    · exact .inl (.inr e)
    · exact .inr ⟨e, hq⟩))))
  clear hp4 ha4 hk4
  go_wp2_with fail
  go_end0
  exact ⟨rfl, g', cap', l', H4.out.1, by rw [H2.out.2.2.2.2.2]; exact H4.out.2.1, H2.out.2.1, H4.out.2.2⟩
end Go.Proofs.YtpdepmkojbpklaaDoor

/- container/heap over a heap of places: down and Pop. -/
namespace Go.Proofs.YtpdepmkojbpklaaDoor
open Go.RowKit

set_option maxRecDepth 100000 in
set_option maxHeartbeats 8000000 in
theorem down_any {w : World} {W : Nat} {c0 c1 : Value} {g cap : Nat} {l : List Int} {n : Nat} (h : PlAt w W c0 c1 g cap l) (hn : n ≤ l.length) (hl : l.length ≤ 1000000) :
    Calls Tryd.prog 54 #[.iface 89 (.pointer (some ⟨W, 2, none⟩)), .int .i64 0, .int .i64 n] w fun e w' => ∃ b l', e = .returned (.bool b) ∧ PlAt w' W c0 c1 g cap l' ∧ Alikes l l' ∧ (∀ k, n ≤ k → l'[k]? = l[k]?) ∧ Kp (fun q => q = g) w w' := by
  have H := Lib.hid (And.intro h (And.intro hn hl))
  have hnn : n ≤ 1000000 := by omega
  clear h hn hl
  go_enter Tryd.func54, Tryd.ntmps54
  go_wp2_with fail
  go_loopg [7, 8, 9, 10] n (fun gk ii j1 j0 j2 wr => ∃ (i : Nat) (l' : List Int), gk = n - i ∧ ii = .int .i64 i ∧ i ≤ n ∧ PlAt wr W c0 c1 g cap l' ∧ Alikes l l' ∧ (∀ k, n ≤ k → l'[k]? = l[k]?) ∧ Kp (fun q => q = g) w wr)
  case atStart => exact ⟨0, l, rfl, rfl, by omega, H.out.1, Alikes.refl l, fun _ _ => rfl, Kp.refl _ w⟩
  case round =>
    obtain ⟨i, l', hgk, rfl, hi, hp, ha, ht, hk⟩ := hrel
    have hi2 : (i : Int) ≤ 1000000 := by omega
    by_cases hbr : n ≤ 2 * i + 1
    · have hc : ((n : Int) ≤ 2 * (i : Int) + 1) := by omega
      have HP := Lib.hid (And.intro hp (And.intro ha (And.intro ht hk)))
      clear hp ha ht hk
      go_wp2_with fail
      go_ret
      exact ⟨_, l', rfl, HP.out.1, HP.out.2.1, HP.out.2.2.1, HP.out.2.2.2⟩
    obtain ⟨a, ha0⟩ : ∃ a : Nat, a = 2 * i + 1 := ⟨_, rfl⟩
    have ea : 2 * (i : Int) + 1 = (a : Int) := by omega
    obtain ⟨b, hb0⟩ : ∃ b : Nat, b = a + 1 := ⟨_, rfl⟩
    have eb : (a : Int) + 1 = (b : Int) := by omega
    have HE := Lib.hid (And.intro ea (And.intro eb (And.intro ha0 hb0)))
    have hia : i < a := by omega
    have hab : a < b := by omega
    have han : a < n := by omega
    clear ea eb ha0 hb0
    have hc : ¬ ((n : Int) ≤ 2 * (i : Int) + 1) := by have := HE.out.2.2; omega
    have hc0 : ¬ (2 * (i : Int) + 1 < 0) := by omega
    obtain ⟨x, hx⟩ : ∃ x, l'[i]? = some x := ⟨_, List.getElem?_eq_getElem (by have := ha.1; have := H.out.2.1; omega)⟩
    obtain ⟨f0, f1, f2, ff⟩ := hp.facts
    have hml := m_less _ _ _ f2
    have HP := Lib.hid (And.intro hp (And.intro ha (And.intro ht (And.intro hk (And.intro hx (And.intro han H.out.2.1))))))
    clear hp ha ht hk hx f0 f1 f2 ff
    by_cases hj2 : b < n
    · have hc2 : (2 * (i : Int) + 1 + 1 < (n : Int)) := by have := HE.out.2.2; omega
      obtain ⟨y1, hy1⟩ : ∃ y, l'[a]? = some y := ⟨_, List.getElem?_eq_getElem (by have := HP.out.2.1.1; have := HP.out.2.2.2.2.2; omega)⟩
      obtain ⟨y2, hy2⟩ : ∃ y, l'[b]? = some y := ⟨_, List.getElem?_eq_getElem (by have := HP.out.2.1.1; have := HP.out.2.2.2.2.2; omega)⟩
      have HY2 := Lib.hid (And.intro hy1 hy2)
      clear hy1 hy2
      go_wp2_with fail
      rw [HE.out.1, HE.out.2.1]
      refine (less_any HP.out.1.2.2 HY2.out.2 HY2.out.1).mono ?_
      rintro e w2 ⟨rfl, hk2⟩
      have hp2 := HP.out.1.kp hk2 (fun e => e) (fun e => e)
      obtain ⟨f0, f1, f2, ff⟩ := hp2.facts
      have hml := m_less _ _ _ f2
      have H2 := Lib.hid (And.intro hp2 (HP.out.2.2.2.1.trans' (hk2.mono fun _ _ e => e.elim)))
      clear hp2 hk2 f0 f1 f2 ff
      cases hd1 : decide (y2 < y1)
      · go_wp2_with fail
        -- Less(j, i)
        obtain ⟨y, hy⟩ : ∃ y, l'[a]? = some y := ⟨_, List.getElem?_eq_getElem (by have := HP.out.2.2.2.2.2; have := HP.out.2.1.1; omega)⟩
        have HY := Lib.hid hy
        clear hy
        refine (less_any H2.out.1.2.2 HY.out HP.out.2.2.2.2.1).mono ?_
        rintro e w3 ⟨rfl, hk3⟩
        have hp3 := H2.out.1.kp hk3 (fun e => e) (fun e => e)
        obtain ⟨f0, f1, f2, ff⟩ := hp3.facts
        have hms := m_swap _ _ _ f2
        have H3 := Lib.hid (And.intro hp3 (H2.out.2.trans' (hk3.mono fun _ _ e => e.elim)))
        clear hp3 hk3 f0 f1 f2 ff
        cases hd : decide (y < x)
        · go_wp2_with fail
          go_ret
          exact ⟨_, l', rfl, H3.out.1, HP.out.2.1, HP.out.2.2.1, H3.out.2⟩
        · go_wp2_with fail
          refine (swap_any H3.out.1.2.2 HP.out.2.2.2.2.1 HY.out).mono ?_
          rintro e w4 ⟨rfl, hi4, hk4⟩
          have hp4 : PlAt w4 W c0 c1 g cap ((l'.set i y).set a x) := ⟨by simpa using (hk4.block W (Array.getElem?_eq_some_iff.1 H3.out.1.1).1 (Ne.symm H3.out.1.2.1)).trans H3.out.1.1, H3.out.1.2.1, hi4⟩
          have H4 := Lib.hid (And.intro hp4 (H3.out.2.trans' hk4))
          clear hp4 hi4 hk4 hms
          go_wp2_with fail
          go_roundg (n - a)
          case measure => omega
          case rel => exact ⟨a, _, rfl, rfl, by omega, H4.out.1, HP.out.2.1.trans (swap_alike HP.out.2.2.2.2.1 HY.out), fun q hq => by
            rw [List.getElem?_set_ne (by omega), List.getElem?_set_ne (by omega)]
            exact HP.out.2.2.1 q hq, H4.out.2⟩
      · go_wp2_with fail
        -- Less(j, i)
        obtain ⟨y, hy⟩ : ∃ y, l'[b]? = some y := ⟨_, List.getElem?_eq_getElem (by have := HP.out.2.2.2.2.2; have := HP.out.2.1.1; omega)⟩
        have HY := Lib.hid hy
        clear hy
        refine (less_any H2.out.1.2.2 HY.out HP.out.2.2.2.2.1).mono ?_
        rintro e w3 ⟨rfl, hk3⟩
        have hp3 := H2.out.1.kp hk3 (fun e => e) (fun e => e)
        obtain ⟨f0, f1, f2, ff⟩ := hp3.facts
        have hms := m_swap _ _ _ f2
        have H3 := Lib.hid (And.intro hp3 (H2.out.2.trans' (hk3.mono fun _ _ e => e.elim)))
        clear hp3 hk3 f0 f1 f2 ff
        cases hd : decide (y < x)
        · go_wp2_with fail
          go_ret
          exact ⟨_, l', rfl, H3.out.1, HP.out.2.1, HP.out.2.2.1, H3.out.2⟩
        · go_wp2_with fail
          refine (swap_any H3.out.1.2.2 HP.out.2.2.2.2.1 HY.out).mono ?_
          rintro e w4 ⟨rfl, hi4, hk4⟩
          have hp4 : PlAt w4 W c0 c1 g cap ((l'.set i y).set b x) := ⟨by simpa using (hk4.block W (Array.getElem?_eq_some_iff.1 H3.out.1.1).1 (Ne.symm H3.out.1.2.1)).trans H3.out.1.1, H3.out.1.2.1, hi4⟩
          have H4 := Lib.hid (And.intro hp4 (H3.out.2.trans' hk4))
          clear hp4 hi4 hk4 hms
          go_wp2_with fail
          go_roundg (n - b)
          case measure => omega
          case rel => exact ⟨b, _, rfl, rfl, by omega, H4.out.1, HP.out.2.1.trans (swap_alike HP.out.2.2.2.2.1 HY.out), fun q hq => by
            rw [List.getElem?_set_ne (by omega), List.getElem?_set_ne (by omega)]
            exact HP.out.2.2.1 q hq, H4.out.2⟩
    · have hc2 : ¬ (2 * (i : Int) + 1 + 1 < (n : Int)) := by have := HE.out.2.2; omega
      have H2 := Lib.hid (And.intro HP.out.1 HP.out.2.2.2.1)
      go_wp2_with fail
      rw [HE.out.1]
      -- Less(j, i)
      obtain ⟨y, hy⟩ : ∃ y, l'[a]? = some y := ⟨_, List.getElem?_eq_getElem (by have := HP.out.2.2.2.2.2; have := HP.out.2.1.1; omega)⟩
      have HY := Lib.hid hy
      clear hy
      refine (less_any H2.out.1.2.2 HY.out HP.out.2.2.2.2.1).mono ?_
      rintro e w3 ⟨rfl, hk3⟩
      have hp3 := H2.out.1.kp hk3 (fun e => e) (fun e => e)
      obtain ⟨f0, f1, f2, ff⟩ := hp3.facts
      have hms := m_swap _ _ _ f2
      have H3 := Lib.hid (And.intro hp3 (H2.out.2.trans' (hk3.mono fun _ _ e => e.elim)))
      clear hp3 hk3 f0 f1 f2 ff
      cases hd : decide (y < x)
      · go_wp2_with fail
        go_ret
        exact ⟨_, l', rfl, H3.out.1, HP.out.2.1, HP.out.2.2.1, H3.out.2⟩
      · go_wp2_with fail
        refine (swap_any H3.out.1.2.2 HP.out.2.2.2.2.1 HY.out).mono ?_
        rintro e w4 ⟨rfl, hi4, hk4⟩
        have hp4 : PlAt w4 W c0 c1 g cap ((l'.set i y).set a x) := ⟨by simpa using (hk4.block W (Array.getElem?_eq_some_iff.1 H3.out.1.1).1 (Ne.symm H3.out.1.2.1)).trans H3.out.1.1, H3.out.1.2.1, hi4⟩
        have H4 := Lib.hid (And.intro hp4 (H3.out.2.trans' hk4))
        clear hp4 hi4 hk4 hms
        go_wp2_with fail
        go_roundg (n - a)
        case measure => omega
        case rel => exact ⟨a, _, rfl, rfl, by omega, H4.out.1, HP.out.2.1.trans (swap_alike HP.out.2.2.2.2.1 HY.out), fun q hq => by
          rw [List.getElem?_set_ne (by omega), List.getElem?_set_ne (by omega)]
          exact HP.out.2.2.1 q hq, H4.out.2⟩

set_option maxRecDepth 100000 in
set_option maxHeartbeats 4000000 in
theorem hpop_any {w : World} {W : Nat} {c0 c1 : Value} {g cap : Nat} {l : List Int} (h : PlAt w W c0 c1 g cap l) (h0 : l ≠ []) (hl : l.length ≤ 1000000) :
    Calls Tryd.prog 41 #[.iface 89 (.pointer (some ⟨W, 2, none⟩))] w fun e w' => ∃ x l', e = .returned (.iface 3 (.int .i64 x)) ∧ PlAt w' W c0 c1 g cap l' ∧ l.length = l'.length + 1 ∧ (∀ y, y ∈ l ↔ y = x ∨ y ∈ l') ∧ Kp (fun q => q = W ∨ q = g) w w' := by
  have hpos := List.length_pos_iff.2 h0
  obtain ⟨n, hn⟩ : ∃ n, l.length = n + 1 := ⟨l.length - 1, by omega⟩
  obtain ⟨f0, f1, f2, ff⟩ := h.facts
  have hml := m_len _ _ _ f2
  obtain ⟨x, hx⟩ : ∃ x, l[0]? = some x := ⟨_, List.getElem?_eq_getElem (by omega)⟩
  obtain ⟨y, hy⟩ : ∃ y, l[n]? = some y := ⟨_, List.getElem?_eq_getElem (by omega)⟩
  have hw : wrap64 ((l.length : Int) - 1) = (n : Int) := by rw [hn]; unfold wrap64; omega
  have H := Lib.hid (And.intro h (And.intro hx (And.intro hy (And.intro hn hl))))
  clear h hx hy hn hl h0 hpos f0 f1 f2 ff
  go_enter Tryd.func41, Tryd.ntmps41
  go_wp2_with fail
  refine (plen_any _ _ _ _).mono ?_
  rintro e w1 ⟨rfl, rfl⟩
  obtain ⟨f0, f1, f2, ff⟩ := H.out.1.facts
  have hms := m_swap _ _ _ f2
  clear hml f0 f1 f2 ff
  go_wp2_with fail
  refine Calls.mono (swap_any H.out.1.2.2 (i := 0) (j := n) H.out.2.1 H.out.2.2.1) ?_
  rintro e w2 ⟨rfl, hi2, hk2⟩
  have hp2 : PlAt w2 W c0 c1 g cap ((l.set 0 y).set n x) := ⟨by simpa using (hk2.block W (Array.getElem?_eq_some_iff.1 H.out.1.1).1 (Ne.symm H.out.1.2.1)).trans H.out.1.1, H.out.1.2.1, hi2⟩
  have H2 := Lib.hid (And.intro hp2 hk2)
  clear hp2 hi2 hk2 hms
  go_wp2_with fail
  refine (down_any H2.out.1 (n := n) (by simp; have := H.out.2.2.2.1; omega) (by simpa using H.out.2.2.2.2)).mono ?_
  rintro e w3 ⟨b, l3, rfl, hp3, ha3, ht3, hk3⟩
  have hln : l3.length = n + 1 := by rw [← ha3.1]; simpa using H.out.2.2.2.1
  obtain ⟨l4, z, rfl⟩ : ∃ l4 z, l3 = l4 ++ [z] := ⟨l3.dropLast, l3.getLast (by intro e; simp [e] at hln), (List.dropLast_concat_getLast _).symm⟩
  have hl4 : l4.length = n := by simpa using hln
  have hm := m_pop ⟨W, 2, none⟩ w3
  have H3 := Lib.hid (And.intro hp3 (And.intro ha3 (And.intro hl4 (H2.out.2.trans' hk3))))
  clear hp3 ha3 ht3 hk3 hln hl4
  go_wp2_with fail
  refine (pop_any H3.out.1).mono ?_
  rintro e w4 ⟨rfl, hp4, hk4⟩
  have hk34 : Kp (fun q => q = W ∨ q = g) w w4 := (H3.out.2.2.2.mono fun _ _ e => .inr e).trans' (hk4.mono fun _ _ e => .inl e)
  have H4 := Lib.hid (And.intro hp4 hk34)
  clear hp4 hk4 hk34 hm
  go_wp2_with fail
  go_ret
  refine ⟨z, l4, rfl, H4.out.1, by have := H.out.2.2.2.1; have := H3.out.2.2.1; omega, fun q => ?_, H4.out.2⟩
  rw [(swap_alike H.out.2.1 H.out.2.2.1).2 q, H3.out.2.1.2 q]
  simp [or_comm]
end Go.Proofs.YtpdepmkojbpklaaDoor

/- A heap of numbers, as plain data: up, down, the least first. (Not yet used: for the exact place in a walk.) -/
namespace Go.Proofs.YtpdepmkojbpklaaDoor
open Go.RowKit

/-- a heap: each place is at least its parent -/
def IsHp (f : Nat → Int) (n : Nat) : Prop := ∀ k, 0 < k → k < n → f ((k - 1) / 2) ≤ f k
/-- a heap, but for the place j, which may be too little -/
def UpAt (f : Nat → Int) (n j : Nat) : Prop :=
  (∀ k, 0 < k → k < n → k ≠ j → f ((k - 1) / 2) ≤ f k) ∧ (∀ k, 0 < k → k < n → (k - 1) / 2 = j → 0 < j → f ((j - 1) / 2) ≤ f k)
/-- a heap, but for the place i, which may be too great -/
def DnAt (f : Nat → Int) (n i : Nat) : Prop :=
  (∀ k, 0 < k → k < n → (k - 1) / 2 ≠ i → f ((k - 1) / 2) ≤ f k) ∧ (∀ k, 0 < k → k < n → (k - 1) / 2 = i → 0 < i → f ((i - 1) / 2) ≤ f k)
def swapF (f : Nat → Int) (i j : Nat) : Nat → Int := fun k => if k = j then f i else if k = i then f j else f k
theorem swapF_j (f : Nat → Int) (i j : Nat) : swapF f i j j = f i := by simp [swapF]
theorem swapF_i {f : Nat → Int} {i j : Nat} (h : i ≠ j) : swapF f i j i = f j := by simp [swapF, h]
theorem swapF_o {f : Nat → Int} {i j k : Nat} (h : k ≠ j) (h2 : k ≠ i) : swapF f i j k = f k := by simp [swapF, h, h2]
theorem up_swap {f : Nat → Int} {n j : Nat} (hj : 0 < j) (hn : j < n) (hlt : f j < f ((j - 1) / 2)) (h : UpAt f n j) : UpAt (swapF f ((j - 1) / 2) j) n ((j - 1) / 2) := by
  obtain ⟨h1, h2⟩ := h
  obtain ⟨i, hi⟩ : ∃ i, (j - 1) / 2 = i := ⟨_, rfl⟩
  rw [hi] at hlt ⊢
  have hij : i ≠ j := by omega
  refine ⟨fun k k0 kn ki => ?_, fun k k0 kn kp i0 => ?_⟩
  · by_cases hkj : k = j
    · subst hkj
      rw [hi, swapF_j, swapF_i hij]; omega
    · rw [swapF_o hkj ki]
      by_cases hp : (k - 1) / 2 = j
      · rw [hp, swapF_j]
        have := h2 k k0 kn hp hj
        rw [hi] at this; exact this
      · have hk := h1 k k0 kn hkj
        by_cases hp2 : (k - 1) / 2 = i
        · rw [hp2, swapF_i hij]
          rw [hp2] at hk; omega
        · rw [swapF_o hp hp2]; exact hk
  · have hpi : f ((i - 1) / 2) ≤ f i := h1 i i0 (by omega) hij
    rw [swapF_o (by omega) (by omega)]
    by_cases hkj : k = j
    · subst hkj; rw [swapF_j]; exact hpi
    · have hk := h1 k k0 kn hkj
      rw [kp] at hk
      rw [swapF_o hkj (by omega)]; omega
theorem up_stop {f : Nat → Int} {n j : Nat} (h : UpAt f n j) (hs : j = 0 ∨ f ((j - 1) / 2) ≤ f j) : IsHp f n := by
  intro k k0 kn
  by_cases hkj : k = j
  · subst hkj
    rcases hs with e | e
    · omega
    · exact e
  · exact h.1 k k0 kn hkj
theorem dn_swap {f : Nat → Int} {n i j : Nat} (hn : j < n) (hp : (j - 1) / 2 = i) (hj0 : 0 < j) (hle : f j ≤ f i) (hleast : ∀ k, 0 < k → k < n → (k - 1) / 2 = i → f j ≤ f k) (h : DnAt f n i) : DnAt (swapF f i j) n j := by
  obtain ⟨h1, h2⟩ := h
  have hij : i ≠ j := by omega
  refine ⟨fun k k0 kn kp => ?_, fun k k0 kn kp j0 => ?_⟩
  · by_cases hpi : (k - 1) / 2 = i
    · rw [hpi, swapF_i hij]
      by_cases hkj : k = j
      · subst hkj; rw [swapF_j]; exact hle
      · rw [swapF_o hkj (by omega)]; exact hleast k k0 kn hpi
    · rw [swapF_o kp hpi]
      have hkj : k ≠ j := fun e => by subst e; exact hpi hp
      by_cases hki : k = i
      · subst hki
        rw [swapF_i hij]
        exact h2 j hj0 hn hp k0
      · rw [swapF_o hkj hki]; exact h1 k k0 kn hpi
  · rw [hp, swapF_i hij, swapF_o (by omega) (by omega)]
    have := h1 k k0 kn (by omega)
    rw [kp] at this; exact this
theorem dn_stop {f : Nat → Int} {n i : Nat} (h : DnAt f n i) (hs : ∀ k, 0 < k → k < n → (k - 1) / 2 = i → f i ≤ f k) : IsHp f n := by
  intro k k0 kn
  by_cases hp : (k - 1) / 2 = i
  · rw [hp]; exact hs k k0 kn hp
  · exact h.1 k k0 kn hp
/-- the first one is the least -/
theorem hp_least {f : Nat → Int} {n : Nat} (h : IsHp f n) : ∀ k, k < n → f 0 ≤ f k := by
  intro k
  induction k using Nat.strongRecOn with
  | ind k ih =>
    intro kn
    by_cases k0 : k = 0
    · subst k0; omega
    · have h1 := h k (by omega) kn
      have h2 := ih ((k - 1) / 2) (by omega) (by omega)
      omega
/-- one behind the others -/
theorem hp_push {f : Nat → Int} {n : Nat} (h : IsHp f n) : UpAt f (n + 1) n :=
  ⟨fun k k0 kn kj => h k k0 (by omega), fun k k0 kn kp n0 => by omega⟩
/-- the first and the last one change places, and the last one goes -/
theorem hp_pop {f : Nat → Int} {n : Nat} (h : IsHp f (n + 1)) : DnAt (swapF f 0 n) n 0 :=
  ⟨fun k k0 kn kp => by rw [swapF_o (by omega) (by omega), swapF_o (by omega) (by omega)]; exact h k k0 (by omega), fun k k0 kn kp i0 => by omega⟩
end Go.Proofs.YtpdepmkojbpklaaDoor
