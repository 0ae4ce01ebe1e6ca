/- The document's own net: End. -/
import Derived.Test.YtmfhmnlgffgcgaaLkRef7
import Derived.Test.YtmfhmnlgffgcgaaLkEnd1
namespace Go.Proofs.Ytmfhmnlgffgcgaa
open Go.RowKit
set_option linter.unusedVariables false

/-- a row of (Int × Int) that is being laid, new since w -/
def NewlkC (w : World) (l : List (Int × Int)) (v : Value) (w' : World) : Prop := w'.ownsS 76 2 v l.length (lkC l) ∧ (∀ g, v.ownBlock = some g → w.heap.size ≤ g) ∧ Kp (fun _ => False) w w'
theorem NewlkC.nil (w : World) : NewlkC w [] (.slice none 0 0) w := ⟨ownsS_nil _ _ _, fun g e => (by cases e), Kp.refl _ w⟩
theorem NewlkC.push {w w' : World} {v : Value} {l : List (Int × Int)} (h : NewlkC w l v w') (hl : l.length + 1 ≤ 8796093022208) (p : (Int × Int)) : ∃ v' w2, (Builtin.append_ #[56, 56] 56 #[v, .slice (some ⟨w'.heap.size, 0, none⟩) 1 1]).run Try.prog (w'.alloc (.cells #[.int .i64 p.1, .int .i64 p.2] 76)) = .ok v' w2 ∧ NewlkC w (l ++ [p]) v' w2 := by
  have kA : Kp (fun _ => False) w' (w'.alloc (.cells #[.int .i64 p.1, .int .i64 p.2] 76)) := (Kp.refl (fun _ => False) w').alloc _
  obtain ⟨v', w2, h1, h2, h3, h4⟩ := lkC_push (kA.rowS h.1 (fun _ _ e => e)) p (heap_alloc_new w' _) hl
  have hz := h.2.2.size
  have hz2 := kA.size
  exact ⟨v', w2, h1, h2, fun g hg => (h4 g hg).elim (h.2.1 g) (fun e => by omega), (h.2.2.trans' kA).trans (h3.mono fun q hq e => .inr ⟨h.2.1 q e, hq⟩)⟩
theorem NewlkC.form {w w' : World} {v : Value} {l : List (Int × Int)} (h : NewlkC w l v w') : ∃ po n c, v = .slice po n c := by
  obtain ⟨po, c, e, -, -⟩ := ownsS_form h.1
  exact ⟨po, _, c, e⟩
/-- a row of Mo that is being laid, new since w -/
def NewmoC (w : World) (l : List Mo) (v : Value) (w' : World) : Prop := w'.ownsS 80 3 v l.length (moC l) ∧ (∀ g, v.ownBlock = some g → w.heap.size ≤ g) ∧ Kp (fun _ => False) w w'
theorem NewmoC.nil (w : World) : NewmoC w [] (.slice none 0 0) w := ⟨ownsS_nil _ _ _, fun g e => (by cases e), Kp.refl _ w⟩
theorem NewmoC.push {w w' : World} {v : Value} {l : List Mo} (h : NewmoC w l v w') (hl : l.length + 1 ≤ 5864062014805) (p : Mo) : ∃ v' w2, (Builtin.append_ #[57, 57] 57 #[v, .slice (some ⟨w'.heap.size, 0, none⟩) 1 1]).run Try.prog (w'.alloc (.cells #[.int .i64 p.ref, .int .i64 p.who, .int .i64 p.whom] 80)) = .ok v' w2 ∧ NewmoC w (l ++ [p]) v' w2 := by
  have kA : Kp (fun _ => False) w' (w'.alloc (.cells #[.int .i64 p.ref, .int .i64 p.who, .int .i64 p.whom] 80)) := (Kp.refl (fun _ => False) w').alloc _
  obtain ⟨v', w2, h1, h2, h3, h4⟩ := moC_push (kA.rowS h.1 (fun _ _ e => e)) p (heap_alloc_new w' _) hl
  have hz := h.2.2.size
  have hz2 := kA.size
  exact ⟨v', w2, h1, h2, fun g hg => (h4 g hg).elim (h.2.1 g) (fun e => by omega), (h.2.2.trans' kA).trans (h3.mono fun q hq e => .inr ⟨h.2.1 q e, hq⟩)⟩
theorem NewmoC.form {w w' : World} {v : Value} {l : List Mo} (h : NewmoC w l v w') : ∃ po n c, v = .slice po n c := by
  obtain ⟨po, c, e, -, -⟩ := ownsS_form h.1
  exact ⟨po, _, c, e⟩

/-- what End leaves: two new rows -/
def XEnd (w : World) (b : Nat) (vl vm : Value) (nl ol : List Int) (ls : List (Int × Int)) (ms : List Mo) (next : Nat) (e : Ending) (w' : World) : Prop :=
  ∃ u1 u2, e = .returned (.tuple #[u1, u2]) ∧ Lw w' u1 nl ∧ Lw w' u2 ol ∧ (∀ g, u1.ownBlock = some g → w.heap.size ≤ g) ∧ (∀ g, u2.ownBlock = some g → w.heap.size ≤ g) ∧
    ∃ vl' vm', RNt w' b vl' vm' ls ms next ∧ (∀ g, vl'.ownBlock = some g → vl.ownBlock = some g ∨ w.heap.size ≤ g) ∧ (∀ g, vm'.ownBlock = some g → vm.ownBlock = some g ∨ w.heap.size ≤ g) ∧ Kp (fun q => q = b ∨ vl.ownBlock = some q ∨ vm.ownBlock = some q) w w'
section
variable {F : Nat → Prop} {w w' : World} {b next : Nat} {v vl vm : Value} {ls : List (Int × Int)} {ms : List Mo} {a x r : Int}
theorem RNt.lt (h : RNt w b vl vm ls ms next) {q : Nat} (hq : q = b ∨ vl.ownBlock = some q ∨ vm.ownBlock = some q) : q < w.heap.size := by
  rcases hq with rfl | e | e
  · exact (Array.getElem?_eq_some_iff.1 h.main).1
  · exact ownsS_lt h.lr _ e
  · exact ownsS_lt h.mr _ e
theorem Lw.at {u : Value} {l : List Int} (hu : Lw w u l) : ∀ g, u.ownBlock = some g → ∃ cur, w.heap[g]? = some (.cells cur 2 (0, 0)) := by
  intro g hg
  rcases hu.2 with ⟨e1, _⟩ | ⟨g', cap, cur, e1, _, hgg, _⟩
  · rw [e1] at hg; cases hg
  · rw [e1] at hg
    have : g' = g := by injection hg
    subst this
    exact ⟨cur, hgg⟩
theorem RNt.lw (h : RNt w b vl vm ls ms next) {u : Value} {l : List Int} (hu : Lw w u l) : ∀ g, u.ownBlock = some g → ¬ (g = b ∨ vl.ownBlock = some g ∨ vm.ownBlock = some g) := by
  rintro g hg e
  obtain ⟨cur, hc⟩ := hu.at g hg
  rcases e with rfl | e | e
  · rw [h.main] at hc
    injection hc with hc
    injection hc with _ hc
    exact absurd hc (by decide)
  · obtain ⟨cur2, hc2⟩ := ownsS_block h.lr g e
    rw [hc2] at hc
    injection hc with hc
    injection hc with _ hc
    exact absurd hc (by decide)
  · obtain ⟨cur2, hc2⟩ := ownsS_block h.mr g e
    rw [hc2] at hc
    injection hc with hc
    injection hc with _ hc
    exact absurd hc (by decide)
theorem xend_mid {w2 w4 : World} {u1 u2 vl' vm' : Value} {l1 l2 : List Int} {L : List (Int × Int)}
    (hS : RNt w2 b vl vm ls ms next ∧ Lw w2 u1 l1 ∧ Lw w2 u2 l2 ∧ (∀ g, u1.ownBlock = some g → w.heap.size ≤ g) ∧ (∀ g, u2.ownBlock = some g → w.heap.size ≤ g) ∧ Kp (fun _ => False) w w2)
    (g1 : RNt w4 b vl' vm' L ms next) (g2 : ∀ g, vl'.ownBlock = some g → vl.ownBlock = some g ∨ w2.heap.size ≤ g) (g3 : ∀ g, vm'.ownBlock = some g → vm.ownBlock = some g ∨ w2.heap.size ≤ g) (g4 : Kp (fun q => q = b ∨ vl.ownBlock = some q ∨ vm.ownBlock = some q) w2 w4) :
    RNt w4 b vl' vm' L ms next ∧ Lw w4 u1 l1 ∧ Lw w4 u2 l2 ∧ (∀ g, vl'.ownBlock = some g → vl.ownBlock = some g ∨ w.heap.size ≤ g) ∧ (∀ g, vm'.ownBlock = some g → vm.ownBlock = some g ∨ w.heap.size ≤ g) ∧ Kp (fun q => q = b ∨ vl.ownBlock = some q ∨ vm.ownBlock = some q) w w4 := by
  obtain ⟨k1, k2, k3, k4, k5, k6⟩ := hS
  have hz := k6.size
  exact ⟨g1, k2.kp g4 (k1.lw k2), k3.kp g4 (k1.lw k3), fun g hg => (g2 g hg).imp id (fun e => by omega), fun g hg => (g3 g hg).imp id (fun e => by omega), (k6.mono fun _ _ e => e.elim).trans' g4⟩
theorem xend_fin {w2 w4 w7 : World} {u1 u2 vl' vm' vl2 vm2 : Value} {l1 l2 : List Int} {L : List (Int × Int)} {M : List Mo}
    (hS : RNt w2 b vl vm ls ms next ∧ Lw w2 u1 l1 ∧ Lw w2 u2 l2 ∧ (∀ g, u1.ownBlock = some g → w.heap.size ≤ g) ∧ (∀ g, u2.ownBlock = some g → w.heap.size ≤ g) ∧ Kp (fun _ => False) w w2)
    (hT : RNt w4 b vl' vm' L ms next ∧ Lw w4 u1 l1 ∧ Lw w4 u2 l2 ∧ (∀ g, vl'.ownBlock = some g → vl.ownBlock = some g ∨ w.heap.size ≤ g) ∧ (∀ g, vm'.ownBlock = some g → vm.ownBlock = some g ∨ w.heap.size ≤ g) ∧ Kp (fun q => q = b ∨ vl.ownBlock = some q ∨ vm.ownBlock = some q) w w4)
    (g1 : RNt w7 b vl2 vm2 L M next) (g2 : ∀ g, vl2.ownBlock = some g → vl'.ownBlock = some g ∨ w4.heap.size ≤ g) (g3 : ∀ g, vm2.ownBlock = some g → vm'.ownBlock = some g ∨ w4.heap.size ≤ g) (g4 : Kp (fun q => q = b ∨ vl'.ownBlock = some q ∨ vm'.ownBlock = some q) w4 w7) :
    XEnd w b vl vm l1 l2 L M next (.returned (.tuple #[u1, u2])) w7 := by
  obtain ⟨-, -, -, k4, k5, k6⟩ := hS
  obtain ⟨t1, t2, t3, t4, t5, t6⟩ := hT
  have hz := t6.size
  refine ⟨u1, u2, rfl, t2.kp g4 (t1.lw t2), t3.kp g4 (t1.lw t3), k4, k5, vl2, vm2, g1, fun g hg => ?_, fun g hg => ?_, ?_⟩
  · exact (g2 g hg).elim (t4 g) (fun e => .inr (by omega))
  · exact (g3 g hg).elim (t5 g) (fun e => .inr (by omega))
  · refine t6.trans (g4.mono fun q hq e => ?_)
    rcases e with e | e | e
    · exact .inl (.inl e)
    · exact (t4 q e).elim (fun e => .inl (.inr (.inl e))) (fun e => .inr ⟨e, hq⟩)
    · exact (t5 q e).elim (fun e => .inl (.inr (.inr e))) (fun e => .inr ⟨e, hq⟩)
theorem endLs_more {i : Nat} {p : Int × Int} (hi : ls[i]? = some p) : endLs (ls.take (i + 1)) a = endLs (ls.take i) a ++ (if p.1 = a ∨ p.2 = a then [] else [p]) := by
  unfold endLs
  rw [take_moreA hi, List.filter_append]
  congr 1
  by_cases h1 : p.1 = a <;> by_cases h2 : p.2 = a <;> simp [h1, h2]
theorem endMs_more {i : Nat} {p : Mo} (hi : ms[i]? = some p) : endMs (ms.take (i + 1)) a = endMs (ms.take i) a ++ (if p.who = a ∨ p.whom = a then [] else [p]) := by
  unfold endMs
  rw [take_moreA hi, List.filter_append]
  congr 1
  by_cases h1 : p.who = a <;> by_cases h2 : p.whom = a <;> simp [h1, h2]
theorem endLs_len (ls : List (Int × Int)) (a : Int) : (endLs ls a).length ≤ ls.length := List.length_filter_le _ _
theorem endMs_len (ms : List Mo) (a : Int) : (endMs ms a).length ≤ ms.length := List.length_filter_le _ _
set_option maxRecDepth 100000 in
set_option maxHeartbeats 8000000 in
theorem xend_any (h : RNt w b vl vm ls ms next) (hok : MoOk next ms) (hl : ls.length ≤ 8796093022208) (hm : ms.length ≤ 5864062014805) :
    Calls Try.prog 28 #[.pointer (some ⟨b, 0, none⟩), .int .i64 a] w (XEnd w b vl vm (nbs ls a) (obs ms a) (endLs ls a) (endMs ms a) next) := by
  have HL := Lib.hid (xlinked_any (a := a) h hl)
  have HW : Hid (∀ w2, Kp (fun _ => False) w w2 → Calls Try.prog 27 #[.pointer (some ⟨b, 0, none⟩), .int .i64 a] w2 (FreshRow w2 (obs ms a))) := Lib.hid fun w2 k => xwatchers_any (h.same k) hok hm
  have HQ := Lib.hid (And.intro h (And.intro hl hm))
  clear h hok hl hm
  go_enter Try.func28, Try.ntmps28
  go_wp2_with fail
  refine HL.out.mono ?_
  rintro e w1 ⟨u1, rfl, f1, f2, f3⟩
  have HW1 := Lib.hid (HW.out w1 f3)
  have HU1 := Lib.hid (And.intro f1 (And.intro f2 f3))
  clear f1 f2 f3 HL HW
  go_wp2_with fail
  refine HW1.out.mono ?_
  rintro e w2 ⟨u2, rfl, f1, f2, f3⟩
  have HS : Hid (RNt w2 b vl vm ls ms next ∧ Lw w2 u1 (nbs ls a) ∧ Lw w2 u2 (obs ms a) ∧ (∀ g, u1.ownBlock = some g → w.heap.size ≤ g) ∧ (∀ g, u2.ownBlock = some g → w.heap.size ≤ g) ∧ Kp (fun _ => False) w w2) := by
    obtain ⟨k1, k2, k3⟩ := HU1.out
    have k4 := k3.trans' f3
    have := k3.size
    exact Lib.hid ⟨HQ.out.1.same k4, k1.same f3, f1, k2, fun g hg => by have := f2 g hg; omega, k4⟩
  clear f1 f2 f3 HW1 HU1
  obtain ⟨n, hn⟩ : ∃ n, ls.length = n := ⟨_, rfl⟩
  obtain ⟨po, cp, hvl, hcp, hcp2⟩ := ownsS_form HS.out.1.lr
  rw [hn] at hvl hcp
  subst hvl
  have hnm : (n : Int) ≤ 8796093022208 := by have := HQ.out.2.1; omega
  have HN := Lib.hid hn
  clear hn
  go_wp2_with fail
  go_loopg [8, 9] n (fun gk s0 s1 wr => ∃ (i : Nat) (lv : Value), i ≤ n ∧ gk = n - i ∧ s0 = lv ∧ s1 = .int .i64 (i : Nat) ∧ Hid (NewlkC w2 (endLs (ls.take i) a) lv wr))
  case atStart => exact ⟨0, _, by omega, rfl, rfl, rfl, Lib.hid (NewlkC.nil _)⟩
  case round =>
    obtain ⟨i, lv, hi, rfl, hlv, rfl, HR⟩ := hrel
    obtain rfl := hlv.symm
    have hrr := HS.out.1.same HR.out.2.2
    obtain ⟨c0, -, -, fz⟩ := hrr.facts
    by_cases hlt : i < n
    · have hli : (i : Int) < n := by omega
      obtain ⟨p, hp⟩ : ∃ p, ls[i]? = some p := ⟨_, List.getElem?_eq_getElem (by rw [HN.out]; exact hlt)⟩
      obtain ⟨g, cap, eg, -, -, q0⟩ := lkC_cell (j := 0) hrr.lr hp rfl
      obtain ⟨g2, cap2, eg2, -, -, q1⟩ := lkC_cell (j := 1) hrr.lr hp rfl
      skip
      obtain ⟨rfl, rfl⟩ : po = some ⟨g, 0, none⟩ ∧ cp = cap := by
        injection eg with e1 _ e2
        exact ⟨e1, e2⟩
      obtain rfl : g = g2 := by
        injection eg2 with e1
        injection e1 with e1
        injection e1 with e1
      rw [Nat.add_zero] at q0
      have hmore := endLs_more (a := a) hp
      have hle := endLs_len (ls.take i) a
      rw [List.length_take] at hle
      have hpush := fun hh => HR.out.push hh p
      have hpb : (endLs (ls.take i) a).length + 1 ≤ 8796093022208 := by have := HN.out; omega
      obtain ⟨v', w5, hrn, hnw⟩ := hpush hpb
      obtain ⟨p1, p2⟩ := p
      have HM := Lib.hid hmore
      have HRN := Lib.hid (And.intro hrn hnw)
      clear eg eg2 hmore hle hpush hpb hrn hnw hp hrr
      by_cases h1 : p1 = a
      · have HFin : Hid (NewlkC w2 (endLs (ls.take (i + 1)) a) lv wr) := Lib.hid (by rw [HM.out, if_pos (.inl h1), List.append_nil]; exact HR.out)
        have h1b : (p1 != a) = false := by simpa using h1
        clear HM HR HRN h1
        go_wp2_with fail
        go_roundg (n - (i + 1))
        case measure => omega
        case rel => exact ⟨i + 1, _, by omega, rfl, rfl, by go_num, HFin⟩
      · by_cases h2 : p2 = a
        · have HFin : Hid (NewlkC w2 (endLs (ls.take (i + 1)) a) lv wr) := Lib.hid (by rw [HM.out, if_pos (.inr h2), List.append_nil]; exact HR.out)
          have h1b : (p1 != a) = true := by simpa using h1
          have h2b : (p2 != a) = false := by simpa using h2
          clear HM HR HRN h1 h2
          go_wp2_with fail
          go_roundg (n - (i + 1))
          case measure => omega
          case rel => exact ⟨i + 1, _, by omega, rfl, rfl, by go_num, HFin⟩
        · have HFin : Hid (NewlkC w2 (endLs (ls.take (i + 1)) a) v' w5) := Lib.hid (by rw [HM.out, if_neg (by rintro (e | e); exact h1 e; exact h2 e)]; exact HRN.out.2)
          have HRa := Lib.hid HRN.out.1
          have h1b : (p1 != a) = true := by simpa using h1
          have h2b : (p2 != a) = true := by simpa using h2
          clear HM HR HRN h1 h2
          go_wp2_with (at_builtin; refine wpList_run rfl _ _ 56 rfl lv (.slice (some ⟨wr.heap.size, 0, none⟩) 1 1) rfl rfl _ w5 HRa.out ?_)
          go_roundg (n - (i + 1))
          case measure => omega
          case rel => exact ⟨i + 1, _, by omega, rfl, rfl, by go_num, HFin⟩
    · obtain rfl : i = n := by omega
      have hR := HR.out
      rw [List.take_of_length_le (by rw [HN.out]; exact Nat.le_refl _)] at hR
      obtain ⟨pl, nl, cl, rfl⟩ := hR.form
      obtain ⟨f1, f2, f3⟩ := HS.out.1.setl (w1 := w2) (w2 := wr) (Kp.refl _ w2) (hR.2.2.mono fun _ _ e => e.elim) hR.1 (fun g hg => .inr (hR.2.1 g hg)) (.int .i64 0)
      obtain ⟨w4, hw4⟩ : ∃ w4, wr.setCell ⟨b, 0, none⟩ (.slice pl nl cl) = w4 := ⟨_, rfl⟩
      rw [hw4] at f3
      obtain ⟨-, vl', vm', g1, g2, g3, g4⟩ := f3
      have HT := Lib.hid (xend_mid HS.out g1 g2 g3 g4)
      clear g2 g3 g4 hR HR hrr
      obtain ⟨n2, hn2⟩ : ∃ n, ms.length = n := ⟨_, rfl⟩
      obtain ⟨po2, cp2, hvm, hcq, hcq2⟩ := ownsS_form g1.mr
      rw [hn2] at hvm hcq
      subst hvm
      have hnm2 : (n2 : Int) ≤ 5864062014805 := by have := HQ.out.2.2; omega
      have HN2 := Lib.hid hn2
      clear hn2 g1
      go_wp2_with fail
      go_loopg [10, 11] n2 (fun gk s0 s1 wr => ∃ (i : Nat) (lv : Value), i ≤ n2 ∧ gk = n2 - i ∧ s0 = lv ∧ s1 = .int .i64 (i : Nat) ∧ Hid (NewmoC w4 (endMs (ms.take i) a) lv wr))
      case atStart => exact ⟨0, _, by omega, rfl, rfl, rfl, Lib.hid (NewmoC.nil _)⟩
      case round =>
        obtain ⟨i, lv, hi, rfl, hlv, rfl, HR⟩ := hrel
        obtain rfl := hlv.symm
        have hrr := HT.out.1.same HR.out.2.2
        obtain ⟨-, c0, -, fz⟩ := hrr.facts
        by_cases hlt : i < n2
        · have hli : (i : Int) < n2 := by omega
          obtain ⟨p, hp⟩ : ∃ p, ms[i]? = some p := ⟨_, List.getElem?_eq_getElem (by rw [HN2.out]; exact hlt)⟩
          obtain ⟨g, cap, eg, -, -, q0⟩ := moC_cell (j := 1) hrr.mr hp rfl
          obtain ⟨g2, cap2, eg2, -, -, q1⟩ := moC_cell (j := 2) hrr.mr hp rfl
          obtain ⟨g3, cap3, eg3, -, -, q2⟩ := moC_cell (j := 0) hrr.mr hp rfl
          obtain ⟨rfl, rfl⟩ : po2 = some ⟨g, 0, none⟩ ∧ cp2 = cap := by
            injection eg with e1 _ e2
            exact ⟨e1, e2⟩
          obtain rfl : g = g2 := by
            injection eg2 with e1
            injection e1 with e1
            injection e1 with e1
          obtain rfl : g = g3 := by
            injection eg3 with e1
            injection e1 with e1
            injection e1 with e1
          rw [Nat.add_zero] at q2
          clear eg3
          have hmore := endMs_more (a := a) hp
          have hle := endMs_len (ms.take i) a
          rw [List.length_take] at hle
          have hpush := fun hh => HR.out.push hh p
          have hpb : (endMs (ms.take i) a).length + 1 ≤ 5864062014805 := by have := HN2.out; omega
          obtain ⟨v', w5, hrn, hnw⟩ := hpush hpb
          obtain ⟨p0, p1, p2⟩ := p
          have HM := Lib.hid hmore
          have HRN := Lib.hid (And.intro hrn hnw)
          clear eg eg2 hmore hle hpush hpb hrn hnw hp hrr
          by_cases h1 : p1 = a
          · have HFin : Hid (NewmoC w4 (endMs (ms.take (i + 1)) a) lv wr) := Lib.hid (by rw [HM.out, if_pos (.inl h1), List.append_nil]; exact HR.out)
            have h1b : (p1 != a) = false := by simpa using h1
            clear HM HR HRN h1
            go_wp2_with fail
            go_roundg (n2 - (i + 1))
            case measure => omega
            case rel => exact ⟨i + 1, _, by omega, rfl, rfl, by go_num, HFin⟩
          · by_cases h2 : p2 = a
            · have HFin : Hid (NewmoC w4 (endMs (ms.take (i + 1)) a) lv wr) := Lib.hid (by rw [HM.out, if_pos (.inr h2), List.append_nil]; exact HR.out)
              have h1b : (p1 != a) = true := by simpa using h1
              have h2b : (p2 != a) = false := by simpa using h2
              clear HM HR HRN h1 h2
              go_wp2_with fail
              go_roundg (n2 - (i + 1))
              case measure => omega
              case rel => exact ⟨i + 1, _, by omega, rfl, rfl, by go_num, HFin⟩
            · have HFin : Hid (NewmoC w4 (endMs (ms.take (i + 1)) a) v' w5) := Lib.hid (by rw [HM.out, if_neg (by rintro (e | e); exact h1 e; exact h2 e)]; exact HRN.out.2)
              have HRa := Lib.hid HRN.out.1
              have h1b : (p1 != a) = true := by simpa using h1
              have h2b : (p2 != a) = true := by simpa using h2
              clear HM HR HRN h1 h2
              go_wp2_with (at_builtin; refine wpList_run rfl _ _ 57 rfl lv (.slice (some ⟨wr.heap.size, 0, none⟩) 1 1) rfl rfl _ w5 HRa.out ?_)
              go_roundg (n2 - (i + 1))
              case measure => omega
              case rel => exact ⟨i + 1, _, by omega, rfl, rfl, by go_num, HFin⟩
        · obtain rfl : i = n2 := by omega
          have hR := HR.out
          rw [List.take_of_length_le (by rw [HN2.out]; exact Nat.le_refl _)] at hR
          obtain ⟨pl, nl, cl, rfl⟩ := hR.form
          obtain ⟨f1, f2, f3⟩ := HT.out.1.setm (w1 := w4) (w2 := wr) (Kp.refl _ w4) (hR.2.2.mono fun _ _ e => e.elim) hR.1 (fun g hg => .inr (hR.2.1 g hg)) (.int .i64 0)
          obtain ⟨w7, hw7⟩ : ∃ w7, wr.setCell ⟨b, 1, none⟩ (.slice pl nl cl) = w7 := ⟨_, rfl⟩
          rw [hw7] at f3
          obtain ⟨-, vl2, vm2, g1, g2, g3, g4⟩ := f3
          have HF := Lib.hid (xend_fin HS.out HT.out g1 g2 g3 g4)
          clear g1 g2 g3 g4 hR HR hrr
          go_wp2_with fail
          go_ret2
          exact HF.out
end
end Go.Proofs.Ytmfhmnlgffgcgaa
