/- Which spec may be: sup's Right, and its chain. -/
import Derived.Test.YtbdogiblndlimaaEBad
import Derived.Test.YtbdogiblndlimaaSuRow
import Derived.WalkSpells
import Derived.OwnWalk
import Derived.LoopN
import Derived.BigGuardPart
namespace Go.Proofs.Ytbdogiblndlimaa
open Go.RowKit
set_option linter.unusedVariables false

/-- a spec's own numbers -/
structure Sp where
  sg : Int
  m : Int
  t : Int
abbrev Ch := ByteArray × Int × Int
def isInB (n a b : Int) : Bool := decide (a ≤ n) && decide (n ≤ b)
def sgOk (x : Int) : Bool := decide (x = 1) || decide (x = 2) || decide (x = 3)
def spOk (s : Sp) (n : Nat) : Bool := sgOk s.sg && isInB s.m 0 1000 && isInB s.t 1 10000 && isInB n 1 32
def chOk (c : Ch) : Bool := (decide (c.2.1 = 0) || decide (c.2.1 = 1) || decide (c.2.1 = 2)) && isInB c.1.size 1 255 && isInB c.2.2 (-1) 10000
def badAt (cs : List Ch) : Nat := cs.findIdx fun c => !chOk c
def opSpec : ByteArray := ⟨#[115, 112, 101, 99]⟩
def opChild : ByteArray := ⟨#[99, 104, 105, 108, 100]⟩
def mayL (s : Sp) (cs : List Ch) : List Lk := if spOk s cs.length then (if badAt cs < cs.length then [Lk.fault opChild (badAt cs), Lk.kind 20] else []) else [Lk.kind 20]
def rightL (s : Sp) (cs : List Ch) : List Lk := if mayL s cs = [] then [] else Lk.fault opSpec 0 :: mayL s cs
/-- children in a row, as they can be read -/
def ChR (w : World) (v : Value) (cs : List Ch) : Prop :=
  ∃ po cap, v = .slice po cs.length cap ∧ cs.length ≤ cap ∧ cap ≤ 9223372036854775807 ∧ ∀ (i : Nat) (c : Ch), cs[i]? = some c → ∃ g off, po = some ⟨g, off, none⟩ ∧ w.cell? ⟨g, off + i * 3, none⟩ = some (.string c.1) ∧ w.cell? ⟨g, off + i * 3 + 1, none⟩ = some (.int .i64 c.2.1) ∧ w.cell? ⟨g, off + i * 3 + 2, none⟩ = some (.int .i64 c.2.2) ∧ c.1.size ≤ maxLen ∧
    (-9223372036854775808 ≤ c.2.1 ∧ c.2.1 ≤ 9223372036854775807) ∧ (-9223372036854775808 ≤ c.2.2 ∧ c.2.2 ≤ 9223372036854775807)
def specV (s : Sp) (v : Value) : Value := .agg #[.int .i64 s.sg, .int .i64 s.m, .int .i64 s.t, v]

section
variable {w w' : World} {v : Value} {cs : List Ch} {s : Sp}
theorem ChR.kp {F : Nat → Prop} (h : ChR w v cs) (hk : Kp F w w') (hF : ∀ g, v.ownBlock = some g → ¬ F g) : ChR w' v cs := by
  obtain ⟨po, cap, rfl, h1, h2, h3⟩ := h
  refine ⟨po, cap, rfl, h1, h2, fun i c hi => ?_⟩
  obtain ⟨g, off, rfl, a1, a2, a3, a4⟩ := h3 i c hi
  have hb := World.block_lt_of_cell? _ _ a1
  exact ⟨g, off, rfl, (hk.cell (p := ⟨g, off + i * 3, none⟩) hb (hF g rfl)).trans a1, (hk.cell (p := ⟨g, off + i * 3 + 1, none⟩) hb (hF g rfl)).trans a2, (hk.cell (p := ⟨g, off + i * 3 + 2, none⟩) hb (hF g rfl)).trans a3, a4⟩
theorem ChR.same (h : ChR w v cs) (hk : Kp (fun _ => False) w w') : ChR w' v cs := h.kp hk fun _ _ e => e
theorem isIn_any (n a b : Int) (w : World) : Calls Try.prog 56 #[.int .i64 n, .int .i64 a, .int .i64 b] w fun e w' => e = .returned (.bool (isInB n a b)) ∧ w = w' := by
  by_cases h1 : a ≤ n
  · by_cases h2 : n ≤ b
    · have HE : Hid (isInB n a b = true) := Lib.hid (by simp [isInB, h1, h2])
      go_enter Try.func56, Try.ntmps56
      go_wp2_with fail
      go_ret
      exact ⟨by rw [HE.out]; rfl, rfl⟩
    · have HE : Hid (isInB n a b = false) := Lib.hid (by simp [isInB, h1, h2])
      go_enter Try.func56, Try.ntmps56
      go_wp2_with fail
      go_ret
      exact ⟨by rw [HE.out]; rfl, rfl⟩
  · have HE : Hid (isInB n a b = false) := Lib.hid (by simp [isInB, h1])
    have h2 : decide (a ≤ n) = false := by simpa using h1
    go_enter Try.func56, Try.ntmps56
    go_wp2_with fail
    go_ret
    exact ⟨by rw [HE.out]; rfl, rfl⟩
theorem isStrategy_any (x : Int) (w : World) : Calls Try.prog 55 #[.int .i64 x] w fun e w' => e = .returned (.bool (sgOk x)) ∧ w = w' := by
  by_cases h1 : x = 1
  · subst h1
    go_enter Try.func55, Try.ntmps55
    go_wp2_with fail
    go_ret
    exact ⟨rfl, rfl⟩
  · by_cases h2 : x = 2
    · subst h2
      go_enter Try.func55, Try.ntmps55
      go_wp2_with fail
      go_ret
      exact ⟨rfl, rfl⟩
    · by_cases h3 : x = 3
      · subst h3
        go_enter Try.func55, Try.ntmps55
        go_wp2_with fail
        go_ret
        exact ⟨rfl, rfl⟩
      · have HE : Hid (sgOk x = false) := Lib.hid (by simp [sgOk, h1, h2, h3])
        have e1 : (x == 1) = false := by simpa using h1
        have e2 : (x == 2) = false := by simpa using h2
        have e3 : (x == 3) = false := by simpa using h3
        clear h1 h2 h3
        go_enter Try.func55, Try.ntmps55
        go_wp2_with fail
        go_ret
        exact ⟨by rw [HE.out]; rfl, rfl⟩
set_option maxHeartbeats 1000000 in
theorem isChild_any (f : ByteArray) (r t : Int) (hf : f.size ≤ maxLen) (w : World) : Calls Try.prog 57 #[.agg #[.string f, .int .i64 r, .int .i64 t]] w fun e w' => e = .returned (.bool (chOk (f, r, t))) ∧ Kp (fun _ => False) w w' := by
  have HI1 : Hid (∀ w, Calls Try.prog 56 #[.int .i64 (f.size : Nat), .int .i64 1, .int .i64 255] w fun e w' => e = .returned (.bool (isInB f.size 1 255)) ∧ w = w') := Lib.hid fun w => isIn_any _ _ _ w
  have HI2 : Hid (∀ w, Calls Try.prog 56 #[.int .i64 t, .int .i64 (-1), .int .i64 10000] w fun e w' => e = .returned (.bool (isInB t (-1) 10000)) ∧ w = w') := Lib.hid fun w => isIn_any _ _ _ w
  have HK := Lib.hid ((Kp.refl (fun _ => False) w).alloc (.cells #[.string f, .int .i64 r, .int .i64 t] 29))
  obtain ⟨q1, hq1⟩ : ∃ q, isInB f.size 1 255 = q := ⟨_, rfl⟩
  obtain ⟨q2, hq2⟩ : ∃ q, isInB t (-1) 10000 = q := ⟨_, rfl⟩
  have HE : Hid (chOk (f, r, t) = ((decide (r = 0) || decide (r = 1) || decide (r = 2)) && q1 && q2)) := Lib.hid (by rw [← hq1, ← hq2]; rfl)
  rw [HE.out]
  simp only [hq1] at HI1
  simp only [hq2] at HI2
  clear hq1 hq2 HE
  have key : ∀ x : Int, x = 0 ∨ x = 1 ∨ x = 2 → (decide (x = 0) || decide (x = 1) || decide (x = 2)) = true := by
    intro x hx; rcases hx with rfl | rfl | rfl <;> rfl
  by_cases h0 : r = 0 ∨ r = 1 ∨ r = 2
  · rw [key r h0]
    clear key
    cases q1 with
    | true =>
      rcases h0 with rfl | rfl | rfl
      all_goals
        go_enter Try.func57, Try.ntmps57
        go_wp2_with fail
        refine (HI1.out _).mono ?_
        rintro e w' ⟨rfl, rfl⟩
        clear HI1
        go_wp2_with fail
        refine (HI2.out _).mono ?_
        rintro e w' ⟨rfl, rfl⟩
        clear HI2
        go_wp2_with fail
        go_ret
        exact ⟨by simp, HK.out⟩
    | false =>
      rcases h0 with rfl | rfl | rfl
      all_goals
        go_enter Try.func57, Try.ntmps57
        go_wp2_with fail
        refine (HI1.out _).mono ?_
        rintro e w' ⟨rfl, rfl⟩
        clear HI1 HI2
        go_wp2_with fail
        go_ret
        exact ⟨by simp, HK.out⟩
  · have HE : Hid ((decide (r = 0) || decide (r = 1) || decide (r = 2)) = false) := Lib.hid (by simp; omega)
    have e1 : (r == 0) = false := by simp; omega
    have e2 : (r == 1) = false := by simp; omega
    have e3 : (r == 2) = false := by simp; omega
    rw [HE.out]
    clear key h0 HE HI1 HI2
    go_enter Try.func57, Try.ntmps57
    go_wp2_with fail
    go_ret
    exact ⟨by simp, HK.out⟩
theorem bad_step {i : Nat} {c : Ch} (hi : i ≤ badAt cs) (hc : cs[i]? = some c) (ho : chOk c = true) : i + 1 ≤ badAt cs := by
  rcases Nat.lt_or_ge i (badAt cs) with h | h
  · exact h
  · have e : badAt cs = i := by omega
    have hl := (List.getElem?_eq_some_iff.1 hc).1
    have h2 : cs.findIdx (fun c => !chOk c) < cs.length := by show badAt cs < _; omega
    have h3 := List.findIdx_getElem (w := h2)
    have h4 : cs[cs.findIdx (fun c => !chOk c)] = c := by
      have : cs[cs.findIdx (fun c => !chOk c)]? = some c := by rw [show cs.findIdx (fun c => !chOk c) = i from e]; exact hc
      rw [List.getElem?_eq_getElem h2] at this
      exact Option.some.inj this
    rw [h4, ho] at h3
    simp at h3
theorem bad_here {i : Nat} {c : Ch} (hi : i ≤ badAt cs) (hc : cs[i]? = some c) (ho : chOk c = false) : badAt cs = i := by
  rcases Nat.lt_or_ge i (badAt cs) with h | h
  · have h2 := List.not_of_lt_findIdx (p := fun c => !chOk c) (xs := cs) (i := i) h
    have hl := (List.getElem?_eq_some_iff.1 hc).1
    have h4 : cs[i] = c := by
      rw [List.getElem?_eq_getElem hl] at hc
      exact Option.some.inj hc
    rw [h4, ho] at h2
    simp at h2
  · omega
set_option maxHeartbeats 2000000 in
theorem maybe_any (hv : ChR w v cs) (hm : -9223372036854775808 ≤ s.m ∧ s.m ≤ 9223372036854775807) (ht : -9223372036854775808 ≤ s.t ∧ s.t ≤ 9223372036854775807) : Calls Try.prog 47 #[specV s v] w (EBad w (fun v => v) (mayL s cs)) := by
  have hcsl : cs.length ≤ 9223372036854775807 := by obtain ⟨_, _, _, h1, h2, _⟩ := hv; omega
  have HI : Hid (∀ (n a b : Int) (w : World), Calls Try.prog 56 #[.int .i64 n, .int .i64 a, .int .i64 b] w fun e w' => e = .returned (.bool (isInB n a b)) ∧ w = w') := Lib.hid isIn_any
  have HS := Lib.hid fun w => isStrategy_any s.sg w
  have hk0 : Kp (fun _ => False) w (w.alloc (.cells #[.int .i64 s.sg, .int .i64 s.m, .int .i64 s.t, v] 33)) := (Kp.refl _ w).alloc _
  have hvb := hv.same hk0
  have hn0 := heap_alloc_new w (.cells #[.int .i64 s.sg, .int .i64 s.m, .int .i64 s.t, v] 33)
  obtain ⟨w1, hw1⟩ : ∃ w1, w.alloc (.cells #[.int .i64 s.sg, .int .i64 s.m, .int .i64 s.t, v] 33) = w1 := ⟨_, rfl⟩
  rw [hw1] at hk0 hvb hn0
  have b0 : w1.cell? ⟨w.heap.size, 0, none⟩ = some (.int .i64 s.sg) := cell_of_row _ _ 0 _ _ _ hn0
  have b1 : w1.cell? ⟨w.heap.size, 1, none⟩ = some (.int .i64 s.m) := cell_of_row _ _ 1 _ _ _ hn0
  have b2 : w1.cell? ⟨w.heap.size, 2, none⟩ = some (.int .i64 s.t) := cell_of_row _ _ 2 _ _ _ hn0
  have b3 : w1.cell? ⟨w.heap.size, 3, none⟩ = some v := cell_of_row _ _ 3 _ _ _ hn0
  have HN0 := Lib.hid hn0
  have HK := Lib.hid (And.intro hk0 hvb)
  obtain ⟨po, cap, hpo, -⟩ := hv
  subst hpo
  obtain ⟨q1, hq1⟩ : ∃ q, sgOk s.sg = q := ⟨_, rfl⟩
  obtain ⟨q2, hq2⟩ : ∃ q, isInB s.m 0 1000 = q := ⟨_, rfl⟩
  obtain ⟨q3, hq3⟩ : ∃ q, isInB s.t 1 10000 = q := ⟨_, rfl⟩
  obtain ⟨q4, hq4⟩ : ∃ q, isInB (cs.length : Nat) 1 32 = q := ⟨_, rfl⟩
  have HE : Hid (spOk s cs.length = (q1 && q2 && q3 && q4)) := Lib.hid (by rw [← hq1, ← hq2, ← hq3, ← hq4]; rfl)
  have HI2 := Lib.hid (fun w => HI.out s.m 0 1000 w)
  have HI3 := Lib.hid (fun w => HI.out s.t 1 10000 w)
  have HI4 := Lib.hid (fun w => HI.out (cs.length : Nat) 1 32 w)
  simp only [hq1] at HS
  simp only [hq2] at HI2
  simp only [hq3] at HI3
  simp only [hq4] at HI4
  have HQ4 := Lib.hid hq4
  clear hk0 hvb hn0 HI hq1 hq2 hq3 hq4
  have HBad : Hid (spOk s cs.length = false → EBad w (fun v => v) (mayL s cs) (.returned (.iface 82 (.int .i64 20))) w1) := Lib.hid fun e => by
    unfold mayL
    rw [e]
    exact ⟨_, rfl, ChainB.root _ _ (by decide), HK.out.1⟩
  unfold specV
  cases q1 with
  | false =>
    have HR := Lib.hid (HBad.out HE.out)
    clear HBad HE HI2 HI3 HI4
    go_enter Try.func47, Try.ntmps47
    go_wp2_with fail
    refine (HS.out _).mono ?_
    rintro e w' ⟨rfl, rfl⟩
    clear HS
    go_wp2_with fail
    go_ret
    exact HR.out
  | true =>
  cases q2 with
  | false =>
    have HR := Lib.hid (HBad.out HE.out)
    clear HBad HE HI3 HI4
    go_enter Try.func47, Try.ntmps47
    go_wp2_with fail
    refine (HS.out _).mono ?_
    rintro e w' ⟨rfl, rfl⟩
    clear HS
    go_wp2_with fail
    refine (HI2.out _).mono ?_
    rintro e w' ⟨rfl, rfl⟩
    clear HI2
    go_wp2_with fail
    go_ret
    exact HR.out
  | true =>
  cases q3 with
  | false =>
    have HR := Lib.hid (HBad.out HE.out)
    clear HBad HE HI4
    go_enter Try.func47, Try.ntmps47
    go_wp2_with fail
    refine (HS.out _).mono ?_
    rintro e w' ⟨rfl, rfl⟩
    clear HS
    go_wp2_with fail
    refine (HI2.out _).mono ?_
    rintro e w' ⟨rfl, rfl⟩
    clear HI2
    go_wp2_with fail
    refine (HI3.out _).mono ?_
    rintro e w' ⟨rfl, rfl⟩
    clear HI3
    go_wp2_with fail
    go_ret
    exact HR.out
  | true =>
  cases q4 with
  | false =>
    have HR := Lib.hid (HBad.out HE.out)
    clear HBad HE
    go_enter Try.func47, Try.ntmps47
    go_wp2_with fail
    refine (HS.out _).mono ?_
    rintro e w' ⟨rfl, rfl⟩
    clear HS
    go_wp2_with fail
    refine (HI2.out _).mono ?_
    rintro e w' ⟨rfl, rfl⟩
    clear HI2
    go_wp2_with fail
    refine (HI3.out _).mono ?_
    rintro e w' ⟨rfl, rfl⟩
    clear HI3
    go_wp2_with fail
    refine (HI4.out _).mono ?_
    rintro e w' ⟨rfl, rfl⟩
    clear HI4
    go_wp2_with fail
    go_ret
    exact HR.out
  | true =>
    have hok : spOk s cs.length = true := HE.out
    have hl32 : cs.length ≤ 32 := by
      have := HQ4.out
      unfold isInB at this
      simp at this
      omega
    have HM : Hid (mayL s cs = if badAt cs < cs.length then [Lk.fault opChild (badAt cs), Lk.kind 20] else []) := Lib.hid (by unfold mayL; rw [hok]; rfl)
    clear HBad HE HQ4 hok
    go_enter Try.func47, Try.ntmps47
    go_wp2_with fail
    refine (HS.out _).mono ?_
    rintro e w' ⟨rfl, rfl⟩
    clear HS
    go_wp2_with fail
    refine (HI2.out _).mono ?_
    rintro e w' ⟨rfl, rfl⟩
    clear HI2
    go_wp2_with fail
    refine (HI3.out _).mono ?_
    rintro e w' ⟨rfl, rfl⟩
    clear HI3
    go_wp2_with fail
    refine (HI4.out _).mono ?_
    rintro e w' ⟨rfl, rfl⟩
    clear HI4
    go_wp2_with fail
    clear b0 b1 b2 b3 hw1 HN0
    go_loopg [3, 4, 32] cs.length (fun gk s3 s4 s32 wr => ∃ (i : Nat) (y3 y4 : Value), i ≤ cs.length ∧ gk = cs.length - i ∧ s3 = y3 ∧ s4 = y4 ∧ s32 = .int .i64 (i : Nat) ∧ Hid (Kp (fun _ => False) w1 wr ∧ i ≤ badAt cs))
    case atStart => exact ⟨0, _, _, by omega, rfl, rfl, rfl, rfl, Lib.hid ⟨Kp.refl _ _, Nat.zero_le _⟩⟩
    case round =>
      obtain ⟨i, y3, y4, hi, rfl, hy3, hy4, rfl, HR⟩ := hrel
      obtain rfl := hy3.symm
      obtain rfl := hy4.symm
      by_cases hlt : i < cs.length
      · obtain ⟨hk1, hbd⟩ := HR.out
        have hii : (i : Int) < cs.length := by omega
        obtain ⟨c, hc⟩ : ∃ c, cs[i]? = some c := ⟨_, List.getElem?_eq_getElem hlt⟩
        obtain ⟨po2, cap2, e, -, -, hrd⟩ := HK.out.2.same hk1
        injection e with e1 _ e2
        subst e1
        obtain ⟨g, off, rfl, a1, a2, a3, a4, a5, a6⟩ := hrd i c hc
        obtain ⟨f, r, t⟩ := c
        simp only at a1 a2 a3 a4 a5 a6
        have hka : Kp (fun _ => False) wr (wr.alloc (.cells #[.string f, .int .i64 r, .int .i64 t] 29)) := (Kp.refl _ wr).alloc _
        have HC := Lib.hid (isChild_any f r t a4 (wr.alloc (.cells #[.string f, .int .i64 r, .int .i64 t] 29)))
        have HX := Lib.hid (And.intro hk1 (And.intro hbd (And.intro hc hka)))
        obtain ⟨q, hq⟩ : ∃ q, chOk (f, r, t) = q := ⟨_, rfl⟩
        rw [hq] at HC
        have HQ := Lib.hid hq
        clear hq hk1 hbd hc hrd HR hka e2
        cases q with
        | true =>
          go_wp2_with fail
          refine HC.out.mono ?_
          rintro e w2 ⟨rfl, hk2⟩
          have HF : Hid (Kp (fun _ => False) w1 w2 ∧ i + 1 ≤ badAt cs) := Lib.hid ⟨(HX.out.1.trans' HX.out.2.2.2).trans' hk2, bad_step HX.out.2.1 HX.out.2.2.1 HQ.out⟩
          clear HC HX HQ hk2 a1 a2 a3
          go_wp2_with fail
          go_roundg (cs.length - (i + 1))
          case measure => omega
          case rel => exact ⟨i + 1, _, _, by omega, rfl, rfl, rfl, by go_num, HF⟩
        | false =>
          go_wp2_with fail
          refine HC.out.mono ?_
          rintro e w2 ⟨rfl, hk2⟩
          have hbi := bad_here HX.out.2.1 HX.out.2.2.1 HQ.out
          have HF : Hid (Kp (fun _ => False) w w2 ∧ mayL s cs = [Lk.fault opChild i, Lk.kind 20]) := by
            refine Lib.hid ⟨HK.out.1.trans' ((HX.out.1.trans' HX.out.2.2.2).trans' hk2), ?_⟩
            rw [HM.out, if_pos (by omega), hbi]
          clear HC HX HQ hk2 a1 a2 a3 hbi HM
          go_wp2_with fail
          refine (at_any _ _ _ _ _).mono ?_
          rintro e w3 ⟨rfl, rfl⟩
          have hz := HF.out.1.size
          have HG : Hid (EBad w (fun v => v) (mayL s cs) (.returned (.iface 97 (.pointer (some ⟨w2.heap.size, 0, none⟩)))) (w2.alloc (.cells #[.string opChild, .int .i64 (i : Nat), .iface 82 (.int .i64 20)] 99))) := by
            rw [HF.out.2]
            exact Lib.hid ⟨_, rfl, ChainB.cons _ _ (ChainB.root _ _ (by decide)) hz (heap_alloc_new w2 _), HF.out.1.alloc _⟩
          clear HF hz
          go_wp2_with fail
          go_ret
          exact HG.out
      · obtain rfl : i = cs.length := by omega
        have HG : Hid (EBad w (fun v => v) (mayL s cs) (.returned .nilIface) wr) := by
          rw [HM.out, if_neg (by have := HR.out.2; omega)]
          exact Lib.hid ⟨_, rfl, rfl, HK.out.1.trans' HR.out.1⟩
        clear HR
        go_wp2_with fail
        go_ret
        exact HG.out
end
end Go.Proofs.Ytbdogiblndlimaa
