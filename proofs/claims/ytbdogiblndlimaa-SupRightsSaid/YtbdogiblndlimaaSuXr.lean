/- The document's own Right. -/
import Derived.Test.YtbdogiblndlimaaSuSpec
import Derived.BigGuardPart
namespace Go.Proofs.Ytbdogiblndlimaa
open Go.RowKit
set_option linter.unusedVariables false

theorem XCh.ptr {w : World} {v : Value} {a : Lk} {l : List Lk} (h : XCh w v (a :: l)) : ∃ g, v = .pointer (some ⟨g, 0, none⟩) := by
  rcases h with ⟨-, g, h, -⟩ | ⟨-, -, g, gi, h, -⟩ <;> exact ⟨g, h⟩
theorem XCh.cons {w : World} {po : Option Addr} {a : Lk} {l : List Lk} (h : XCh w (.pointer po) (a :: l)) (op : ByteArray) (n : Int) :
    XCh (w.alloc (.cells #[.string op, .int .i64 n, .pointer po, .int .i64 0] 96)) (.pointer (some ⟨w.heap.size, 0, none⟩)) (Lk.fault op n :: a :: l) := by
  obtain ⟨gi, e⟩ := h.ptr
  injection e with e
  subst e
  exact .inr ⟨rfl, by simp, w.heap.size, gi, rfl, heap_alloc_new w _, XCh.kp ((Kp.refl _ w).alloc _) _ _ h⟩
theorem xF_any (op : ByteArray) (n : Int) (po : Addr) (w : World) :
    Calls Try.prog 41 #[.string op, .int .i64 n, .pointer (some po)] w fun e' w' => e' = .returned (.pointer (some ⟨w.heap.size, 0, none⟩)) ∧ w' = w.alloc (.cells #[.string op, .int .i64 n, .pointer (some po), .int .i64 0] 96) := by
  go_enter Try.func41, Try.ntmps41
  go_wp2_with fail
  go_ret
  exact ⟨rfl, rfl⟩
/-- the same with chains -/
theorem xk_ch (k : Int) (w : World) :
    Calls Try.prog 42 #[.int .i64 k] w fun e w' => ∃ g, e = .returned (.pointer (some ⟨g, 0, none⟩)) ∧ XCh w' (.pointer (some ⟨g, 0, none⟩)) [Lk.kind k] ∧ Kp (fun _ => False) w w' := by
  refine (k_any k w).mono ?_
  rintro e w1 ⟨rfl, rfl⟩
  exact ⟨_, rfl, .inl ⟨rfl, _, rfl, heap_alloc_new w _, rfl, rfl⟩, (Kp.refl _ w).alloc _⟩
theorem xF_ch (op : ByteArray) (n : Int) {g : Nat} {a : Lk} {l : List Lk} {w : World} (h : XCh w (.pointer (some ⟨g, 0, none⟩)) (a :: l)) :
    Calls Try.prog 41 #[.string op, .int .i64 n, .pointer (some ⟨g, 0, none⟩)] w fun e w' => ∃ g', e = .returned (.pointer (some ⟨g', 0, none⟩)) ∧ XCh w' (.pointer (some ⟨g', 0, none⟩)) (Lk.fault op n :: a :: l) ∧ Kp (fun _ => False) w w' := by
  refine (xF_any op n ⟨g, 0, none⟩ w).mono ?_
  rintro e w1 ⟨rfl, rfl⟩
  exact ⟨_, rfl, h.cons op n, (Kp.refl _ w).alloc _⟩
section
variable {w w' : World} {v : Value} {cs : List Ch} {s : Sp}
theorem sp_bad {n : Nat} (h : spOk s n = false) : s.sg < 1 ∨ (¬ s.sg < 1 ∧ 3 < s.sg) ∨ (¬ s.sg < 1 ∧ ¬ 3 < s.sg ∧ s.m < 0) ∨ (¬ s.sg < 1 ∧ ¬ 3 < s.sg ∧ ¬ s.m < 0 ∧ 1000 < s.m) ∨ (¬ s.sg < 1 ∧ ¬ 3 < s.sg ∧ ¬ s.m < 0 ∧ ¬ 1000 < s.m ∧ s.t < 1) ∨
    (¬ s.sg < 1 ∧ ¬ 3 < s.sg ∧ ¬ s.m < 0 ∧ ¬ 1000 < s.m ∧ ¬ s.t < 1 ∧ 10000 < s.t) ∨ (¬ s.sg < 1 ∧ ¬ 3 < s.sg ∧ ¬ s.m < 0 ∧ ¬ 1000 < s.m ∧ ¬ s.t < 1 ∧ ¬ 10000 < s.t ∧ (n : Int) < 1) ∨ (¬ s.sg < 1 ∧ ¬ 3 < s.sg ∧ ¬ s.m < 0 ∧ ¬ 1000 < s.m ∧ ¬ s.t < 1 ∧ ¬ 10000 < s.t ∧ ¬ (n : Int) < 1 ∧ (32 : Int) < n) := by
  simp only [spOk, sgOk, isInB, Bool.and_eq_false_iff, Bool.or_eq_false_iff, decide_eq_false_iff_not] at h
  omega
theorem sp_good {n : Nat} (h : spOk s n = true) : ¬ s.sg < 1 ∧ ¬ 3 < s.sg ∧ ¬ s.m < 0 ∧ ¬ 1000 < s.m ∧ ¬ s.t < 1 ∧ ¬ 10000 < s.t ∧ ¬ (n : Int) < 1 ∧ ¬ (32 : Int) < n := by
  simp only [spOk, sgOk, isInB, Bool.and_eq_true, Bool.or_eq_true, decide_eq_true_eq] at h
  omega
theorem ch_bad {c : Ch} (h : chOk c = false) : (c.1.size : Int) < 1 ∨ (¬ (c.1.size : Int) < 1 ∧ (255 : Int) < c.1.size) ∨ (¬ (c.1.size : Int) < 1 ∧ ¬ (255 : Int) < c.1.size ∧ c.2.1 < 0) ∨ (¬ (c.1.size : Int) < 1 ∧ ¬ (255 : Int) < c.1.size ∧ ¬ c.2.1 < 0 ∧ 2 < c.2.1) ∨
    (¬ (c.1.size : Int) < 1 ∧ ¬ (255 : Int) < c.1.size ∧ ¬ c.2.1 < 0 ∧ ¬ 2 < c.2.1 ∧ c.2.2 < -1) ∨ (¬ (c.1.size : Int) < 1 ∧ ¬ (255 : Int) < c.1.size ∧ ¬ c.2.1 < 0 ∧ ¬ 2 < c.2.1 ∧ ¬ c.2.2 < -1 ∧ 10000 < c.2.2) := by
  simp only [chOk, isInB, Bool.and_eq_false_iff, Bool.or_eq_false_iff, decide_eq_false_iff_not] at h
  omega
theorem ch_good {c : Ch} (h : chOk c = true) : ¬ (c.1.size : Int) < 1 ∧ ¬ (255 : Int) < c.1.size ∧ ¬ c.2.1 < 0 ∧ ¬ 2 < c.2.1 ∧ ¬ c.2.2 < -1 ∧ ¬ 10000 < c.2.2 := by
  simp only [chOk, isInB, Bool.and_eq_true, Bool.or_eq_true, decide_eq_true_eq] at h
  omega
set_option maxHeartbeats 4000000 in
set_option maxRecDepth 100000 in
theorem xright_any (hv : ChR w v cs) : Calls Try.prog 23 #[specV s v] w (XBad w (fun v => v) (rightL s cs)) := by
  have hcsl : cs.length ≤ 9223372036854775807 := by obtain ⟨_, _, _, h1, h2, _⟩ := hv; omega
  have hk0 : Kp (fun _ => False) w (w.alloc (.cells #[.int .i64 s.sg, .int .i64 s.m, .int .i64 s.t, v] 33)) := (Kp.refl _ w).alloc _
  have hvb := hv.same hk0
  have hn0 := heap_alloc_new w (.cells #[.int .i64 s.sg, .int .i64 s.m, .int .i64 s.t, v] 33)
  obtain ⟨w1, hw1⟩ : ∃ w1, w.alloc (.cells #[.int .i64 s.sg, .int .i64 s.m, .int .i64 s.t, v] 33) = w1 := ⟨_, rfl⟩
  rw [hw1] at hk0 hvb hn0
  have b0 : w1.cell? ⟨w.heap.size, 0, none⟩ = some (.int .i64 s.sg) := cell_of_row _ _ 0 _ _ _ hn0
  have b1 : w1.cell? ⟨w.heap.size, 1, none⟩ = some (.int .i64 s.m) := cell_of_row _ _ 1 _ _ _ hn0
  have b2 : w1.cell? ⟨w.heap.size, 2, none⟩ = some (.int .i64 s.t) := cell_of_row _ _ 2 _ _ _ hn0
  have b3 : w1.cell? ⟨w.heap.size, 3, none⟩ = some v := cell_of_row _ _ 3 _ _ _ hn0
  have HN0 := Lib.hid hn0
  have HK := Lib.hid (And.intro hk0 hvb)
  obtain ⟨po, cap, hpo, -⟩ := hv
  subst hpo
  clear hk0 hvb hn0
  unfold specV
  cases hsp : spOk s cs.length with
  | false =>
    have hkey := sp_bad hsp
    have hL : rightL s cs = [Lk.fault opSpec 0, Lk.kind 20] := by
      unfold rightL mayL
      rw [hsp]
      simp
    rw [hL]
    clear hsp hL
    have hop : opSpec = ⟨#[115, 112, 101, 99]⟩ := rfl
    have HKK := Lib.hid HK.out.1
    clear HK
    rcases hkey with h1 | ⟨g1, h1⟩ | ⟨g1, g2, h1⟩ | ⟨g1, g2, g3, h1⟩ | ⟨g1, g2, g3, g4, h1⟩ | ⟨g1, g2, g3, g4, g5, h1⟩ | ⟨g1, g2, g3, g4, g5, g6, h1⟩ | ⟨g1, g2, g3, g4, g5, g6, g7, h1⟩
    all_goals
      go_enter Try.func23, Try.ntmps23
      go_wp2_with fail
      refine (xk_ch 20 _).mono ?_
      rintro e w2 ⟨g, rfl, hx2, hk2⟩
      have HX := Lib.hid (xF_ch opSpec 0 hx2)
      rw [hop] at HX
      have HK3 := Lib.hid (HKK.out.trans' hk2)
      clear hx2 hk2 HKK
      go_wp2_with fail
      refine HX.out.mono ?_
      rintro e w3 ⟨g', rfl, hx3, hk3⟩
      have HG : Hid (XBad w (fun v => v) [Lk.fault opSpec 0, Lk.kind 20] (.returned (.pointer (some ⟨g', 0, none⟩))) w3) := Lib.hid ⟨_, rfl, hx3, HK3.out.trans' hk3⟩
      clear hx3 hk3 HK3 HX
      go_wp2_with fail
      go_ret
      exact HG.out
  | true =>
    obtain ⟨g1, g2, g3, g4, g5, g6, g7, g8⟩ := sp_good hsp
    have hL : rightL s cs = if badAt cs < cs.length then [Lk.fault opSpec 0, Lk.fault opChild (badAt cs), Lk.kind 20] else [] := by
      unfold rightL mayL
      rw [hsp, if_pos rfl]
      by_cases h : badAt cs < cs.length
      · rw [if_pos h, if_pos h]; simp
      · rw [if_neg h, if_neg h]; simp
    rw [hL]
    obtain ⟨R, hR⟩ : ∃ R, (if badAt cs < cs.length then [Lk.fault opSpec 0, Lk.fault opChild (badAt cs), Lk.kind 20] else []) = R := ⟨_, rfl⟩
    rw [hR]
    have HRL := Lib.hid hR
    clear hsp hL hR
    have HB3 := Lib.hid b3
    go_enter Try.func23, Try.ntmps23
    go_wp2_with fail
    clear g1 g2 g3 g4 g5 g6 b0 b1 b2 b3
    go_loopg [3, 4] cs.length (fun gk s3 s4 wr => ∃ (i : Nat) (y : Value), i ≤ cs.length ∧ gk = cs.length - i ∧ s3 = .int .i64 i ∧ s4 = y ∧ Hid (i ≤ badAt cs ∧ Kp (fun _ => False) w1 wr))
    case atStart => exact ⟨0, _, by omega, rfl, rfl, rfl, Lib.hid ⟨Nat.zero_le _, Kp.refl _ w1⟩⟩
    case round =>
      obtain ⟨i, y, hi, rfl, rfl, hy, HR⟩ := hrel
      obtain rfl := hy.symm
      obtain ⟨hib, hk⟩ := HR.out
      have b3 : wr.cell? ⟨w.heap.size, 3, none⟩ = some (.slice po cs.length cap) := (hk.cell (p := ⟨w.heap.size, 3, none⟩) (World.block_lt_of_cell? _ _ HB3.out) (fun e => e)).trans HB3.out
      by_cases hlt : i < cs.length
      · have hii : (i : Int) < cs.length := by omega
        obtain ⟨⟨f, r, t⟩, hc⟩ : ∃ c, cs[i]? = some c := ⟨_, List.getElem?_eq_getElem hlt⟩
        obtain ⟨po', cap', e, -, -, h3⟩ := HK.out.2.same hk
        injection e with e e1 e2
        obtain ⟨gr, off, e3, c1, c2, c3, hf, hr, ht⟩ := h3 i _ hc
        rw [e3] at e
        rw [e] at b3
        simp only at c1 c2 c3 hf hr ht
        have hsz : f.size ≤ 9223372036854775807 := by unfold maxLen at hf; omega
        clear h3 e3 hf e1 e2
        cases hok : chOk (f, r, t) with
        | true =>
          obtain ⟨g1, g2, g3, g4, g5, g6⟩ := ch_good hok
          simp only at g1 g2 g3 g4 g5 g6
          have HN : Hid (i + 1 ≤ badAt cs ∧ ∀ wf, Kp (fun _ => False) wr wf → Kp (fun _ => False) w1 wf) := Lib.hid ⟨bad_step hib hc hok, fun wf hf => hk.trans' hf⟩
          clear hib hk HR hc hok e
          go_wp2_with fail
          go_roundg (cs.length - (i + 1))
          case measure => omega
          case rel => exact ⟨i + 1, _, by omega, rfl, by go_num, rfl, Lib.hid ⟨HN.out.1, HN.out.2 _ ((Kp.refl _ wr).alloc _)⟩⟩
        | false =>
          have hkey := ch_bad hok
          simp only at hkey
          have hbd := bad_here hib hc hok
          have HRI : Hid (R = [Lk.fault opSpec 0, Lk.fault opChild (i : Nat), Lk.kind 20]) := Lib.hid (by rw [← HRL.out, hbd, if_pos hlt])
          have HKK := Lib.hid ((HK.out.1.trans' hk).alloc (.cells #[.string f, .int .i64 r, .int .i64 t] 29))
          have hop : opSpec = ⟨#[115, 112, 101, 99]⟩ := rfl
          have hoc : opChild = ⟨#[99, 104, 105, 108, 100]⟩ := rfl
          clear hib hk HR hc hok e hbd HK
          rcases hkey with h1 | ⟨g1, h1⟩ | ⟨g1, g2, h1⟩ | ⟨g1, g2, g3, h1⟩ | ⟨g1, g2, g3, g4, h1⟩ | ⟨g1, g2, g3, g4, g5, h1⟩
          all_goals
            go_wp2_with fail
            refine (xk_ch 20 _).mono ?_
            rintro e w2 ⟨g, rfl, hx2, hk2⟩
            have HX := Lib.hid (xF_ch opChild (i : Nat) hx2)
            rw [hoc] at HX
            have HK3 := Lib.hid (HKK.out.trans' hk2)
            clear hx2 hk2 HKK
            go_wp2_with fail
            refine HX.out.mono ?_
            rintro e w3 ⟨g', rfl, hx3, hk3⟩
            have HX2 := Lib.hid (xF_ch opSpec 0 hx3)
            rw [hop] at HX2
            have HK4 := Lib.hid (HK3.out.trans' hk3)
            clear hx3 hk3 HK3 HX
            go_wp2_with fail
            refine HX2.out.mono ?_
            rintro e w4 ⟨g4', rfl, hx4, hk4⟩
            have HG : Hid (XBad w (fun v => v) R (.returned (.pointer (some ⟨g4', 0, none⟩))) w4) := Lib.hid ⟨_, rfl, by rw [HRI.out]; exact hx4, HK4.out.trans' hk4⟩
            clear hx4 hk4 HK4 HX2 HRI HRL
            go_wp2_with fail
            go_ret
            exact HG.out
      · obtain rfl : cs.length = i := by omega
        have hbd : ¬ badAt cs < cs.length := by omega
        have hni : ¬ (cs.length : Int) < cs.length := by omega
        have HG : Hid (XBad w (fun v => v) R (.returned (.pointer none)) wr) := Lib.hid ⟨_, rfl, by rw [← HRL.out, if_neg hbd]; rfl, HK.out.1.trans' hk⟩
        clear hib hk HR hbd HK HRL
        obtain ⟨n, hn⟩ : ∃ n, cs.length = n := ⟨_, rfl⟩
        go_wp2_with fail
        go_ret
        exact HG.out
end
end Go.Proofs.Ytbdogiblndlimaa
