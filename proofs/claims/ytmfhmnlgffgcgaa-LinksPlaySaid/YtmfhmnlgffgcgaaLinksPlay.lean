/- any script: the net answers as plain lists of links and monitors do -/
import Derived.Test.YtmfhmnlgffgcgaaRows
import Derived.Test.YtmfhmnlgffgcgaaLkSim
import Derived.Test.YtmfhmnlgffgcgaaLkOpsIn
import Derived.Deep.CutRange
import Derived.Deep.DeepCutAuto
import Derived.Deep.CutBlock
import Derived.Deep.RegionHeld3
import Derived.WalkKit
import Derived.ProofKit
import Derived.OpenShut
import Derived.ShutString
import Derived.ChangeOld
import Derived.Below
import Derived.Deep.Strs
namespace Go.Proofs.Ytmfhmnlgffgcgaa.linksPlay
open Go.ChangeShapes Go.WideShapes Go.ChangeAt Go.RowKit
open Go.ChangeMaps (open_string shut_string)
set_option linter.unusedVariables false

theorem own : ownKnob Try.prog.godebug = none := by kernel_rfl
theorem laidOut : laidOutB Try.prog = true := by kernel_rfl

/-- both nets with the same links and monitors, beside the blocks E -/
def Pq (w0 : World) (E : Nat → Prop) (w : World) (b1 b2 i : Nat) (ls : List (Int × Int)) (ms : List Mo) (n : Nat) : Prop :=
  ls.length ≤ i ∧ ms.length ≤ n ∧ n ≤ i ∧ PN w0 E w b1 b2 ls ms n ls ms n
theorem nop_cells {w : World} {X : Nat} {k n id x : Int} {T : TypeId} (h : w.heap[X]? = some (.cells #[.int .i64 k, .int .i64 n, .int .i64 id, .int .i64 x] T (0, 0))) :
    w.cell? ⟨X, 0, none⟩ = some (.int .i64 k) ∧ w.cell? ⟨X, 1, none⟩ = some (.int .i64 n) ∧ w.cell? ⟨X, 2, none⟩ = some (.int .i64 id) ∧ w.cell? ⟨X, 3, none⟩ = some (.int .i64 x) := by
  refine ⟨?_, ?_, ?_, ?_⟩ <;> (rw [cell_of_row w X _ _ _ _ h]; rfl)
theorem addLk_le {ls : List (Int × Int)} {a x : Int} {i : Nat} (h : ls.length ≤ i) : (addLk ls a x).length ≤ i + 1 := by
  unfold addLk
  split
  · omega
  · rw [List.length_append]; simp; omega
theorem butPair_le {ls : List (Int × Int)} {p : Int × Int} {i : Nat} (h : ls.length ≤ i) : (butPair ls p).length ≤ i + 1 := by
  have : (butPair ls p).length ≤ ls.length := List.length_filter_le _ _
  omega
theorem demMs_le {ms : List Mo} {r who : Int} {n : Nat} (h : ms.length ≤ n) : (demMs ms r who).length ≤ n := by
  unfold demMs
  split
  · have : (butRef ms r).length ≤ ms.length := List.length_filter_le _ _
    omega
  · exact h
set_option maxRecDepth 100000 in
set_option maxHeartbeats 40000000 in
theorem walk (a0 : Option Addr) (len0 cap0 : Nat) (w : World) (h0 : NopsIn w a0 len0 cap0) :
    Calls Try.prog 6 #[.slice a0 len0 cap0] w fun e w' => e = .returned (.bool true) ∧ Below w.heap.size w w' := by
  have hcap : len0 ≤ cap0 ∧ cap0 ≤ 9223372036854775807 := by
    have h2 := h0.1
    have h3 := h0.2.1
    unfold maxLen at h3
    exact ⟨h2, by omega⟩
  have hlen : len0 ≤ 4398046511104 := h0.2.2.1
  have HI := Lib.hid h0
  have HP0 : Hid (Pq w noLk _ w.heap.size (w.heap.size + 1) 0 [] [] 0) := Lib.hid ⟨by simp, by simp, by simp, pn_new w⟩
  obtain ⟨b1, hb1⟩ : ∃ b1, w.heap.size = b1 := ⟨_, rfl⟩
  rw [hb1] at HP0
  clear h0
  go_enter Try.func6, Try.ntmps6
  go_wp2_with fail
  have HB1 := Lib.hid hb1
  clear hb1
  go_loopg [5, 6, 7, 8, 9, 10, 11, 12, 13, 14, 15, 16, 17, 18, 19] len0 (fun gk s5 s6 s7 s8 s9 s10 s11 s12 s13 s14 s15 s16 s17 s18 s19 wr => ∃ (i : Nat) (y6 y7 y8 y9 y10 y11 y12 y13 y14 y15 y16 y17 y18 y19 : Value), i ≤ len0 ∧ gk = len0 - i ∧ s5 = .int .i64 (i : Nat) ∧ s6 = y6 ∧ s7 = y7 ∧ s8 = y8 ∧ s9 = y9 ∧ s10 = y10 ∧ s11 = y11 ∧ s12 = y12 ∧ s13 = y13 ∧ s14 = y14 ∧ s15 = y15 ∧ s16 = y16 ∧ s17 = y17 ∧ s18 = y18 ∧ s19 = y19 ∧ Hid (∃ ls ms n, Pq w noLk wr b1 (b1 + 1) i ls ms n))
  case atStart => exact ⟨0, _, _, _, _, _, _, _, _, _, _, _, _, _, _, Nat.zero_le _, rfl, rfl, rfl, rfl, rfl, rfl, rfl, rfl, rfl, rfl, rfl, rfl, rfl, rfl, rfl, rfl, Lib.hid ⟨[], [], 0, HP0.out⟩⟩
  case round =>
    obtain ⟨i, y6, y7, y8, y9, y10, y11, y12, y13, y14, y15, y16, y17, y18, y19, hi, rfl, rfl, rfl, rfl, rfl, rfl, rfl, rfl, rfl, rfl, rfl, rfl, rfl, rfl, rfl, rfl, HR⟩ := hrel
    clear HP0
    by_cases hlt : i < len0
    · have hli : (i : Int) < len0 := by omega
      obtain ⟨ls, ms, n, hP⟩ := HR.out
      clear HR
      have hkw := hP.2.2.2.kp0
      obtain ⟨xs, xo, rfl, hxl, k, A, B, r, kw, aw, bw, rw', c0, c1, c2, c3⟩ := HI.out.2.2.2 i hlt
      obtain ⟨k1, k2⟩ := bounds_i64 kw
      obtain ⟨p1, p2⟩ := bounds_i64 aw
      obtain ⟨q1, q2⟩ := bounds_i64 bw
      obtain ⟨r1, r2⟩ := bounds_i64 rw'
      have HA := Lib.hid (show I64 A by unfold I64; omega)
      have HBB := Lib.hid (show I64 B by unfold I64; omega)
      have HRR := Lib.hid (show I64 r by unfold I64; omega)
      have d0 := (hkw.cell (p := ⟨xs, xo + i * 4, none⟩) hxl (fun e => e)).trans c0
      have d1 := (hkw.cell (p := ⟨xs, xo + i * 4 + 1, none⟩) hxl (fun e => e)).trans c1
      have d2 := (hkw.cell (p := ⟨xs, xo + i * 4 + 2, none⟩) hxl (fun e => e)).trans c2
      have d3 := (hkw.cell (p := ⟨xs, xo + i * 4 + 3, none⟩) hxl (fun e => e)).trans c3
      obtain ⟨X, hXe⟩ : ∃ X, wr.heap.size = X := ⟨_, rfl⟩
      obtain ⟨w1, hw1⟩ : ∃ w1, wr.alloc (.cells #[.int .i64 k, .int .i64 A, .int .i64 B, .int .i64 r] 61) = w1 := ⟨_, rfl⟩
      have hk1 : Kp (fun _ => False) wr w1 := by rw [← hw1]; exact (Kp.refl _ wr).alloc _
      have hx0 : w1.heap[wr.heap.size]? = some (.cells #[.int .i64 k, .int .i64 A, .int .i64 B, .int .i64 r] 61 (0, 0)) := by rw [← hw1]; exact heap_alloc_new wr _
      have hx1 := hx0
      rw [hXe] at hx1
      have HP := Lib.hid (show Pq w (fun q => q = X) w1 b1 (b1 + 1) i ls ms n from ⟨hP.1, hP.2.1, hP.2.2.1, hP.2.2.2.put hk1 (fun q e => .inr ⟨by omega, by have := (Array.getElem?_eq_some_iff.1 hx1).1; omega⟩)⟩)
      have HX := Lib.hid hx1
      obtain ⟨q, hq, hq5⟩ : ∃ q : Nat, k % 8 = q ∧ q < 8 := ⟨(k % 8).toNat, by omega, by omega⟩
      have HQ := Lib.hid hq
      obtain ⟨e0, e1, e2, e3⟩ := nop_cells hx0
      clear hx0 hP hkw c0 c1 c2 c3 kw aw bw rw' hk1 hx1 hq p1 p2 q1 q2 r1 r2
      have HXE := Lib.hid hXe
      clear hXe
      have HLB := Lib.hid (show i ≤ 4398046511104 by omega)
      go_upto_region 8 with (fail)
      rw [HXE.out] at e0 e1 e2 e3 ⊢
      clear d0 d1 d2 d3 hw1
      go_wp2_with fail
      refine (place_any _ k 8 k1 k2 (by omega) (by omega)).mono ?_
      rintro e w' ⟨rfl, rfl⟩
      rw [HQ.out]
      clear k1 k2
      go_upto_block 2 with (fail)
      go_cut [7, 8, 9, 10, 11, 12, 13, 14, 15, 16, 17] from 24 to 198 (fun s7 s8 s9 s10 s11 s12 s13 s14 s15 s16 s17 wx => s7 = .bool true ∧ Hid (∃ ls ms n, Pq w (fun q => q = X) wx b1 (b1 + 1) (i + 1) ls ms n))
      case first =>
        have hq5' : q = 0 ∨ q = 1 ∨ q = 2 ∨ q = 3 ∨ q = 4 ∨ q = 5 ∨ q = 6 ∨ q = 7 := by omega
        clear e0 hq5
        rcases hq5' with rfl | rfl | rfl | rfl | rfl | rfl | rfl | rfl
        · as_aux_lemma =>
          have HE := Lib.hid (fun (wx : World) (l2 : List (Int × Int)) (m2 : List Mo) (k2 : Nat) (h : PN w (fun q => q = X) wx b1 (b1 + 1) ls ms n l2 m2 k2) => p1_of (v := .bool (!decide (A = B ∨ lk A B ∈ ls))) (L := addLk ls A B) (M := ms) (N := n) h (fun C' h' => ns_link h' HA.out HBB.out (by have := HP.out.1; have := HLB.out; omega)))
          have HF := Lib.hid (fun (wx : World) (l2 : List (Int × Int)) (m2 : List Mo) (k2 : Nat) (h : PN w (fun q => q = X) wx b1 (b1 + 1) l2 m2 k2 ls ms n) => p2_of (v := .bool (!decide (A = B ∨ lk A B ∈ ls))) (L := addLk ls A B) (M := ms) (N := n) h (fun vl vm h' => xlink_any h' HA.out HBB.out (by have := HP.out.1; have := HLB.out; omega)))
          obtain ⟨wd, hwd⟩ : ∃ wd, w1.drew = wd := ⟨_, rfl⟩
          have kd : Kp (fun _ => False) w1 wd := by rw [← hwd]; exact (Kp.refl _ w1).drew
          have HPD := Lib.hid (HP.out.2.2.2.same kd)
          obtain ⟨f0, f1, f2, f3⟩ := nop_cells ((kd.block X (Array.getElem?_eq_some_iff.1 HX.out).1 (fun e => e)).trans HX.out)
          clear f0 f3 kd
          subst hwd
          go_wp2_with fail
          go_region_held3 (fun w' => w'.cell? ⟨X, 1, none⟩ = some (.int .i64 A) ∧ w'.cell? ⟨X, 2, none⟩ = some (.int .i64 B)) (first | exact ⟨h1, h2⟩ | exact ⟨g1, g2⟩ | exact ⟨f1, f2⟩) (first
            | (go_at_call 13; refine (HE.out _ _ _ _ HPD.out).mono ?_; rintro e wa ⟨rfl, hPa, hka⟩; have HA1 := Lib.hid hPa; have g1 := (hka.cell (p := ⟨X, 1, none⟩) (World.block_lt_of_cell? _ _ f1) (fun e => e rfl)).trans f1; have g2 := (hka.cell (p := ⟨X, 2, none⟩) (World.block_lt_of_cell? _ _ f2) (fun e => e rfl)).trans f2; clear hPa hka)
            | (go_at_call 20; refine (HF.out _ _ _ _ HA1.out).mono ?_; rintro e wb ⟨rfl, hPb, hkb⟩; have HPb := Lib.hid hPb; have h1 := (hkb.cell (p := ⟨X, 1, none⟩) (World.block_lt_of_cell? _ _ g1) (fun e => e rfl)).trans g1; have h2 := (hkb.cell (p := ⟨X, 2, none⟩) (World.block_lt_of_cell? _ _ g2) (fun e => e rfl)).trans g2; clear hPb hkb)
            | (go_at_call 20; refine (HF.out _ _ _ _ HPD.out).mono ?_; rintro e wa ⟨rfl, hPa, hka⟩; have HA2 := Lib.hid hPa; have g1 := (hka.cell (p := ⟨X, 1, none⟩) (World.block_lt_of_cell? _ _ f1) (fun e => e rfl)).trans f1; have g2 := (hka.cell (p := ⟨X, 2, none⟩) (World.block_lt_of_cell? _ _ f2) (fun e => e rfl)).trans f2; clear hPa hka)
            | (go_at_call 13; refine (HE.out _ _ _ _ HA2.out).mono ?_; rintro e wb ⟨rfl, hPb, hkb⟩; have HPb := Lib.hid hPb; have h1 := (hkb.cell (p := ⟨X, 1, none⟩) (World.block_lt_of_cell? _ _ g1) (fun e => e rfl)).trans g1; have h2 := (hkb.cell (p := ⟨X, 2, none⟩) (World.block_lt_of_cell? _ _ g2) (fun e => e rfl)).trans g2; clear hPb hkb))
          all_goals
            go_wp2_with fail
            go_meet
            exact ⟨rfl, Lib.hid ⟨_, _, _, addLk_le HP.out.1, HP.out.2.1, Nat.le_succ_of_le HP.out.2.2.1, HPb.out⟩⟩
        · as_aux_lemma =>
          have HE := Lib.hid (fun (wx : World) (l2 : List (Int × Int)) (m2 : List Mo) (k2 : Nat) (h : PN w (fun q => q = X) wx b1 (b1 + 1) ls ms n l2 m2 k2) => p1_of (v := .bool (decide (lk A B ∈ ls))) (L := butPair ls (lk A B)) (M := ms) (N := n) h (fun C' h' => ns_unlink h' HA.out HBB.out))
          have HF := Lib.hid (fun (wx : World) (l2 : List (Int × Int)) (m2 : List Mo) (k2 : Nat) (h : PN w (fun q => q = X) wx b1 (b1 + 1) l2 m2 k2 ls ms n) => p2_of (v := .bool (decide (lk A B ∈ ls))) (L := butPair ls (lk A B)) (M := ms) (N := n) h (fun vl vm h' => xunlink_any h' HP.out.2.2.2.ok.1 (by have := HP.out.1; have := HLB.out; omega)))
          obtain ⟨wd, hwd⟩ : ∃ wd, w1.drew = wd := ⟨_, rfl⟩
          have kd : Kp (fun _ => False) w1 wd := by rw [← hwd]; exact (Kp.refl _ w1).drew
          have HPD := Lib.hid (HP.out.2.2.2.same kd)
          obtain ⟨f0, f1, f2, f3⟩ := nop_cells ((kd.block X (Array.getElem?_eq_some_iff.1 HX.out).1 (fun e => e)).trans HX.out)
          clear f0 f3 kd
          subst hwd
          go_wp2_with fail
          go_region_held3 (fun w' => w'.cell? ⟨X, 1, none⟩ = some (.int .i64 A) ∧ w'.cell? ⟨X, 2, none⟩ = some (.int .i64 B)) (first | exact ⟨h1, h2⟩ | exact ⟨g1, g2⟩ | exact ⟨f1, f2⟩) (first
            | (go_at_call 14; refine (HE.out _ _ _ _ HPD.out).mono ?_; rintro e wa ⟨rfl, hPa, hka⟩; have HA1 := Lib.hid hPa; have g1 := (hka.cell (p := ⟨X, 1, none⟩) (World.block_lt_of_cell? _ _ f1) (fun e => e rfl)).trans f1; have g2 := (hka.cell (p := ⟨X, 2, none⟩) (World.block_lt_of_cell? _ _ f2) (fun e => e rfl)).trans f2; clear hPa hka)
            | (go_at_call 21; refine (HF.out _ _ _ _ HA1.out).mono ?_; rintro e wb ⟨rfl, hPb, hkb⟩; have HPb := Lib.hid hPb; have h1 := (hkb.cell (p := ⟨X, 1, none⟩) (World.block_lt_of_cell? _ _ g1) (fun e => e rfl)).trans g1; have h2 := (hkb.cell (p := ⟨X, 2, none⟩) (World.block_lt_of_cell? _ _ g2) (fun e => e rfl)).trans g2; clear hPb hkb)
            | (go_at_call 21; refine (HF.out _ _ _ _ HPD.out).mono ?_; rintro e wa ⟨rfl, hPa, hka⟩; have HA2 := Lib.hid hPa; have g1 := (hka.cell (p := ⟨X, 1, none⟩) (World.block_lt_of_cell? _ _ f1) (fun e => e rfl)).trans f1; have g2 := (hka.cell (p := ⟨X, 2, none⟩) (World.block_lt_of_cell? _ _ f2) (fun e => e rfl)).trans f2; clear hPa hka)
            | (go_at_call 14; refine (HE.out _ _ _ _ HA2.out).mono ?_; rintro e wb ⟨rfl, hPb, hkb⟩; have HPb := Lib.hid hPb; have h1 := (hkb.cell (p := ⟨X, 1, none⟩) (World.block_lt_of_cell? _ _ g1) (fun e => e rfl)).trans g1; have h2 := (hkb.cell (p := ⟨X, 2, none⟩) (World.block_lt_of_cell? _ _ g2) (fun e => e rfl)).trans g2; clear hPb hkb))
          all_goals
            go_wp2_with fail
            go_meet
            exact ⟨rfl, Lib.hid ⟨_, _, _, butPair_le HP.out.1, HP.out.2.1, Nat.le_succ_of_le HP.out.2.2.1, HPb.out⟩⟩
        · as_aux_lemma =>
          have HE := Lib.hid (fun (wx : World) (h : PN w (fun q => q = X) wx b1 (b1 + 1) ls ms n ls ms n) => p1_q h (fun C' h' => ns_linked h' HA.out))
          have HF := Lib.hid (fun (wx : World) (h : PN w (fun q => q = X) wx b1 (b1 + 1) ls ms n ls ms n) => p2_q h (fun vl vm h' => xlinked_any (a := A) h' (by have := HP.out.1; have := HLB.out; omega)))
          obtain ⟨wd, hwd⟩ : ∃ wd, w1.drew = wd := ⟨_, rfl⟩
          have kd : Kp (fun _ => False) w1 wd := by rw [← hwd]; exact (Kp.refl _ w1).drew
          have HPD := Lib.hid (HP.out.2.2.2.same kd)
          obtain ⟨f0, f1, f2, f3⟩ := nop_cells ((kd.block X (Array.getElem?_eq_some_iff.1 HX.out).1 (fun e => e)).trans HX.out)
          clear f0 f2 f3 kd
          subst hwd
          go_wp2_with fail
          go_region_held3 (fun w' => w'.cell? ⟨X, 1, none⟩ = some (.int .i64 A)) (first | exact i1 | exact h1 | exact g1 | exact f1) (first
            | (go_at_call 18; refine (HE.out _ HPD.out).mono ?_; rintro e wa ⟨u1, rfl, hl1, -, hka⟩; have HA1 := Lib.hid (And.intro hl1 (HPD.out.same hka)); have g1 := (hka.cell (p := ⟨X, 1, none⟩) (World.block_lt_of_cell? _ _ f1) (fun e => e)).trans f1; clear hl1 hka)
            | (go_at_call 22; refine (HF.out _ HA1.out.2).mono ?_; rintro e wb ⟨u2, rfl, hl2, -, hkb⟩; have HB2 := Lib.hid (And.intro (HA1.out.1.same hkb) (And.intro hl2 (HA1.out.2.same hkb))); have h1 := (hkb.cell (p := ⟨X, 1, none⟩) (World.block_lt_of_cell? _ _ g1) (fun e => e)).trans g1; clear hl2 hkb)
            | (go_at_call 22; refine (HF.out _ HPD.out).mono ?_; rintro e wa ⟨u2, rfl, hl2, -, hka⟩; have HA2 := Lib.hid (And.intro hl2 (HPD.out.same hka)); have g1 := (hka.cell (p := ⟨X, 1, none⟩) (World.block_lt_of_cell? _ _ f1) (fun e => e)).trans f1; clear hl2 hka)
            | (go_at_call 18; refine (HE.out _ HA2.out.2).mono ?_; rintro e wb ⟨u1, rfl, hl1, -, hkb⟩; have HB2 := Lib.hid (And.intro hl1 (And.intro (HA2.out.1.same hkb) (HA2.out.2.same hkb))); have h1 := (hkb.cell (p := ⟨X, 1, none⟩) (World.block_lt_of_cell? _ _ g1) (fun e => e)).trans g1; clear hl1 hkb)
            | (go_at_call 16; refine (sameLongs_any HB2.out.1.rd HB2.out.2.1.rd).mono ?_; rintro e wc ⟨rfl, k9, hk9⟩; have hkc : Kp (fun _ => False) wb wc := (by rw [hk9]; exact kp_drewN (Kp.refl _ wb) k9); have HPb := Lib.hid (HB2.out.2.2.same hkc); have i1 := (hkc.cell (p := ⟨X, 1, none⟩) (World.block_lt_of_cell? _ _ h1) (fun e => e)).trans h1; clear hk9 hkc))
          all_goals
            go_wp2_with fail
            go_meet
            exact ⟨rfl, Lib.hid ⟨_, _, _, Nat.le_succ_of_le HP.out.1, HP.out.2.1, Nat.le_succ_of_le HP.out.2.2.1, HPb.out⟩⟩
        · as_aux_lemma =>
          have HE := Lib.hid (fun (wx : World) (l2 : List (Int × Int)) (m2 : List Mo) (k2 : Nat) (h : PN w (fun q => q = X) wx b1 (b1 + 1) ls ms n l2 m2 k2) => p1_of (v := .int .i64 (n : Nat)) (L := ls) (M := ms ++ [⟨(n : Nat), A, B⟩]) (N := n + 1) h (fun C' h' => ns_monitor h' HA.out HBB.out (by have := HP.out.2.2.1; have := HLB.out; omega)))
          have HF := Lib.hid (fun (wx : World) (l2 : List (Int × Int)) (m2 : List Mo) (k2 : Nat) (h : PN w (fun q => q = X) wx b1 (b1 + 1) l2 m2 k2 ls ms n) => p2_of (v := .int .i64 (n : Nat)) (L := ls) (M := ms ++ [⟨(n : Nat), A, B⟩]) (N := n + 1) h (fun vl vm h' => xmonitor_any h' (by have := HP.out.2.2.1; have := HLB.out; omega) HP.out.2.1))
          obtain ⟨wd, hwd⟩ : ∃ wd, w1.drew = wd := ⟨_, rfl⟩
          have kd : Kp (fun _ => False) w1 wd := by rw [← hwd]; exact (Kp.refl _ w1).drew
          have HPD := Lib.hid (HP.out.2.2.2.same kd)
          obtain ⟨f0, f1, f2, f3⟩ := nop_cells ((kd.block X (Array.getElem?_eq_some_iff.1 HX.out).1 (fun e => e)).trans HX.out)
          clear f0 f3 kd
          subst hwd
          go_wp2_with fail
          go_region_held3 (fun w' => w'.cell? ⟨X, 1, none⟩ = some (.int .i64 A) ∧ w'.cell? ⟨X, 2, none⟩ = some (.int .i64 B)) (first | exact ⟨h1, h2⟩ | exact ⟨g1, g2⟩ | exact ⟨f1, f2⟩) (first
            | (go_at_call 8; refine (HE.out _ _ _ _ HPD.out).mono ?_; rintro e wa ⟨rfl, hPa, hka⟩; have HA1 := Lib.hid hPa; have g1 := (hka.cell (p := ⟨X, 1, none⟩) (World.block_lt_of_cell? _ _ f1) (fun e => e rfl)).trans f1; have g2 := (hka.cell (p := ⟨X, 2, none⟩) (World.block_lt_of_cell? _ _ f2) (fun e => e rfl)).trans f2; clear hPa hka)
            | (go_at_call 23; refine (HF.out _ _ _ _ HA1.out).mono ?_; rintro e wb ⟨rfl, hPb, hkb⟩; have HPb := Lib.hid hPb; have h1 := (hkb.cell (p := ⟨X, 1, none⟩) (World.block_lt_of_cell? _ _ g1) (fun e => e rfl)).trans g1; have h2 := (hkb.cell (p := ⟨X, 2, none⟩) (World.block_lt_of_cell? _ _ g2) (fun e => e rfl)).trans g2; clear hPb hkb)
            | (go_at_call 23; refine (HF.out _ _ _ _ HPD.out).mono ?_; rintro e wa ⟨rfl, hPa, hka⟩; have HA2 := Lib.hid hPa; have g1 := (hka.cell (p := ⟨X, 1, none⟩) (World.block_lt_of_cell? _ _ f1) (fun e => e rfl)).trans f1; have g2 := (hka.cell (p := ⟨X, 2, none⟩) (World.block_lt_of_cell? _ _ f2) (fun e => e rfl)).trans f2; clear hPa hka)
            | (go_at_call 8; refine (HE.out _ _ _ _ HA2.out).mono ?_; rintro e wb ⟨rfl, hPb, hkb⟩; have HPb := Lib.hid hPb; have h1 := (hkb.cell (p := ⟨X, 1, none⟩) (World.block_lt_of_cell? _ _ g1) (fun e => e rfl)).trans g1; have h2 := (hkb.cell (p := ⟨X, 2, none⟩) (World.block_lt_of_cell? _ _ g2) (fun e => e rfl)).trans g2; clear hPb hkb))
          all_goals
            go_wp2_with fail
            go_meet
            exact ⟨rfl, Lib.hid ⟨_, _, _, Nat.le_succ_of_le HP.out.1, by rw [List.length_append]; exact Nat.succ_le_succ HP.out.2.1, Nat.succ_le_succ HP.out.2.2.1, HPb.out⟩⟩
        · as_aux_lemma =>
          have HE := Lib.hid (fun (wx : World) (m2 : List Mo) (h : PN w (fun q => q = X) wx b1 (b1 + 1) ls ms n ls m2 n) => p1_dem h HRR.out A)
          have HF := Lib.hid (fun (wx : World) (m2 : List Mo) (h : PN w (fun q => q = X) wx b1 (b1 + 1) ls m2 n ls ms n) => p2_dem h HP.out.2.2.2.mok (by have := HP.out.2.1; have := HP.out.2.2.1; have := HLB.out; omega) r A)
          obtain ⟨wd, hwd⟩ : ∃ wd, w1.drew = wd := ⟨_, rfl⟩
          have kd : Kp (fun _ => False) w1 wd := by rw [← hwd]; exact (Kp.refl _ w1).drew
          have HPD := Lib.hid (HP.out.2.2.2.same kd)
          obtain ⟨f0, f1, f2, f3⟩ := nop_cells ((kd.block X (Array.getElem?_eq_some_iff.1 HX.out).1 (fun e => e)).trans HX.out)
          clear f0 f2 kd
          subst hwd
          go_wp2_with fail
          go_region_held3 (fun w' => w'.cell? ⟨X, 1, none⟩ = some (.int .i64 A) ∧ w'.cell? ⟨X, 3, none⟩ = some (.int .i64 r)) (first | exact ⟨i1, i3⟩ | exact ⟨h1, h3⟩ | exact ⟨g1, g3⟩ | exact ⟨f1, f3⟩) (first
            | (go_at_call 9; refine (HE.out _ _ HPD.out).mono ?_; rintro e wa ⟨v1, rfl, hch, hPa, hka⟩; have HA1 := Lib.hid (And.intro hch hPa); have g1 := (hka.cell (p := ⟨X, 1, none⟩) (World.block_lt_of_cell? _ _ f1) (fun e => e.2 rfl)).trans f1; have g3 := (hka.cell (p := ⟨X, 3, none⟩) (World.block_lt_of_cell? _ _ f3) (fun e => e.2 rfl)).trans f3; clear hch hPa hka)
            | (go_at_call 25; refine (HF.out _ _ HA1.out.2).mono ?_; rintro e wb ⟨v2, rfl, hx, hPb, hkb⟩; have HPb := Lib.hid (And.intro (chain_on HA1.out.1 hkb) (And.intro hx hPb)); have h1 := (hkb.cell (p := ⟨X, 1, none⟩) (World.block_lt_of_cell? _ _ g1) (fun e => e.2 rfl)).trans g1; have h3 := (hkb.cell (p := ⟨X, 3, none⟩) (World.block_lt_of_cell? _ _ g3) (fun e => e.2 rfl)).trans g3; clear hx hPb hkb)
            | (go_at_call 25; refine (HF.out _ _ HPD.out).mono ?_; rintro e wa ⟨v2, rfl, hx, hPa, hka⟩; have HA2 := Lib.hid (And.intro hx hPa); have g1 := (hka.cell (p := ⟨X, 1, none⟩) (World.block_lt_of_cell? _ _ f1) (fun e => e.2 rfl)).trans f1; have g3 := (hka.cell (p := ⟨X, 3, none⟩) (World.block_lt_of_cell? _ _ f3) (fun e => e.2 rfl)).trans f3; clear hx hPa hka)
            | (go_at_call 9; refine (HE.out _ _ HA2.out.2).mono ?_; rintro e wb ⟨v1, rfl, hch, hPb, hkb⟩; have HPb := Lib.hid (And.intro hch (And.intro (xch_on HA2.out.1 hkb) hPb)); have h1 := (hkb.cell (p := ⟨X, 1, none⟩) (World.block_lt_of_cell? _ _ g1) (fun e => e.2 rfl)).trans g1; have h3 := (hkb.cell (p := ⟨X, 3, none⟩) (World.block_lt_of_cell? _ _ g3) (fun e => e.2 rfl)).trans g3; clear hch hPb hkb)
            | (go_at_call 24; refine (ref_any _ _ _ wb (by unfold demErr; split <;> simp) HPb.out.1 HPb.out.2.1).mono ?_; rintro e wc ⟨rfl, hkc⟩; have HPc := Lib.hid (HPb.out.2.2.same hkc); have i1 := (hkc.cell (p := ⟨X, 1, none⟩) (World.block_lt_of_cell? _ _ h1) (fun e => e)).trans h1; have i3 := (hkc.cell (p := ⟨X, 3, none⟩) (World.block_lt_of_cell? _ _ h3) (fun e => e)).trans h3; clear hkc))
          all_goals
            go_wp2_with fail
            go_meet
            exact ⟨rfl, Lib.hid ⟨_, _, _, Nat.le_succ_of_le HP.out.1, demMs_le HP.out.2.1, Nat.le_succ_of_le HP.out.2.2.1, HPc.out⟩⟩
        · as_aux_lemma =>
          have HE := Lib.hid (fun (wx : World) (h : PN w (fun q => q = X) wx b1 (b1 + 1) ls ms n ls ms n) => p1_q h (fun C' h' => ns_watches h' HRR.out))
          have HF := Lib.hid (fun (wx : World) (h : PN w (fun q => q = X) wx b1 (b1 + 1) ls ms n ls ms n) => p2_q h (fun vl vm h' => xwatches_any h' (by have := HP.out.2.1; have := HP.out.2.2.1; have := HLB.out; omega) r))
          obtain ⟨R1, hR1⟩ : ∃ R, whoOf (moOf ms r) = R := ⟨_, rfl⟩
          obtain ⟨R2, hR2⟩ : ∃ R, whomOf (moOf ms r) = R := ⟨_, rfl⟩
          obtain ⟨R3, hR3⟩ : ∃ R, (moOf ms r).isSome = R := ⟨_, rfl⟩
          rw [hR1, hR2, hR3] at HE HF
          clear hR1 hR2 hR3
          go_wp2_with fail
          refine (HE.out _ HP.out.2.2.2).mono ?_
          rintro e wa ⟨rfl, hka⟩
          have HPa := Lib.hid (HP.out.2.2.2.same hka)
          obtain ⟨f0, f1, f2, f3⟩ := nop_cells ((hka.block X (Array.getElem?_eq_some_iff.1 HX.out).1 (fun e => e)).trans HX.out); clear f0
          clear hka
          go_wp2_with fail
          refine (HF.out _ HPa.out).mono ?_
          rintro e wb ⟨rfl, hkb⟩
          have HPb := Lib.hid (HPa.out.same hkb)
          clear hkb HE HF f1 f2 f3
          go_wp2_with fail
          go_meet
          exact ⟨rfl, Lib.hid ⟨_, _, _, Nat.le_succ_of_le HP.out.1, HP.out.2.1, Nat.le_succ_of_le HP.out.2.2.1, HPb.out⟩⟩
        · as_aux_lemma =>
          have HE := Lib.hid (fun (wx : World) (h : PN w (fun q => q = X) wx b1 (b1 + 1) ls ms n ls ms n) => p1_q h (fun C' h' => ns_watchers h' HA.out))
          have HF := Lib.hid (fun (wx : World) (h : PN w (fun q => q = X) wx b1 (b1 + 1) ls ms n ls ms n) => p2_q h (fun vl vm h' => xwatchers_any (a := A) h' HP.out.2.2.2.mok (by have := HP.out.2.1; have := HP.out.2.2.1; have := HLB.out; omega)))
          obtain ⟨wd, hwd⟩ : ∃ wd, w1.drew = wd := ⟨_, rfl⟩
          have kd : Kp (fun _ => False) w1 wd := by rw [← hwd]; exact (Kp.refl _ w1).drew
          have HPD := Lib.hid (HP.out.2.2.2.same kd)
          obtain ⟨f0, f1, f2, f3⟩ := nop_cells ((kd.block X (Array.getElem?_eq_some_iff.1 HX.out).1 (fun e => e)).trans HX.out)
          clear f0 f2 f3 kd
          subst hwd
          go_wp2_with fail
          go_region_held3 (fun w' => w'.cell? ⟨X, 1, none⟩ = some (.int .i64 A)) (first | exact i1 | exact h1 | exact g1 | exact f1) (first
            | (go_at_call 11; refine (HE.out _ HPD.out).mono ?_; rintro e wa ⟨u1, rfl, hl1, -, hka⟩; have HA1 := Lib.hid (And.intro hl1 (HPD.out.same hka)); have g1 := (hka.cell (p := ⟨X, 1, none⟩) (World.block_lt_of_cell? _ _ f1) (fun e => e)).trans f1; clear hl1 hka)
            | (go_at_call 27; refine (HF.out _ HA1.out.2).mono ?_; rintro e wb ⟨u2, rfl, hl2, -, hkb⟩; have HB2 := Lib.hid (And.intro (HA1.out.1.same hkb) (And.intro hl2 (HA1.out.2.same hkb))); have h1 := (hkb.cell (p := ⟨X, 1, none⟩) (World.block_lt_of_cell? _ _ g1) (fun e => e)).trans g1; clear hl2 hkb)
            | (go_at_call 27; refine (HF.out _ HPD.out).mono ?_; rintro e wa ⟨u2, rfl, hl2, -, hka⟩; have HA2 := Lib.hid (And.intro hl2 (HPD.out.same hka)); have g1 := (hka.cell (p := ⟨X, 1, none⟩) (World.block_lt_of_cell? _ _ f1) (fun e => e)).trans f1; clear hl2 hka)
            | (go_at_call 11; refine (HE.out _ HA2.out.2).mono ?_; rintro e wb ⟨u1, rfl, hl1, -, hkb⟩; have HB2 := Lib.hid (And.intro hl1 (And.intro (HA2.out.1.same hkb) (HA2.out.2.same hkb))); have h1 := (hkb.cell (p := ⟨X, 1, none⟩) (World.block_lt_of_cell? _ _ g1) (fun e => e)).trans g1; clear hl1 hkb)
            | (go_at_call 16; refine (sameLongs_any HB2.out.1.rd HB2.out.2.1.rd).mono ?_; rintro e wc ⟨rfl, k9, hk9⟩; have hkc : Kp (fun _ => False) wb wc := (by rw [hk9]; exact kp_drewN (Kp.refl _ wb) k9); have HPb := Lib.hid (HB2.out.2.2.same hkc); have i1 := (hkc.cell (p := ⟨X, 1, none⟩) (World.block_lt_of_cell? _ _ h1) (fun e => e)).trans h1; clear hk9 hkc))
          all_goals
            go_wp2_with fail
            go_meet
            exact ⟨rfl, Lib.hid ⟨_, _, _, Nat.le_succ_of_le HP.out.1, HP.out.2.1, Nat.le_succ_of_le HP.out.2.2.1, HPb.out⟩⟩
        · as_aux_lemma =>
          have HE := Lib.hid (p1_end HP.out.2.2.2 HA.out)
          go_wp2_with fail
          refine HE.out.mono ?_
          rintro e wa ⟨u1, u2, rfl, l1, l2, hPa, hka⟩
          have HF := Lib.hid (p2_end (a := A) hPa HP.out.2.2.2.mok (by have := HP.out.1; have := HLB.out; omega) (by have := HP.out.2.1; have := HP.out.2.2.1; have := HLB.out; omega))
          have H1 := Lib.hid (And.intro l1 l2)
          obtain ⟨f0, f1, f2, f3⟩ := nop_cells ((hka.block X (Array.getElem?_eq_some_iff.1 HX.out).1 (fun e => e rfl)).trans HX.out); clear f0
          clear l1 l2 hPa hka HE
          go_wp2_with fail
          refine HF.out.mono ?_
          rintro e wb ⟨u3, u4, rfl, l3, l4, hPb, hkb⟩
          have HPb := Lib.hid (hPb.less (C' := fun q => q = X) (fun q e => .inl (.inl e)))
          have HS1 := Lib.hid (sameLongs_any (H1.out.1.kp hkb (fun g hg e => e (.inr (.inl hg)))).rd l3.rd)
          have H2 := Lib.hid (And.intro (H1.out.2.kp hkb (fun g hg e => e (.inr (.inr hg)))) l4)
          clear l3 l4 hPb hkb HF H1 f1 f2 f3
          go_wp2_with fail
          refine HS1.out.mono ?_
          rintro e wc ⟨rfl, k9, hk9⟩
          have hkc : Kp (fun _ => False) wb wc := by rw [hk9]; exact kp_drewN (Kp.refl _ wb) k9
          have HPc := Lib.hid (HPb.out.same hkc)
          have HS2 := Lib.hid (sameLongs_any (H2.out.1.same hkc).rd (H2.out.2.same hkc).rd)
          clear hk9 hkc HS1 HPb H2
          go_wp2_with fail
          refine HS2.out.mono ?_
          rintro e wd ⟨rfl, k8, hk8⟩
          have hkd : Kp (fun _ => False) wc wd := by rw [hk8]; exact kp_drewN (Kp.refl _ wc) k8
          have HPd := Lib.hid (HPc.out.same hkd)
          clear hk8 hkd HS2 HPc
          go_wp2_with fail
          go_meet
          exact ⟨rfl, Lib.hid ⟨_, _, _, Nat.le_trans (endLs_len _ _) (Nat.le_succ_of_le HP.out.1), Nat.le_trans (endMs_len _ _) HP.out.2.1, Nat.le_succ_of_le HP.out.2.2.1, HPd.out⟩⟩
      case rest =>
        obtain ⟨rfl, HV⟩ := hcut
        clear HP HX HA HBB HRR HQ HXE e1 e2 e3
        obtain ⟨ls', ms', n', hV⟩ := HV.out
        have HV2 := Lib.hid hV
        have HLN := Lib.hid (p1_q hV.2.2.2 (fun C' h' => ns_len h'))
        obtain ⟨N1, hN1⟩ : ∃ N, ls'.length = N := ⟨_, rfl⟩
        obtain ⟨N2, hN2⟩ : ∃ N, ms'.length = N := ⟨_, rfl⟩
        rw [hN1, hN2] at HLN
        have HN := Lib.hid (And.intro hN1 hN2)
        clear HV hV hN1 hN2
        go_wp2_with fail
        refine HLN.out.mono ?_
        rintro e wa ⟨rfl, hka⟩
        have HPa := Lib.hid (HV2.out.2.2.2.same hka)
        obtain ⟨z1, z2, z3, z4, g1, g2⟩ := HPa.out.read
        rw [HN.out.1] at g1
        rw [HN.out.2] at g2
        clear hka HLN
        go_wp2_with fail
        go_roundg (len0 - (i + 1))
        case measure => omega
        case rel => exact ⟨i + 1, _, _, _, _, _, _, _, _, _, _, _, _, _, _, by omega, rfl, by go_num, rfl, rfl, rfl, rfl, rfl, rfl, rfl, rfl, rfl, rfl, rfl, rfl, rfl, rfl, Lib.hid ⟨_, _, _, HV2.out.1, HV2.out.2.1, HV2.out.2.2.1, HPa.out.less (fun q e => e.elim)⟩⟩
    · have hli : ¬ (i : Int) < len0 := by omega
      obtain ⟨ls, ms, n, hP⟩ := HR.out
      have HPz := Lib.hid hP.2.2.2.kp0
      clear hP HR
      go_wp2_with fail
      refine (lkAwake_any wr).mono ?_
      rintro e wd ⟨rfl, hkd⟩
      have HZ := Lib.hid (HPz.out.trans' hkd)
      clear hkd
      go_wp2_with fail
      go_ret
      exact ⟨rfl, HZ.out.below _ (Nat.le_refl _) (fun _ e => e.elim)⟩

set_option maxRecDepth 100000 in
theorem lifted (os : Os) (started : os.Started) (H : Type) (enc : TypeId × Value → H) :
    ReturnsInHanded {} Try.checked os 6 .any (Rows.linksPlaySpec.pre6 enc Try.prog Try.f6 Rows.linksPlayRow.domain false) (Rows.linksPlaySpec.post enc Try.prog Try.f6 false true false false) := by
  refine returnsInHanded_of_change_sized (C := Try.checked) own started (by kernel_rfl) Try.func6
    (ChangeSpec.witness6 (enc := enc) (C := Try.checked) false ⟨#[], #[.slice none 0 0], []⟩ 8 (by kernel_rfl) (by kernel_rfl) (by kernel_rfl) (by kernel_rfl)) ?_
  intro W base args ds gs before hval0 hW hcnd hsz0 _
  have hval : ∀ (j : Nat) t v, Try.f6.params[j]? = some t → args[j]? = some v → Value.okWide Try.prog W .any base t v := hval0
  have hW' := hW
  obtain ⟨p, q, hA0, hV, rfl, hfz, hnd⟩ := hW
  have hA : DataW.TrodAll enc Try.prog W 0 (fun _ => true) true Try.f6.params.toList args.toList ds p := hA0
  rw [Try.params6] at hA hval
  obtain ⟨v0, vs0, d0, ds0, p0, q0, hargs, rfl, rfl, h0, r0⟩ := trodAll_cons hA
  obtain ⟨rfl, rfl, rfl⟩ := trodAll_nil r0
  obtain rfl : args = #[v0] := by cases args; simp_all
  obtain ⟨rfl, rfl⟩ := trodVars_none hV
  have hsz : ∀ (j : Nat) t d, ((Try.f6.params.toList) : List TypeId)[j]? = some t → [d0][j]? = some d → ∀ n ∈ d.weights Try.prog t, n ≤ reachBytes := fun j t d ht hd n hn => of_decide_eq_true (List.all_eq_true.1 hsz0 n (DataW.weights_mem_each (j := j) (List.getElem?_append_left (List.getElem?_eq_some_iff.1 ht).1 ▸ ht) (List.getElem?_append_left (List.getElem?_eq_some_iff.1 hd).1 ▸ hd) n hn))
  clear hsz0
  obtain ⟨a0, len0, cap0, rfl⟩ := okWide_slice Try.underlying54 (hval 0 54 v0 rfl rfl)
  have k0 := h0
  have lt0 : ∀ x ∈ p0, x.block < W.heap.size := by obtain ⟨m, hm⟩ := k0; exact DataW.trod_lt m _ _ _ hm
  have w0 : NopsIn W a0 len0 cap0 := by
    obtain ⟨fuel, hf⟩ := h0
    obtain ⟨po, l, c, hcs, ho⟩ := opened_nops Try.underlying54 Try.underlying61 (by kernel_rfl) (by kernel_rfl) Try.underlying3 Try.underlying2 Try.underlying2 Try.underlying2 (by kernel_rfl) (hsz 0 _ _ rfl rfl) hf
    simp [Value.cells] at hcs
    obtain ⟨rfl, rfl, rfl⟩ := hcs
    exact ho
  clear hA0 hval0
  refine (walk a0 len0 cap0 W w0).mono fun e W' ⟨he, bel⟩ => ?_
  subst he
  exact ⟨_, rfl, _, _, _, [], _, [], hW', trodAll_mk1 (shut_bool Try.underlying4 _), (trodAll_cons_mk (Below.trod laidOut (by kernel_rfl) (of_decide_eq_true (by kernel_rfl)) k0 bel lt0) trodAll_mk0), rfl, bel.frame _, fun h => by cases h⟩

theorem over : Rows.linksPlayRow.holds Try.pinned (OpenSpec.ofChange Rows.linksPlaySpec) :=
  OpenClaim.holds_of_wide 6 Try.f6 rfl rfl rfl rfl rfl rfl rfl ⟨rfl, rfl, rfl, rfl, rfl⟩ rfl rfl rfl rfl rfl (by kernel_rfl) Try.func6 (by kernel_rfl)
    (of_decide_eq_true (by kernel_rfl)) (by unfold Func.isWrapper; first | (rw [if_pos (by decide +kernel)]; kernel_rfl) | (rw [if_neg (by decide +kernel)]; exact ⟨rfl, rfl⟩))
    (fun os started H enc _ => lifted os started H enc)

theorem proved : Rows.LinksPlaySaid := over
#print axioms proved
end Go.Proofs.Ytmfhmnlgffgcgaa.linksPlay
