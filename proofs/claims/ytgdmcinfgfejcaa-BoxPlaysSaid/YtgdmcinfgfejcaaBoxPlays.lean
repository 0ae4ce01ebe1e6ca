/- Any script of messages does with a box what a list with a place does: BoxPlays returns true, whatever the script. -/
import Derived.Test.YtgdmcinfgfejcaaRows
import Derived.Test.YtgdmcinfgfejcaaBxOwn
import Derived.StillTailTactics
import Derived.WalkKit
import Derived.ProofKit
import Derived.OpenShut
import Derived.ShutString
import Derived.ChangeOld
import Derived.Below
import Derived.Deep.Strs
namespace Go.Proofs.Ytgdmcinfgfejcaa.boxPlays
open Go.ChangeShapes Go.WideShapes Go.ChangeAt Go.RowKit
open Go.ChangeMaps (open_string shut_string)
set_option linter.unusedVariables false

theorem own : ownKnob Try.prog.godebug = none := by kernel_rfl
theorem laidOut : laidOutB Try.prog = true := by kernel_rfl

theorem xop_cells {w : World} {xb : Nat} {k x d : Int} {u : Value} {own : Bool} (h : w.heap[xb]? = some (.cells #[.int .i64 k, .int .u64 x, .int .u64 d, u, .bool own] 29 (0, 0))) :
    w.cell? ⟨xb, 0, none⟩ = some (.int .i64 k) ∧ w.cell? ⟨xb, 1, none⟩ = some (.int .u64 x) ∧ w.cell? ⟨xb, 2, none⟩ = some (.int .u64 d) ∧ w.cell? ⟨xb, 3, none⟩ = some u ∧ w.cell? ⟨xb, 4, none⟩ = some (.bool own) :=
  ⟨by rw [cell_of_row w xb 0 _ _ _ h]; rfl, by rw [cell_of_row w xb 1 _ _ _ h]; rfl, by rw [cell_of_row w xb 2 _ _ _ h]; rfl, by rw [cell_of_row w xb 3 _ _ _ h]; rfl, by rw [cell_of_row w xb 4 _ _ _ h]; rfl⟩
/-- what the row of messages is while the box is played with -/
def Rnd (A : Nat → Prop) (w1 w : World) (B gone : Nat) (ms : List Int) (p : Nat) (v : Value) : Prop := ∃ u r, BsA A w1 w B gone ms p 3 (tri v u (.slice none 0 0)) (tri ms r [])

set_option maxHeartbeats 8000000 in
set_option maxRecDepth 100000 in
theorem walk (a0 : Option Addr) (len0 cap0 : Nat) (w : World) (h0 : OpsW w a0 len0 cap0) :
    Calls Try.prog 3 #[.slice a0 len0 cap0] w fun e w' => e = .returned (.bool true) ∧ Below w.heap.size w w' := by
  have hl0 := h0.2.2.1
  have hcap : len0 ≤ cap0 ∧ cap0 ≤ 9223372036854775807 := by
    have h1 := h0.1
    have h2 := h0.2.1
    unfold maxLen at h2
    exact ⟨h1, by omega⟩
  have HI := Lib.hid h0
  clear h0
  have H0 := Lib.hid (Bs.new_box (w0 := w) (n := 3) (box_new w) ((Kp.refl _ w).alloc _) (Nat.le_refl _))
  obtain ⟨w1, hw1⟩ : ∃ w1, w.alloc (.cells #[.slice none 0 0, .int .i64 0, .int .i64 0] 26) = w1 := ⟨_, rfl⟩
  rw [hw1] at H0
  have HW := Lib.hid hw1
  clear hw1
  go_enter Try.func3, Try.ntmps3
  go_wp2_with fail
  rw [HW.out]
  clear HW
  go_loopg [4, 5, 6, 7, 8, 9, 10, 11, 12, 13, 14, 15] len0 (fun gk s4 s5 s6 s7 s8 s9 s10 s11 s12 s13 s14 s15 wr => ∃ (i p gone : Nat) (ms : List Int), i ≤ len0 ∧ gk = len0 - i ∧ s6 = .int .i64 i ∧ s5 = .int .i64 p ∧ ms.length ≤ i ∧ Rnd (fun _ => False) w wr w.heap.size gone ms p s4)
  case atStart => exact ⟨0, 0, 0, [], by omega, rfl, rfl, rfl, by simp, .slice none 0 0, [], H0.out.congr (fun k hk => by rcases k with _ | _ | k <;> rfl) (fun k hk => by rcases k with _ | _ | k <;> rfl)⟩
  case round =>
    obtain ⟨i, p, gone, ms, hi, rfl, rfl, rfl, hmi, u1, r1, hB⟩ := hrel
    clear H0
    by_cases hlt : i < len0
    · have hli : (i : Int) < len0 := by omega
      have hB' : Bs w wr w.heap.size gone ms p 3 (tri u4 u1 (.slice none 0 0)) (tri ms r1 []) := hB
      obtain ⟨pb, pg⟩ := hB'.at_le
      obtain ⟨xs, xo, rfl, hxl, k, x, d, u, ls, own, kw, xb, db, c0, c1, c2, c3, c4, hws⟩ := HI.out.2.2.2 i hlt
      obtain ⟨k1, k2⟩ := bounds_i64 kw
      have d0 := (hB'.kp.cell (p := ⟨xs, xo + i * 5, none⟩) hxl (fun e => e)).trans c0
      have d1 := (hB'.kp.cell (p := ⟨xs, xo + i * 5 + 1, none⟩) hxl (fun e => e)).trans c1
      have d2 := (hB'.kp.cell (p := ⟨xs, xo + i * 5 + 2, none⟩) hxl (fun e => e)).trans c2
      have d3 := (hB'.kp.cell (p := ⟨xs, xo + i * 5 + 3, none⟩) hxl (fun e => e)).trans c3
      have d4 := (hB'.kp.cell (p := ⟨xs, xo + i * 5 + 4, none⟩) hxl (fun e => e)).trans c4
      obtain ⟨w1, hw1⟩ : ∃ w1, wr.alloc (.cells #[.int .i64 k, .int .u64 x, .int .u64 d, u, .bool own] 29) = w1 := ⟨_, rfl⟩
      have hk1 : Kp (fun _ => False) wr w1 := by rw [← hw1]; exact (Kp.refl _ wr).alloc _
      have hx1 : w1.heap[wr.heap.size]? = some (.cells #[.int .i64 k, .int .u64 x, .int .u64 d, u, .bool own] 29 (0, 0)) := by rw [← hw1]; exact heap_alloc_new wr _
      have hkw : Kp (fun _ => False) w w1 := hB'.kp.trans' hk1
      have hws1 : WIn w1 u ls := hws.same hkw
      obtain ⟨pu, cu, rfl, hu1, hu2, -⟩ := hws.1
      have hcu : cu ≤ 9223372036854775807 := by unfold maxLen at hu2; omega
      obtain ⟨lu, hlu⟩ : ∃ lu, ls.length = lu := ⟨_, rfl⟩
      have hlu2 : lu * 8 ≤ 140737488351232 := by rw [← hlu]; exact hws.2.1
      rw [hlu] at hw1 hx1 hws1 hu1 d3 c3 hws
      obtain ⟨A, hA, hR⟩ := hB'.rebase hk1
      have hxA : ¬ A wr.heap.size := fun e => by have := (hA _ e).2; omega
      obtain ⟨p4, c5, e4⟩ := (hB'.own 0 (by omega)).form
      change u4 = .slice p4 ms.length c5 at e4
      obtain ⟨n, hn⟩ : ∃ n, ms.length = n := ⟨_, rfl⟩
      rw [hn] at e4 pb pg
      subst e4
      have hcn : n ≤ c5 ∧ c5 ≤ 9223372036854775807 := by
        obtain ⟨po, cap, e1, e2, e3, -⟩ := (hR.own 0 (by omega)).rd
        obtain ⟨e5, e6⟩ := slice_nc e1
        change _ ≤ _ at e2
        rw [e5, e6]
        unfold maxLen at e3
        exact ⟨e2, by omega⟩
      have hnl : n ≤ 2513169434845 := by omega
      have hpn : p ≤ n := pb
      have hpgi : gone ≤ n := pg
      have HX := Lib.hid (And.intro hw1 (And.intro hx1 (And.intro hws1 (And.intro hlu (And.intro hkw (And.intro hA hxA))))))
      have HN := Lib.hid (And.intro hn hmi)
      have HR := Lib.hid hR
      obtain ⟨q, hq, hq6⟩ : ∃ q : Nat, k % 6 = q ∧ q < 6 := ⟨(k % 6).toNat, by omega, by omega⟩
      have HQ := Lib.hid hq
      obtain ⟨x0, x1, x2, x3, x4⟩ := xop_cells hx1
      clear hB hB' hw1 hx1 hws1 hlu hkw hA hxA hn hmi hR hq c0 c1 c2 c3 c4 hws hk1 pb pg kw
      by_cases hpl : p < n
      · have hpi : (p : Int) < n := by omega
        rcases q with _ | _ | _ | _ | _ | _ | q
        · as_aux_lemma =>
          clear hq6
          go_wp2_with fail
          rw [HX.out.1]
          refine (place_any _ k 6 k1 k2 (by omega) (by omega)).mono ?_
          rintro e w' ⟨rfl, rfl⟩
          rw [HQ.out]
          go_wp2_with fail
          refine (s_push HR.out x (by rw [HN.out.1]; omega)).mono ?_
          rintro e w2 ⟨rfl, h2⟩
          have hx2 := (h2.kp.block wr.heap.size (Array.getElem?_eq_some_iff.1 HX.out.2.1).1 HX.out.2.2.2.2.2.2).trans HX.out.2.1
          obtain ⟨y0, y1, y2, y3, y4⟩ := xop_cells hx2
          obtain ⟨g3, c3, w3, hr3, hb3⟩ := h2.row_push 0 (by omega) (by show ms.length + 1 ≤ _; rw [HN.out.1]; omega) x
          rw [(tri_upd _ _ _ _).1, (tri_upd _ _ _ _).1] at hb3
          change (Builtin.append_ #[24, 24] 24 #[.slice p4 n c5, .slice (some ⟨w2.heap.size, 0, none⟩) 1 1]).run Try.prog (w2.alloc (.cells #[.int .u64 x] 27)) = .ok (.slice (some ⟨g3, 0, none⟩) (ms.length + 1) c3) w3 at hr3
          change BsA A w1 w3 _ _ _ _ _ (tri (.slice (some ⟨g3, 0, none⟩) (ms.length + 1) c3) _ _) (tri (ms ++ [x]) _ _) at hb3
          rw [HN.out.1] at hr3 hb3
          have H3 := Lib.hid hb3
          have HR3 := Lib.hid hr3
          clear h2 hx2 hr3 hb3
          go_wp2_with (at_builtin; refine wpList_run rfl _ _ 24 rfl (.slice p4 n c5) (.slice (some ⟨w2.heap.size, 0, none⟩) 1 1) rfl rfl _ w3 HR3.out ?_; refine Hid.out ?_)
          have hL3 : (ms ++ [x]).length = n + 1 := by rw [List.length_append, HN.out.1]; rfl
          refine Lib.hid ?_
          clear y0 y1 y2 y3 y4 x0 x1 x2 x3 x4
          have HLn := s_len H3.out
          rw [hL3] at HLn
          have HLh := Lib.hid HLn
          clear HLn
          go_wp2_with fail
          refine HLh.out.mono ?_
          rintro e wa ⟨rfl, ha⟩
          have Ha := Lib.hid ha
          clear ha HLh
          go_wp2_with fail
          refine (s_at Ha.out).mono ?_
          rintro e wb ⟨rfl, hb⟩
          have Hb := Lib.hid hb
          clear hb
          go_wp2_with fail
          refine (s_words Hb.out).mono ?_
          rintro e wc ⟨vc, rfl, hvc, -, hkc⟩
          have hc := Hb.out.same hkc
          have HSh := Lib.hid (sameWords_any hvc.rd (hc.own 0 (by omega)).rd)
          have Hc := Lib.hid hc
          clear hvc hkc hc
          go_wp2_with fail
          refine HSh.out.mono ?_
          rintro e wd ⟨rfl, md, hwd⟩
          have Hd := Lib.hid (Hc.out.drewN md)
          rw [← hwd] at Hd
          clear hwd HSh
          go_wp2_with fail
          go_roundg (len0 - (i + 1))
          case measure => omega
          case rel =>
            exact ⟨i + 1, _, _, _, by omega, rfl, by go_num, by first | rfl | go_num, (by rw [hL3]; have := HN.out.1; have := HN.out.2; omega), _, _, Hd.out.unbase HX.out.2.2.2.2.1 (fun q hq => (HX.out.2.2.2.2.2.1 q hq).1)⟩
        · as_aux_lemma =>
          clear hq6
          go_wp2_with fail
          rw [HX.out.1]
          refine (place_any _ k 6 k1 k2 (by omega) (by omega)).mono ?_
          rintro e w' ⟨rfl, rfl⟩
          rw [HQ.out]
          go_wp2_with fail
          obtain ⟨y, hy⟩ : ∃ y, ms[p]? = some y := ⟨ms[p]'(by rw [HN.out.1]; exact hpl), List.getElem?_eq_getElem _⟩
          refine (s_peek_some HR.out hy).mono ?_
          rintro e w2 ⟨rfl, h2⟩
          obtain ⟨g3, c3, e3, -, -, hc3⟩ := (h2.own 0 (by omega)).get (j := p) hy
          have e4 : p4 = some ⟨g3, 0, none⟩ := slice_po e3
          subst e4
          have H3 := Lib.hid h2
          clear h2 hy e3
          go_wp2_with fail
          have HLn := s_len H3.out
          rw [HN.out.1] at HLn
          have HLh := Lib.hid HLn
          clear HLn
          go_wp2_with fail
          refine HLh.out.mono ?_
          rintro e wa ⟨rfl, ha⟩
          have Ha := Lib.hid ha
          clear ha HLh
          go_wp2_with fail
          refine (s_at Ha.out).mono ?_
          rintro e wb ⟨rfl, hb⟩
          have Hb := Lib.hid hb
          clear hb
          go_wp2_with fail
          refine (s_words Hb.out).mono ?_
          rintro e wc ⟨vc, rfl, hvc, -, hkc⟩
          have hc := Hb.out.same hkc
          have HSh := Lib.hid (sameWords_any hvc.rd (hc.own 0 (by omega)).rd)
          have Hc := Lib.hid hc
          clear hvc hkc hc
          go_wp2_with fail
          refine HSh.out.mono ?_
          rintro e wd ⟨rfl, md, hwd⟩
          have Hd := Lib.hid (Hc.out.drewN md)
          rw [← hwd] at Hd
          clear hwd HSh
          go_wp2_with fail
          go_roundg (len0 - (i + 1))
          case measure => omega
          case rel =>
            exact ⟨i + 1, _, _, _, by omega, rfl, by go_num, by first | rfl | go_num, (by rw [HN.out.1]; have := HN.out.1; have := HN.out.2; omega), _, _, Hd.out.unbase HX.out.2.2.2.2.1 (fun q hq => (HX.out.2.2.2.2.2.1 q hq).1)⟩
        · as_aux_lemma =>
          clear hq6
          go_wp2_with fail
          rw [HX.out.1]
          refine (place_any _ k 6 k1 k2 (by omega) (by omega)).mono ?_
          rintro e w' ⟨rfl, rfl⟩
          rw [HQ.out]
          go_wp2_with fail
          by_cases hpp : p + 1 < n
          · have hpj : ((p : Int) + 1 < n) := by omega
            have HNx := s_next HR.out (p + 1) (by rw [HN.out.1, if_pos hpl])
            rw [HN.out.1, show decide (p + 1 < n) = true from by simp; omega] at HNx
            have HNh := Lib.hid HNx
            clear HNx
            refine HNh.out.mono ?_
            rintro e w2 ⟨rfl, h2⟩
            have H3 := Lib.hid h2
            clear h2 HNh
            go_wp2_with fail
            have HLn := s_len H3.out
            rw [HN.out.1] at HLn
            have HLh := Lib.hid HLn
            clear HLn
            go_wp2_with fail
            refine HLh.out.mono ?_
            rintro e wa ⟨rfl, ha⟩
            have Ha := Lib.hid ha
            clear ha HLh
            go_wp2_with fail
            refine (s_at Ha.out).mono ?_
            rintro e wb ⟨rfl, hb⟩
            have Hb := Lib.hid hb
            clear hb
            go_wp2_with fail
            refine (s_words Hb.out).mono ?_
            rintro e wc ⟨vc, rfl, hvc, -, hkc⟩
            have hc := Hb.out.same hkc
            have HSh := Lib.hid (sameWords_any hvc.rd (hc.own 0 (by omega)).rd)
            have Hc := Lib.hid hc
            clear hvc hkc hc
            go_wp2_with fail
            refine HSh.out.mono ?_
            rintro e wd ⟨rfl, md, hwd⟩
            have Hd := Lib.hid (Hc.out.drewN md)
            rw [← hwd] at Hd
            clear hwd HSh
            go_wp2_with fail
            go_roundg (len0 - (i + 1))
            case measure => omega
            case rel =>
              exact ⟨i + 1, _, _, _, by omega, rfl, by go_num, by first | rfl | go_num, (by rw [HN.out.1]; have := HN.out.1; have := HN.out.2; omega), _, _, Hd.out.unbase HX.out.2.2.2.2.1 (fun q hq => (HX.out.2.2.2.2.2.1 q hq).1)⟩
          · have hpj : ¬ ((p : Int) + 1 < n) := by omega
            have HNx := s_next HR.out (p + 1) (by rw [HN.out.1, if_pos hpl])
            rw [HN.out.1, show decide (p + 1 < n) = false from by simp; omega] at HNx
            have HNh := Lib.hid HNx
            clear HNx
            refine HNh.out.mono ?_
            rintro e w2 ⟨rfl, h2⟩
            have H3 := Lib.hid h2
            clear h2 HNh
            go_wp2_with fail
            have HLn := s_len H3.out
            rw [HN.out.1] at HLn
            have HLh := Lib.hid HLn
            clear HLn
            go_wp2_with fail
            refine HLh.out.mono ?_
            rintro e wa ⟨rfl, ha⟩
            have Ha := Lib.hid ha
            clear ha HLh
            go_wp2_with fail
            refine (s_at Ha.out).mono ?_
            rintro e wb ⟨rfl, hb⟩
            have Hb := Lib.hid hb
            clear hb
            go_wp2_with fail
            refine (s_words Hb.out).mono ?_
            rintro e wc ⟨vc, rfl, hvc, -, hkc⟩
            have hc := Hb.out.same hkc
            have HSh := Lib.hid (sameWords_any hvc.rd (hc.own 0 (by omega)).rd)
            have Hc := Lib.hid hc
            clear hvc hkc hc
            go_wp2_with fail
            refine HSh.out.mono ?_
            rintro e wd ⟨rfl, md, hwd⟩
            have Hd := Lib.hid (Hc.out.drewN md)
            rw [← hwd] at Hd
            clear hwd HSh
            go_wp2_with fail
            go_roundg (len0 - (i + 1))
            case measure => omega
            case rel =>
              exact ⟨i + 1, _, _, _, by omega, rfl, by go_num, by first | rfl | go_num, (by rw [HN.out.1]; have := HN.out.1; have := HN.out.2; omega), _, _, Hd.out.unbase HX.out.2.2.2.2.1 (fun q hq => (HX.out.2.2.2.2.2.1 q hq).1)⟩
        · as_aux_lemma =>
          clear hq6
          go_wp2_with fail
          rw [HX.out.1]
          refine (place_any _ k 6 k1 k2 (by omega) (by omega)).mono ?_
          rintro e w' ⟨rfl, rfl⟩
          rw [HQ.out]
          go_wp2_with fail
          obtain ⟨y, hy⟩ : ∃ y, ms[p]? = some y := ⟨ms[p]'(by rw [HN.out.1]; exact hpl), List.getElem?_eq_getElem _⟩
          refine (s_take_some HR.out hy).mono ?_
          rintro e w2 ⟨rfl, g2, h2⟩
          obtain ⟨g3, c3, e3, -, -, hc3⟩ := (h2.own 0 (by omega)).get (j := p) hy
          have e4 : p4 = some ⟨g3, 0, none⟩ := slice_po e3
          subst e4
          have hlc : (ms.eraseIdx p).length = n - 1 := by rw [List.length_eraseIdx_of_lt (by rw [HN.out.1]; exact hpl), HN.out.1]
          have h2d := h2.drewN 1
          clear hy e3
          have q0 : IntKind.i64.wrap ((p : Int) + 1) = (p : Int) + 1 := IntWalk.i64_in _ (by omega)
          have q1 : (p : Int) + 1 ≤ n := by omega
          have q2 : (0 : Int) ≤ (p : Int) + 1 := by omega
          have q3 : ((p : Int) + 1).toNat = p + 1 := by omega
          have q4 : (p : Int) ≤ c5 := by omega
          have q5 : (0 : Int) ≤ (p : Int) := by omega
          have q6 : (p : Int) ≤ n := by omega
          by_cases hcp : c5 = p + 1
          · obtain rfl : n = p + 1 := by omega
            subst hcp
            have q9 : (p : Int) ≤ (p : Int) + 1 := by omega
            have hpa : p + 1 < ms.length → (some ⟨g3, 0, none⟩) = some (⟨g3, p + 1, none⟩ : Addr) := fun hh => (by rw [HN.out.1] at hh; omega)
            obtain ⟨g6, c6, w6, hr6, hb6⟩ := h2d.row_cut 0 (by omega) (g := g3) (cap := (p + 1)) (by show Value.slice (some ⟨g3, 0, none⟩) (p + 1) (p + 1) = .slice (some ⟨g3, 0, none⟩) ms.length (p + 1); rw [HN.out.1]) (by show ms.length ≤ _; rw [HN.out.1]; omega) p (by show p < ms.length; rw [HN.out.1]; exact hpl) (some ⟨g3, 0, none⟩) 0 hpa
            rw [(tri_upd _ _ _ _).1, (tri_upd _ _ _ _).1] at hb6
            change (Builtin.append_ #[24, 24] 24 #[.slice (some ⟨g3, 0, none⟩) p p, .slice (some ⟨g3, 0, none⟩) (ms.length - (p + 1)) 0]).run Try.prog (w2.drewN 1) = .ok (.slice (some ⟨g6, 0, none⟩) (ms.length - 1) c6) w6 at hr6
            change BsA A w1 w6 _ _ _ _ _ (tri (.slice (some ⟨g6, 0, none⟩) (ms.length - 1) c6) _ _) (tri (ms.eraseIdx p) _ _) at hb6
            rw [HN.out.1] at hr6 hb6
            rw [Nat.sub_self, Nat.add_sub_cancel] at hr6; rw [Nat.add_sub_cancel] at hb6 hlc
            clear hpa
            have H3 := Lib.hid hb6
            have HR3 := Lib.hid hr6
            have HLC := Lib.hid hlc
            clear h2 h2d hb6 hr6 hlc
            go_wp2_with fail
            go_still_tail 8, (by kernel_rfl)
            refine wpList_run rfl _ _ 24 rfl (.slice (some ⟨g3, 0, none⟩) p p) (.slice (some ⟨g3, 0, none⟩) 0 0) rfl rfl _ w6 HR3.out ?_
            go_wp2_with fail
            have HLn := s_len H3.out
            rw [HLC.out] at HLn
            have HLh := Lib.hid HLn
            clear HLn
            go_wp2_with fail
            refine HLh.out.mono ?_
            rintro e wa ⟨rfl, ha⟩
            have Ha := Lib.hid ha
            clear ha HLh
            go_wp2_with fail
            refine (s_at Ha.out).mono ?_
            rintro e wb ⟨rfl, hb⟩
            have Hb := Lib.hid hb
            clear hb
            go_wp2_with fail
            refine (s_words Hb.out).mono ?_
            rintro e wc ⟨vc, rfl, hvc, -, hkc⟩
            have hc := Hb.out.same hkc
            have HSh := Lib.hid (sameWords_any hvc.rd (hc.own 0 (by omega)).rd)
            have Hc := Lib.hid hc
            clear hvc hkc hc
            go_wp2_with fail
            refine HSh.out.mono ?_
            rintro e wd ⟨rfl, md, hwd⟩
            have Hd := Lib.hid (Hc.out.drewN md)
            rw [← hwd] at Hd
            clear hwd HSh
            go_wp2_with fail
            go_roundg (len0 - (i + 1))
            case measure => omega
            case rel =>
              exact ⟨i + 1, _, _, _, by omega, rfl, by go_num, by first | rfl | go_num, (by rw [HLC.out]; have := HN.out.1; have := HN.out.2; omega), _, _, Hd.out.unbase HX.out.2.2.2.2.1 (fun q hq => (HX.out.2.2.2.2.2.1 q hq).1)⟩
          · have q7 : ¬ c5 = p + 1 := hcp
            have q8 : ¬ c5 - (p + 1) = 0 := by omega
            have hpa : p + 1 < ms.length → (some ⟨g3, p + 1, none⟩) = some (⟨g3, p + 1, none⟩ : Addr) := fun hh => rfl
            obtain ⟨g6, c6, w6, hr6, hb6⟩ := h2d.row_cut 0 (by omega) (g := g3) (cap := c5) (by show Value.slice (some ⟨g3, 0, none⟩) n c5 = .slice (some ⟨g3, 0, none⟩) ms.length c5; rw [HN.out.1]) (by show ms.length ≤ _; rw [HN.out.1]; omega) p (by show p < ms.length; rw [HN.out.1]; exact hpl) (some ⟨g3, p + 1, none⟩) (c5 - (p + 1)) hpa
            rw [(tri_upd _ _ _ _).1, (tri_upd _ _ _ _).1] at hb6
            change (Builtin.append_ #[24, 24] 24 #[.slice (some ⟨g3, 0, none⟩) p p, .slice (some ⟨g3, p + 1, none⟩) (ms.length - (p + 1)) (c5 - (p + 1))]).run Try.prog (w2.drewN 1) = .ok (.slice (some ⟨g6, 0, none⟩) (ms.length - 1) c6) w6 at hr6
            change BsA A w1 w6 _ _ _ _ _ (tri (.slice (some ⟨g6, 0, none⟩) (ms.length - 1) c6) _ _) (tri (ms.eraseIdx p) _ _) at hb6
            rw [HN.out.1] at hr6 hb6
            skip
            clear hpa
            have H3 := Lib.hid hb6
            have HR3 := Lib.hid hr6
            have HLC := Lib.hid hlc
            clear h2 h2d hb6 hr6 hlc
            go_wp2_with fail
            go_still_tail 8, (by kernel_rfl)
            refine wpList_run rfl _ _ 24 rfl (.slice (some ⟨g3, 0, none⟩) p p) (.slice (some ⟨g3, p + 1, none⟩) (n - (p + 1)) (c5 - (p + 1))) rfl rfl _ w6 HR3.out ?_
            go_wp2_with fail
            have HLn := s_len H3.out
            rw [HLC.out] at HLn
            have HLh := Lib.hid HLn
            clear HLn
            go_wp2_with fail
            refine HLh.out.mono ?_
            rintro e wa ⟨rfl, ha⟩
            have Ha := Lib.hid ha
            clear ha HLh
            go_wp2_with fail
            refine (s_at Ha.out).mono ?_
            rintro e wb ⟨rfl, hb⟩
            have Hb := Lib.hid hb
            clear hb
            go_wp2_with fail
            refine (s_words Hb.out).mono ?_
            rintro e wc ⟨vc, rfl, hvc, -, hkc⟩
            have hc := Hb.out.same hkc
            have HSh := Lib.hid (sameWords_any hvc.rd (hc.own 0 (by omega)).rd)
            have Hc := Lib.hid hc
            clear hvc hkc hc
            go_wp2_with fail
            refine HSh.out.mono ?_
            rintro e wd ⟨rfl, md, hwd⟩
            have Hd := Lib.hid (Hc.out.drewN md)
            rw [← hwd] at Hd
            clear hwd HSh
            go_wp2_with fail
            go_roundg (len0 - (i + 1))
            case measure => omega
            case rel =>
              exact ⟨i + 1, _, _, _, by omega, rfl, by go_num, by first | rfl | go_num, (by rw [HLC.out]; have := HN.out.1; have := HN.out.2; omega), _, _, Hd.out.unbase HX.out.2.2.2.2.1 (fun q hq => (HX.out.2.2.2.2.2.1 q hq).1)⟩
        · as_aux_lemma =>
          clear hq6
          go_wp2_with fail
          rw [HX.out.1]
          refine (place_any _ k 6 k1 k2 (by omega) (by omega)).mono ?_
          rintro e w' ⟨rfl, rfl⟩
          rw [HQ.out]
          go_wp2_with fail
          refine (s_first HR.out).mono ?_
          rintro e w2 ⟨rfl, h2⟩
          have H3 := Lib.hid h2
          clear h2
          go_wp2_with fail
          have HLn := s_len H3.out
          rw [HN.out.1] at HLn
          have HLh := Lib.hid HLn
          clear HLn
          go_wp2_with fail
          refine HLh.out.mono ?_
          rintro e wa ⟨rfl, ha⟩
          have Ha := Lib.hid ha
          clear ha HLh
          go_wp2_with fail
          refine (s_at Ha.out).mono ?_
          rintro e wb ⟨rfl, hb⟩
          have Hb := Lib.hid hb
          clear hb
          go_wp2_with fail
          refine (s_words Hb.out).mono ?_
          rintro e wc ⟨vc, rfl, hvc, -, hkc⟩
          have hc := Hb.out.same hkc
          have HSh := Lib.hid (sameWords_any hvc.rd (hc.own 0 (by omega)).rd)
          have Hc := Lib.hid hc
          clear hvc hkc hc
          go_wp2_with fail
          refine HSh.out.mono ?_
          rintro e wd ⟨rfl, md, hwd⟩
          have Hd := Lib.hid (Hc.out.drewN md)
          rw [← hwd] at Hd
          clear hwd HSh
          go_wp2_with fail
          go_roundg (len0 - (i + 1))
          case measure => omega
          case rel =>
            exact ⟨i + 1, _, _, _, by omega, rfl, by go_num, by first | rfl | go_num, (by rw [HN.out.1]; have := HN.out.1; have := HN.out.2; omega), _, _, Hd.out.unbase HX.out.2.2.2.2.1 (fun q hq => (HX.out.2.2.2.2.2.1 q hq).1)⟩
        · as_aux_lemma =>
          clear hq6
          go_wp2_with fail
          rw [HX.out.1]
          refine (place_any _ k 6 k1 k2 (by omega) (by omega)).mono ?_
          rintro e w' ⟨rfl, rfl⟩
          rw [HQ.out]
          go_wp2_with fail
          refine (copyWords_any HX.out.2.2.1.1 (by rw [HX.out.2.2.2.1]; omega)).mono ?_
          rintro e w2 ⟨v2, rfl, hv2, hf2, hk2⟩
          obtain ⟨p2, c2, e2⟩ := hv2.form
          rw [HX.out.2.2.2.1] at e2
          subst e2
          have h2 := HR.out.fresh 1 (by omega) hk2 hv2 hf2
          rw [(tri_upd _ _ _ _).2.1, (tri_upd _ _ _ _).2.1] at h2
          have hx2 := (h2.kp.block wr.heap.size (Array.getElem?_eq_some_iff.1 HX.out.2.1).1 HX.out.2.2.2.2.2.2).trans HX.out.2.1
          obtain ⟨y0, y1, y2, y3, y4⟩ := xop_cells hx2
          clear x0 x1 x2 x3 x4
          rcases own with _ | _
          · by_cases hle : lu = n
            · subst hle
              have HS := Lib.hid (s_swap_ok h2 (show Rd w2 _ ls from (h2.own 1 (by omega)).rd) (by rw [HX.out.2.2.2.1, HN.out.1]))
              clear h2 hv2 hf2 hk2 hx2
              go_wp2_with fail
              refine HS.out.mono ?_
              rintro e w3 ⟨rfl, h3⟩
              have H3 := Lib.hid h3
              have HLEN := Lib.hid HX.out.2.2.2.1
              clear h3 HS
              go_wp2_with fail
              refine (copyWords_any (l := ls) (show Rd _ _ ls from (H3.out.own 1 (by omega)).rd) (by rw [HLEN.out]; omega)).mono ?_
              rintro e w7 ⟨v7, rfl, hv7, hf7, hk7⟩
              obtain ⟨p7, c7, e7⟩ := hv7.form
              rw [HLEN.out] at e7
              subst e7
              have h7 := H3.out.fresh 0 (by omega) hk7 hv7 hf7
              rw [(tri_upd _ _ _ _).1, (tri_upd _ _ _ _).1] at h7
              have H7 := Lib.hid h7
              clear hv7 hf7 hk7 h7
              go_wp2_with fail
              have HLn := s_len H7.out
              rw [HLEN.out] at HLn
              have HLh := Lib.hid HLn
              clear HLn
              go_wp2_with fail
              refine HLh.out.mono ?_
              rintro e wa ⟨rfl, ha⟩
              have Ha := Lib.hid ha
              clear ha HLh
              go_wp2_with fail
              refine (s_at Ha.out).mono ?_
              rintro e wb ⟨rfl, hb⟩
              have Hb := Lib.hid hb
              clear hb
              go_wp2_with fail
              refine (s_words Hb.out).mono ?_
              rintro e wc ⟨vc, rfl, hvc, -, hkc⟩
              have hc := Hb.out.same hkc
              have HSh := Lib.hid (sameWords_any hvc.rd (hc.own 0 (by omega)).rd)
              have Hc := Lib.hid hc
              clear hvc hkc hc
              go_wp2_with fail
              refine HSh.out.mono ?_
              rintro e wd ⟨rfl, md, hwd⟩
              have Hd := Lib.hid (Hc.out.drewN md)
              rw [← hwd] at Hd
              clear hwd HSh
              go_wp2_with fail
              go_roundg (len0 - (i + 1))
              case measure => omega
              case rel =>
                exact ⟨i + 1, _, _, _, by omega, rfl, by go_num, by first | rfl | go_num, (by have := HN.out.2; have := HN.out.1; have := HLEN.out; show ls.length ≤ i + 1; omega), _, _, Hd.out.unbase HX.out.2.2.2.2.1 (fun q hq => (HX.out.2.2.2.2.2.1 q hq).1)⟩
            · have hli2 : ((lu : Int) == (n : Int)) = false := by simp; omega
              have HS := Lib.hid (s_swap_bad h2 (show Rd w2 _ ls from (h2.own 1 (by omega)).rd) (by rw [HX.out.2.2.2.1, HN.out.1]; exact hle))
              clear h2 hv2 hf2 hk2 hx2 hle
              go_wp2_with fail
              refine HS.out.mono ?_
              rintro e w3 ⟨rfl, h3⟩
              have H3 := Lib.hid h3
              clear h3 HS
              go_wp2_with fail
              have HLn := s_len H3.out
              rw [HN.out.1] at HLn
              have HLh := Lib.hid HLn
              clear HLn
              go_wp2_with fail
              refine HLh.out.mono ?_
              rintro e wa ⟨rfl, ha⟩
              have Ha := Lib.hid ha
              clear ha HLh
              go_wp2_with fail
              refine (s_at Ha.out).mono ?_
              rintro e wb ⟨rfl, hb⟩
              have Hb := Lib.hid hb
              clear hb
              go_wp2_with fail
              refine (s_words Hb.out).mono ?_
              rintro e wc ⟨vc, rfl, hvc, -, hkc⟩
              have hc := Hb.out.same hkc
              have HSh := Lib.hid (sameWords_any hvc.rd (hc.own 0 (by omega)).rd)
              have Hc := Lib.hid hc
              clear hvc hkc hc
              go_wp2_with fail
              refine HSh.out.mono ?_
              rintro e wd ⟨rfl, md, hwd⟩
              have Hd := Lib.hid (Hc.out.drewN md)
              rw [← hwd] at Hd
              clear hwd HSh
              go_wp2_with fail
              go_roundg (len0 - (i + 1))
              case measure => omega
              case rel =>
                exact ⟨i + 1, _, _, _, by omega, rfl, by go_num, by first | rfl | go_num, (by rw [HN.out.1]; have := HN.out.1; have := HN.out.2; omega), _, _, Hd.out.unbase HX.out.2.2.2.2.1 (fun q hq => (HX.out.2.2.2.2.2.1 q hq).1)⟩
          · have h3 := h2.fresh 1 (by omega) (Kp.refl _ w2) (Wr.nil w2) (fun g hg => by simp [Value.ownBlock] at hg)
            rw [(tri_upd _ _ _ _).2.1, (tri_upd _ _ _ _).2.1] at h3
            have H3 := Lib.hid h3
            clear h2 h3 hv2 hf2 hk2 hx2
            go_wp2_with fail
            go_loopg [13, 14] n (fun gk s13 s14 wq => ∃ (m : Nat) (wz : World), wz = wq ∧ m ≤ n ∧ gk = n - m ∧ s14 = .int .i64 m ∧ BsA A w1 wz w.heap.size gone ms p 3 (tri (.slice p4 n c5) s13 (.slice none 0 0)) (tri ms ((ms.take m).map fun y => IntKind.u64.wrap (y + d)) []))
            case atStart => exact ⟨0, _, rfl, by omega, rfl, rfl, H3.out⟩
            case round =>
              obtain ⟨m, wz, hwz, hm, rfl, rfl, hQ⟩ := hrel
              subst hwz
              clear H3
              have hxq := (hQ.kp.block _ (Array.getElem?_eq_some_iff.1 HX.out.2.1).1 HX.out.2.2.2.2.2.2).trans HX.out.2.1
              clear y0 y1 y2 y3 y4
              obtain ⟨y0, y1, y2, y3, y4⟩ := xop_cells hxq
              by_cases hmn : m < n
              · have hmi : (m : Int) < n := by omega
                obtain ⟨y, hy⟩ : ∃ y, ms[m]? = some y := ⟨ms[m]'(by rw [HN.out.1]; exact hmn), List.getElem?_eq_getElem _⟩
                obtain ⟨g3, c3, e3, -, -, hc3⟩ := (hQ.own 0 (by omega)).get (j := m) hy
                have e4 : p4 = some ⟨g3, 0, none⟩ := slice_po e3
                subst e4
                obtain ⟨z, hz⟩ : ∃ z, IntKind.u64.wrap (y + d) = z := ⟨_, rfl⟩
                have hlm : ((ms.take m).map fun y => IntKind.u64.wrap (y + d)).length = m := by rw [List.length_map, List.length_take, HN.out.1]; omega
                have htk : ((ms.take (m + 1)).map fun y => IntKind.u64.wrap (y + d)) = ((ms.take m).map fun y => IntKind.u64.wrap (y + d)) ++ [z] := by
                  have hml := (List.getElem?_eq_some_iff.1 hy).1
                  rw [List.take_succ_eq_append_getElem hml, List.map_append, (List.getElem?_eq_some_iff.1 hy).2, ← hz]; rfl
                obtain ⟨g6, c6, w6, hr6, hb6⟩ := (hQ.drewN 1).row_push 1 (by omega) (by show List.length (List.map _ _) + 1 ≤ _; rw [hlm]; omega) z
                rw [(tri_upd _ _ _ _).2.1, (tri_upd _ _ _ _).2.1] at hb6
                change BsA A w1 w6 _ _ _ _ _ (tri _ _ _) (tri _ (((ms.take m).map fun y => IntKind.u64.wrap (y + d)) ++ [z]) _) at hb6
                rw [← htk] at hb6
                simp only [tri] at hr6
                change BsA A w1 w6 _ _ _ _ _ (tri _ (.slice (some ⟨g6, 0, none⟩) (((ms.take m).map fun y => IntKind.u64.wrap (y + d)).length + 1) c6) _) _ at hb6
                rw [hlm] at hr6 hb6
                have H6 := Lib.hid (And.intro hr6 hb6)
                clear hQ hxq hy e3 hlm htk hr6 hb6
                go_wp2_with fail
                go_region_law (refine step_run (by rfl) (.tmp 138) (.tmp 146) 24 (by rfl) u13 (.slice (some ⟨wz.heap.size, 0, none⟩) 1 1) (by first | (simp [Act.eval]; done) | simp [Act.eval, Act.put]) (by first | (simp [Act.eval]; done) | simp [Act.eval, Act.put]) _ w6 H6.out.1 ?_)
                all_goals
                  go_wp2_with fail
                  go_roundg (n - (m + 1))
                  case measure => omega
                  case rel => exact ⟨m + 1, _, rfl, by omega, rfl, by go_num, H6.out.2⟩
              · obtain rfl : m = n := by omega
                have hlz : ((ms.take m).map fun y => IntKind.u64.wrap (y + d)).length = m := by rw [List.length_map, List.length_take, HN.out.1, Nat.min_self]
                obtain ⟨lz, hz⟩ : ∃ lz, ((ms.take m).map fun y => IntKind.u64.wrap (y + d)) = lz := ⟨_, rfl⟩
                rw [hz] at hQ hlz
                have hrz : Rd wz u13 lz := (hQ.own 1 (by omega)).rd
                obtain ⟨p8, c8, e8, -⟩ := hrz
                rw [hlz] at e8
                subst e8
                have HS := Lib.hid (s_swap_ok hQ (show Rd wz _ lz from (hQ.own 1 (by omega)).rd) (by rw [hlz, HN.out.1]))
                have HLEN := Lib.hid hlz
                clear hQ hxq hz hlz hmn
                go_wp2_with fail
                refine HS.out.mono ?_
                rintro e w3 ⟨rfl, h3⟩
                have H3 := Lib.hid h3
                clear h3 HS
                go_wp2_with fail
                refine (copyWords_any (l := lz) (show Rd _ _ lz from (H3.out.own 1 (by omega)).rd) (by rw [HLEN.out]; omega)).mono ?_
                rintro e w7 ⟨v7, rfl, hv7, hf7, hk7⟩
                obtain ⟨p7, c7, e7⟩ := hv7.form
                rw [HLEN.out] at e7
                subst e7
                have h7 := H3.out.fresh 0 (by omega) hk7 hv7 hf7
                rw [(tri_upd _ _ _ _).1, (tri_upd _ _ _ _).1] at h7
                have H7 := Lib.hid h7
                clear hv7 hf7 hk7 h7
                go_wp2_with fail
                have HLn := s_len H7.out
                rw [HLEN.out] at HLn
                have HLh := Lib.hid HLn
                clear HLn
                go_wp2_with fail
                refine HLh.out.mono ?_
                rintro e wa ⟨rfl, ha⟩
                have Ha := Lib.hid ha
                clear ha HLh
                go_wp2_with fail
                refine (s_at Ha.out).mono ?_
                rintro e wb ⟨rfl, hb⟩
                have Hb := Lib.hid hb
                clear hb
                go_wp2_with fail
                refine (s_words Hb.out).mono ?_
                rintro e wc ⟨vc, rfl, hvc, -, hkc⟩
                have hc := Hb.out.same hkc
                have HSh := Lib.hid (sameWords_any hvc.rd (hc.own 0 (by omega)).rd)
                have Hc := Lib.hid hc
                clear hvc hkc hc
                go_wp2_with fail
                refine HSh.out.mono ?_
                rintro e wd ⟨rfl, md, hwd⟩
                have Hd := Lib.hid (Hc.out.drewN md)
                rw [← hwd] at Hd
                clear hwd HSh
                go_wp2_with fail
                go_roundg (len0 - (i + 1))
                case measure => omega
                case rel =>
                  exact ⟨i + 1, _, _, _, by omega, rfl, by go_num, by first | rfl | go_num, (by have := HN.out.2; have := HN.out.1; have := HLEN.out; show lz.length ≤ i + 1; omega), _, _, Hd.out.unbase HX.out.2.2.2.2.1 (fun q hq => (HX.out.2.2.2.2.2.1 q hq).1)⟩
        · exact absurd hq6 (by omega)
      · have hpi : ¬ ((p : Int) < n) := by omega
        rcases q with _ | _ | _ | _ | _ | _ | q
        · as_aux_lemma =>
          clear hq6
          go_wp2_with fail
          rw [HX.out.1]
          refine (place_any _ k 6 k1 k2 (by omega) (by omega)).mono ?_
          rintro e w' ⟨rfl, rfl⟩
          rw [HQ.out]
          go_wp2_with fail
          refine (s_push HR.out x (by rw [HN.out.1]; omega)).mono ?_
          rintro e w2 ⟨rfl, h2⟩
          have hx2 := (h2.kp.block wr.heap.size (Array.getElem?_eq_some_iff.1 HX.out.2.1).1 HX.out.2.2.2.2.2.2).trans HX.out.2.1
          obtain ⟨y0, y1, y2, y3, y4⟩ := xop_cells hx2
          obtain ⟨g3, c3, w3, hr3, hb3⟩ := h2.row_push 0 (by omega) (by show ms.length + 1 ≤ _; rw [HN.out.1]; omega) x
          rw [(tri_upd _ _ _ _).1, (tri_upd _ _ _ _).1] at hb3
          change (Builtin.append_ #[24, 24] 24 #[.slice p4 n c5, .slice (some ⟨w2.heap.size, 0, none⟩) 1 1]).run Try.prog (w2.alloc (.cells #[.int .u64 x] 27)) = .ok (.slice (some ⟨g3, 0, none⟩) (ms.length + 1) c3) w3 at hr3
          change BsA A w1 w3 _ _ _ _ _ (tri (.slice (some ⟨g3, 0, none⟩) (ms.length + 1) c3) _ _) (tri (ms ++ [x]) _ _) at hb3
          rw [HN.out.1] at hr3 hb3
          have H3 := Lib.hid hb3
          have HR3 := Lib.hid hr3
          clear h2 hx2 hr3 hb3
          go_wp2_with (at_builtin; refine wpList_run rfl _ _ 24 rfl (.slice p4 n c5) (.slice (some ⟨w2.heap.size, 0, none⟩) 1 1) rfl rfl _ w3 HR3.out ?_; refine Hid.out ?_)
          have hL3 : (ms ++ [x]).length = n + 1 := by rw [List.length_append, HN.out.1]; rfl
          refine Lib.hid ?_
          clear y0 y1 y2 y3 y4 x0 x1 x2 x3 x4
          have HLn := s_len H3.out
          rw [hL3] at HLn
          have HLh := Lib.hid HLn
          clear HLn
          go_wp2_with fail
          refine HLh.out.mono ?_
          rintro e wa ⟨rfl, ha⟩
          have Ha := Lib.hid ha
          clear ha HLh
          go_wp2_with fail
          refine (s_at Ha.out).mono ?_
          rintro e wb ⟨rfl, hb⟩
          have Hb := Lib.hid hb
          clear hb
          go_wp2_with fail
          refine (s_words Hb.out).mono ?_
          rintro e wc ⟨vc, rfl, hvc, -, hkc⟩
          have hc := Hb.out.same hkc
          have HSh := Lib.hid (sameWords_any hvc.rd (hc.own 0 (by omega)).rd)
          have Hc := Lib.hid hc
          clear hvc hkc hc
          go_wp2_with fail
          refine HSh.out.mono ?_
          rintro e wd ⟨rfl, md, hwd⟩
          have Hd := Lib.hid (Hc.out.drewN md)
          rw [← hwd] at Hd
          clear hwd HSh
          go_wp2_with fail
          go_roundg (len0 - (i + 1))
          case measure => omega
          case rel =>
            exact ⟨i + 1, _, _, _, by omega, rfl, by go_num, by first | rfl | go_num, (by rw [hL3]; have := HN.out.1; have := HN.out.2; omega), _, _, Hd.out.unbase HX.out.2.2.2.2.1 (fun q hq => (HX.out.2.2.2.2.2.1 q hq).1)⟩
        · as_aux_lemma =>
          clear hq6
          go_wp2_with fail
          rw [HX.out.1]
          refine (place_any _ k 6 k1 k2 (by omega) (by omega)).mono ?_
          rintro e w' ⟨rfl, rfl⟩
          rw [HQ.out]
          go_wp2_with fail
          refine (s_peek_none HR.out (by rw [HN.out.1]; omega)).mono ?_
          rintro e w2 ⟨rfl, h2⟩
          have H3 := Lib.hid h2
          clear h2
          go_wp2_with fail
          have HLn := s_len H3.out
          rw [HN.out.1] at HLn
          have HLh := Lib.hid HLn
          clear HLn
          go_wp2_with fail
          refine HLh.out.mono ?_
          rintro e wa ⟨rfl, ha⟩
          have Ha := Lib.hid ha
          clear ha HLh
          go_wp2_with fail
          refine (s_at Ha.out).mono ?_
          rintro e wb ⟨rfl, hb⟩
          have Hb := Lib.hid hb
          clear hb
          go_wp2_with fail
          refine (s_words Hb.out).mono ?_
          rintro e wc ⟨vc, rfl, hvc, -, hkc⟩
          have hc := Hb.out.same hkc
          have HSh := Lib.hid (sameWords_any hvc.rd (hc.own 0 (by omega)).rd)
          have Hc := Lib.hid hc
          clear hvc hkc hc
          go_wp2_with fail
          refine HSh.out.mono ?_
          rintro e wd ⟨rfl, md, hwd⟩
          have Hd := Lib.hid (Hc.out.drewN md)
          rw [← hwd] at Hd
          clear hwd HSh
          go_wp2_with fail
          go_roundg (len0 - (i + 1))
          case measure => omega
          case rel =>
            exact ⟨i + 1, _, _, _, by omega, rfl, by go_num, by first | rfl | go_num, (by rw [HN.out.1]; have := HN.out.1; have := HN.out.2; omega), _, _, Hd.out.unbase HX.out.2.2.2.2.1 (fun q hq => (HX.out.2.2.2.2.2.1 q hq).1)⟩
        · as_aux_lemma =>
          clear hq6
          go_wp2_with fail
          rw [HX.out.1]
          refine (place_any _ k 6 k1 k2 (by omega) (by omega)).mono ?_
          rintro e w' ⟨rfl, rfl⟩
          rw [HQ.out]
          go_wp2_with fail
          have HNx := s_next HR.out p (by rw [HN.out.1, if_neg hpl])
          rw [HN.out.1, show decide (p < n) = false from by simp; omega] at HNx
          have HNh := Lib.hid HNx
          clear HNx
          refine HNh.out.mono ?_
          rintro e w2 ⟨rfl, h2⟩
          have H3 := Lib.hid h2
          clear h2 HNh
          go_wp2_with fail
          have HLn := s_len H3.out
          rw [HN.out.1] at HLn
          have HLh := Lib.hid HLn
          clear HLn
          go_wp2_with fail
          refine HLh.out.mono ?_
          rintro e wa ⟨rfl, ha⟩
          have Ha := Lib.hid ha
          clear ha HLh
          go_wp2_with fail
          refine (s_at Ha.out).mono ?_
          rintro e wb ⟨rfl, hb⟩
          have Hb := Lib.hid hb
          clear hb
          go_wp2_with fail
          refine (s_words Hb.out).mono ?_
          rintro e wc ⟨vc, rfl, hvc, -, hkc⟩
          have hc := Hb.out.same hkc
          have HSh := Lib.hid (sameWords_any hvc.rd (hc.own 0 (by omega)).rd)
          have Hc := Lib.hid hc
          clear hvc hkc hc
          go_wp2_with fail
          refine HSh.out.mono ?_
          rintro e wd ⟨rfl, md, hwd⟩
          have Hd := Lib.hid (Hc.out.drewN md)
          rw [← hwd] at Hd
          clear hwd HSh
          go_wp2_with fail
          go_roundg (len0 - (i + 1))
          case measure => omega
          case rel =>
            exact ⟨i + 1, _, _, _, by omega, rfl, by go_num, by first | rfl | go_num, (by rw [HN.out.1]; have := HN.out.1; have := HN.out.2; omega), _, _, Hd.out.unbase HX.out.2.2.2.2.1 (fun q hq => (HX.out.2.2.2.2.2.1 q hq).1)⟩
        · as_aux_lemma =>
          clear hq6
          go_wp2_with fail
          rw [HX.out.1]
          refine (place_any _ k 6 k1 k2 (by omega) (by omega)).mono ?_
          rintro e w' ⟨rfl, rfl⟩
          rw [HQ.out]
          go_wp2_with fail
          refine (s_take_none HR.out (by rw [HN.out.1]; omega)).mono ?_
          rintro e w2 ⟨rfl, h2⟩
          have H3 := Lib.hid h2
          clear h2
          go_wp2_with fail
          have HLn := s_len H3.out
          rw [HN.out.1] at HLn
          have HLh := Lib.hid HLn
          clear HLn
          go_wp2_with fail
          refine HLh.out.mono ?_
          rintro e wa ⟨rfl, ha⟩
          have Ha := Lib.hid ha
          clear ha HLh
          go_wp2_with fail
          refine (s_at Ha.out).mono ?_
          rintro e wb ⟨rfl, hb⟩
          have Hb := Lib.hid hb
          clear hb
          go_wp2_with fail
          refine (s_words Hb.out).mono ?_
          rintro e wc ⟨vc, rfl, hvc, -, hkc⟩
          have hc := Hb.out.same hkc
          have HSh := Lib.hid (sameWords_any hvc.rd (hc.own 0 (by omega)).rd)
          have Hc := Lib.hid hc
          clear hvc hkc hc
          go_wp2_with fail
          refine HSh.out.mono ?_
          rintro e wd ⟨rfl, md, hwd⟩
          have Hd := Lib.hid (Hc.out.drewN md)
          rw [← hwd] at Hd
          clear hwd HSh
          go_wp2_with fail
          go_roundg (len0 - (i + 1))
          case measure => omega
          case rel =>
            exact ⟨i + 1, _, _, _, by omega, rfl, by go_num, by first | rfl | go_num, (by rw [HN.out.1]; have := HN.out.1; have := HN.out.2; omega), _, _, Hd.out.unbase HX.out.2.2.2.2.1 (fun q hq => (HX.out.2.2.2.2.2.1 q hq).1)⟩
        · as_aux_lemma =>
          clear hq6
          go_wp2_with fail
          rw [HX.out.1]
          refine (place_any _ k 6 k1 k2 (by omega) (by omega)).mono ?_
          rintro e w' ⟨rfl, rfl⟩
          rw [HQ.out]
          go_wp2_with fail
          refine (s_first HR.out).mono ?_
          rintro e w2 ⟨rfl, h2⟩
          have H3 := Lib.hid h2
          clear h2
          go_wp2_with fail
          have HLn := s_len H3.out
          rw [HN.out.1] at HLn
          have HLh := Lib.hid HLn
          clear HLn
          go_wp2_with fail
          refine HLh.out.mono ?_
          rintro e wa ⟨rfl, ha⟩
          have Ha := Lib.hid ha
          clear ha HLh
          go_wp2_with fail
          refine (s_at Ha.out).mono ?_
          rintro e wb ⟨rfl, hb⟩
          have Hb := Lib.hid hb
          clear hb
          go_wp2_with fail
          refine (s_words Hb.out).mono ?_
          rintro e wc ⟨vc, rfl, hvc, -, hkc⟩
          have hc := Hb.out.same hkc
          have HSh := Lib.hid (sameWords_any hvc.rd (hc.own 0 (by omega)).rd)
          have Hc := Lib.hid hc
          clear hvc hkc hc
          go_wp2_with fail
          refine HSh.out.mono ?_
          rintro e wd ⟨rfl, md, hwd⟩
          have Hd := Lib.hid (Hc.out.drewN md)
          rw [← hwd] at Hd
          clear hwd HSh
          go_wp2_with fail
          go_roundg (len0 - (i + 1))
          case measure => omega
          case rel =>
            exact ⟨i + 1, _, _, _, by omega, rfl, by go_num, by first | rfl | go_num, (by rw [HN.out.1]; have := HN.out.1; have := HN.out.2; omega), _, _, Hd.out.unbase HX.out.2.2.2.2.1 (fun q hq => (HX.out.2.2.2.2.2.1 q hq).1)⟩
        · as_aux_lemma =>
          clear hq6
          go_wp2_with fail
          rw [HX.out.1]
          refine (place_any _ k 6 k1 k2 (by omega) (by omega)).mono ?_
          rintro e w' ⟨rfl, rfl⟩
          rw [HQ.out]
          go_wp2_with fail
          refine (copyWords_any HX.out.2.2.1.1 (by rw [HX.out.2.2.2.1]; omega)).mono ?_
          rintro e w2 ⟨v2, rfl, hv2, hf2, hk2⟩
          obtain ⟨p2, c2, e2⟩ := hv2.form
          rw [HX.out.2.2.2.1] at e2
          subst e2
          have h2 := HR.out.fresh 1 (by omega) hk2 hv2 hf2
          rw [(tri_upd _ _ _ _).2.1, (tri_upd _ _ _ _).2.1] at h2
          have hx2 := (h2.kp.block wr.heap.size (Array.getElem?_eq_some_iff.1 HX.out.2.1).1 HX.out.2.2.2.2.2.2).trans HX.out.2.1
          obtain ⟨y0, y1, y2, y3, y4⟩ := xop_cells hx2
          clear x0 x1 x2 x3 x4
          rcases own with _ | _
          · by_cases hle : lu = n
            · subst hle
              have HS := Lib.hid (s_swap_ok h2 (show Rd w2 _ ls from (h2.own 1 (by omega)).rd) (by rw [HX.out.2.2.2.1, HN.out.1]))
              clear h2 hv2 hf2 hk2 hx2
              go_wp2_with fail
              refine HS.out.mono ?_
              rintro e w3 ⟨rfl, h3⟩
              have H3 := Lib.hid h3
              have HLEN := Lib.hid HX.out.2.2.2.1
              clear h3 HS
              go_wp2_with fail
              refine (copyWords_any (l := ls) (show Rd _ _ ls from (H3.out.own 1 (by omega)).rd) (by rw [HLEN.out]; omega)).mono ?_
              rintro e w7 ⟨v7, rfl, hv7, hf7, hk7⟩
              obtain ⟨p7, c7, e7⟩ := hv7.form
              rw [HLEN.out] at e7
              subst e7
              have h7 := H3.out.fresh 0 (by omega) hk7 hv7 hf7
              rw [(tri_upd _ _ _ _).1, (tri_upd _ _ _ _).1] at h7
              have H7 := Lib.hid h7
              clear hv7 hf7 hk7 h7
              go_wp2_with fail
              have HLn := s_len H7.out
              rw [HLEN.out] at HLn
              have HLh := Lib.hid HLn
              clear HLn
              go_wp2_with fail
              refine HLh.out.mono ?_
              rintro e wa ⟨rfl, ha⟩
              have Ha := Lib.hid ha
              clear ha HLh
              go_wp2_with fail
              refine (s_at Ha.out).mono ?_
              rintro e wb ⟨rfl, hb⟩
              have Hb := Lib.hid hb
              clear hb
              go_wp2_with fail
              refine (s_words Hb.out).mono ?_
              rintro e wc ⟨vc, rfl, hvc, -, hkc⟩
              have hc := Hb.out.same hkc
              have HSh := Lib.hid (sameWords_any hvc.rd (hc.own 0 (by omega)).rd)
              have Hc := Lib.hid hc
              clear hvc hkc hc
              go_wp2_with fail
              refine HSh.out.mono ?_
              rintro e wd ⟨rfl, md, hwd⟩
              have Hd := Lib.hid (Hc.out.drewN md)
              rw [← hwd] at Hd
              clear hwd HSh
              go_wp2_with fail
              go_roundg (len0 - (i + 1))
              case measure => omega
              case rel =>
                exact ⟨i + 1, _, _, _, by omega, rfl, by go_num, by first | rfl | go_num, (by have := HN.out.2; have := HN.out.1; have := HLEN.out; show ls.length ≤ i + 1; omega), _, _, Hd.out.unbase HX.out.2.2.2.2.1 (fun q hq => (HX.out.2.2.2.2.2.1 q hq).1)⟩
            · have hli2 : ((lu : Int) == (n : Int)) = false := by simp; omega
              have HS := Lib.hid (s_swap_bad h2 (show Rd w2 _ ls from (h2.own 1 (by omega)).rd) (by rw [HX.out.2.2.2.1, HN.out.1]; exact hle))
              clear h2 hv2 hf2 hk2 hx2 hle
              go_wp2_with fail
              refine HS.out.mono ?_
              rintro e w3 ⟨rfl, h3⟩
              have H3 := Lib.hid h3
              clear h3 HS
              go_wp2_with fail
              have HLn := s_len H3.out
              rw [HN.out.1] at HLn
              have HLh := Lib.hid HLn
              clear HLn
              go_wp2_with fail
              refine HLh.out.mono ?_
              rintro e wa ⟨rfl, ha⟩
              have Ha := Lib.hid ha
              clear ha HLh
              go_wp2_with fail
              refine (s_at Ha.out).mono ?_
              rintro e wb ⟨rfl, hb⟩
              have Hb := Lib.hid hb
              clear hb
              go_wp2_with fail
              refine (s_words Hb.out).mono ?_
              rintro e wc ⟨vc, rfl, hvc, -, hkc⟩
              have hc := Hb.out.same hkc
              have HSh := Lib.hid (sameWords_any hvc.rd (hc.own 0 (by omega)).rd)
              have Hc := Lib.hid hc
              clear hvc hkc hc
              go_wp2_with fail
              refine HSh.out.mono ?_
              rintro e wd ⟨rfl, md, hwd⟩
              have Hd := Lib.hid (Hc.out.drewN md)
              rw [← hwd] at Hd
              clear hwd HSh
              go_wp2_with fail
              go_roundg (len0 - (i + 1))
              case measure => omega
              case rel =>
                exact ⟨i + 1, _, _, _, by omega, rfl, by go_num, by first | rfl | go_num, (by rw [HN.out.1]; have := HN.out.1; have := HN.out.2; omega), _, _, Hd.out.unbase HX.out.2.2.2.2.1 (fun q hq => (HX.out.2.2.2.2.2.1 q hq).1)⟩
          · have h3 := h2.fresh 1 (by omega) (Kp.refl _ w2) (Wr.nil w2) (fun g hg => by simp [Value.ownBlock] at hg)
            rw [(tri_upd _ _ _ _).2.1, (tri_upd _ _ _ _).2.1] at h3
            have H3 := Lib.hid h3
            clear h2 h3 hv2 hf2 hk2 hx2
            go_wp2_with fail
            go_loopg [13, 14] n (fun gk s13 s14 wq => ∃ (m : Nat) (wz : World), wz = wq ∧ m ≤ n ∧ gk = n - m ∧ s14 = .int .i64 m ∧ BsA A w1 wz w.heap.size gone ms p 3 (tri (.slice p4 n c5) s13 (.slice none 0 0)) (tri ms ((ms.take m).map fun y => IntKind.u64.wrap (y + d)) []))
            case atStart => exact ⟨0, _, rfl, by omega, rfl, rfl, H3.out⟩
            case round =>
              obtain ⟨m, wz, hwz, hm, rfl, rfl, hQ⟩ := hrel
              subst hwz
              clear H3
              have hxq := (hQ.kp.block _ (Array.getElem?_eq_some_iff.1 HX.out.2.1).1 HX.out.2.2.2.2.2.2).trans HX.out.2.1
              clear y0 y1 y2 y3 y4
              obtain ⟨y0, y1, y2, y3, y4⟩ := xop_cells hxq
              by_cases hmn : m < n
              · have hmi : (m : Int) < n := by omega
                obtain ⟨y, hy⟩ : ∃ y, ms[m]? = some y := ⟨ms[m]'(by rw [HN.out.1]; exact hmn), List.getElem?_eq_getElem _⟩
                obtain ⟨g3, c3, e3, -, -, hc3⟩ := (hQ.own 0 (by omega)).get (j := m) hy
                have e4 : p4 = some ⟨g3, 0, none⟩ := slice_po e3
                subst e4
                obtain ⟨z, hz⟩ : ∃ z, IntKind.u64.wrap (y + d) = z := ⟨_, rfl⟩
                have hlm : ((ms.take m).map fun y => IntKind.u64.wrap (y + d)).length = m := by rw [List.length_map, List.length_take, HN.out.1]; omega
                have htk : ((ms.take (m + 1)).map fun y => IntKind.u64.wrap (y + d)) = ((ms.take m).map fun y => IntKind.u64.wrap (y + d)) ++ [z] := by
                  have hml := (List.getElem?_eq_some_iff.1 hy).1
                  rw [List.take_succ_eq_append_getElem hml, List.map_append, (List.getElem?_eq_some_iff.1 hy).2, ← hz]; rfl
                obtain ⟨g6, c6, w6, hr6, hb6⟩ := (hQ.drewN 1).row_push 1 (by omega) (by show List.length (List.map _ _) + 1 ≤ _; rw [hlm]; omega) z
                rw [(tri_upd _ _ _ _).2.1, (tri_upd _ _ _ _).2.1] at hb6
                change BsA A w1 w6 _ _ _ _ _ (tri _ _ _) (tri _ (((ms.take m).map fun y => IntKind.u64.wrap (y + d)) ++ [z]) _) at hb6
                rw [← htk] at hb6
                simp only [tri] at hr6
                change BsA A w1 w6 _ _ _ _ _ (tri _ (.slice (some ⟨g6, 0, none⟩) (((ms.take m).map fun y => IntKind.u64.wrap (y + d)).length + 1) c6) _) _ at hb6
                rw [hlm] at hr6 hb6
                have H6 := Lib.hid (And.intro hr6 hb6)
                clear hQ hxq hy e3 hlm htk hr6 hb6
                go_wp2_with fail
                go_region_law (refine step_run (by rfl) (.tmp 138) (.tmp 146) 24 (by rfl) u13 (.slice (some ⟨wz.heap.size, 0, none⟩) 1 1) (by first | (simp [Act.eval]; done) | simp [Act.eval, Act.put]) (by first | (simp [Act.eval]; done) | simp [Act.eval, Act.put]) _ w6 H6.out.1 ?_)
                all_goals
                  go_wp2_with fail
                  go_roundg (n - (m + 1))
                  case measure => omega
                  case rel => exact ⟨m + 1, _, rfl, by omega, rfl, by go_num, H6.out.2⟩
              · obtain rfl : m = n := by omega
                have hlz : ((ms.take m).map fun y => IntKind.u64.wrap (y + d)).length = m := by rw [List.length_map, List.length_take, HN.out.1, Nat.min_self]
                obtain ⟨lz, hz⟩ : ∃ lz, ((ms.take m).map fun y => IntKind.u64.wrap (y + d)) = lz := ⟨_, rfl⟩
                rw [hz] at hQ hlz
                have hrz : Rd wz u13 lz := (hQ.own 1 (by omega)).rd
                obtain ⟨p8, c8, e8, -⟩ := hrz
                rw [hlz] at e8
                subst e8
                have HS := Lib.hid (s_swap_ok hQ (show Rd wz _ lz from (hQ.own 1 (by omega)).rd) (by rw [hlz, HN.out.1]))
                have HLEN := Lib.hid hlz
                clear hQ hxq hz hlz hmn
                go_wp2_with fail
                refine HS.out.mono ?_
                rintro e w3 ⟨rfl, h3⟩
                have H3 := Lib.hid h3
                clear h3 HS
                go_wp2_with fail
                refine (copyWords_any (l := lz) (show Rd _ _ lz from (H3.out.own 1 (by omega)).rd) (by rw [HLEN.out]; omega)).mono ?_
                rintro e w7 ⟨v7, rfl, hv7, hf7, hk7⟩
                obtain ⟨p7, c7, e7⟩ := hv7.form
                rw [HLEN.out] at e7
                subst e7
                have h7 := H3.out.fresh 0 (by omega) hk7 hv7 hf7
                rw [(tri_upd _ _ _ _).1, (tri_upd _ _ _ _).1] at h7
                have H7 := Lib.hid h7
                clear hv7 hf7 hk7 h7
                go_wp2_with fail
                have HLn := s_len H7.out
                rw [HLEN.out] at HLn
                have HLh := Lib.hid HLn
                clear HLn
                go_wp2_with fail
                refine HLh.out.mono ?_
                rintro e wa ⟨rfl, ha⟩
                have Ha := Lib.hid ha
                clear ha HLh
                go_wp2_with fail
                refine (s_at Ha.out).mono ?_
                rintro e wb ⟨rfl, hb⟩
                have Hb := Lib.hid hb
                clear hb
                go_wp2_with fail
                refine (s_words Hb.out).mono ?_
                rintro e wc ⟨vc, rfl, hvc, -, hkc⟩
                have hc := Hb.out.same hkc
                have HSh := Lib.hid (sameWords_any hvc.rd (hc.own 0 (by omega)).rd)
                have Hc := Lib.hid hc
                clear hvc hkc hc
                go_wp2_with fail
                refine HSh.out.mono ?_
                rintro e wd ⟨rfl, md, hwd⟩
                have Hd := Lib.hid (Hc.out.drewN md)
                rw [← hwd] at Hd
                clear hwd HSh
                go_wp2_with fail
                go_roundg (len0 - (i + 1))
                case measure => omega
                case rel =>
                  exact ⟨i + 1, _, _, _, by omega, rfl, by go_num, by first | rfl | go_num, (by have := HN.out.2; have := HN.out.1; have := HLEN.out; show lz.length ≤ i + 1; omega), _, _, Hd.out.unbase HX.out.2.2.2.2.1 (fun q hq => (HX.out.2.2.2.2.2.1 q hq).1)⟩
        · exact absurd hq6 (by omega)
    · obtain rfl : i = len0 := by omega
      have hB' : Bs w wr w.heap.size gone ms p 3 (tri u4 u1 (.slice none 0 0)) (tri ms r1 []) := hB
      have H5 := Lib.hid hB'
      clear hB hB' hlt hi
      go_wp2_with fail
      refine (boxAwake_any _).mono ?_
      rintro e w7 ⟨rfl, hk7⟩
      have H7 := Lib.hid (H5.out.same hk7)
      clear hk7
      go_wp2_with fail
      go_ret
      exact ⟨rfl, Bs.below H7.out⟩

set_option maxRecDepth 100000 in
theorem lifted (os : Os) (started : os.Started) (H : Type) (enc : TypeId × Value → H) :
    ReturnsInHanded {} Try.checked os 3 .any (Rows.boxPlaysSpec.pre6 enc Try.prog Try.f3 Rows.boxPlaysRow.domain false) (Rows.boxPlaysSpec.post enc Try.prog Try.f3 false true false false) := by
  refine returnsInHanded_of_change_sized (C := Try.checked) own started (by kernel_rfl) Try.func3
    (ChangeSpec.witness6 (enc := enc) (C := Try.checked) false ⟨#[], #[.slice none 0 0], []⟩ 8 (by kernel_rfl) (by kernel_rfl) (by kernel_rfl) (by kernel_rfl)) ?_
  intro W base args ds gs before hval0 hW hcnd hsz0 _
  have hval : ∀ (j : Nat) t v, Try.f3.params[j]? = some t → args[j]? = some v → Value.okWide Try.prog W .any base t v := hval0
  have hW' := hW
  obtain ⟨p, q, hA0, hV, rfl, hfz, hnd⟩ := hW
  have hA : DataW.TrodAll enc Try.prog W 0 (fun _ => true) true Try.f3.params.toList args.toList ds p := hA0
  rw [Try.params3] at hA hval
  obtain ⟨v0, vs0, d0, ds0, p0, q0, hargs, rfl, rfl, h0, r0⟩ := trodAll_cons hA
  obtain ⟨rfl, rfl, rfl⟩ := trodAll_nil r0
  obtain rfl : args = #[v0] := by cases args; simp_all
  obtain ⟨rfl, rfl⟩ := trodVars_none hV
  have hsz : ∀ (j : Nat) t d, ((Try.f3.params.toList) : List TypeId)[j]? = some t → [d0][j]? = some d → ∀ n ∈ d.weights Try.prog t, n ≤ reachBytes := fun j t d ht hd n hn => of_decide_eq_true (List.all_eq_true.1 hsz0 n (DataW.weights_mem_each (j := j) (List.getElem?_append_left (List.getElem?_eq_some_iff.1 ht).1 ▸ ht) (List.getElem?_append_left (List.getElem?_eq_some_iff.1 hd).1 ▸ hd) n hn))
  clear hsz0
  obtain ⟨a0, len0, cap0, rfl⟩ := okWide_slice Try.underlying22 (hval 0 22 v0 rfl rfl)
  have k0 := h0
  have lt0 : ∀ x ∈ p0, x.block < W.heap.size := by obtain ⟨m, hm⟩ := k0; exact DataW.trod_lt m _ _ _ hm
  have w0 : OpsW W a0 len0 cap0 := by
    obtain ⟨fuel, hf⟩ := h0
    obtain ⟨po, l, c, hcs, ho⟩ := opened_wops Try.underlying22 Try.underlying29 (by kernel_rfl) (by kernel_rfl) Try.underlying3 Try.underlying27 Try.underlying27 Try.underlying24 Try.underlying4 Try.underlying27 (by kernel_rfl) (by kernel_rfl) (by kernel_rfl) (hsz 0 _ _ rfl rfl) hf
    simp [Value.cells] at hcs
    obtain ⟨rfl, rfl, rfl⟩ := hcs
    exact ho
  clear hA0 hval0
  refine (walk a0 len0 cap0 W w0).mono fun e W' ⟨he, bel⟩ => ?_
  subst he
  exact ⟨_, rfl, _, _, _, [], _, [], hW', trodAll_mk1 (shut_bool Try.underlying4 _), (trodAll_cons_mk (Below.trod laidOut (by kernel_rfl) (of_decide_eq_true (by kernel_rfl)) k0 bel lt0) trodAll_mk0), rfl, bel.frame _, fun h => by cases h⟩

theorem over : Rows.boxPlaysRow.holds Try.pinned (OpenSpec.ofChange Rows.boxPlaysSpec) :=
  OpenClaim.holds_of_wide 3 Try.f3 rfl rfl rfl rfl rfl rfl rfl ⟨rfl, rfl, rfl, rfl, rfl⟩ rfl rfl rfl rfl rfl (by kernel_rfl) Try.func3 (by kernel_rfl)
    (of_decide_eq_true (by kernel_rfl)) (by unfold Func.isWrapper; first | (rw [if_pos (by decide +kernel)]; kernel_rfl) | (rw [if_neg (by decide +kernel)]; exact ⟨rfl, rfl⟩))
    (fun os started H enc _ => lifted os started H enc)

theorem proved : Rows.BoxPlaysSaid := over
#print axioms proved
end Go.Proofs.Ytgdmcinfgfejcaa.boxPlays
