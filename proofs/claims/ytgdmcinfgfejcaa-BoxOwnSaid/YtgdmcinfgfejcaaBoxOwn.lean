/- Lists that are handed to a box and told by it are nobody else's, and two boxes have nothing in common: BoxOwn returns true, whatever the words. -/
import Derived.Test.YtgdmcinfgfejcaaRows
import Derived.Test.YtgdmcinfgfejcaaBxOwn
import Derived.WalkKit
import Derived.ProofKit
import Derived.OpenShut
import Derived.ShutString
import Derived.ChangeOld
import Derived.Below
import Derived.Deep.Strs
namespace Go.Proofs.Ytgdmcinfgfejcaa.boxOwn
open Go.ChangeShapes Go.WideShapes Go.ChangeAt Go.RowKit
open Go.ChangeMaps (open_string shut_string)
set_option linter.unusedVariables false

theorem own : ownKnob Try.prog.godebug = none := by kernel_rfl
theorem laidOut : laidOutB Try.prog = true := by kernel_rfl

set_option maxHeartbeats 4000000 in
set_option maxRecDepth 100000 in
theorem walk (a0 : Option Addr) (len0 cap0 : Nat) (l : List Int) (w : World) (hlen : l.length = len0) (h0 : WIn w (.slice a0 len0 cap0) l) :
    Calls Try.prog 5 #[.slice a0 len0 cap0] w fun e w' => e = .returned (.bool true) ∧ Below w.heap.size w w' := by
  have hm : len0 * 8 ≤ 140737488351232 := by rw [← hlen]; exact h0.2.1
  have hcap : len0 ≤ cap0 ∧ cap0 ≤ 9223372036854775807 := by
    obtain ⟨po, cap, e, h1, h2, -⟩ := h0.1
    obtain ⟨e1, e2⟩ := slice_nc e
    unfold maxLen at h2
    exact ⟨by omega, by omega⟩
  have HI := Lib.hid (And.intro h0 hlen)
  clear h0 hlen
  obtain ⟨w2, hw2⟩ : ∃ w2, (w.alloc (.cells #[.slice none 0 0, .int .i64 0, .int .i64 0] 26)).alloc (.cells #[.slice none 0 0, .int .i64 0, .int .i64 0] 26) = w2 := ⟨_, rfl⟩
  have hk2 : Kp (fun _ => False) w w2 := by rw [← hw2]; exact ((Kp.refl _ w).alloc _).alloc _
  have hz : w2.heap.size = w.heap.size + 2 := by rw [← hw2]; simp
  have hba : w2.heap[w.heap.size]? = some (.cells #[.slice none 0 0, .int .i64 0, .int .i64 0] 26 (0, 0)) := by
    rw [← hw2, Below.heap_alloc _ _ _ (by simp)]; exact heap_alloc_new w _
  have hbb : w2.heap[w.heap.size + 1]? = some (.cells #[.slice none 0 0, .int .i64 0, .int .i64 0] 26 (0, 0)) := by
    have := heap_alloc_new (w.alloc (.cells #[.slice none 0 0, .int .i64 0, .int .i64 0] 26)) (.cells #[.slice none 0 0, .int .i64 0, .int .i64 0] 26)
    rw [← hw2, ← this]; simp
  have H0 := Lib.hid (BsA.new_box (A := fun q => q = w.heap.size) (w0 := w2) (n := 3) hba (Kp.refl _ w2) (.inl rfl))
  have HW := Lib.hid hw2
  have HB := Lib.hid (And.intro hbb (And.intro hz hk2))
  clear hw2 hk2 hz hba hbb
  go_enter Try.func5, Try.ntmps5
  go_wp2_with fail
  rw [HW.out]
  clear HW
  have hlenl : l.length = len0 := HI.out.2
  have HL := Lib.hid hlenl
  clear hlenl
  go_loopg [5] len0 (fun gk s5 wr => ∃ i : Nat, i ≤ len0 ∧ gk = len0 - i ∧ s5 = .int .i64 i ∧ BsA (fun q => q = w.heap.size) w2 wr w.heap.size 0 (l.take i) 0 3 (fun _ => .slice none 0 0) (fun _ => []))
  case atStart => exact ⟨0, by omega, rfl, rfl, by rw [List.take_zero]; exact H0.out⟩
  case round =>
    obtain ⟨i, hi, rfl, rfl, hB⟩ := hrel
    by_cases hlt : i < len0
    · have hli : (i : Int) < len0 := by omega
      have hkw : Kp (fun _ => False) w wr := kp_new HB.out.2.2 hB.kp (fun q e => .inr (Nat.le_of_eq e.symm))
      obtain ⟨po, cap, e1, -, -, hget⟩ := (HI.out.1.same hkw).1
      obtain ⟨x, hx⟩ : ∃ x, l[i]? = some x := ⟨l[i]'(by have := HL.out; omega), List.getElem?_eq_getElem _⟩
      obtain ⟨b0, off0, e2, c0⟩ := hget i x hx
      obtain rfl := (slice_po e1).trans e2
      have HB2 := Lib.hid hB
      have HX := Lib.hid hx
      clear hB hx hget e1 e2 hkw
      go_wp2_with fail
      refine (s_push HB2.out x (by rw [List.length_take]; omega)).mono ?_
      rintro e w3 ⟨rfl, h3⟩
      have H3 := Lib.hid h3
      clear h3
      go_wp2_with fail
      go_roundg (len0 - (i + 1))
      case measure => omega
      case rel =>
        refine ⟨i + 1, by omega, rfl, by go_num, ?_⟩
        have e5 : l.take (i + 1) = l.take i ++ [x] := by
          have hil := (List.getElem?_eq_some_iff.1 HX.out).1
          rw [List.take_succ_eq_append_getElem hil, (List.getElem?_eq_some_iff.1 HX.out).2]
        rw [e5]; exact H3.out
    · obtain rfl : i = len0 := by omega
      have hkw : Kp (fun _ => False) w wr := kp_new HB.out.2.2 hB.kp (fun q e => .inr (Nat.le_of_eq e.symm))
      have hin := HI.out.1.same hkw
      rw [List.take_of_length_le (Nat.le_of_eq HL.out)] at hB
      have HC := Lib.hid (copyWords_any hin.1 (by have := HL.out; omega))
      have HB2 := Lib.hid hB
      clear hB hkw hin hlt hi
      go_wp2_with fail
      refine HC.out.mono ?_
      rintro e w3 ⟨v3, rfl, hv3, hf3, hk3⟩
      have h3 := (HB2.out.fresh 0 (by omega) hk3 hv3 hf3)
      have hs := s_swap_ok h3 (ys := l) (hv3.rd) rfl
      obtain ⟨p3, c3, hf⟩ := hv3.form
      rw [HL.out] at hf
      subst hf
      have HS := Lib.hid hs
      clear hs h3 hv3 hf3 hk3 HC
      go_wp2_with fail
      refine HS.out.mono ?_
      rintro e w4 ⟨rfl, h4⟩
      have H4 := Lib.hid h4
      clear h4 HS HB2
      go_wp2_with fail
      go_loopg [7] i (fun gk s7 wr => ∃ k : Nat, k ≤ i ∧ gk = i - k ∧ s7 = .int .i64 k ∧ BsA (fun q => q = w.heap.size) w2 wr w.heap.size 0 l 0 3 (upd (fun _ => .slice none 0 0) 0 (.slice p3 i c3)) (upd (fun _ => []) 0 (bump l k)))
      case atStart => exact ⟨0, by omega, rfl, rfl, by rw [bump_zero]; exact H4.out⟩
      case round =>
        obtain ⟨k, hk, rfl, rfl, hB⟩ := hrel
        by_cases hlt : k < i
        · have hli : (k : Int) < i := by omega
          obtain ⟨x, hx⟩ : ∃ x, l[k]? = some x := ⟨l[k]'(by have := HL.out; omega), List.getElem?_eq_getElem _⟩
          have hw0 := hB.own 0 (by omega)
          rw [upd_same, upd_same] at hw0
          obtain ⟨g, cap, e1, -, -, c0⟩ := hw0.get (bump_get hx)
          obtain rfl := slice_po e1
          obtain ⟨a1, a2, a3⟩ := wr_set hw0 k (IntKind.u64.wrap (x + 1))
          rw [bump_set hx] at a1
          have hn := hB.put 0 (by omega) (by rw [upd_same]; exact a2) a1 (fun g hg => .inl (by rw [upd_same]; exact hg))
          obtain ⟨y, hy⟩ : ∃ y, IntKind.u64.wrap (x + 1) = y := ⟨_, rfl⟩
          rw [hy] at hn
          have HN := Lib.hid hn
          clear hB hw0 e1 a1 a2 hn hx
          go_wp2_with fail
          go_roundg (i - (k + 1))
          case measure => omega
          case rel =>
            refine ⟨k + 1, by omega, rfl, by go_num, HN.out.congr (fun j _ => ?_) (fun j _ => ?_)⟩
            · by_cases e : j = 0
              · rw [e, upd_same, upd_same]
              · rw [upd_other _ _ e]
            · by_cases e : j = 0
              · rw [e, upd_same, upd_same]
              · rw [upd_other _ _ e, upd_other _ _ e, upd_other _ _ e]
        · obtain rfl : k = i := by omega
          have HB2 := Lib.hid hB
          have HWd := Lib.hid (s_words hB)
          clear hB hlt hk H4
          go_wp2_with fail
          refine HWd.out.mono ?_
          rintro e w5 ⟨v5, rfl, hv5, hf5, hk5⟩
          obtain ⟨p5, c5, hf⟩ := hv5.form
          rw [HL.out] at hf
          subst hf
          have H5 := Lib.hid (HB2.out.fresh 1 (by omega) hk5 hv5 hf5)
          clear hv5 hf5 hk5 HWd HB2
          go_wp2_with fail
          go_loopg [9] k (fun gk s9 wr => ∃ m : Nat, m ≤ k ∧ gk = k - m ∧ s9 = .int .i64 m ∧ ∃ rows, BsA (fun q => q = w.heap.size) w2 wr w.heap.size 0 l 0 3 (upd (upd (fun _ => .slice none 0 0) 0 (.slice p3 k c3)) 1 (.slice p5 k c5)) rows ∧ rows 1 = bump l m)
          case atStart => exact ⟨0, by omega, rfl, rfl, _, H5.out, by rw [upd_same, bump_zero]⟩
          case round =>
            obtain ⟨m, hm2, rfl, rfl, rows, hB, hrow⟩ := hrel
            clear H5
            by_cases hlt : m < k
            · have hli : (m : Int) < k := by omega
              obtain ⟨x, hx⟩ : ∃ x, l[m]? = some x := ⟨l[m]'(by have := HL.out; omega), List.getElem?_eq_getElem _⟩
              have hw0 := hB.own 1 (by omega)
              rw [upd_same, hrow] at hw0
              obtain ⟨g, cap, e1, -, -, c0⟩ := hw0.get (bump_get hx)
              obtain rfl := slice_po e1
              obtain ⟨a1, a2, a3⟩ := wr_set hw0 m (IntKind.u64.wrap (x + 1))
              rw [bump_set hx] at a1
              have hn := hB.put 1 (by omega) (by rw [upd_same]; exact a2) a1 (fun g hg => .inl (by rw [upd_same]; exact hg))
              obtain ⟨y, hy⟩ : ∃ y, IntKind.u64.wrap (x + 1) = y := ⟨_, rfl⟩
              rw [hy] at hn
              have HN := Lib.hid hn
              clear hB hw0 e1 a1 a2 hn hx hrow
              go_wp2_with fail
              go_roundg (k - (m + 1))
              case measure => omega
              case rel =>
                refine ⟨m + 1, by omega, rfl, by go_num, _, HN.out.congr (fun j _ => ?_) (fun j _ => rfl), by rw [upd_same]⟩
                by_cases e : j = 1
                · rw [e, upd_same, upd_same]
                · rw [upd_other _ _ e]
            · obtain rfl : m = k := by omega
              have hw1 := hB.own 1 (by omega)
              rw [upd_same, hrow] at hw1
              obtain ⟨g6, c6, w6, hr6, hk6⟩ := words_push3 hw1 (by rw [bump_len]; have := HL.out; omega) 5 6 7
              have hb6 : BsA (fun q => q = w.heap.size) w2 w6 w.heap.size 0 l 0 0 (fun _ => .slice none 0 0) (fun _ => []) := by
                obtain ⟨F, f1, f2, f3⟩ := hB.box
                refine ⟨⟨F, f1.kp hk6 (fun q hq e => f3 1 (by omega) q (by rw [upd_same]; exact e) hq), f2, fun k hk => absurd hk (Nat.not_lt_zero k)⟩, fun k hk => absurd hk (Nat.not_lt_zero k), fun k hk => absurd hk (Nat.not_lt_zero k), fun j k hk => absurd hk (Nat.not_lt_zero j), ?_⟩
                exact kp_new hB.kp hk6 (fun q e => .inr (hB.new 1 (by omega) q (by rw [upd_same]; exact e)))
              rw [bump_len, HL.out] at hr6
              have H6 := Lib.hid (And.intro hr6 hb6)
              clear hB hw1 hr6 hk6 hb6 hlt hm2 hrow
              go_wp2_with (at_builtin; refine wpList_run rfl _ _ 24 rfl (.slice p5 m c5) (.slice (some ⟨wr.heap.size, 0, none⟩) 3 3) rfl rfl _ w6 H6.out.1 ?_)
              refine (s_push H6.out.2 9 (by have := HL.out; omega)).mono ?_
              rintro e w7 ⟨rfl, h7⟩
              have H7 := Lib.hid h7
              clear h7
              go_wp2_with fail
              refine (s_words H7.out).mono ?_
              rintro e w8 ⟨v8, rfl, hv8, -, hk8⟩
              have h8 := H7.out.same hk8
              have hkw : Kp (fun _ => False) w w8 := kp_new HB.out.2.2 h8.kp (fun q e => .inr (Nat.le_of_eq e.symm))
              have HC := Lib.hid (copyWords_any (HI.out.1.same hkw).1 (by have := HL.out; omega))
              have H8 := Lib.hid (And.intro h8 hv8)
              clear h8 hv8 hk8 hkw
              go_wp2_with fail
              refine HC.out.mono ?_
              rintro e w9 ⟨v9, rfl, hv9, hf9, hk9⟩
              obtain ⟨g10, c10, w10, hr10, hv10, hk10, -, -⟩ := words_push hv9 (by have := HL.out; omega) 9
              obtain ⟨p9, c9, e9⟩ := hv9.form
              rw [HL.out] at e9 hr10 hv10
              have h9 := H8.out.1.same hk9
              have hv8 := (H8.out.2.same hk9).kp hk10 (fun g hg hg9 => by have := hf9 g hg9; have := H8.out.2.lt g hg; omega)
              have hk29 : Kp (fun q => q = w.heap.size) w2 w10 := kp_new h9.kp hk10 (fun q e => .inr (by have := hf9 q e; have := H8.out.1.kp.size; omega))
              have hbb : BxL w10 (w.heap.size + 1) (.slice none 0 0) [] 0 0 := by
                refine ⟨(hk29.block _ ?_ (fun e => ?_)).trans HB.out.1, Wr.nil _, Nat.le_refl _, by simp⟩
                · have := HB.out.2.1; omega
                · exact absurd e (by omega)
              have HS := Lib.hid (sameWords_any hv8.rd hv10.rd)
              have HE := Lib.hid (And.intro hr10 (And.intro hk29 hbb))
              subst e9
              clear hr10 hv10 hk10 hv9 hf9 hk9 h9 hv8 hk29 hbb HC
              go_wp2_with (at_builtin; refine wpList_run rfl _ _ 24 rfl (.slice p9 m c9) (.slice (some ⟨w9.heap.size, 0, none⟩) 1 1) rfl rfl _ w10 HE.out.1 ?_)
              refine HS.out.mono ?_
              rintro e w11 ⟨rfl, m11, hw11⟩
              have hk11 : Kp (fun _ => False) w10 w11 := by rw [hw11]; exact kp_drewN (Kp.refl _ w10) m11
              have HLn := Lib.hid (len_q (HE.out.2.2.same hk11))
              have HK := Lib.hid (kp_new HE.out.2.1 hk11 (fun q e => e.elim))
              clear hw11 hk11
              go_wp2_with fail
              refine HLn.out.mono ?_
              rintro e w12 ⟨rfl, m12, hw12⟩
              have hk12 : Kp (fun _ => False) w11 w12 := by rw [hw12]; exact kp_drewN (Kp.refl _ w11) m12
              have HK2 := Lib.hid (kp_new HK.out hk12 (fun q e => e.elim))
              have hwr : IntKind.i64.wrap ((m : Int) + 3) = ((m + 3 : Nat) : Int) := by rw [IntWalk.i64_in _ (by omega)]; omega
              clear hw12 hk12
              go_wp2_with fail
              refine (boxAwake_any _).mono ?_
              rintro e w13 ⟨rfl, hk13⟩
              have HK3 := Lib.hid (kp_new HB.out.2.2 (kp_new HK2.out hk13 (fun q e => e.elim)) (fun q e => .inr (Nat.le_of_eq e.symm)))
              clear hk13
              go_wp2_with fail
              go_ret
              exact ⟨rfl, HK3.out.below _ (Nat.le_refl _) (fun _ e => e.elim)⟩

set_option maxRecDepth 100000 in
theorem lifted (os : Os) (started : os.Started) (H : Type) (enc : TypeId × Value → H) :
    ReturnsInHanded {} Try.checked os 5 .any (Rows.boxOwnSpec.pre6 enc Try.prog Try.f5 Rows.boxOwnRow.domain false) (Rows.boxOwnSpec.post enc Try.prog Try.f5 false true false false) := by
  refine returnsInHanded_of_change_sized (C := Try.checked) own started (by kernel_rfl) Try.func5
    (ChangeSpec.witness6 (enc := enc) (C := Try.checked) false ⟨#[], #[.slice none 0 0], []⟩ 8 (by kernel_rfl) (by kernel_rfl) (by kernel_rfl) (by kernel_rfl)) ?_
  intro W base args ds gs before hval0 hW hcnd hsz0 _
  have hval : ∀ (j : Nat) t v, Try.f5.params[j]? = some t → args[j]? = some v → Value.okWide Try.prog W .any base t v := hval0
  have hW' := hW
  obtain ⟨p, q, hA0, hV, rfl, hfz, hnd⟩ := hW
  have hA : DataW.TrodAll enc Try.prog W 0 (fun _ => true) true Try.f5.params.toList args.toList ds p := hA0
  rw [Try.params5] at hA hval
  obtain ⟨v0, vs0, d0, ds0, p0, q0, hargs, rfl, rfl, h0, r0⟩ := trodAll_cons hA
  obtain ⟨rfl, rfl, rfl⟩ := trodAll_nil r0
  obtain rfl : args = #[v0] := by cases args; simp_all
  obtain ⟨rfl, rfl⟩ := trodVars_none hV
  have hsz : ∀ (j : Nat) t d, ((Try.f5.params.toList) : List TypeId)[j]? = some t → [d0][j]? = some d → ∀ n ∈ d.weights Try.prog t, n ≤ reachBytes := fun j t d ht hd n hn => of_decide_eq_true (List.all_eq_true.1 hsz0 n (DataW.weights_mem_each (j := j) (List.getElem?_append_left (List.getElem?_eq_some_iff.1 ht).1 ▸ ht) (List.getElem?_append_left (List.getElem?_eq_some_iff.1 hd).1 ▸ hd) n hn))
  clear hsz0
  obtain ⟨a0, len0, cap0, rfl⟩ := okWide_slice Try.underlying24 (hval 0 24 v0 rfl rfl)
  have k0 := h0
  have lt0 : ∀ x ∈ p0, x.block < W.heap.size := by obtain ⟨m, hm⟩ := k0; exact DataW.trod_lt m _ _ _ hm
  obtain ⟨z0, y0, w0⟩ : ∃ l : List Int, l.length = len0 ∧ WIn W (.slice a0 len0 cap0) l := by
    obtain ⟨fuel, hf⟩ := h0
    obtain ⟨po, l, cc, zs, hcs, hb, hle⟩ := opened_words Try.underlying24 Try.underlying27 (by kernel_rfl) (by kernel_rfl) (hsz 0 _ _ rfl rfl) hf
    injection hcs with e1 e2 e3
    subst e1 e2 e3
    exact ⟨zs, hb, hle⟩
  clear hA0 hval0
  refine (walk a0 len0 cap0 z0 W y0 w0).mono fun e W' ⟨he, bel⟩ => ?_
  subst he
  exact ⟨_, rfl, _, _, _, [], _, [], hW', trodAll_mk1 (shut_bool Try.underlying4 _), (trodAll_cons_mk (Below.trod laidOut (by kernel_rfl) (of_decide_eq_true (by kernel_rfl)) k0 bel lt0) trodAll_mk0), rfl, bel.frame _, fun h => by cases h⟩

theorem over : Rows.boxOwnRow.holds Try.pinned (OpenSpec.ofChange Rows.boxOwnSpec) :=
  OpenClaim.holds_of_wide 5 Try.f5 rfl rfl rfl rfl rfl rfl rfl ⟨rfl, rfl, rfl, rfl, rfl⟩ rfl rfl rfl rfl rfl (by kernel_rfl) Try.func5 (by kernel_rfl)
    (of_decide_eq_true (by kernel_rfl)) (by unfold Func.isWrapper; first | (rw [if_pos (by decide +kernel)]; kernel_rfl) | (rw [if_neg (by decide +kernel)]; exact ⟨rfl, rfl⟩))
    (fun os started H enc _ => lifted os started H enc)

theorem proved : Rows.BoxOwnSaid := over
#print axioms proved
end Go.Proofs.Ytgdmcinfgfejcaa.boxOwn
