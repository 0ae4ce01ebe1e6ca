/- Whoever takes the first message that he looks for takes them in the order in which they came, and all others stay in order: BoxOrder returns true, whatever the words and the sort. -/
import Derived.Test.YtgdmcinfgfejcaaRows
import Derived.Test.YtgdmcinfgfejcaaBxOrder
import Derived.WalkKit
import Derived.ProofKit
import Derived.OpenShut
import Derived.ShutString
import Derived.ChangeOld
import Derived.Below
import Derived.Deep.Strs
namespace Go.Proofs.Ytgdmcinfgfejcaa.boxOrder
open Go.ChangeShapes Go.WideShapes Go.ChangeAt Go.RowKit
open Go.ChangeMaps (open_string shut_string)
set_option linter.unusedVariables false

theorem own : ownKnob Try.prog.godebug = none := by kernel_rfl
theorem laidOut : laidOutB Try.prog = true := by kernel_rfl

set_option maxHeartbeats 8000000 in
set_option maxRecDepth 100000 in
theorem walk (a0 : Option Addr) (len0 cap0 : Nat) (l0 : List Int) (a1 : Int) (w : World) (hlen : l0.length = len0) (h0 : WIn w (.slice a0 len0 cap0) l0) (w1 : (Lit.int .i64 a1).wf = true) :
    Calls Try.prog 4 #[.slice a0 len0 cap0, .int .i64 a1] w fun e w' => e = .returned (.bool true) ∧ Below w.heap.size w w' := by
  obtain ⟨b1, b2⟩ := bounds_i64 w1
  clear w1
  have hcap : len0 ≤ cap0 ∧ cap0 ≤ 9223372036854775807 := by
    obtain ⟨po, cap, e, h1, h2, -⟩ := h0.1
    obtain ⟨e1, e2⟩ := slice_nc e
    unfold maxLen at h2
    exact ⟨by omega, by omega⟩
  obtain ⟨m, hm, hm1⟩ : ∃ m, m = min len0 300 ∧ m ≤ 300 := ⟨_, rfl, by omega⟩
  obtain ⟨l, hl, hl2⟩ : ∃ l, l0.take m = l ∧ l.length = m := ⟨_, rfl, by simp; omega⟩
  have hr : Rd w (.slice a0 m cap0) l := by
    obtain ⟨po, cap, e, h1, h2, h3⟩ := h0.1
    obtain ⟨e1, e2⟩ := slice_nc e
    refine ⟨a0, cap0, by rw [hl2], by omega, by rw [e2]; exact h2, fun i x hx => ?_⟩
    rw [slice_po e]
    have hi := (List.getElem?_eq_some_iff.1 hx).1
    rw [← hl, List.getElem?_take, if_pos (by omega)] at hx
    exact h3 i x hx
  have hb : ∀ x ∈ l, 0 ≤ x ∧ x ≤ 18446744073709551615 := fun x hx => h0.2.2 x (by rw [← hl] at hx; exact List.mem_of_mem_take hx)
  have HR := Lib.hid (And.intro hr (And.intro hl2 hb))
  clear hr hb hl2 hl h0 hlen
  obtain ⟨K, hK, hK2⟩ : ∃ K : Nat, a1 % 3 = K ∧ K < 3 := ⟨(a1 % 3).toNat, by omega, by omega⟩
  have HKP := Lib.hid hK
  clear hK
  have H0 := Lib.hid (Bs.new_box (w0 := w) (n := 3) (box_new w) ((Kp.refl _ w).alloc _) (Nat.le_refl _))
  obtain ⟨w1, hw1⟩ : ∃ w1, w.alloc (.cells #[.slice none 0 0, .int .i64 0, .int .i64 0] 26) = w1 := ⟨_, rfl⟩
  rw [hw1] at H0
  have HW := Lib.hid hw1
  clear hw1
  have hkc : IntKind.u64.wrap (K : Int) = K := u64_in _ (by omega) (by omega)
  by_cases hbig : (300 : Int) < len0
  all_goals first
    | (have hbc : (300 : Int) ≤ cap0 := by omega
       have hm3 : 300 = m := by omega
       have HL := Lib.hid hm3
       clear hm3 hm
       go_enter Try.func4, Try.ntmps4
       go_wp2_with fail
       rw [HL.out])
    | (have hbc : (m : Int) ≤ cap0 := by omega
       have hm3 : m = len0 := by omega
       clear hm
       subst hm3
       go_enter Try.func4, Try.ntmps4
       go_wp2_with fail)
  all_goals
    refine (place_any _ a1 3 b1 b2 (by omega) (by omega)).mono ?_
    rintro e w' ⟨rfl, rfl⟩
    rw [HKP.out, HW.out]
    go_wp2_with fail
    go_loopg [7, 8, 9, 10] m (fun gk s7 s8 s9 s10 wr => ∃ j : Nat, j ≤ m ∧ gk = m - j ∧ s9 = .int .i64 j ∧ Bs w wr w.heap.size 0 (ord l j) 0 3 (tri s7 s8 (.slice none 0 0)) (tri (yes K (ord l j)) (noo K (ord l j)) []))
    case atStart => exact ⟨0, by omega, rfl, rfl, H0.out.congr (fun k hk => by rcases k with _ | _ | k <;> rfl) (fun k hk => by rcases k with _ | _ | k <;> rfl)⟩
    case round =>
      obtain ⟨j, hj, rfl, rfl, hB⟩ := hrel
      by_cases hlt : j < m
      · have hli : (j : Int) < m := by omega
        have hin := HR.out.1.same hB.kp
        obtain ⟨po, cap, e1, -, -, hget⟩ := hin
        obtain ⟨x, hx⟩ : ∃ x, l[j]? = some x := ⟨l[j]'(by have := HR.out.2.1; omega), List.getElem?_eq_getElem _⟩
        obtain ⟨b0, off0, e2, c0⟩ := hget j x hx
        obtain rfl := (slice_po e1).trans e2
        have hxb := HR.out.2.2 x (List.mem_of_getElem? hx)
        have q1 : IntKind.u64.wrap (j : Int) = j := u64_in _ (by omega) (by omega)
        have q2 : IntKind.u64.wrap ((j : Int) * 3) = (j : Int) * 3 := u64_in _ (by omega) (by omega)
        obtain ⟨r, hr, hr2⟩ : ∃ r : Nat, x % 3 = r ∧ r < 3 := ⟨(x % 3).toNat, by omega, by omega⟩
        have q3 : x.tmod 3 = r := by rw [Int.tmod_eq_emod_of_nonneg (by omega)]; exact hr
        have q4 : IntKind.u64.wrap ((j : Int) * 3 + (r : Int)) = ((3 * j + r : Nat) : Int) := by rw [u64_in _ (by omega) (by omega)]; omega
        have q5 : ((3 * j + r : Nat) : Int).tmod 3 = r := by rw [Int.tmod_eq_emod_of_nonneg (by omega)]; omega
        have hs := s_push hB ((3 * j + r : Nat) : Int) (by rw [ord_len]; omega)
        have ho : ord l (j + 1) = ord l j ++ [((3 * j + r : Nat) : Int)] := by rw [ord_succ hx, hr]; simp
        have hy3 : ((3 * j + r : Nat) : Int) % 3 = r := by omega
        rw [← ho] at hs
        obtain ⟨y, hy⟩ : ∃ y : Int, ((3 * j + r : Nat) : Int) = y := ⟨_, rfl⟩
        rw [hy] at q4 q5 hs ho hy3
        have HS := Lib.hid hs
        have HO := Lib.hid (And.intro ho hy3)
        clear hB hx hget e1 e2 hxb hr hs ho hy hy3
        go_wp2_with fail
        refine HS.out.mono ?_
        rintro e w2 ⟨rfl, h2⟩
        by_cases hrk : r = K
        · clear HS
          obtain rfl : r = K := hrk
          have hp := h2.row_push 0 (by omega) (by have := noo_len r (ord l j); rw [ord_len] at this; show (yes r (ord l j)).length + 1 ≤ _; omega) y
          obtain ⟨g3, c3, w3, hr3, hb3⟩ := hp
          rw [(tri_upd _ _ _ _).1, (tri_upd _ _ _ _).1] at hb3
          change (Builtin.append_ #[24, 24] 24 #[u7, .slice (some ⟨w2.heap.size, 0, none⟩) 1 1]).run Try.prog (w2.alloc (.cells #[.int .u64 y] 27)) = .ok (.slice (some ⟨g3, 0, none⟩) ((yes r (ord l j)).length + 1) c3) w3 at hr3
          have H3 := Lib.hid (And.intro hr3 hb3)
          clear h2 hr3 hb3
          go_wp2_with (at_builtin; refine wpList_run rfl _ _ 24 rfl u7 (.slice (some ⟨w2.heap.size, 0, none⟩) 1 1) rfl rfl _ w3 H3.out.1 ?_)
          go_roundg (m - (j + 1))
          case measure => omega
          case rel =>
            refine ⟨j + 1, by omega, rfl, by go_num, ?_⟩
            have e1 := yes_in (k := r) (x := y) (l := ord l j) HO.out.2
            rw [HO.out.1, e1.1, e1.2, ← HO.out.1]
            exact H3.out.2
        · clear HS
          have hrd : ((r : Int) == (K : Int)) = false := by simp; omega
          have HNK := Lib.hid hrk
          have hp := h2.row_push 1 (by omega) (by have := noo_len K (ord l j); rw [ord_len] at this; show (noo K (ord l j)).length + 1 ≤ _; omega) y
          obtain ⟨g3, c3, w3, hr3, hb3⟩ := hp
          rw [(tri_upd _ _ _ _).2.1, (tri_upd _ _ _ _).2.1] at hb3
          change (Builtin.append_ #[24, 24] 24 #[u8, .slice (some ⟨w2.heap.size, 0, none⟩) 1 1]).run Try.prog (w2.alloc (.cells #[.int .u64 y] 27)) = .ok (.slice (some ⟨g3, 0, none⟩) ((noo K (ord l j)).length + 1) c3) w3 at hr3
          have H3 := Lib.hid (And.intro hr3 hb3)
          clear h2 hr3 hb3 hrk
          go_wp2_with (at_builtin; refine wpList_run rfl _ _ 24 rfl u8 (.slice (some ⟨w2.heap.size, 0, none⟩) 1 1) rfl rfl _ w3 H3.out.1 ?_)
          go_roundg (m - (j + 1))
          case measure => omega
          case rel =>
            refine ⟨j + 1, by omega, rfl, by go_num, ?_⟩
            have e1 := yes_out (k := K) (x := y) (l := ord l j) (fun e => HNK.out (by have := HO.out.2; omega))
            rw [HO.out.1, e1.1, e1.2, ← HO.out.1]
            exact H3.out.2
      · obtain rfl : j = m := by omega
        have hjl : (ord l j).length = j := ord_len l j
        have hst := stp_start K (ord l j)
        rw [hjl] at hst
        obtain ⟨Q, hQ, hQ2⟩ : ∃ Q : Nat, 2 * j * j = Q ∧ Q ≤ 180000 := ⟨_, rfl, q_bd (by omega)⟩
        have q1 : IntKind.i64.wrap (2 * (j : Int)) = 2 * (j : Int) := IntWalk.i64_in _ (by omega)
        have q2 : 2 * (j : Int) * (j : Int) = Q := by rw [← hQ]; simp
        have q3 : IntKind.i64.wrap (2 * (j : Int) * (j : Int)) = (Q : Int) := by rw [q2]; exact IntWalk.i64_in _ (by omega)
        rw [hQ] at hst
        have HQ := Lib.hid (And.intro hst hjl)
        have HB := Lib.hid hB
        clear hB hlt hj H0 HW hst hjl hQ
        go_wp2_with fail
        go_loopg [11, 12, 13, 14] (stp K j (ord l j) 0) (fun gk s11 s12 s13 s14 wr => ∃ (n p gone : Nat) (got ms : List Int), s12 = .int .i64 n ∧ gk = stp K j ms p ∧ n + stp K j ms p ≤ Q + 5 ∧ Lk K (ord l j) got ms p ∧ (∀ y ∈ ms, 0 ≤ y ∧ y ≤ 3 * (j : Int) + 3) ∧
          Bs w wr w.heap.size gone ms p 3 (tri u7 u8 s11) (tri (yes K (ord l j)) (noo K (ord l j)) got))
        case atStart => exact ⟨0, 0, 0, [], ord l j, rfl, rfl, by have := HQ.out.1; omega, lk_start _ _, fun y hy => ord_mem hy, HB.out⟩
        case round =>
          obtain ⟨n, p, gone, got, ms, rfl, rfl, hn, hk, hms, hB⟩ := hrel
          clear HB
          have hn1 : (n : Int) ≤ (Q : Int) + 5 := by omega
          have hn2 : (n : Int) ≤ 180010 := by omega
          have q4 : IntKind.i64.wrap ((Q : Int) + 5) = (Q : Int) + 5 := IntWalk.i64_in _ (by omega)
          have HN := Lib.hid hn
          have HK := Lib.hid (And.intro hk hms)
          clear hn
          by_cases hp : p < ms.length
          · obtain ⟨x, hx⟩ : ∃ x, ms[p]? = some x := ⟨ms[p], List.getElem?_eq_getElem _⟩
            have hxb := hms x (List.mem_of_getElem? hx)
            obtain ⟨r, hr, hr2⟩ : ∃ r : Nat, x % 3 = r ∧ r < 3 := ⟨(x % 3).toNat, by omega, by omega⟩
            have q3 : x.tmod 3 = r := by rw [Int.tmod_eq_emod_of_nonneg (by omega)]; exact hr
            have HP := Lib.hid (s_peek_some hB hx)
            have HX := Lib.hid (And.intro hx hr)
            clear hB hx hr hk hms
            go_wp2_with fail
            refine HP.out.mono ?_
            rintro e w2 ⟨rfl, h2⟩
            clear HP
            by_cases hrk : r = K
            · obtain rfl : r = K := hrk
              have HT := Lib.hid (s_take_some h2 HX.out.1)
              clear h2
              go_wp2_with fail
              refine HT.out.mono ?_
              rintro e w3 ⟨rfl, g3, h3⟩
              obtain ⟨hl1, hl2⟩ := HK.out.1.take HX.out.1 HX.out.2
              have hgl : got.length + 1 ≤ 17592186044416 := by
                have e1 := congrArg List.length HK.out.1.1
                have e2 := (noo_len (r : Int) (ord l j)).2
                rw [List.length_append] at e1
                rw [ord_len] at e2
                omega
              have hp4 := h3.row_push 2 (by omega) hgl x
              obtain ⟨g4, c4, w4, hr4, hb4⟩ := hp4
              change (Builtin.append_ #[24, 24] 24 #[u11, .slice (some ⟨w3.heap.size, 0, none⟩) 1 1]).run Try.prog (w3.alloc (.cells #[.int .u64 x] 27)) = .ok (.slice (some ⟨g4, 0, none⟩) (got.length + 1) c4) w4 at hr4
              have hb5 := hb4.congr (fun k hk => (tri_upd u7 u8 u11 (.slice (some ⟨g4, 0, none⟩) (got.length + 1) c4)).2.2 k hk) (fun k hk => (tri_upd (yes r (ord l j)) (noo r (ord l j)) got (got ++ [x])).2.2 k hk)
              have hst := stp_take HK.out.1 HX.out.1 HX.out.2
              rw [ord_len] at hst
              have H4 := Lib.hid (And.intro hr4 (And.intro hb5 (And.intro hl1 hst)))
              clear hr4 hb4 hb5 hl1 hl2 h3 HT hst hgl
              go_wp2_with (at_builtin; refine wpList_run rfl _ _ 24 rfl u11 (.slice (some ⟨w3.heap.size, 0, none⟩) 1 1) rfl rfl _ w4 H4.out.1 ?_)
              go_roundg (stp r j (ms.eraseIdx p) 0)
              case measure => have := H4.out.2.2.2; omega
              case rel =>
                exact ⟨n + 1, 0, g3, got ++ [x], ms.eraseIdx p, by go_num, rfl, by have := H4.out.2.2.2; have := HN.out; omega, H4.out.2.2.1, fun y hy => HK.out.2 y (List.mem_of_mem_eraseIdx hy), H4.out.2.1⟩
            · have hrd : ((r : Int) == (K : Int)) = false := by simp; omega
              have HNX := Lib.hid (s_next h2 (p + 1) (by rw [if_pos hp]))
              have HR2 := Lib.hid hrk
              clear h2 hrk
              go_wp2_with fail
              refine HNX.out.mono ?_
              rintro e w3 ⟨rfl, h3⟩
              have H3 := Lib.hid h3
              clear h3 HNX
              go_wp2_with fail
              go_roundg (stp K j ms (p + 1))
              case measure => have := stp_next (k := K) j hp; omega
              case rel =>
                exact ⟨n + 1, p + 1, gone, got, ms, by go_num, rfl, by have := stp_next (k := K) j hp; have := HN.out; omega, HK.out.1.next HX.out.1 (fun e => HR2.out (by have := HX.out.2; omega)), HK.out.2, H3.out⟩
          · have HP := Lib.hid (s_peek_none hB (by omega))
            obtain ⟨rfl, e2, e3⟩ := hk.last (by omega)
            have HE := Lib.hid (And.intro e2 e3)
            clear hB hk hms e2 e3 HK hp
            go_wp2_with fail
            refine HP.out.mono ?_
            rintro e w2 ⟨rfl, h2⟩
            have H2 := Lib.hid h2
            have HS := Lib.hid (sameWords_any (h2.own 2 (by omega)).rd (h2.own 0 (by omega)).rd)
            clear h2 HP
            go_wp2_with fail
            refine HS.out.mono ?_
            rintro e w3 ⟨rfl, m3, hw3⟩
            have h3 : Bs w w3 w.heap.size gone ms p 3 (tri u7 u8 u11) (tri (yes K (ord l j)) (noo K (ord l j)) (yes K (ord l j))) := by rw [hw3]; exact H2.out.drewN m3
            have HWd := Lib.hid (s_words h3)
            have H3 := Lib.hid h3
            clear hw3 h3 HS
            go_wp2_with fail
            refine HWd.out.mono ?_
            rintro e w4 ⟨v4, rfl, hv4, -, hk4⟩
            have h4 := H3.out.same hk4
            have hv5 := hv4.rd
            rw [HE.out.1] at hv5
            have HS2 := Lib.hid (sameWords_any hv5 (h4.own 1 (by omega)).rd)
            have H4 := Lib.hid h4
            clear hv4 hk4 h4 hv5 HWd
            go_wp2_with fail
            refine HS2.out.mono ?_
            rintro e w5 ⟨rfl, m5, hw5⟩
            have h5 : Bs w w5 w.heap.size gone ms p 3 (tri u7 u8 u11) (tri (yes K (ord l j)) (noo K (ord l j)) (yes K (ord l j))) := by rw [hw5]; exact H4.out.drewN m5
            have HA := Lib.hid (s_at h5)
            obtain ⟨p8, c8, e8⟩ := (h5.own 1 (by omega)).form
            change u8 = .slice p8 (noo K (ord l j)).length c8 at e8
            rw [← HE.out.2] at e8
            subst e8
            clear hw5 h5 HS2
            go_wp2_with fail
            refine HA.out.mono ?_
            rintro e w6 ⟨rfl, h6⟩
            have H6 := Lib.hid h6
            clear h6 HA
            go_wp2_with fail
            refine (boxAwake_any _).mono ?_
            rintro e w7 ⟨rfl, hk7⟩
            have H7 := Lib.hid (H6.out.same hk7)
            clear hk7
            go_wp2_with fail
            go_ret
            exact ⟨rfl, Bs.below H7.out⟩

set_option maxRecDepth 100000 in
theorem lifted (os : Os) (started : os.Started) (H : Type) (enc : TypeId × Value → H) :
    ReturnsInHanded {} Try.checked os 4 .any (Rows.boxOrderSpec.pre6 enc Try.prog Try.f4 Rows.boxOrderRow.domain false) (Rows.boxOrderSpec.post enc Try.prog Try.f4 false true false false) := by
  refine returnsInHanded_of_change_sized (C := Try.checked) own started (by kernel_rfl) Try.func4
    (ChangeSpec.witness6 (enc := enc) (C := Try.checked) false ⟨#[], #[.slice none 0 0, .int .i64 0], []⟩ 8 (by kernel_rfl) (by kernel_rfl) (by kernel_rfl) (by kernel_rfl)) ?_
  intro W base args ds gs before hval0 hW hcnd hsz0 _
  have hval : ∀ (j : Nat) t v, Try.f4.params[j]? = some t → args[j]? = some v → Value.okWide Try.prog W .any base t v := hval0
  have hW' := hW
  obtain ⟨p, q, hA0, hV, rfl, hfz, hnd⟩ := hW
  have hA : DataW.TrodAll enc Try.prog W 0 (fun _ => true) true Try.f4.params.toList args.toList ds p := hA0
  rw [Try.params4] at hA hval
  obtain ⟨v0, vs0, d0, ds0, p0, q0, hargs, rfl, rfl, h0, r0⟩ := trodAll_cons hA
  obtain ⟨v1, vs1, d1, ds1, p1, q1, rfl, rfl, rfl, h1, r1⟩ := trodAll_cons r0
  obtain ⟨rfl, rfl, rfl⟩ := trodAll_nil r1
  obtain rfl : args = #[v0, v1] := by cases args; simp_all
  obtain ⟨rfl, rfl⟩ := trodVars_none hV
  have hsz : ∀ (j : Nat) t d, ((Try.f4.params.toList) : List TypeId)[j]? = some t → [d0, d1][j]? = some d → ∀ n ∈ d.weights Try.prog t, n ≤ reachBytes := fun j t d ht hd n hn => of_decide_eq_true (List.all_eq_true.1 hsz0 n (DataW.weights_mem_each (j := j) (List.getElem?_append_left (List.getElem?_eq_some_iff.1 ht).1 ▸ ht) (List.getElem?_append_left (List.getElem?_eq_some_iff.1 hd).1 ▸ hd) n hn))
  clear hsz0
  obtain ⟨a0, len0, cap0, rfl⟩ := okWide_slice Try.underlying24 (hval 0 24 v0 rfl rfl)
  have k0 := h0
  have lt0 : ∀ x ∈ p0, x.block < W.heap.size := by obtain ⟨m, hm⟩ := k0; exact DataW.trod_lt m _ _ _ hm
  obtain ⟨z0, y0, w0⟩ : ∃ l : List Int, l.length = len0 ∧ WIn W (.slice a0 len0 cap0) l := by
    obtain ⟨fuel, hf⟩ := h0
    obtain ⟨po, l, cc, zs, hcs, hb, hle⟩ := opened_words Try.underlying24 Try.underlying27 (by kernel_rfl) (by kernel_rfl) (hsz 0 _ _ rfl rfl) hf
    injection hcs with e1 e2 e3
    subst e1 e2 e3
    exact ⟨zs, hb, hle⟩
  obtain ⟨a1, rfl, rfl, rfl, w1⟩ := open_int Try.underlying3 (hval 1 3 v1 rfl rfl) h1
  clear hA0 hval0
  simp only [List.append_nil] at hW'
  refine (walk a0 len0 cap0 z0 a1 W y0 w0 w1).mono fun e W' ⟨he, bel⟩ => ?_
  subst he
  exact ⟨_, rfl, _, _, _, [], _, [], hW', trodAll_mk1 (shut_bool Try.underlying4 _), (trodAll_cons_mk (Below.trod laidOut (by kernel_rfl) (of_decide_eq_true (by kernel_rfl)) k0 bel lt0) (trodAll_cons_mk (shut_int Try.underlying3 w1) trodAll_mk0)), rfl, bel.frame _, fun h => by cases h⟩

theorem over : Rows.boxOrderRow.holds Try.pinned (OpenSpec.ofChange Rows.boxOrderSpec) :=
  OpenClaim.holds_of_wide 4 Try.f4 rfl rfl rfl rfl rfl rfl rfl ⟨rfl, rfl, rfl, rfl, rfl⟩ rfl rfl rfl rfl rfl (by kernel_rfl) Try.func4 (by kernel_rfl)
    (of_decide_eq_true (by kernel_rfl)) (by unfold Func.isWrapper; first | (rw [if_pos (by decide +kernel)]; kernel_rfl) | (rw [if_neg (by decide +kernel)]; exact ⟨rfl, rfl⟩))
    (fun os started H enc _ => lifted os started H enc)

theorem proved : Rows.BoxOrderSaid := over
#print axioms proved
end Go.Proofs.Ytgdmcinfgfejcaa.boxOrder
