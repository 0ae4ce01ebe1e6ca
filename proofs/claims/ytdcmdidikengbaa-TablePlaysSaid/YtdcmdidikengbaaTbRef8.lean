/- The document's own table: Register, well. -/
import Derived.Test.YtdcmdidikengbaaTbRef7
namespace Go.Proofs.Ytdcmdidikengbaa
open Go.RowKit
set_option linter.unusedVariables false

section
variable {F : Nat → Prop} {w w' : World} {b g1 g2 size B : Nat} {v : Value} {sl : List Sg} {ns : List Nm} {s : ByteArray}
theorem befo_bool (x y : Nm) : Op.bytesLess y.txt.toList x.txt.toList = befo x y := by
  rw [ByteArray.toList_eq, ByteArray.toList_eq, bytesLess_eq]
  rfl
/-- the place of a name -/
def placeOf (ns : List Nm) (x : Nm) : Nat := ns.findIdx (fun y => !befo x y)
theorem placeOf_le (ns : List Nm) (x : Nm) : placeOf ns x ≤ ns.length := List.findIdx_le_length
theorem placeOf_before {ns : List Nm} {x y : Nm} {j : Nat} (hj : j < placeOf ns x) (hy : ns[j]? = some y) : befo x y = true := by
  obtain ⟨hlt, e⟩ := List.getElem?_eq_some_iff.1 hy
  have := List.not_of_lt_findIdx (p := fun y => !befo x y) (xs := ns) hj
  subst e
  simpa using this
theorem placeOf_at {ns : List Nm} {x y : Nm} (hy : ns[placeOf ns x]? = some y) : befo x y = false := by
  obtain ⟨hlt, e⟩ := List.getElem?_eq_some_iff.1 hy
  have : (!befo x ns[placeOf ns x]) = true := List.findIdx_getElem (p := fun y => !befo x y) (xs := ns) (w := hlt)
  rw [← e]
  simpa using this
set_option maxRecDepth 100000 in
set_option maxHeartbeats 8000000 in
theorem xtreg_ok (h : RT w b g1 g2 v size sl ns) (hok : SlOk B sl) (hB : B ≤ 2305843009213693952) (hfit : sl.length ≤ size) (hs64 : size ≤ 64) (ho : ns.Pairwise NmLt) (hl : ns.length ≤ 64) (s : ByteArray) (p : Nat) (hp2 : (p : Int) ≤ 9223372036854775807) (hk : nameKind sl ns s (p : Nat) = 0) :
    Calls Try.prog 31 #[.pointer (some ⟨b, 0, none⟩), .string s, .int .i64 (p : Nat)] w (fun e w' => e = .returned (.pointer none) ∧ XNmTo b g1 g2 size v sl (putNm ns ⟨s, p⟩) w w') := by
  obtain ⟨k1, k2, k3, k4, k5⟩ := nameKind_ok hk
  have HK := xkind_any h hok hB hfit hs64 (p : Nat) hp2
  rw [k3] at HK
  have HW2 : Hid (Calls Try.prog 33 #[.pointer (some ⟨b, 0, none⟩), .string s] w (fun e w' => ∃ x, e = .returned (.tuple #[.int .i64 (-1), .pointer (some ⟨x, 0, none⟩)]) ∧ Kp (fun _ => False) w w')) := by
    refine Lib.hid ((xtwhere_any h ho hl s (by unfold maxLen; omega)).mono ?_)
    rintro e w' (⟨q', hq', -⟩ | ⟨hno, x, -, rfl, hkx⟩)
    · rw [k4] at hq'; cases hq'
    · exact ⟨x, rfl, hkx⟩
  have hne : ¬ s.toList = [] := by
    intro e
    rw [toList_nil_iff_emptyBytes] at e
    rw [e] at k1
    exact absurd k1 (by decide)
  have hne2 : s.toList.isEmpty = false := by rw [Bool.eq_false_iff]; exact fun e => hne (List.isEmpty_iff.1 e)
  have h1i : ¬ (255 : Int) < s.size := by omega
  obtain ⟨po, cap, rfl, hcap, hcap2⟩ := ownsS_form h.nms
  obtain ⟨n, hn⟩ : ∃ n, ns.length = n := ⟨_, rfl⟩
  obtain ⟨V, hV⟩ : ∃ V, Value.slice po ns.length cap = V := ⟨_, rfl⟩
  rw [hV] at h
  have HV := Lib.hid hV
  have HT := Lib.hid h
  have HN := Lib.hid (And.intro hn (And.intro hl k4))
  rw [hn] at hcap
  have hn64 : ¬ (64 : Int) ≤ n := by omega
  have hn63 : n ≤ 63 := by omega
  rw [hV]
  clear h hn hk k1 k2 k3 k4 k5 ho hok hl hV
  go_enter Try.func31, Try.ntmps31
  go_wp2_with (go_at_call 49; refine HK.mono ?_; rintro e w' ⟨rfl, rfl⟩)
  refine HW2.out.mono ?_
  rintro e w2 ⟨xe, rfl, hkx⟩
  have hT2 := HT.out.same hkx
  obtain ⟨-, -, -, c3, cf⟩ := hT2.facts
  rw [← HV.out, HN.out.1] at c3
  have HKX := Lib.hid hkx
  have HT2 := Lib.hid hT2
  clear hkx hT2 HW2
  go_wp2_with fail
  obtain ⟨K, hK⟩ : ∃ K, placeOf ns ⟨s, p⟩ = K := ⟨_, rfl⟩
  have hKn : K ≤ n := by rw [← hK, ← HN.out.1]; exact placeOf_le _ _
  have HPL := Lib.hid hK
  clear hK
  go_loopg [10] (K + 1) (fun gk s10 wr => ∃ i : Nat, i ≤ K ∧ gk = K + 1 - i ∧ s10 = .int .i64 (i : Nat) ∧ w2 = wr)
  case atStart => exact ⟨0, by omega, rfl, rfl, rfl⟩
  case round =>
    obtain ⟨i, hi, rfl, rfl, rfl⟩ := hrel
    by_cases hlt : i < K
    · have hli : (i : Int) < n := by omega
      obtain ⟨x, hx⟩ : ∃ x, ns[i]? = some x := ⟨_, List.getElem?_eq_getElem (by rw [HN.out.1]; omega)⟩
      have hbx : befo ⟨s, p⟩ x = true := placeOf_before (by rw [HPL.out]; exact hlt) hx
      rw [← befo_bool] at hbx
      obtain ⟨g, cp, e1, -, -, d0, d1⟩ := HT2.out.ncell hx
      rw [← HV.out] at e1
      obtain ⟨rfl, rfl⟩ : po = some ⟨g, 0, none⟩ ∧ cap = cp := by
        injection e1 with e1 _ e2
        exact ⟨e1, e2⟩
      obtain ⟨T, hT⟩ : ∃ T, x.txt = T := ⟨_, rfl⟩
      rw [hT] at d0 hbx
      have hbx2 : Op.bytesLess T.toList s.toList = true := hbx
      clear hx e1 hT hbx
      go_wp2_with fail
      go_roundg (K + 1 - (i + 1))
      case measure => omega
      case rel => exact ⟨i + 1, by omega, rfl, by go_num, rfl⟩
    · obtain rfl : K = i := by omega
      have hend : ¬ (K : Int) < n ∨ ((K : Int) < n ∧ ∃ (g : Nat) (T : ByteArray), po = some ⟨g, 0, none⟩ ∧ w2.cell? ⟨g, K * 2, none⟩ = some (.string T) ∧ Op.bytesLess T.toList s.toList = false) := by
        by_cases h : K < n
        · right
          obtain ⟨x, hx⟩ : ∃ x, ns[K]? = some x := ⟨_, List.getElem?_eq_getElem (by rw [HN.out.1]; exact h)⟩
          have hbx : befo ⟨s, p⟩ x = false := placeOf_at (by rw [HPL.out]; exact hx)
          rw [← befo_bool] at hbx
          obtain ⟨g, cp, e1, -, -, d0, d1⟩ := HT2.out.ncell hx
          rw [← HV.out] at e1
          exact ⟨by omega, g, x.txt, by injection e1, d0, hbx⟩
        · left; omega
      -- the appends
      obtain ⟨w3, hw3⟩ : ∃ w3, w2.drew.alloc (.cells #[.string s, .int .i64 (p : Nat)] 103) = w3 := ⟨_, rfl⟩
      have hput : putNm ns ⟨s, p⟩ = ns.take K ++ (⟨s, p⟩ : Nm) :: ns.drop K := by
        have h1 := HPL.out
        exact put_at (by rw [HN.out.1]; exact hKn) (fun j y hj hy => placeOf_before (by rw [h1]; exact hj) hy) (fun y hy => placeOf_at (by rw [h1]; exact hy))
      have hform : (V = .slice none 0 0 ∧ po = none ∧ n = 0 ∧ cap = 0) ∨ ∃ g, V = .slice (some ⟨g, 0, none⟩) n cap ∧ po = some ⟨g, 0, none⟩ := by
        have hv := HV.out
        rw [HN.out.1] at hv
        rcases HT2.out.nms.2 with ⟨e, e0⟩ | ⟨g, cap', cur, e, _⟩
        · left
          rw [e] at hv
          injection hv with e1 e2 e3
          exact ⟨e, e1, e2, e3⟩
        · right
          rw [e] at hv
          injection hv with e1 e2 e3
          exact ⟨g, by rw [e, ← e2, ← e3], e1⟩
      have hK1 : (K : Int) ≤ n := by omega
      have hKc : K ≤ cap := by omega
      have hbl : b < w2.heap.size := (Array.getElem?_eq_some_iff.1 HT2.out.main).1
      have hfinal : ∀ {lv rv : Value}, ((V = .slice none 0 0 ∧ lv = .slice none 0 0 ∧ rv = .slice none 0 0) ∨ ∃ g cap, V = .slice (some ⟨g, 0, none⟩) ns.length cap ∧ ns.length ≤ cap ∧ lv = .slice (some ⟨g, 0, none⟩) K K ∧ rv = .slice (if cap = K then some ⟨g, 0, none⟩ else some ⟨g, K * 2, none⟩) (ns.length - K) (cap - K)) →
          ∃ tv w4, Hid ((Builtin.append_ #[97, 97] 97 #[.slice (some ⟨w2.heap.size, 0, none⟩) 1 1, rv]).run Try.prog w3 = .ok tv w4) ∧
            ∃ po5 n5 c5 w5, Hid ((Builtin.append_ #[97, 97] 97 #[lv, tv]).run Try.prog w4 = .ok (.slice po5 n5 c5) w5) ∧ w3.cell? ⟨b, 3, none⟩ = some V ∧ w4.cell? ⟨b, 3, none⟩ = some V ∧ w5.cell? ⟨b, 3, none⟩ = some V ∧ (∀ j, w5.frozen? ⟨b, j, none⟩ = false) ∧
              Hid (∀ m, XNmTo b g1 g2 size V sl (putNm ns ⟨s, p⟩) w ((w5.setCell ⟨b, 3, none⟩ (.slice po5 n5 c5)).drewN m)) := by
        intro lv rv hlr
        obtain ⟨tv, w4, hr4, v', w5, hr5, ho5, hk4, hk5, hat⟩ := reg_appends HT2.out (k := K) (by rw [HN.out.1]; exact hKn) HN.out.2.1 ⟨s, p⟩ hw3 lv rv hput hlr
        obtain ⟨po5, c5, rfl, -, -⟩ := ownsS_form ho5
        have hX := HT2.out.named hk5 ho5 hat
        have hk3 : Kp (fun _ => False) w2 w3 := by rw [← hw3]; exact (Kp.refl _ w2).drew.alloc _
        have hn4 := HT2.out.ne.2.2.2
        have hb5 := (hk5.block b hbl (fun e => (hn4 b e).1 rfl)).trans HT2.out.main
        refine ⟨tv, w4, Lib.hid hr4, po5, _, c5, w5, Lib.hid hr5, (HT2.out.same hk3).facts.2.2.2.1, (HT2.out.same hk4).facts.2.2.2.1, by rw [cell_of_row w5 b 3 _ _ _ hb5]; rfl, fun j => by simp [World.frozen?, hb5], Lib.hid (fun m => ⟨_, hX.1.same (kp_drewN (Kp.refl _ _) m), kp_drewN ((HKX.out.mono fun _ _ e => e.elim).trans' hX.2) m, fun g hg => (hat g hg).imp id (fun e => Nat.le_trans HKX.out.size e)⟩)⟩
      have HF := Lib.hid (fun lv rv => @hfinal lv rv)
      have HN1 := Lib.hid HN.out.1
      clear hfinal hput
      rcases hform with ⟨hV, rfl, rfl, rfl⟩ | ⟨g, hV, rfl⟩
      · obtain ⟨tv, w4, hr4, po5, n5, c5, w5, hr5, e3, e4, e5, ef, HX⟩ := HF.out (.slice none 0 0) (.slice none 0 0) (.inl ⟨hV, rfl, rfl⟩)
        have hK0 : K = 0 := by omega
        rw [hV] at e3 e4 e5
        have HVV := Lib.hid hV
        have hend2 : ¬ (K : Int) < 0 := by omega
        subst hK0
        clear hV hend hlt hi hend2
        rw [show (((0 : Nat) : Int)) = 0 from rfl]
        go_wp2_with fail
        go_region_law (first | (refine step_run (by rfl) (.tmp 86) (.tmp 92) 97 (by rfl) (.slice (some ⟨w2.heap.size, 0, none⟩) 1 1) (.slice none 0 0) (by first | (simp [Act.eval]; done) | simp [Act.eval, Act.put]) (by first | (simp [Act.eval]; done) | simp [Act.eval, Act.put]) _ _ hr4.out ?_) | (refine step_run (by rfl) (.tmp 82) (.tmp 93) 97 (by rfl) (.slice none 0 0) tv (by first | (simp [Act.eval]; done) | simp [Act.eval, Act.put]) (by first | (simp [Act.eval]; done) | simp [Act.eval, Act.put]) _ _ hr5.out ?_))
        all_goals go_wp2_with fail
        all_goals go_ret
        all_goals exact ⟨rfl, HX.out 0⟩
      · obtain ⟨tv, w4, hr4, po5, n5, c5, w5, hr5, e3, e4, e5, ef, HX⟩ := HF.out (.slice (some ⟨g, 0, none⟩) K K) (.slice (if cap = K then some ⟨g, 0, none⟩ else some ⟨g, K * 2, none⟩) (n - K) (cap - K)) (.inr ⟨g, cap, by rw [HN1.out]; exact hV, by rw [HN1.out]; exact hcap, rfl, by rw [HN1.out]⟩)
        rw [hV] at e3 e4 e5
        have HVV := Lib.hid hV
        clear hV
        have hend2 : ¬ (K : Int) < n ∨ ((K : Int) < n ∧ ∃ (T : ByteArray), w2.cell? ⟨g, K * 2, none⟩ = some (.string T) ∧ Op.bytesLess T.toList s.toList = false) := by
          rcases hend with hend | ⟨hend, g', T, hpo, d0, hbx⟩
          · exact .inl hend
          · have e : g = g' := by injection hpo with hpo; injection hpo
            subst e
            exact .inr ⟨hend, T, d0, hbx⟩
        clear hend
        rcases hend2 with hend | ⟨hend, T, d0, hbx⟩
        all_goals
          clear hlt hi
          go_wp2_with fail
          go_region_law (first | (refine step_run (by rfl) (.tmp 86) (.tmp 92) 97 (by rfl) (.slice (some ⟨w2.heap.size, 0, none⟩) 1 1) (.slice (if cap = K then some ⟨g, 0, none⟩ else some ⟨g, K * 2, none⟩) (n - K) (cap - K)) (by first | (simp [Act.eval]; done) | simp [Act.eval, Act.put]) (by first | (simp [Act.eval]; done) | simp [Act.eval, Act.put]) _ _ hr4.out ?_) | (refine step_run (by rfl) (.tmp 82) (.tmp 93) 97 (by rfl) (.slice (some ⟨g, 0, none⟩) K K) tv (by first | (simp [Act.eval]; done) | simp [Act.eval, Act.put]) (by first | (simp [Act.eval]; done) | simp [Act.eval, Act.put]) _ _ hr5.out ?_))
          all_goals go_wp2_with fail
          all_goals go_ret
          all_goals exact ⟨rfl, HX.out 0⟩
end
end Go.Proofs.Ytdcmdidikengbaa
