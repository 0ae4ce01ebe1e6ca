/- A net's way End. -/
import Derived.Test.YtmfhmnlgffgcgaaLkEnd1
import Derived.LoopN
namespace Go.Proofs.Ytmfhmnlgffgcgaa
open Go.RowKit Go.Maps
set_option linter.unusedVariables false

section
variable {w w' w'' : World} {b next : Nat} {col col' : Nat → Nat} {h h' : Nat → Value} {ls L : List (Int × Int)} {ms M : List Mo} {a x r : Int} {v : Value} {l : List Int}
/-- a row of the caller's, that a net's ways do not turn -/
def Mine (w : World) (col : Nat → Nat) (v : Value) (l : List Int) : Prop := Lw w v l ∧ ∀ g, v.ownBlock = some g → col g = 0
theorem Mine.step (H : Mine w col v l) (hs : NxStep w col w' col') : Mine w' col' v l :=
  ⟨H.1.kp hs.2 (fun g hg e => e (H.2 g hg)), fun g hg => (hs.1 g (H.1.lt g hg)).trans (H.2 g hg)⟩
theorem Mine.same (H : Mine w col v l) (hk : Kp (fun _ => False) w w') : Mine w' col v l := ⟨H.1.same hk, H.2⟩
/-- where End stands -/
def EndI (w0 : World) (col0 : Nat → Nat) (b : Nat) (vl vr : Value) (nl ol : List Int) (L : List (Int × Int)) (M : List Mo) (next : Nat) (w : World) (col : Nat → Nat) : Prop :=
  (∃ h, Net w b col h L M next) ∧ Mine w col vl nl ∧ Mine w col vr ol ∧ NxStep w0 col0 w col
theorem EndI.same {w0 : World} {col0 : Nat → Nat} {vl vr : Value} {nl ol : List Int} (H : EndI w0 col0 b vl vr nl ol L M next w col) (hk : Kp (fun _ => False) w w') : EndI w0 col0 b vl vr nl ol L M next w' col := by
  obtain ⟨⟨h, h1⟩, h2, h3, h4⟩ := H
  exact ⟨⟨h, h1.same hk⟩, h2.same hk, h3.same hk, h4.trans (NxStep.quiet col hk)⟩
theorem EndI.cut {w0 : World} {col0 : Nat → Nat} {vl vr v : Value} {nl ol : List Int} {e : Ending} {L' : List (Int × Int)} {M' : List Mo} (H : EndI w0 col0 b vl vr nl ol L M next w col) (ht : NetTo w b col L' M' next v e w') : ∃ col', EndI w0 col0 b vl vr nl ol L' M' next w' col' ∧ NxStep w col w' col' := by
  obtain ⟨⟨h, h1⟩, h2, h3, h4⟩ := H
  obtain ⟨-, col', h', h5, h6⟩ := ht
  exact ⟨col', ⟨⟨h', h5⟩, h2.step h6, h3.step h6, h4.trans h6⟩, h6⟩
/-- what End leaves -/
def EndTo (w0 : World) (col0 : Nat → Nat) (b : Nat) (nl ol : List Int) (L : List (Int × Int)) (M : List Mo) (next : Nat) (e : Ending) (w : World) : Prop :=
  ∃ vl vr col, e = .returned (.tuple #[vl, vr]) ∧ EndI w0 col0 b vl vr nl ol L M next w col ∧ (∀ g, vl.ownBlock = some g → w0.heap.size ≤ g) ∧ ∀ g, vr.ownBlock = some g → w0.heap.size ≤ g
set_option maxRecDepth 100000 in
set_option maxHeartbeats 8000000 in
theorem net_end (H : Net w b col h ls ms next) (ha : I64 a) : Calls Try.prog 15 #[.pointer (some ⟨b, 0, none⟩), .int .i64 a] w (EndTo w col b (nbs ls a) (obs ms a) (endLs ls a) (endMs ms a) next) := by
  have HL := Lib.hid (net_linked H ha)
  have HQ := Lib.hid (And.intro H ha)
  clear H ha
  go_enter Try.func15, Try.ntmps15
  go_wp2_with fail
  refine HL.out.mono ?_
  rintro e w1 ⟨vl, rfl, l1, l2, l3⟩
  have HW := Lib.hid (net_watchers (HQ.out.1.same l3) HQ.out.2)
  have H1 := Lib.hid (And.intro l1 (And.intro l2 l3))
  clear l1 l2 l3
  go_wp2_with fail
  refine HW.out.mono ?_
  rintro e w2 ⟨vr, rfl, r1, r2, r3⟩
  have HI : Hid (EndI w col b vl vr (nbs ls a) (obs ms a) (eLs ls a 0 0) (eMs ms a 0 0) next w2 col ∧ (∀ g, vl.ownBlock = some g → w.heap.size ≤ g) ∧ ∀ g, vr.ownBlock = some g → w.heap.size ≤ g) := by
    obtain ⟨l1, l2, l3⟩ := H1.out
    have hk := l3.trans' r3
    have hz := l3.size
    refine Lib.hid ⟨⟨⟨h, HQ.out.1.same hk⟩, ⟨l1.same r3, fun g hg => HQ.out.1.nx.fr g (l2 g hg)⟩, ⟨r1, fun g hg => HQ.out.1.nx.fr g (Nat.le_trans hz (r2 g hg))⟩, NxStep.quiet col hk⟩, l2, fun g hg => Nat.le_trans hz (r2 g hg)⟩
  clear r1 r2 r3 H1 HW HL
  go_wp2_with fail
  go_loopg [6, 8, 15, 24, 25, 26] 3 (fun gk s6 s8 s15 s24 s25 s26 wr => ∃ (k : Nat) (y6 y8 y24 y25 y26 : Value), k ≤ 3 ∧ gk = 3 - k ∧ s6 = y6 ∧ s8 = y8 ∧ s15 = .int .i64 (k : Nat) ∧ s24 = y24 ∧ s25 = y25 ∧ s26 = y26 ∧
    Hid (∃ col', EndI w col b vl vr (nbs ls a) (obs ms a) (if k = 3 then endLs ls a else eLs ls a k 0) (if k = 3 then endMs ms a else eMs ms a k 0) next wr col'))
  case atStart => exact ⟨0, _, _, _, _, _, by omega, rfl, rfl, rfl, rfl, rfl, rfl, rfl, Lib.hid ⟨col, HI.out.1⟩⟩
  case round =>
    obtain ⟨k, y6, y8, y24, y25, y26, hk, rfl, rfl, rfl, rfl, rfl, rfl, rfl, HE⟩ := hrel
    by_cases h3 : k = 3
    · subst h3
      go_wp2_with fail
      go_ret2
      obtain ⟨col', h1⟩ := HE.out
      exact ⟨vl, vr, col', rfl, h1, HI.out.2⟩
    · have HE' : Hid (∃ col', EndI w col b vl vr (nbs ls a) (obs ms a) (eLs ls a k 0) (eMs ms a k 0) next wr col') := by
        have := HE.out
        rw [if_neg h3, if_neg h3] at this
        exact Lib.hid this
      clear HE
      obtain ⟨colr, hE⟩ := HE'.out
      have HO := Lib.hid (show ∀ w', Kp (fun _ => False) wr w' → Calls Try.prog 34 #[.pointer (some ⟨b, 2 * k, none⟩), .int .i64 a] w' (FreshRow w' (eRow ls ms a k)) from fun w' hk' => by
        obtain ⟨⟨h', h1⟩, -⟩ := hE.same hk'
        have hlen : (tabs (eLs ls a k 0) (eMs ms a k 0) k).length ≤ 17592186044416 := by
          have := h1.len0
          have := h1.len1
          have := h1.len2
          rcases (show k = 0 ∨ k = 1 ∨ k = 2 by omega) with rfl | rfl | rfl <;> omega
        have h2 := nx_of h1.nx (k := k) (by omega) HQ.out.2 (by omega)
        rw [show srt (colOf (tabs (eLs ls a k 0) (eMs ms a k 0) k) a) = eRow ls ms a k from by
          rcases (show k = 0 ∨ k = 1 ∨ k = 2 by omega) with rfl | rfl | rfl <;> rfl] at h2
        exact h2)
      have HE2 := Lib.hid hE
      clear hE
      have hkc : k = 0 ∨ k = 1 ∨ k = 2 := by omega
      clear h3 hk
      rcases hkc with rfl | rfl | rfl
      · have HO0 := Lib.hid (fun w' hk' => show Calls Try.prog 34 #[.pointer (some ⟨b, 0, none⟩), .int .i64 a] w' (FreshRow w' (eRow ls ms a 0)) from HO.out w' hk')
        clear HO HE'
        go_wp2_with fail
        refine (HO0.out wr (Kp.refl _ _)).mono ?_
        rintro e w5 ⟨u, rfl, f1, f2, f3⟩
        obtain ⟨po, cp, hu⟩ := f1.form
        have hcp : (eRow ls ms a 0).length ≤ 9223372036854775807 := by
          rcases f1.2 with ⟨e, h0⟩ | ⟨g, cap, cur, e, _, _, q1, _, q2, _⟩
          · omega
          · unfold maxLen at q2; omega
        have HM : Hid (∃ colx, EndI w col b vl vr (nbs ls a) (obs ms a) (eLs ls a 0 0) (eMs ms a 0 0) next w5 colx ∧ Mine w5 colx u (eRow ls ms a 0)) := by
          have h5 := HE2.out.same f3
          obtain ⟨h6, h7⟩ := h5.1
          refine Lib.hid ⟨colr, h5, f1, fun g hg => ?_⟩
          obtain ⟨h8, h9⟩ := HE2.out.1
          exact h9.nx.fr g (f2 g hg)
        obtain ⟨N, hN⟩ : ∃ N, (eRow ls ms a 0).length = N := ⟨_, rfl⟩
        rw [hN] at hu hcp
        have HNu := Lib.hid (And.intro hN hu)
        subst hu
        clear f1 f2 f3 hN HO0 HE2
        go_wp2_with fail
        go_loopg [8, 26] N (fun gk s8 s26 wx => ∃ (j : Nat) (z8 : Value), j ≤ N ∧ gk = N - j ∧ s8 = z8 ∧ s26 = .int .i64 (j : Nat) ∧
          Hid (∃ colx, EndI w col b vl vr (nbs ls a) (obs ms a) (eLs ls a 0 j) (eMs ms a 0 j) next wx colx ∧ Mine wx colx (.slice po N cp) (eRow ls ms a 0)))
        case atStart => exact ⟨0, _, by omega, rfl, rfl, rfl, HM⟩
        case round =>
          obtain ⟨j, z8, hj, rfl, rfl, rfl, HX⟩ := hrel
          clear HM
          obtain ⟨colx, hE, hM⟩ := HX.out
          clear HX
          by_cases hlt : j < N
          · obtain ⟨x, hx⟩ : ∃ x, (eRow ls ms a 0)[j]? = some x := ⟨_, List.getElem?_eq_getElem (by rw [HNu.out.1]; exact hlt)⟩
            obtain ⟨g, cap, eg, q1, q2, q3⟩ := hM.1.get hx
            obtain ⟨rfl, rfl⟩ : po = some ⟨g, 0, none⟩ ∧ cp = cap := by
              injection eg with eg1 _ eg2
              exact ⟨eg1, eg2⟩
            have HC : Hid (Calls Try.prog 32 #[.pointer (some ⟨b, 0, none⟩), .int .i64 0, .agg #[.int .i64 a, .int .i64 x]] wr (NetTo wr b colx (eLs ls a 0 (j + 1)) (eMs ms a 0 (j + 1)) next (.tuple #[]))) := by
              obtain ⟨⟨h8, h9⟩, -⟩ := hE
              exact Lib.hid (end_cut (k := 0) (by omega) HQ.out.1.lok HQ.out.1.mok h9 hx)
            have HS := Lib.hid (And.intro hE hM)
            have hli : (j : Int) < N := by omega
            clear hE hM eg q1 q2 hx
            go_wp2_with fail
            refine HC.out.mono ?_
            rintro e w6 ht
            obtain ⟨rfl, -⟩ := id ht
            have HF : Hid (∃ colx, EndI w col b vl vr (nbs ls a) (obs ms a) (eLs ls a 0 (j + 1)) (eMs ms a 0 (j + 1)) next w6 colx ∧ Mine w6 colx (.slice (some ⟨g, 0, none⟩) N cp) (eRow ls ms a 0)) := by
              obtain ⟨col6, h1, h2⟩ := HS.out.1.cut ht
              exact Lib.hid ⟨col6, h1, HS.out.2.step h2⟩
            clear ht
            go_wp2_with fail
            go_roundg (N - (j + 1))
            case measure => omega
            case rel => exact ⟨j + 1, _, by omega, rfl, rfl, by go_num, HF⟩
          · obtain rfl : j = N := by omega
            have HF : Hid (∃ col', EndI w col b vl vr (nbs ls a) (obs ms a) (if 1 = 3 then endLs ls a else eLs ls a 1 0) (if 1 = 3 then endMs ms a else eMs ms a 1 0) next wr col') := by
              refine Lib.hid ⟨colx, ?_⟩
              have h1 := hE
              rw [← HNu.out.1] at h1
              rw [eLs_next ls ms a 0, eMs_next ls ms a 0 (by omega)] at h1
              rw [if_neg (by omega), if_neg (by omega)]
              exact h1
            clear hE hM
            go_wp2_with fail
            go_roundg (3 - 1)
            case measure => omega
            case rel => exact ⟨1, _, _, _, _, _, by omega, rfl, rfl, rfl, by go_num, rfl, rfl, rfl, HF⟩
      · have HO0 := Lib.hid (fun w' hk' => show Calls Try.prog 34 #[.pointer (some ⟨b, 2, none⟩), .int .i64 a] w' (FreshRow w' (eRow ls ms a 1)) from HO.out w' hk')
        clear HO HE'
        go_wp2_with fail
        refine (HO0.out wr (Kp.refl _ _)).mono ?_
        rintro e w5 ⟨u, rfl, f1, f2, f3⟩
        obtain ⟨po, cp, hu⟩ := f1.form
        have hcp : (eRow ls ms a 1).length ≤ 9223372036854775807 := by
          rcases f1.2 with ⟨e, h0⟩ | ⟨g, cap, cur, e, _, _, q1, _, q2, _⟩
          · omega
          · unfold maxLen at q2; omega
        have HM : Hid (∃ colx, EndI w col b vl vr (nbs ls a) (obs ms a) (eLs ls a 1 0) (eMs ms a 1 0) next w5 colx ∧ Mine w5 colx u (eRow ls ms a 1)) := by
          have h5 := HE2.out.same f3
          obtain ⟨h6, h7⟩ := h5.1
          refine Lib.hid ⟨colr, h5, f1, fun g hg => ?_⟩
          obtain ⟨h8, h9⟩ := HE2.out.1
          exact h9.nx.fr g (f2 g hg)
        obtain ⟨N, hN⟩ : ∃ N, (eRow ls ms a 1).length = N := ⟨_, rfl⟩
        rw [hN] at hu hcp
        have HNu := Lib.hid (And.intro hN hu)
        subst hu
        clear f1 f2 f3 hN HO0 HE2
        go_wp2_with fail
        go_loopg [8, 26] N (fun gk s8 s26 wx => ∃ (j : Nat) (z8 : Value), j ≤ N ∧ gk = N - j ∧ s8 = z8 ∧ s26 = .int .i64 (j : Nat) ∧
          Hid (∃ colx, EndI w col b vl vr (nbs ls a) (obs ms a) (eLs ls a 1 j) (eMs ms a 1 j) next wx colx ∧ Mine wx colx (.slice po N cp) (eRow ls ms a 1)))
        case atStart => exact ⟨0, _, by omega, rfl, rfl, rfl, HM⟩
        case round =>
          obtain ⟨j, z8, hj, rfl, rfl, rfl, HX⟩ := hrel
          clear HM
          obtain ⟨colx, hE, hM⟩ := HX.out
          clear HX
          by_cases hlt : j < N
          · obtain ⟨x, hx⟩ : ∃ x, (eRow ls ms a 1)[j]? = some x := ⟨_, List.getElem?_eq_getElem (by rw [HNu.out.1]; exact hlt)⟩
            obtain ⟨g, cap, eg, q1, q2, q3⟩ := hM.1.get hx
            obtain ⟨rfl, rfl⟩ : po = some ⟨g, 0, none⟩ ∧ cp = cap := by
              injection eg with eg1 _ eg2
              exact ⟨eg1, eg2⟩
            have HC : Hid (Calls Try.prog 32 #[.pointer (some ⟨b, 0, none⟩), .int .i64 1, .agg #[.int .i64 a, .int .i64 x]] wr (NetTo wr b colx (eLs ls a 1 (j + 1)) (eMs ms a 1 (j + 1)) next (.tuple #[]))) := by
              obtain ⟨⟨h8, h9⟩, -⟩ := hE
              exact Lib.hid (end_cut (k := 1) (by omega) HQ.out.1.lok HQ.out.1.mok h9 hx)
            have HS := Lib.hid (And.intro hE hM)
            have hli : (j : Int) < N := by omega
            clear hE hM eg q1 q2 hx
            go_wp2_with fail
            refine HC.out.mono ?_
            rintro e w6 ht
            obtain ⟨rfl, -⟩ := id ht
            have HF : Hid (∃ colx, EndI w col b vl vr (nbs ls a) (obs ms a) (eLs ls a 1 (j + 1)) (eMs ms a 1 (j + 1)) next w6 colx ∧ Mine w6 colx (.slice (some ⟨g, 0, none⟩) N cp) (eRow ls ms a 1)) := by
              obtain ⟨col6, h1, h2⟩ := HS.out.1.cut ht
              exact Lib.hid ⟨col6, h1, HS.out.2.step h2⟩
            clear ht
            go_wp2_with fail
            go_roundg (N - (j + 1))
            case measure => omega
            case rel => exact ⟨j + 1, _, by omega, rfl, rfl, by go_num, HF⟩
          · obtain rfl : j = N := by omega
            have HF : Hid (∃ col', EndI w col b vl vr (nbs ls a) (obs ms a) (if 2 = 3 then endLs ls a else eLs ls a 2 0) (if 2 = 3 then endMs ms a else eMs ms a 2 0) next wr col') := by
              refine Lib.hid ⟨colx, ?_⟩
              have h1 := hE
              rw [← HNu.out.1] at h1
              rw [eLs_next ls ms a 1, eMs_next ls ms a 1 (by omega)] at h1
              rw [if_neg (by omega), if_neg (by omega)]
              exact h1
            clear hE hM
            go_wp2_with fail
            go_roundg (3 - 2)
            case measure => omega
            case rel => exact ⟨2, _, _, _, _, _, by omega, rfl, rfl, rfl, by go_num, rfl, rfl, rfl, HF⟩
      · have HO0 := Lib.hid (fun w' hk' => show Calls Try.prog 34 #[.pointer (some ⟨b, 4, none⟩), .int .i64 a] w' (FreshRow w' (eRow ls ms a 2)) from HO.out w' hk')
        clear HO HE'
        go_wp2_with fail
        refine (HO0.out wr (Kp.refl _ _)).mono ?_
        rintro e w5 ⟨u, rfl, f1, f2, f3⟩
        obtain ⟨po, cp, hu⟩ := f1.form
        have hcp : (eRow ls ms a 2).length ≤ 9223372036854775807 := by
          rcases f1.2 with ⟨e, h0⟩ | ⟨g, cap, cur, e, _, _, q1, _, q2, _⟩
          · omega
          · unfold maxLen at q2; omega
        have HM : Hid (∃ colx, EndI w col b vl vr (nbs ls a) (obs ms a) (eLs ls a 2 0) (eMs ms a 2 0) next w5 colx ∧ Mine w5 colx u (eRow ls ms a 2)) := by
          have h5 := HE2.out.same f3
          obtain ⟨h6, h7⟩ := h5.1
          refine Lib.hid ⟨colr, h5, f1, fun g hg => ?_⟩
          obtain ⟨h8, h9⟩ := HE2.out.1
          exact h9.nx.fr g (f2 g hg)
        obtain ⟨N, hN⟩ : ∃ N, (eRow ls ms a 2).length = N := ⟨_, rfl⟩
        rw [hN] at hu hcp
        have HNu := Lib.hid (And.intro hN hu)
        subst hu
        clear f1 f2 f3 hN HO0 HE2
        go_wp2_with fail
        go_loopg [8, 26] N (fun gk s8 s26 wx => ∃ (j : Nat) (z8 : Value), j ≤ N ∧ gk = N - j ∧ s8 = z8 ∧ s26 = .int .i64 (j : Nat) ∧
          Hid (∃ colx, EndI w col b vl vr (nbs ls a) (obs ms a) (eLs ls a 2 j) (eMs ms a 2 j) next wx colx ∧ Mine wx colx (.slice po N cp) (eRow ls ms a 2)))
        case atStart => exact ⟨0, _, by omega, rfl, rfl, rfl, HM⟩
        case round =>
          obtain ⟨j, z8, hj, rfl, rfl, rfl, HX⟩ := hrel
          clear HM
          obtain ⟨colx, hE, hM⟩ := HX.out
          clear HX
          by_cases hlt : j < N
          · obtain ⟨x, hx⟩ : ∃ x, (eRow ls ms a 2)[j]? = some x := ⟨_, List.getElem?_eq_getElem (by rw [HNu.out.1]; exact hlt)⟩
            obtain ⟨g, cap, eg, q1, q2, q3⟩ := hM.1.get hx
            obtain ⟨rfl, rfl⟩ : po = some ⟨g, 0, none⟩ ∧ cp = cap := by
              injection eg with eg1 _ eg2
              exact ⟨eg1, eg2⟩
            have HC : Hid (Calls Try.prog 32 #[.pointer (some ⟨b, 0, none⟩), .int .i64 2, .agg #[.int .i64 a, .int .i64 x]] wr (NetTo wr b colx (eLs ls a 2 (j + 1)) (eMs ms a 2 (j + 1)) next (.tuple #[]))) := by
              obtain ⟨⟨h8, h9⟩, -⟩ := hE
              exact Lib.hid (end_cut (k := 2) (by omega) HQ.out.1.lok HQ.out.1.mok h9 hx)
            have HS := Lib.hid (And.intro hE hM)
            have hli : (j : Int) < N := by omega
            clear hE hM eg q1 q2 hx
            go_wp2_with fail
            refine HC.out.mono ?_
            rintro e w6 ht
            obtain ⟨rfl, -⟩ := id ht
            have HF : Hid (∃ colx, EndI w col b vl vr (nbs ls a) (obs ms a) (eLs ls a 2 (j + 1)) (eMs ms a 2 (j + 1)) next w6 colx ∧ Mine w6 colx (.slice (some ⟨g, 0, none⟩) N cp) (eRow ls ms a 2)) := by
              obtain ⟨col6, h1, h2⟩ := HS.out.1.cut ht
              exact Lib.hid ⟨col6, h1, HS.out.2.step h2⟩
            clear ht
            go_wp2_with fail
            go_roundg (N - (j + 1))
            case measure => omega
            case rel => exact ⟨j + 1, _, by omega, rfl, rfl, by go_num, HF⟩
          · obtain rfl : j = N := by omega
            have HF : Hid (∃ col', EndI w col b vl vr (nbs ls a) (obs ms a) (if 3 = 3 then endLs ls a else eLs ls a 3 0) (if 3 = 3 then endMs ms a else eMs ms a 3 0) next wr col') := by
              refine Lib.hid ⟨colx, ?_⟩
              have h1 := hE
              rw [← HNu.out.1] at h1
              rw [eLs_last HQ.out.1.lok, eMs_last HQ.out.1.mok] at h1
              rw [if_pos rfl, if_pos rfl]
              exact h1
            clear hE hM
            go_wp2_with fail
            go_roundg (3 - 3)
            case measure => omega
            case rel => exact ⟨3, _, _, _, _, _, by omega, rfl, rfl, rfl, by go_num, rfl, rfl, rfl, HF⟩
end
end Go.Proofs.Ytmfhmnlgffgcgaa
