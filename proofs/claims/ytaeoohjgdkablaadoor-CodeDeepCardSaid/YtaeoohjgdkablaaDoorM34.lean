/- troupelaw00.SameModule: two modules in memory are the same just if they are one as plain data. -/
import Derived.Test.YtaeoohjgdkablaaDoorM12
import Derived.Test.YtaeoohjgdkablaaDoorM33
/- troupelaw00.SameModule: two modules in memory are the same just if they are one as plain data. -/
namespace Go.Proofs.YtaeoohjgdkablaaDoor
open Go.RowKit

noncomputable def sameM (a b : Md) : Bool := eqB (a = b)
theorem sameM_true {a b : Md} (h : a = b) : sameM a b = true := eqB_true h
theorem sameM_false {a b : Md} (h : ¬ a = b) : sameM a b = false := eqB_false h
theorem list_take {α : Type} {l m : List α} (hl : l.length = m.length) {j : Nat} (h : ∀ i, i < j → l[i]? = m[i]?) (hj : j = l.length) : l = m := by
  refine List.ext_getElem? fun i => ?_
  by_cases hi : i < j
  · exact h i hi
  · rw [List.getElem?_eq_none (by omega), List.getElem?_eq_none (by omega)]
theorem list_ne {α : Type} {l m : List α} {j : Nat} {x y : α} (hx : l[j]? = some x) (hy : m[j]? = some y) (h : ¬ x = y) : ¬ l = m := fun e => by
  rw [e, hy] at hx; exact h (Option.some.inj hx).symm
theorem more_same {α : Type} {l m : List α} {j : Nat} {x y : α} (hs : ∀ i, i < j → l[i]? = m[i]?) (hx : l[j]? = some x) (hy : m[j]? = some y) (h : x = y) : ∀ i, i < j + 1 → l[i]? = m[i]? := fun i hi => by
  by_cases e : i < j
  · exact hs i e
  · obtain rfl : i = j := by omega
    rw [hx, hy, h]
theorem ListAt.kp {F1 G : Nat → Prop} {w w' : World} {h : Nat} {l : List Tm} {v : Value} (hl : ListAt F1 w (TermAt F1 w h) l v) (hk : Kp G w w') (hd : ∀ q, F1 q → ¬ G q) : ListAt F1 w' (TermAt F1 w' h) l v :=
  hl.imp (fun _ e => e) (cells_kp hk hd) (fun _ _ e => TermAt.kp e hk hd)
theorem cells3 {w : World} {A : Nat} {c0 c1 c2 : Value} {T : TypeId} (h : w.heap[A]? = some (.cells #[c0, c1, c2] T (0, 0))) :
    w.cell? ⟨A, 0, none⟩ = some c0 ∧ w.cell? ⟨A, 1, none⟩ = some c1 ∧ w.cell? ⟨A, 2, none⟩ = some c2 :=
  ⟨by rw [cell_of_row w A 0 _ _ _ h]; rfl, by rw [cell_of_row w A 1 _ _ _ h]; rfl, by rw [cell_of_row w A 2 _ _ _ h]; rfl⟩
theorem cells4 {w : World} {A : Nat} {c0 c1 c2 c3 : Value} {T : TypeId} (h : w.heap[A]? = some (.cells #[c0, c1, c2, c3] T (0, 0))) :
    w.cell? ⟨A, 0, none⟩ = some c0 ∧ w.cell? ⟨A, 1, none⟩ = some c1 ∧ w.cell? ⟨A, 2, none⟩ = some c2 ∧ w.cell? ⟨A, 3, none⟩ = some c3 :=
  ⟨by rw [cell_of_row w A 0 _ _ _ h]; rfl, by rw [cell_of_row w A 1 _ _ _ h]; rfl, by rw [cell_of_row w A 2 _ _ _ h]; rfl, by rw [cell_of_row w A 3 _ _ _ h]; rfl⟩
def SameMPost (m1 m2 : Md) (w : World) (e : Ending) (w' : World) : Prop := e = .returned (.bool (sameM m1 m2)) ∧ Kp (fun _ => False) w w'
theorem sameM_no {m1 m2 : Md} {w w' : World} (h : ¬ m1 = m2) (hk : Kp (fun _ => False) w w') {b : Value} (hb : b = .bool false) : SameMPost m1 m2 w (.returned b) w' := ⟨by rw [sameM_false h, hb], hk⟩
theorem sameM_yes {m1 m2 : Md} {w w' : World} (h : m1 = m2) (hk : Kp (fun _ => False) w w') {b : Value} (hb : b = .bool true) : SameMPost m1 m2 w (.returned b) w' := ⟨by rw [sameM_true h, hb], hk⟩

set_option maxRecDepth 100000 in
set_option maxHeartbeats 8000000 in
theorem sameModule_any {F1 F2 : Nat → Prop} {w : World} {h : Nat} {m1 m2 : Md} {cs1 cs2 : List Value} (h1 : MdAt F1 w h m1 cs1) (h2 : MdAt F2 w h m2 cs2) :
    Calls Tryd.prog 12 #[.agg cs1.toArray, .agg cs2.toArray] w (SameMPost m1 m2 w) := by
  obtain ⟨name1, lits1, fs1⟩ := m1
  obtain ⟨name2, lits2, fs2⟩ := m2
  obtain ⟨vl1, vf1, rfl, -, li1, fn1⟩ := h1
  obtain ⟨vl2, vf2, rfl, -, li2, fn2⟩ := h2
  simp only at li1 fn1 li2 fn2 ⊢
  obtain ⟨pl1, nl1, cl1, rfl⟩ := li1.form
  obtain ⟨pl2, nl2, cl2, rfl⟩ := li2.form
  obtain ⟨pf1, cf1, rfl, k11, k12, ff1⟩ := fn1
  obtain ⟨pf2, cf2, rfl, k21, k22, ff2⟩ := fn2
  obtain ⟨w1, hw1⟩ : ∃ w1, (w.alloc (.cells #[.string name1, .slice pl1 nl1 cl1, .slice pf1 fs1.length cf1] 33)).alloc (.cells #[.string name2, .slice pl2 nl2 cl2, .slice pf2 fs2.length cf2] 33) = w1 := ⟨_, rfl⟩
  have hk1 : Kp (fun _ => False) w w1 := by rw [← hw1]; exact ((Kp.refl _ w).alloc _).alloc _
  have bA : w1.heap[w.heap.size]? = some (.cells #[.string name1, .slice pl1 nl1 cl1, .slice pf1 fs1.length cf1] 33 (0, 0)) := by
    rw [← hw1, Below.heap_alloc _ _ _ (by simp)]; exact heap_alloc_new w _
  have bB : w1.heap[w.heap.size + 1]? = some (.cells #[.string name2, .slice pl2 nl2 cl2, .slice pf2 fs2.length cf2] 33 (0, 0)) := by
    rw [← hw1]
    have := heap_alloc_new (w.alloc (.cells #[.string name1, .slice pl1 nl1 cl1, .slice pf1 fs1.length cf1] 33)) (.cells #[.string name2, .slice pl2 nl2 cl2, .slice pf2 fs2.length cf2] 33)
    simpa using this
  have HA := sameAll_of (same_all h) (li1.kp hk1 fun _ _ e => e) (li2.kp hk1 fun _ _ e => e)
  rw [← hw1] at HA
  have HA := Lib.hid HA
  have HK := Lib.hid (And.intro hk1 (And.intro hw1 (And.intro bA bB)))
  have HF := Lib.hid (And.intro ff1 ff2)
  clear hk1 hw1 bA bB li1 li2 ff1 ff2
  by_cases e1 : name1 = name2
  · subst e1
    go_enter Tryd.func12, Tryd.ntmps12
    go_wp2_with fail
    refine HA.out.mono ?_
    rintro e w2 ⟨rfl, hk2⟩
    rw [HK.out.2.1] at hk2
    have bA := (hk2.block _ (Array.getElem?_eq_some_iff.1 HK.out.2.2.1).1 (fun e => e)).trans HK.out.2.2.1
    have bB := (hk2.block _ (Array.getElem?_eq_some_iff.1 HK.out.2.2.2).1 (fun e => e)).trans HK.out.2.2.2
    obtain ⟨a0, a1, a2⟩ := cells3 bA
    obtain ⟨b0, b1, b2⟩ := cells3 bB
    have H2 := Lib.hid (And.intro (HK.out.1.trans' hk2) (And.intro bA bB))
    clear hk2 bA bB HA HK
    by_cases e2 : lits1 = lits2
    · rw [eqB_true e2]
      subst e2
      by_cases e3 : fs1.length = fs2.length
      · have hne : ((fs1.length : Int) != (fs2.length : Int)) = false := by simp [e3]
        have H3 := Lib.hid e3
        clear e3
        go_wp2_with fail
        clear hne
        go_loopg [5] fs1.length (fun gk jj wr => ∃ (j : Nat), j ≤ fs1.length ∧ gk = fs1.length - j ∧ jj = .int .i64 j ∧ (∀ i, i < j → fs1[i]? = fs2[i]?) ∧ Kp (fun _ => False) w2 wr)
        case atStart => exact ⟨0, by omega, rfl, rfl, fun i hi => by omega, Kp.refl _ _⟩
        case round =>
          clear a0 a1 a2 b0 b1 b2
          obtain ⟨j, hj, rfl, rfl, hs, hk⟩ := hrel
          have bA := (hk.block _ (Array.getElem?_eq_some_iff.1 H2.out.2.1).1 (fun e => e)).trans H2.out.2.1
          have bB := (hk.block _ (Array.getElem?_eq_some_iff.1 H2.out.2.2).1 (fun e => e)).trans H2.out.2.2
          obtain ⟨a0, a1, a2⟩ := cells3 bA
          obtain ⟨b0, b1, b2⟩ := cells3 bB
          have hBl := (Array.getElem?_eq_some_iff.1 bB).1
          have b2' : ∀ o, (wr.alloc o).cell? ⟨w.heap.size + 1, 2, none⟩ = some (.slice pf2 fs2.length cf2) := fun o => by rw [World.cell?_alloc_past _ _ _ hBl]; exact b2
          by_cases hlt : j < fs1.length
          · have h3 := H3.out
            obtain ⟨f, hf⟩ : ∃ t, fs1[j]? = some t := ⟨fs1[j], List.getElem?_eq_getElem hlt⟩
            obtain ⟨g, hg⟩ : ∃ t, fs2[j]? = some t := ⟨fs2[j], List.getElem?_eq_getElem (by omega)⟩
            obtain ⟨b, off, c0, c1, c2, c3, rfl, hF, x0, x1, x2, x3, hp⟩ := HF.out.1 j f hf
            obtain ⟨b', off', d0, d1, d2, d3, rfl, hF', y0, y1, y2, y3, hp'⟩ := HF.out.2 j g hg
            obtain ⟨fn, fa, fs, fc⟩ := f
            obtain ⟨gn, ga, gs, gc⟩ := g
            obtain ⟨vc1, hc1, -, -, -, po1, cap1, rfl, m11, m12, he1⟩ := hp
            obtain ⟨vc2, hc2, -, -, -, po2, cap2, rfl, m21, m22, he2⟩ := hp'
            simp only [List.cons.injEq, and_true] at hc1 hc2
            obtain ⟨rfl, rfl, rfl, rfl⟩ := hc1
            obtain ⟨rfl, rfl, rfl, rfl⟩ := hc2
            simp only at m11 m12 he1 m21 m22 he2
            have hkw := H2.out.1.trans' hk
            have kc : ∀ b i u, w.cell? ⟨b, i, none⟩ = some u → wr.cell? ⟨b, i, none⟩ = some u := fun b i u e => cells_kp hkw (F := fun _ => True) (fun _ _ e => e) b i u trivial e
            have kc2 : ∀ o b i u, w.cell? ⟨b, i, none⟩ = some u → (wr.alloc o).cell? ⟨b, i, none⟩ = some u := fun o b i u e => by rw [World.cell?_alloc_past _ _ _ (World.block_lt_of_cell? _ _ (kc _ _ _ e))]; exact kc _ _ _ e
            replace x0 := kc _ _ _ x0
            replace x1 := kc _ _ _ x1
            replace x2 := kc _ _ _ x2
            replace x3 := kc _ _ _ x3
            have y0' := fun o => kc2 o _ _ _ y0
            have y1' := fun o => kc2 o _ _ _ y1
            have y2' := fun o => kc2 o _ _ _ y2
            have y3' := fun o => kc2 o _ _ _ y3
            have hli : (j : Int) < fs1.length := by omega
            have hlm : (j : Int) < fs2.length := by omega
            have HI := Lib.hid (And.intro he1 he2)
            have H := Lib.hid (And.intro hs (And.intro hkw (And.intro hf (And.intro hg hk))))
            clear y0 y1 y2 y3 kc kc2 he1 he2 hs hkw hk hf hg bA bB h3
            by_cases q1 : fn = gn
            · subst q1
              by_cases q2 : fa = ga
              · subst q2
                by_cases q3 : fs = gs
                · subst q3
                  by_cases q4 : fc.length = gc.length
                  · have hnc : ((fc.length : Int) != (gc.length : Int)) = false := by simp [q4]
                    have H4 := Lib.hid q4
                    clear q4
                    obtain ⟨wq, hwq⟩ : ∃ wq, (wr.alloc (.cells #[.string fn, .int .i64 fa, .int .i64 fs, .slice po1 fc.length cap1] 30)).alloc (.cells #[.string fn, .int .i64 fa, .int .i64 fs, .slice po2 gc.length cap2] 30) = wq := ⟨_, rfl⟩
                    have hkq : Kp (fun _ => False) wr wq := by rw [← hwq]; exact ((Kp.refl _ wr).alloc _).alloc _
                    have bF : wq.heap[wr.heap.size]? = some (.cells #[.string fn, .int .i64 fa, .int .i64 fs, .slice po1 fc.length cap1] 30 (0, 0)) := by
                      rw [← hwq, Below.heap_alloc _ _ _ (by simp)]; exact heap_alloc_new wr _
                    have bG : wq.heap[wr.heap.size + 1]? = some (.cells #[.string fn, .int .i64 fa, .int .i64 fs, .slice po2 gc.length cap2] 30 (0, 0)) := by
                      rw [← hwq]
                      have := heap_alloc_new (wr.alloc (.cells #[.string fn, .int .i64 fa, .int .i64 fs, .slice po1 fc.length cap1] 30)) (.cells #[.string fn, .int .i64 fa, .int .i64 fs, .slice po2 gc.length cap2] 30)
                      simpa using this
                    have HQ := Lib.hid (And.intro hkq (And.intro bF (And.intro bG hwq)))
                    clear hkq bF bG hwq
                    go_wp2_with fail
                    rw [HQ.out.2.2.2]
                    clear x0 x1 x2 x3 y0' y1' y2' y3' a0 a1 a2 b0 b1 b2 b2' hnc hBl
                    go_loopg [8] fc.length (fun gk kk wx => ∃ (k : Nat), k ≤ fc.length ∧ gk = fc.length - k ∧ kk = .int .i64 k ∧ (∀ i, i < k → fc[i]? = gc[i]?) ∧ Kp (fun _ => False) wq wx)
                    case atStart => exact ⟨0, by omega, rfl, rfl, fun i hi => by omega, Kp.refl _ _⟩
                    case round =>
                      obtain ⟨k, hk', rfl, rfl, hs', hkx⟩ := hrel
                      have bF := (hkx.block _ (Array.getElem?_eq_some_iff.1 HQ.out.2.1).1 (fun e => e)).trans HQ.out.2.1
                      have bG := (hkx.block _ (Array.getElem?_eq_some_iff.1 HQ.out.2.2.1).1 (fun e => e)).trans HQ.out.2.2.1
                      obtain ⟨-, -, -, f3⟩ := cells4 bF
                      obtain ⟨-, -, -, g3⟩ := cells4 bG
                      have h4 := H4.out
                      by_cases hlk : k < fc.length
                      · obtain ⟨x, hx⟩ : ∃ t, fc[k]? = some t := ⟨fc[k], List.getElem?_eq_getElem hlk⟩
                        obtain ⟨y, hy⟩ : ∃ t, gc[k]? = some t := ⟨gc[k], List.getElem?_eq_getElem (by omega)⟩
                        obtain ⟨bb, oo, rfl, -, x0, x1, x2, x3, -⟩ := HI.out.1 k x hx
                        obtain ⟨bb', oo', rfl, -, y0, y1, y2, y3, -⟩ := HI.out.2 k y hy
                        obtain ⟨xo, xa, xb, xc⟩ := x
                        obtain ⟨yo, ya, yb, yc⟩ := y
                        simp only at x0 x1 x2 x3 y0 y1 y2 y3
                        have hkw := H.out.2.1.trans' (HQ.out.1.trans' hkx)
                        have kc : ∀ b i u, w.cell? ⟨b, i, none⟩ = some u → wr.cell? ⟨b, i, none⟩ = some u := fun b i u e => cells_kp hkw (F := fun _ => True) (fun _ _ e => e) b i u trivial e
                        replace x0 := kc _ _ _ x0
                        replace x1 := kc _ _ _ x1
                        replace x2 := kc _ _ _ x2
                        replace x3 := kc _ _ _ x3
                        replace y0 := kc _ _ _ y0
                        replace y1 := kc _ _ _ y1
                        replace y2 := kc _ _ _ y2
                        replace y3 := kc _ _ _ y3
                        have hki : (k : Int) < fc.length := by omega
                        have hkm : (k : Int) < gc.length := by omega
                        have HX := Lib.hid (And.intro hs' (And.intro hkw (And.intro hx (And.intro hy hkx))))
                        clear kc bF bG hkw hx hy hs' hkx h4
                        by_cases hxy : xo = yo ∧ xa = ya ∧ xb = yb ∧ xc = yc
                        · obtain ⟨rfl, rfl, rfl, rfl⟩ := hxy
                          go_wp2_with fail
                          go_region
                          all_goals
                            go_wp2_with fail
                            go_roundg (fc.length - (k + 1))
                            case measure => omega
                            case rel => exact ⟨k + 1, by omega, rfl, by go_num, more_same HX.out.1 HX.out.2.2.1 HX.out.2.2.2.1 rfl, HX.out.2.2.2.2.drew⟩
                        · have hno : ¬ (⟨name1, lits1, fs1⟩ : Md) = ⟨name1, lits1, fs2⟩ := fun e => list_ne H.out.2.2.1 H.out.2.2.2.1 (fun e => list_ne HX.out.2.2.1 HX.out.2.2.2.1 (fun e => hxy ⟨(In4.mk.inj e).1, (In4.mk.inj e).2.1, (In4.mk.inj e).2.2.1, (In4.mk.inj e).2.2.2⟩) (Fn4.mk.inj e).2.2.2) (Md.mk.inj e).2.2
                          have HN := Lib.hid hno
                          clear hno
                          by_cases z0 : xo = yo
                          · subst z0
                            by_cases z1 : xa = ya
                            · subst z1
                              by_cases z2 : xb = yb
                              · subst z2
                                have hnx : (xc == yc) = false := by simpa using hxy
                                clear hxy
                                go_wp2_with fail
                                go_region
                                all_goals
                                  go_wp2_with fail
                                  go_ret
                                  exact sameM_no HN.out HX.out.2.1.drew rfl
                              · have hnx : (xb == yb) = false := by simpa using z2
                                clear hxy z2
                                go_wp2_with fail
                                go_region
                                all_goals
                                  go_wp2_with fail
                                  go_ret
                                  exact sameM_no HN.out HX.out.2.1.drew rfl
                            · have hnx : (xa == ya) = false := by simpa using z1
                              clear hxy z1
                              go_wp2_with fail
                              go_region
                              all_goals
                                go_wp2_with fail
                                go_ret
                                exact sameM_no HN.out HX.out.2.1.drew rfl
                          · have hnx : (xo == yo) = false := by simpa using z0
                            clear hxy z0
                            go_wp2_with fail
                            go_region
                            all_goals
                              go_wp2_with fail
                              go_ret
                              exact sameM_no HN.out HX.out.2.1.drew rfl
                      · have hfin := list_take H4.out hs' (by omega)
                        have HX := Lib.hid (And.intro hfin (H.out.2.1.trans' (HQ.out.1.trans' hkx)))
                        obtain rfl : k = fc.length := by omega
                        have hkd := HQ.out.1.trans' hkx
                        have HD := Lib.hid hkd
                        clear hs' hkx hfin bF bG hkd
                        go_wp2_with fail
                        go_roundg (fs1.length - (j + 1))
                        case measure => omega
                        case rel => exact ⟨j + 1, by omega, rfl, by go_num, more_same H.out.1 H.out.2.2.1 H.out.2.2.2.1 (by rw [HX.out.1]), H.out.2.2.2.2.trans' HD.out⟩
                  · have hnc : ((fc.length : Int) != (gc.length : Int)) = true := by simp; omega
                    have hno : ¬ (⟨name1, lits1, fs1⟩ : Md) = ⟨name1, lits1, fs2⟩ := fun e => list_ne H.out.2.2.1 H.out.2.2.2.1 (fun e => q4 (by rw [(Fn4.mk.inj e).2.2.2])) (Md.mk.inj e).2.2
                    have HN := Lib.hid hno
                    clear hno q4
                    go_wp2_with fail
                    go_ret
                    exact sameM_no HN.out ((H.out.2.1.alloc _).alloc _) rfl
                · have hnc : (fs != gs) = true := by simpa using q3
                  have hno : ¬ (⟨name1, lits1, fs1⟩ : Md) = ⟨name1, lits1, fs2⟩ := fun e => list_ne H.out.2.2.1 H.out.2.2.2.1 (fun e => q3 (Fn4.mk.inj e).2.2.1) (Md.mk.inj e).2.2
                  have HN := Lib.hid hno
                  clear hno q3
                  go_wp2_with fail
                  go_ret
                  exact sameM_no HN.out ((H.out.2.1.alloc _).alloc _) rfl
              · have hnc : (fa != ga) = true := by simpa using q2
                have hno : ¬ (⟨name1, lits1, fs1⟩ : Md) = ⟨name1, lits1, fs2⟩ := fun e => list_ne H.out.2.2.1 H.out.2.2.2.1 (fun e => q2 (Fn4.mk.inj e).2.1) (Md.mk.inj e).2.2
                have HN := Lib.hid hno
                clear hno q2
                go_wp2_with fail
                go_ret
                exact sameM_no HN.out ((H.out.2.1.alloc _).alloc _) rfl
            · have hnc := str_ne q1
              have hno : ¬ (⟨name1, lits1, fs1⟩ : Md) = ⟨name1, lits1, fs2⟩ := fun e => list_ne H.out.2.2.1 H.out.2.2.2.1 (fun e => q1 (Fn4.mk.inj e).1) (Md.mk.inj e).2.2
              have HN := Lib.hid hno
              clear hno q1
              go_wp2_with fail
              go_ret
              exact sameM_no HN.out ((H.out.2.1.alloc _).alloc _) rfl
          · have hfin := list_take H3.out hs (by omega)
            have H := Lib.hid (And.intro hfin hk)
            obtain rfl : j = fs1.length := by omega
            clear hs hk hfin bA bB b2'
            go_wp2_with fail
            go_ret
            exact sameM_yes (by rw [H.out.1]) (H2.out.1.trans' H.out.2) rfl
      · have hne : ((fs1.length : Int) != (fs2.length : Int)) = true := by simp; omega
        have hno : ¬ (⟨name1, lits1, fs1⟩ : Md) = ⟨name1, lits1, fs2⟩ := fun e => e3 (by rw [(Md.mk.inj e).2.2])
        have HN := Lib.hid hno
        clear hno e3
        go_wp2_with fail
        go_ret
        exact sameM_no HN.out H2.out.1 rfl
    · rw [eqB_false e2]
      have hno : ¬ (⟨name1, lits1, fs1⟩ : Md) = ⟨name1, lits2, fs2⟩ := fun e => e2 (Md.mk.inj e).2.1
      have HN := Lib.hid hno
      clear hno e2
      go_wp2_with fail
      go_ret
      exact sameM_no HN.out H2.out.1 rfl
  · have hss := str_ne e1
    have hno : ¬ (⟨name1, lits1, fs1⟩ : Md) = ⟨name2, lits2, fs2⟩ := fun e => e1 (Md.mk.inj e).1
    have HN := Lib.hid hno
    clear hno e1
    go_enter Tryd.func12, Tryd.ntmps12
    go_wp2_with fail
    go_ret
    exact sameM_no HN.out (by rw [HK.out.2.1]; exact HK.out.1) rfl
end Go.Proofs.YtaeoohjgdkablaaDoor
