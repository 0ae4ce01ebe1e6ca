/- troupelaw00.CopyModule: what it makes is in rows of its own. The table of the functions of bif: Name. (The table is variable 1 of the seat.) -/
import Derived.Test.YtpdepmkojbpklaaDoorM16
import Derived.Test.YtpdepmkojbpklaaDoorM23
import Derived.Test.YtpdepmkojbpklaaDoorM25
/- troupelaw00.CopyModule: what it makes is in rows of its own. -/
namespace Go.Proofs.YtpdepmkojbpklaaDoor
open Go.RowKit

theorem vins_get : ∀ (l : List In4) (i : Nat) (x : In4) (k : Nat), l[i]? = some x → k < 4 → (vinsCells l)[i * 4 + k]? = [Value.int .i64 x.op, .int .i64 x.a, .int .i64 x.b, .int .i64 x.c][k]?
  | [], i, x, k, h, _ => by simp at h
  | y :: l, 0, x, k, h, hk => by
    have e : y = x := by simpa using h
    subst e
    have e5 : vinsCells (y :: l) = [Value.int .i64 y.op, .int .i64 y.a, .int .i64 y.b, .int .i64 y.c] ++ vinsCells l := rfl
    rw [e5, Nat.zero_mul, Nat.zero_add, List.getElem?_append_left (by simpa using hk)]
  | y :: l, i + 1, x, k, h, hk => by
    have h4 := vins_get l i x k (by simpa using h) hk
    have e5 : vinsCells (y :: l) = [Value.int .i64 y.op, .int .i64 y.a, .int .i64 y.b, .int .i64 y.c] ++ vinsCells l := rfl
    have e6 : (i + 1) * 4 + k - [Value.int .i64 y.op, .int .i64 y.a, .int .i64 y.b, .int .i64 y.c].length = i * 4 + k := by
      simp only [List.length_cons, List.length_nil]; omega
    rw [e5, List.getElem?_append_right (by simp only [List.length_cons, List.length_nil]; omega), e6, h4]
theorem vcode_copy {F : Nat → Prop} {w : World} {l : List In4} {v : Value} (h : CodeAt F w l v) :
    ∃ po c w', (Builtin.append_ #[30, 30] 30 #[.slice none 0 0, v]).run Tryd.prog w = .ok (.slice po l.length c) w' ∧ w'.ownsRow w.heap.size 29 4 (.slice po l.length c) l.length (vinsCells l) ∧ Kp (fun _ => False) w w' := by
  obtain ⟨po, cap, rfl, h1, h2, h3⟩ := h
  obtain ⟨i0, hi, hz0, hz1, hz2⟩ := info_parts Tryd.vinfoIns
  by_cases hl : l = []
  · subst hl
    exact ⟨none, 0, w, run_append_empty _ _ _ i0 Tryd.underlying30 hi po cap w, World.ownsRow_nil _ _ _ _, Kp.refl _ w⟩
  · have hpos := List.length_pos_iff.2 hl
    obtain ⟨b, off, rfl, -⟩ := h3 0 l[0] (List.getElem?_eq_getElem hpos)
    obtain ⟨g, cap', w', e1, e2, e3, e4, e5⟩ := run_append_lies (P := Tryd.prog) (w := w) _ 30 w.heap.size 29 i0 (.agg #[.int .i64 0, .int .i64 0, .int .i64 0, .int .i64 0]) 4 32 Tryd.underlying30 hi hz0 hz1 hz2 rfl (by omega) (.slice none 0 0) 0 [] (World.ownsRow_nil _ _ _ _) ⟨b, off, none⟩ l.length cap (vinsCells l) (vinsCells_len l)
      (fun j u hj => by
        have hjl := (List.getElem?_eq_some_iff.1 hj).1
        rw [vinsCells_len] at hjl
        obtain ⟨x, hx⟩ : ∃ x, l[j / 4]? = some x := ⟨l[j / 4], List.getElem?_eq_getElem (by omega)⟩
        obtain ⟨b', off', e, -, d0, d1, d2, d3, -⟩ := h3 (j / 4) x hx
        have e := Option.some.inj e
        obtain rfl : b = b' := congrArg Addr.block e
        obtain rfl : off = off' := congrArg Addr.off e
        have hc : (vinsCells l)[j]? = [Value.int .i64 x.op, .int .i64 x.a, .int .i64 x.b, .int .i64 x.c][j % 4]? := by
          have e6 := vins_get l (j / 4) x (j % 4) hx (by omega)
          rw [show j / 4 * 4 + j % 4 = j by omega] at e6
          exact e6
        rw [hc] at hj
        have had : (⟨b, off, none⟩ : Addr).add j = ⟨b, off + j / 4 * 4 + j % 4, none⟩ := by
          rw [show off + j / 4 * 4 + j % 4 = off + j by omega]
          simp [Addr.add]
        rw [had]
        have h4 : j % 4 = 0 ∨ j % 4 = 1 ∨ j % 4 = 2 ∨ j % 4 = 3 := by omega
        rcases h4 with h4 | h4 | h4 | h4 <;> rw [h4] at hj ⊢ <;> simp at hj <;> subst hj <;> assumption)
      (by intro u hu; simp only [vinsCells, List.mem_flatMap] at hu; obtain ⟨x, _, hu⟩ := hu; simp at hu; rcases hu with rfl | rfl | rfl | rfl <;> rfl) hpos (by unfold maxLen; omega) (by omega) (Nat.le_refl _) w.heap.size rfl
    rw [Nat.zero_add] at e1 e2
    rw [List.nil_append] at e2
    have hk : Kp (fun _ => False) w w' := (Kp.refl _ w).grown e3 (fun q hq => by cases hq)
    exact ⟨_, _, w', e1, e2, hk⟩
theorem row_le {w : World} {b c : Nat} {T : TypeId} {s : Nat} {v : Value} {n : Nat} {xs : List Value} (h : w.ownsRow b T s v n xs) (hc : c ≤ b) : w.ownsRow c T s v n xs := by
  obtain ⟨h1, ⟨e, h0⟩ | ⟨g, cap, cur, e, hb, hr⟩⟩ := h
  · exact ⟨h1, .inl ⟨e, h0⟩⟩
  · exact ⟨h1, .inr ⟨g, cap, cur, e, Nat.le_trans hc hb, hr⟩⟩
theorem vtake_snoc {l : List Fn4} {j : Nat} {x : Fn4} (h : l[j]? = some x) : l.take (j + 1) = l.take j ++ [x] := by
  rw [List.take_add_one, h]; rfl
def vthreeSet (w : World) (A : Nat) (c0 c1 c2 : Value) : World := ((w.setCell ⟨A, 0, none⟩ c0).setCell ⟨A, 1, none⟩ c1).setCell ⟨A, 2, none⟩ c2
theorem vthreeSet_any {w : World} {A : Nat} {d0 d1 d2 c0 c1 c2 : Value} {T : TypeId} (h : w.heap[A]? = some (.cells #[d0, d1, d2] T (0, 0))) :
    (vthreeSet w A c0 c1 c2).heap[A]? = some (.cells #[c0, c1, c2] T (0, 0)) ∧ Kp (fun q => q = A) w (vthreeSet w A c0 c1 c2) :=
  ⟨heap_set_same' (heap_set_same' (heap_set_same' h _) _) _, (((Kp.refl (fun q => q = A) w).setCell _ _ (.inl rfl)).setCell _ _ (.inl rfl)).setCell _ _ (.inl rfl)⟩
theorem vthree_f {w : World} {A : Nat} {c0 c1 c2 : Value} {T : TypeId} (h : w.heap[A]? = some (.cells #[c0, c1, c2] T (0, 0))) :
    w.cell? ⟨A, 0, none⟩ = some c0 ∧ w.cell? ⟨A, 1, none⟩ = some c1 ∧ w.cell? ⟨A, 2, none⟩ = some c2 ∧ ∀ j, w.frozen? ⟨A, j, none⟩ = false :=
  ⟨by rw [cell_of_row w A 0 _ _ _ h]; rfl, by rw [cell_of_row w A 1 _ _ _ h]; rfl, by rw [cell_of_row w A 2 _ _ _ h]; rfl, fun j => by simp [World.frozen?, h]⟩
theorem vListAt_kp {F1 G : Nat → Prop} {w w' : World} {h : Nat} {l : List Tm} {v : Value} (hl : ListAt F1 w (TermAt F1 w h) l v) (hk : Kp G w w') (hd : ∀ q, F1 q → ¬ G q) : ListAt F1 w' (TermAt F1 w' h) l v :=
  hl.imp (fun _ e => e) (fun b _ _ hb e => (hk.cell (World.block_lt_of_cell? _ _ e) (hd b hb)).trans e) (fun _ _ e => TermAt.kp e hk hd)
/-- functions copied so far -/
structure FSt (w2 : World) (funcs : List Fn4) (j : Nat) (po : Option Addr) (n c : Nat) (cl : List Value) (wx : World) : Prop where
  own : FOwn w2.heap.size wx (.slice po n c) (funcs.take j) cl
  kp : Kp (fun _ => False) w2 wx
theorem fst_next {w2 wr w5 : World} {funcs : List Fn4} {j : Nat} {po : Option Addr} {n c : Nat} {cl : List Value} (hS : FSt w2 funcs j po n c cl wr) (hk5 : Kp (fun _ => False) wr w5) {f : Fn4} {p4 : Option Addr} {c4 : Nat}
    (hT : w5.ownsRow wr.heap.size 29 4 (.slice p4 f.code.length c4) f.code.length (vinsCells f.code)) (hwf : fnWf f) (hj : funcs[j]? = some f) (hlen : funcs.length * 56 ≤ 140737488351232) :
    ∃ g cap w6 cl', (Builtin.append_ #[24, 24] 24 #[.slice po n c, .slice (some ⟨w5.heap.size, 0, none⟩) 1 1]).run Tryd.prog (w5.alloc (.cells #[.string f.name, .int .i64 f.args, .int .i64 f.slots, .slice p4 f.code.length c4] 32)) = .ok (.slice (some ⟨g, 0, none⟩) (j + 1) cap) w6 ∧
      FSt w2 funcs (j + 1) (some ⟨g, 0, none⟩) (j + 1) cap cl' w6 := by
  have hjl := (List.getElem?_eq_some_iff.1 hj).1
  have hlj : (funcs.take j).length = j := by rw [List.length_take]; omega
  have hz5 := hk5.size
  have hz2 := hS.kp.size
  obtain ⟨g, cap, w6, h1, h2, h3, -⟩ := (hS.own.kpB hk5 (fun _ e => e.elim)).push (by omega) hwf (by omega) (row_le hT hz2) (fun q e => ⟨fun e2 => by have := (hT.lt q e).1; have := (hS.own.frow.lt q e2).2; omega, fun i u hu e2 => by have := (hT.lt q e).1; have := (hS.own.blk hu e2).2; omega⟩)
  rw [hlj] at h1 h2
  exact ⟨g, cap, w6, _, h1, ⟨by rw [vtake_snoc hj]; exact h2, kp_fresh (hS.kp.trans' hk5) (h3.mono fun q _ e => .inr (hS.own.frow.lt q e).1)⟩⟩
set_option maxRecDepth 100000 in
set_option maxHeartbeats 4000000 in
theorem copyModule_own {F : Nat → Prop} {w : World} {h : Nat} {m : Md} {cs : List Value} (hm : MdAt F w h m cs) :
    Calls Tryd.prog 15 #[.agg cs.toArray] w fun e w' => ∃ (W0 : Nat) (pl2 : Option Addr) (cl2 : Nat) (pf2 : Option Addr) (cf2 : Nat) (cls : List Value), e = .returned (.agg #[.string m.name, .slice pl2 m.lits.length cl2, .slice pf2 m.funcs.length cf2]) ∧ w.heap.size ≤ W0 ∧ W0 ≤ w'.heap.size ∧ ListAt (fun q => w.heap.size ≤ q ∧ q < W0) w' (TermAt (fun q => w.heap.size ≤ q ∧ q < W0) w' h) m.lits (.slice pl2 m.lits.length cl2) ∧ FOwn W0 w' (.slice pf2 m.funcs.length cf2) m.funcs cls ∧ Kp (fun _ => False) w w' := by
  obtain ⟨name, lits, funcs⟩ := m
  obtain ⟨vl, vf, rfl, hn, li, fn⟩ := hm
  simp only at hn li fn ⊢
  obtain ⟨pl, nl, cl, rfl⟩ := li.form
  obtain ⟨pf, cf, rfl, k1, k2, ff⟩ := fn
  obtain ⟨w1, hw1⟩ : ∃ w1, (w.alloc (.cells #[.string name, .slice pl nl cl, .slice pf funcs.length cf] 26)).alloc (.cells #[.string ⟨#[]⟩, .slice none 0 0, .slice none 0 0] 26) = w1 := ⟨_, rfl⟩
  have hk1 : Kp (fun _ => False) w w1 := by rw [← hw1]; exact ((Kp.refl _ w).alloc _).alloc _
  have hz1 : w1.heap.size = w.heap.size + 2 := by rw [← hw1]; simp
  have bA : w1.heap[w.heap.size]? = some (.cells #[.string name, .slice pl nl cl, .slice pf funcs.length cf] 26 (0, 0)) := by
    rw [← hw1, Below.heap_alloc _ _ _ (by simp)]; exact heap_alloc_new w _
  have bB : w1.heap[w.heap.size + 1]? = some (.cells #[.string ⟨#[]⟩, .slice none 0 0, .slice none 0 0] 26 (0, 0)) := by
    rw [← hw1]
    have := heap_alloc_new (w.alloc (.cells #[.string name, .slice pl nl cl, .slice pf funcs.length cf] 26)) (.cells #[.string ⟨#[]⟩, .slice none 0 0, .slice none 0 0] 26)
    simpa using this
  have HC := copyAllB_of (copyB_any h) (vListAt_kp li hk1 fun _ _ e => e)
  rw [← hw1] at HC
  have HC := Lib.hid HC
  have HK := Lib.hid (And.intro hk1 (And.intro hw1 (And.intro bA (And.intro bB hz1))))
  have HF := Lib.hid (And.intro ff (And.intro k2 hn))
  clear hk1 hw1 bA bB li ff k1 hn hz1
  go_enter Tryd.func15, Tryd.ntmps15
  go_wp2_with fail
  refine HC.out.mono ?_
  rintro e w2 ⟨v2, rfl, hL2, hk2⟩
  rw [HK.out.2.1] at hL2 hk2
  obtain ⟨p2, n2, c2, rfl⟩ := hL2.form
  have bA := (hk2.block _ (Array.getElem?_eq_some_iff.1 HK.out.2.2.1).1 (fun e => e)).trans HK.out.2.2.1
  have bB := (hk2.block _ (Array.getElem?_eq_some_iff.1 HK.out.2.2.2.1).1 (fun e => e)).trans HK.out.2.2.2.1
  obtain ⟨a0, a1, a2, af⟩ := vthree_f bA
  have bA' := heap_set_same' (i := 1) bA (.slice p2 n2 c2)
  have hkS : Kp (fun q => q = w.heap.size) w2 (w2.setCell ⟨w.heap.size, 1, none⟩ (.slice p2 n2 c2)) := (Kp.refl (fun q => q = w.heap.size) w2).setCell _ _ (.inl rfl)
  have bB' := (hkS.block _ (Array.getElem?_eq_some_iff.1 bB).1 (by omega)).trans bB
  have hL3 := vListAt_kp hL2 hkS (fun q e e2 => by have h1 := e.1; have h2 := HK.out.2.2.2.2; omega)
  have hkw3 : Kp (fun q => q = w.heap.size) w1 (w2.setCell ⟨w.heap.size, 1, none⟩ (.slice p2 n2 c2)) := (hk2.mono fun _ _ e => e.elim).trans' hkS
  have hz3 : (w2.setCell ⟨w.heap.size, 1, none⟩ (.slice p2 n2 c2)).heap.size = w2.heap.size := by simp [World.setCell]
  have Hx := Lib.hid (And.intro bA' (And.intro bB' (And.intro hL3 (And.intro hkw3 (And.intro hz3 hk2.size)))))
  clear bA bB hL2 hk2 bA' bB' hkS hL3 hkw3 hz3 HC
  go_wp2_with fail
  obtain ⟨w3, hw3⟩ : ∃ w3, w2.setCell ⟨w.heap.size, 1, none⟩ (.slice p2 n2 c2) = w3 := ⟨_, rfl⟩
  rw [hw3]
  have HX := Hx.out
  rw [hw3] at HX
  have HX := Lib.hid HX
  clear hw3 Hx a0 a1 a2 af
  go_loopg [3, 4] funcs.length (fun gk ss jj wr => ∃ (j : Nat) (po : Option Addr) (c : Nat) (cls : List Value), j ≤ funcs.length ∧ gk = funcs.length - j ∧ ss = .slice po j c ∧ jj = .int .i64 j ∧ FSt w3 funcs j po j c cls wr)
  case atStart => exact ⟨0, none, 0, [], by omega, rfl, rfl, rfl, ⟨by simpa using FOwn.nil _ _, Kp.refl _ _⟩⟩
  case round =>
    obtain ⟨j, po, c, cls, hj, rfl, rfl, rfl, hS⟩ := hrel
    have bA := (hS.kp.block _ (Array.getElem?_eq_some_iff.1 HX.out.1).1 (fun e => e)).trans HX.out.1
    obtain ⟨a0, a1, a2, af⟩ := vthree_f bA
    by_cases hlt : j < funcs.length
    · obtain ⟨f, hf⟩ : ∃ t, funcs[j]? = some t := ⟨funcs[j], List.getElem?_eq_getElem hlt⟩
      obtain ⟨b, off, d0, d1, d2, d3, rfl, hFb, x0, x1, x2, x3, hp⟩ := HF.out.1 j f hf
      obtain ⟨fn, fa, fs, fc⟩ := f
      obtain ⟨vc, hc1, i1, i2, i3, hco⟩ := hp
      simp only [List.cons.injEq, and_true] at hc1
      obtain ⟨rfl, rfl, rfl, rfl⟩ := hc1
      obtain ⟨pc, cc, hvc, -⟩ := id hco
      simp only at i1 i2 i3 hco hvc
      subst hvc
      -- what is old is as it was
      have kcell : ∀ b i u, w.cell? ⟨b, i, none⟩ = some u → wr.cell? ⟨b, i, none⟩ = some u := fun b i u e => by
        have hb := World.block_lt_of_cell? _ _ e
        have h1 := HK.out.2.2.2.2
        have h2 := HX.out.2.2.2.2.2
        have h3 := HX.out.2.2.2.2.1
        simp only at hb
        rw [hS.kp.cell (by simp only; omega) (fun e => e), HX.out.2.2.2.1.cell (by simp only; omega) (by simp only; omega), HK.out.1.cell hb (fun e => e)]
        exact e
      replace x0 := kcell _ _ _ x0
      replace x1 := kcell _ _ _ x1
      replace x2 := kcell _ _ _ x2
      replace x3 := kcell _ _ _ x3
      have hli : (j : Int) < funcs.length := by omega
      have hcr : CodeAt (fun _ => True) wr fc (.slice pc fc.length cc) := hco.imp (fun _ _ => trivial) (fun b j u _ e => kcell b j u e)
      obtain ⟨wa, hwa⟩ : ∃ wa, wr.alloc (.cells #[.string fn, .int .i64 fa, .int .i64 fs, .slice pc fc.length cc] 32) = wa := ⟨_, rfl⟩
      have hka : Kp (fun _ => False) wr wa := by rw [← hwa]; exact (Kp.refl _ wr).alloc _
      have bF : wa.heap[wr.heap.size]? = some (.cells #[.string fn, .int .i64 fa, .int .i64 fs, .slice pc fc.length cc] 32 (0, 0)) := by rw [← hwa]; exact heap_alloc_new wr _
      have hza : wa.heap.size = wr.heap.size + 1 := by rw [← hwa]; simp
      obtain ⟨p3, c3, wb, hrun, hcb, hkb⟩ := vcode_copy (hcr.imp (G := fun _ => True) (fun _ e => e) (fun b j u _ e => keeps_cell hka e))
      have bF2 := (hkb.block _ (Array.getElem?_eq_some_iff.1 bF).1 (fun e => e)).trans bF
      obtain ⟨y0, y1, y2, y3, yf⟩ := vfour_facts bF2
      obtain ⟨wc, hwc⟩ : ∃ wc, wb.setCell ⟨wr.heap.size, 3, none⟩ (.slice p3 fc.length c3) = wc := ⟨_, rfl⟩
      have hkc : Kp (fun q => q = wr.heap.size) wb wc := by rw [← hwc]; exact (Kp.refl (fun q => q = wr.heap.size) wb).setCell _ _ (.inl rfl)
      have bF3 : wc.heap[wr.heap.size]? = some (.cells #[.string fn, .int .i64 fa, .int .i64 fs, .slice p3 fc.length c3] 32 (0, 0)) := by rw [← hwc]; exact heap_set_same' bF2 _
      have hcc := row_le (hkc.row hcb (fun g e e2 => by have := (hcb.lt g e).1; omega)) (show wr.heap.size ≤ wa.heap.size by omega)
      have hkrc : Kp (fun _ => False) wr wc := kp_fresh (hka.trans' hkb) (hkc.mono fun q _ e => .inr (by omega))
      have hzc : wc.heap.size = wb.heap.size := by rw [← hwc]; simp [World.setCell]
      have hwf : fnWf ⟨fn, fa, fs, fc⟩ := by
        obtain ⟨pc2, cc2, -, -, hle, hel⟩ := hco
        refine ⟨i1, i2, i3, hle, fun x hx => ?_⟩
        obtain ⟨i, hi, e⟩ := List.getElem_of_mem hx
        obtain ⟨_, _, _, _, _, _, _, _, hw⟩ := hel i x (by rw [List.getElem?_eq_getElem hi, e])
        exact hw
      obtain ⟨g, cap, w6, cls2, hrun2, hS2⟩ := fst_next (f := ⟨fn, fa, fs, fc⟩) hS hkrc hcc hwf hf HF.out.2.1
      simp only at hrun2
      obtain ⟨z0, z1, z2, z3, -⟩ := vfour_facts bF3
      rw [hzc] at hrun2
      have Hr := Lib.hid (And.intro hrun hrun2)
      have HW := Lib.hid (And.intro hwa hwc)
      have HS := Lib.hid hS2
      clear hrun hrun2 hwa hwc hzc hS2 hS bF bF2 bF3 hkb hka hkc hcb hcc hkrc hcr hco hf kcell hza bA i1 i2 i3
      rw [← HW.out.2] at z0 z1 z2 z3
      go_upto_block 1 with fail
      go_cut [3, 4] (fun s3 s4 wx => s4 = .int .i64 j ∧ ∃ g cap cls', s3 = .slice (some ⟨g, 0, none⟩) (j + 1) cap ∧ FSt w3 funcs (j + 1) (some ⟨g, 0, none⟩) (j + 1) cap cls' wx)
      case first =>
        go_wp2_with (at_builtin; first
          | (refine wpList_run rfl (.const (.slice none 0 0)) (.tmp 23) 30 rfl (.slice none 0 0) (.slice pc fc.length cc) rfl rfl _ _ (by rw [HW.out.1]; exact Hr.out.1) ?_)
          | (refine wpList_run rfl (.tmp 26) (.tmp 28) 24 rfl (.slice po j c) (.slice (some ⟨wb.heap.size, 0, none⟩) 1 1) rfl rfl _ _ (by rw [HW.out.2]; exact Hr.out.2) ?_))
        go_meet
        exact ⟨rfl, _, _, _, rfl, HS.out⟩
      case rest =>
        obtain ⟨rfl, g', cap', G', rfl, hS'⟩ := hcut
        have HE := Lib.hid (And.intro hS' (show j + 1 ≤ funcs.length from hlt))
        clear hS'
        go_wp2_with fail
        go_roundg (funcs.length - (j + 1))
        case measure => have := HE.out.2; omega
        case rel => exact ⟨j + 1, _, _, _, HE.out.2, rfl, rfl, by simp, HE.out.1⟩
    · obtain rfl : j = funcs.length := by omega
      have bB := (hS.kp.block _ (Array.getElem?_eq_some_iff.1 HX.out.2.1).1 (fun e => e)).trans HX.out.2.1
      have bA2 := heap_set_same' (i := 2) bA (.slice po funcs.length c)
      have hkS : Kp (fun q => q = w.heap.size) wr (wr.setCell ⟨w.heap.size, 2, none⟩ (.slice po funcs.length c)) := (Kp.refl (fun q => q = w.heap.size) wr).setCell _ _ (.inl rfl)
      have bB2 := (hkS.block _ (Array.getElem?_eq_some_iff.1 bB).1 (by omega)).trans bB
      obtain ⟨hr9, hk9⟩ := vthreeSet_any (c0 := .string name) (c1 := .slice p2 n2 c2) (c2 := .slice po funcs.length c) bB2
      obtain ⟨e0, e1, e2, ef⟩ := vthree_f bB
      have HS := Lib.hid (And.intro hS (And.intro hkS (And.intro hr9 hk9)))
      clear hS bA bA2 hkS bB bB2 hr9 hk9
      go_wp2_with fail
      clear e0 e1 e2 ef a0 a1 a2 af
      obtain ⟨hS, hkS, hr9, hk9⟩ := HS.out
      obtain ⟨w8, hw8⟩ : ∃ w8, wr.setCell ⟨w.heap.size, 2, none⟩ (.slice po funcs.length c) = w8 := ⟨_, rfl⟩
      rw [hw8] at hkS hr9 hk9 ⊢
      change bodyPost _ _ _ _ _ (vthreeSet w8 (w.heap.size + 1) (.string name) (.slice p2 n2 c2) (.slice po funcs.length c))
      obtain ⟨w9, hw9⟩ : ∃ w9, vthreeSet w8 (w.heap.size + 1) (.string name) (.slice p2 n2 c2) (.slice po funcs.length c) = w9 := ⟨_, rfl⟩
      rw [hw9] at hr9 hk9 ⊢
      obtain ⟨i0, i1, i2, -⟩ := vthree_f hr9
      have hk39 : Kp (fun q => q = w.heap.size ∨ q = w.heap.size + 1) wr w9 := (hkS.mono fun _ _ e => .inl e).trans' (hk9.mono fun _ _ e => .inr e)
      obtain ⟨-, -, hL3, hk13, hz3, hz12⟩ := HX.out
      obtain ⟨hk1, -, -, -, hz1⟩ := HK.out
      have hz39 := hk39.size
      have hzk := hS.kp.size
      have hL9 : ListAt (fun q => w.heap.size ≤ q ∧ q < w3.heap.size) w9 (TermAt (fun q => w.heap.size ≤ q ∧ q < w3.heap.size) w9 h) lits (.slice p2 n2 c2) :=
        ((vListAt_kp (vListAt_kp hL3 hS.kp fun _ _ e => e) hk39 fun q e e2 => by have := e.1; omega)).imp (fun q e => ⟨by have := e.1; omega, by have := e.2; omega⟩) (fun _ _ _ _ e => e) (fun t cs e => TermAt.imp (fun q e => ⟨by have := e.1; omega, by have := e.2; omega⟩) (fun _ _ _ _ e => e) _ t cs e)
      have hF9 := hS.own.kpB hk39 (fun q e => by omega)
      rw [List.take_length] at hF9
      obtain ⟨pL, cL, eL, -⟩ := id hL9
      simp only [Value.slice.injEq] at eL
      obtain ⟨rfl, rfl, rfl⟩ := eL
      refine bodyPost_ret (v := .agg #[.string name, .slice p2 lits.length c2, .slice po funcs.length c]) (by simp [results, Tryd.results15, go_sem, i0, i1, i2]) rfl ?_
      exact ⟨w3.heap.size, _, _, _, _, cls, rfl, by omega, by omega, hL9, hF9, kp_fresh (kp_fresh hk1 (kp_fresh (hk13.mono fun q _ e => .inr (by omega)) (hS.kp.mono fun q _ e => e.elim))) (hk39.mono fun q _ e => .inr (by omega))⟩
end Go.Proofs.YtpdepmkojbpklaaDoor

/- The table of the functions of bif: Name. (The table is variable 1 of the seat.) -/
namespace Go.Proofs.YtpdepmkojbpklaaDoor
open Go.RowKit

/-- the table in memory: a name and what is wanted, each a string; tab: how much is wanted -/
def LaidF (tab : Nat → Int) (w : World) : Prop := ∀ n : Nat, n < 40 → ∃ nm s : ByteArray, w.cell? ⟨1, n * 3, none⟩ = some (.string nm) ∧ w.cell? ⟨1, n * 3 + 2, none⟩ = some (.string s) ∧ tab n = s.size ∧ s.size ≤ maxLen
theorem LaidF.kp {tab : Nat → Int} {w w' : World} (h : LaidF tab w) (hk : Kp (fun _ => False) w w') : LaidF tab w' := fun n hn => by
  obtain ⟨nm, s, h1, h2, h3⟩ := h n hn
  exact ⟨nm, s, keeps_cell hk h1, keeps_cell hk h2, h3⟩
theorem LaidF.pos {tab : Nat → Int} {w : World} (h : LaidF tab w) (n : Nat) (hn : n < 40) : 0 ≤ tab n ∧ tab n ≤ 9223372036854775807 := by
  obtain ⟨nm, s, -, -, h3, h4⟩ := h n hn
  unfold maxLen at h4
  omega
set_option maxRecDepth 100000 in
set_option maxHeartbeats 4000000 in
theorem name_in {tab : Nat → Int} {w : World} (h : LaidF tab w) (n : Nat) (hn : n < 40) : Calls Tryd.prog 70 #[.int .i64 n] w fun e w' => ∃ nm : ByteArray, e = .returned (.tuple #[.string nm, .int .i64 (tab n), .bool true]) ∧ Kp (fun _ => False) w w' := by
  obtain ⟨nm, s, h1, h2, h3, h4⟩ := h n hn
  rw [h3]
  have hni : (n : Int) < 40 := by omega
  have hng : ¬ (40 : Int) ≤ n := by omega
  clear h
  go_enter Tryd.func70, Tryd.ntmps70
  go_wp2_with fail
  go_quiet (fail)
  go_wp2_with fail
  refine bodyPost_ret (v := .tuple #[.string nm, .int .i64 s.size, .bool true]) (by simp [results, Tryd.results70, go_sem]) rfl ?_
  exact ⟨nm, rfl, kp_drewN (Kp.refl _ w) _⟩
set_option maxRecDepth 100000 in
set_option maxHeartbeats 4000000 in
theorem name_out (n : Int) (hn : ¬ (0 ≤ n ∧ n < 40)) (w : World) : Calls Tryd.prog 70 #[.int .i64 n] w fun e w' => e = .returned (.tuple #[.string ⟨#[]⟩, .int .i64 0, .bool false]) ∧ w = w' := by
  have hor : n < 0 ∨ ¬ n < 0 ∧ 40 ≤ n := by omega
  rcases hor with h | ⟨h, h2⟩
  all_goals
    go_enter Tryd.func70, Tryd.ntmps70
    go_wp2_with fail
    refine bodyPost_ret (v := .tuple #[.string ⟨#[]⟩, .int .i64 0, .bool false]) (by simp [results, Tryd.results70, go_sem]) rfl ?_
    exact ⟨rfl, rfl⟩
/-- what is wrong with an operand that is to be such a thing -/
def vopA (nl nf nc : Nat) (sl what n : Int) : Option Int := if what = 5 then vrng n 0 39 12 else vop nl nf nc sl what n
set_option maxRecDepth 100000 in
set_option maxHeartbeats 4000000 in
theorem operandA {tab : Nat → Int} {w : World} {R : Nat} {pl : Option Addr} {nl cl : Nat} {pf : Option Addr} {nf cf : Nat} {sl : Int} {pc : Option Addr} {nc cc : Nat} (hF : LaidF tab w) (h : RdAt w R pl nl cl pf nf cf sl pc nc cc) (hnl : nl ≤ 100000) (hnf : nf ≤ 100000) (hnc : nc ≤ 100000) (hs0 : 0 ≤ sl) (hs1 : sl ≤ 32) (what n : Int) (hw1 : 0 ≤ what) (hw2 : what ≤ 9) :
    Calls Tryd.prog 61 #[.pointer (some ⟨R, 0, none⟩), .int .i64 what, .int .i64 n] w fun e w' => e = .returned (errv (vopA nl nf nc sl what n)) ∧ Kp (fun _ => False) w w' := by
  by_cases h5 : what = 5
  · subst h5
    by_cases hn : 0 ≤ n ∧ n < 40
    · obtain ⟨j, rfl⟩ : ∃ j : Nat, n = j := ⟨n.toNat, by omega⟩
      have hv : vopA nl nf nc sl 5 j = none := by simp only [vopA, if_true, vrng]; rw [if_pos (by omega)]
      rw [hv]
      have HN := Lib.hid (name_in hF j (by omega))
      clear hF h
      go_enter Tryd.func61, Tryd.ntmps61
      go_wp2_with fail
      refine HN.out.mono ?_
      rintro e w2 ⟨nm, rfl, hk2⟩
      have H2 := Lib.hid hk2
      clear hk2
      go_wp2_with fail
      go_ret
      exact ⟨rfl, H2.out⟩
    · have hv : vopA nl nf nc sl 5 n = some 12 := by simp only [vopA, if_true, vrng]; rw [if_neg (by omega)]
      rw [hv]
      have HN := Lib.hid (name_out n hn w)
      clear hF h
      go_enter Tryd.func61, Tryd.ntmps61
      go_wp2_with fail
      refine HN.out.mono ?_
      rintro e w2 ⟨rfl, rfl⟩
      go_wp2_with fail
      go_ret
      exact ⟨rfl, Kp.refl _ _⟩
  · have hv : vopA nl nf nc sl what n = vop nl nf nc sl what n := by simp only [vopA, if_neg h5]
    rw [hv]
    refine (operand_vet h hnl hnf hnc hs0 hs1 what n h5 hw1 hw2).mono ?_
    rintro e w' ⟨rfl, rfl⟩
    exact ⟨rfl, Kp.refl _ _⟩
def vregsA (tab : Nat → Int) (x : In4) (ar : Int) : Int × Int := if x.op = 12 then (x.c, tab x.a.toNat) else vregs x ar
set_option maxRecDepth 100000 in
set_option maxHeartbeats 4000000 in
theorem registersA {tab : Nat → Int} {w : World} {R : Nat} {pl : Option Addr} {nl cl : Nat} {pf : Option Addr} {nf cf : Nat} {sl : Int} {pc : Option Addr} {nc cc : Nat} (hF : LaidF tab w) (h : RdAt w R pl nl cl pf nf cf sl pc nc cc) (x : In4) (ar : Int) (h12 : x.op = 12 → 0 ≤ x.a ∧ x.a < 40)
    (hf : x.op = 16 → ∃ (k b off : Nat), x.b = k ∧ k < nf ∧ pf = some ⟨b, off, none⟩ ∧ w.cell? ⟨b, off + k * 4 + 1, none⟩ = some (.int .i64 ar)) :
    Calls Tryd.prog 62 #[.pointer (some ⟨R, 0, none⟩), .agg #[.int .i64 x.op, .int .i64 x.a, .int .i64 x.b, .int .i64 x.c]] w fun e w' => e = .returned (.tuple #[.int .i64 (vregsA tab x ar).1, .int .i64 (vregsA tab x ar).2]) ∧ Kp (fun _ => False) w w' := by
  by_cases ho : x.op = 12
  · obtain ⟨op, a, b, c⟩ := x
    simp only at h12 hf ho ⊢
    subst ho
    obtain ⟨j, rfl⟩ : ∃ j : Nat, a = j := ⟨a.toNat, by have := h12 rfl; omega⟩
    have hj : j < 40 := by have := h12 rfl; omega
    have hv : vregsA tab ⟨12, j, b, c⟩ ar = (c, tab j) := by simp [vregsA]
    rw [hv]
    obtain ⟨w1, hw1⟩ : ∃ w1, w.alloc (.cells #[.int .i64 12, .int .i64 j, .int .i64 b, .int .i64 c] 29) = w1 := ⟨_, rfl⟩
    have hk1 : Kp (fun _ => False) w w1 := by rw [← hw1]; exact (Kp.refl _ w).alloc _
    have hb : w1.heap[w.heap.size]? = some (.cells #[.int .i64 12, .int .i64 j, .int .i64 b, .int .i64 c] 29 (0, 0)) := by rw [← hw1]; exact heap_alloc_new w _
    obtain ⟨y0, y1, y2, y3, yf⟩ := vfour_facts hb
    have HN := Lib.hid (name_in (hF.kp hk1) j hj)
    have H := Lib.hid (And.intro hk1 hb)
    clear hF h h12 hf hk1 hb
    go_enter Tryd.func62, Tryd.ntmps62
    go_wp2_with fail
    refine HN.out.mono ?_
    rintro e w2 ⟨nm, rfl, hk2⟩
    have e3 := keeps_cell hk2 y3
    have H2 := Lib.hid hk2
    clear hk2 y0 y1 y2 y3 yf
    go_wp2_with fail
    go_ret2
    exact ⟨rfl, H.out.1.trans' H2.out⟩
  · have hv : vregsA tab x ar = vregs x ar := by simp only [vregsA, if_neg ho]
    rw [hv]
    exact registers_vet h x ar ho hf
end Go.Proofs.YtpdepmkojbpklaaDoor
