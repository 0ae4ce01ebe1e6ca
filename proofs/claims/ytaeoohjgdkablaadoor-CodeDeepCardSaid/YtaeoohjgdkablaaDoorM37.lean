/- troupelaw00.CopyModule. A slice of bytes that came in. A script of steps that came in: a slice of structs of six cells, each of which is one field (four numbers, a bool, bytes). -/
import Derived.Test.YtaeoohjgdkablaaDoorM04
import Derived.Test.YtaeoohjgdkablaaDoorM28
import Derived.Test.YtaeoohjgdkablaaDoorM35
import Derived.Test.YtaeoohjgdkablaaDoorM36
import Derived.OpenShut
import Derived.Deep.Slices
import Derived.Deep.Fields
import Derived.ChangeSame
import Derived.SizedLaws
/- troupelaw00.CopyModule. -/
namespace Go.Proofs.YtaeoohjgdkablaaDoor
open Go.RowKit

theorem ins_get : ∀ (l : List In4) (i : Nat) (x : In4) (k : Nat), l[i]? = some x → k < 4 → (insCells l)[i * 4 + k]? = [Value.int .i64 x.op, .int .i64 x.a, .int .i64 x.b, .int .i64 x.c][k]?
  | [], i, x, k, h, _ => by simp at h
  | y :: l, 0, x, k, h, hk => by
    have e : y = x := by simpa using h
    subst e
    have e5 : insCells (y :: l) = [Value.int .i64 y.op, .int .i64 y.a, .int .i64 y.b, .int .i64 y.c] ++ insCells l := rfl
    rw [e5, Nat.zero_mul, Nat.zero_add, List.getElem?_append_left (by simpa using hk)]
  | y :: l, i + 1, x, k, h, hk => by
    have h4 := ins_get l i x k (by simpa using h) hk
    have e5 : insCells (y :: l) = [Value.int .i64 y.op, .int .i64 y.a, .int .i64 y.b, .int .i64 y.c] ++ insCells l := rfl
    have e6 : (i + 1) * 4 + k - [Value.int .i64 y.op, .int .i64 y.a, .int .i64 y.b, .int .i64 y.c].length = i * 4 + k := by
      simp only [List.length_cons, List.length_nil]; omega
    rw [e5, List.getElem?_append_right (by simp only [List.length_cons, List.length_nil]; omega), e6, h4]
/-- instructions are put behind nothing -/
theorem code_copy {F : Nat → Prop} {w : World} {l : List In4} {v : Value} (h : CodeAt F w l v) :
    ∃ po n c w', (Builtin.append_ #[28, 28] 28 #[.slice none 0 0, v]).run Tryd.prog w = .ok (.slice po n c) w' ∧ CodeAt (Own w.heap.size w') w' l (.slice po n c) ∧ Kp (fun _ => False) w w' := by
  obtain ⟨po, cap, rfl, h1, h2, h3⟩ := h
  obtain ⟨i0, hi, hz0, hz1, hz2⟩ := info_parts Tryd.infoIns
  by_cases hl : l = []
  · subst hl
    exact ⟨none, 0, 0, w, run_append_empty _ _ _ i0 Tryd.underlying28 hi po cap w, ⟨none, 0, rfl, by simp, by simp, fun i x hi => by simp at hi⟩, Kp.refl _ w⟩
  · have hpos := List.length_pos_iff.2 hl
    obtain ⟨b, off, rfl, -⟩ := h3 0 l[0] (List.getElem?_eq_getElem hpos)
    obtain ⟨g, cap', w', e1, e2, e3, e4, e5⟩ := run_append_lies (P := Tryd.prog) (w := w) _ 28 w.heap.size 27 i0 (.agg #[.int .i64 0, .int .i64 0, .int .i64 0, .int .i64 0]) 4 32 Tryd.underlying28 hi hz0 hz1 hz2 rfl (by omega) (.slice none 0 0) 0 [] (World.ownsRow_nil _ _ _ _) ⟨b, off, none⟩ l.length cap (insCells l) (insCells_len l)
      (fun j u hj => by
        have hjl := (List.getElem?_eq_some_iff.1 hj).1
        rw [insCells_len] at hjl
        obtain ⟨x, hx⟩ : ∃ x, l[j / 4]? = some x := ⟨l[j / 4], List.getElem?_eq_getElem (by omega)⟩
        obtain ⟨b', off', e, -, d0, d1, d2, d3, -⟩ := h3 (j / 4) x hx
        have e := Option.some.inj e
        obtain rfl : b = b' := congrArg Addr.block e
        obtain rfl : off = off' := congrArg Addr.off e
        have hc : (insCells l)[j]? = [Value.int .i64 x.op, .int .i64 x.a, .int .i64 x.b, .int .i64 x.c][j % 4]? := by
          have e6 := ins_get l (j / 4) x (j % 4) hx (by omega)
          rw [show j / 4 * 4 + j % 4 = j by omega] at e6
          exact e6
        rw [hc] at hj
        have had : (⟨b, off, none⟩ : Addr).add j = ⟨b, off + j / 4 * 4 + j % 4, none⟩ := by
          rw [show off + j / 4 * 4 + j % 4 = off + j by omega]
          simp [Addr.add]
        rw [had]
        have h4 : j % 4 = 0 ∨ j % 4 = 1 ∨ j % 4 = 2 ∨ j % 4 = 3 := by omega
        rcases h4 with h4 | h4 | h4 | h4 <;> rw [h4] at hj ⊢ <;> simp at hj <;> subst hj <;> assumption)
      (by intro u hu; simp only [insCells, List.mem_flatMap] at hu; obtain ⟨x, _, hu⟩ := hu; simp at hu; rcases hu with rfl | rfl | rfl | rfl <;> rfl) hpos (by unfold maxLen; omega) (by omega) (Nat.le_refl _) w.heap.size rfl
    rw [Nat.zero_add] at e1 e2
    rw [List.nil_append] at e2
    have hk : Kp (fun _ => False) w w' := (Kp.refl _ w).grown e3 (fun q hq => by cases hq)
    exact ⟨_, _, _, w', e1, insCells_at e2 h2 fun x hx => by
      obtain ⟨i, hi, rfl⟩ := List.getElem_of_mem hx
      obtain ⟨_, _, _, _, _, _, _, _, hw⟩ := h3 i _ (List.getElem?_eq_getElem hi)
      exact hw, hk⟩

structure FsAt (w2 : World) (W0 : Nat) (funcs : List Fn4) (j : Nat) (po : Option Addr) (n c : Nat) (G : Nat → Prop) (wx : World) : Prop where
  row : FRowAt W0 G wx (.slice po n c) (funcs.take j)
  ap : ∀ g, (Value.slice po n c).ownBlock = some g → ¬ G g
  lo : ∀ x, G x → W0 ≤ x ∧ x < wx.heap.size
  w0 : W0 ≤ wx.heap.size
  kp : Kp (fun _ => False) w2 wx
theorem FsAt.lt {w2 wx : World} {W0 : Nat} {funcs : List Fn4} {j : Nat} {po : Option Addr} {n c : Nat} {G : Nat → Prop} (hS : FsAt w2 W0 funcs j po n c G wx) (g : Nat) (e : (Value.slice po n c).ownBlock = some g) : W0 ≤ g ∧ g < wx.heap.size := by
  obtain ⟨xs, ho, _⟩ := hS.row
  exact ho.lt g e
theorem fs_next {w2 wr w5 : World} {W0 : Nat} {funcs : List Fn4} {j : Nat} {po : Option Addr} {n c : Nat} {G : Nat → Prop} (hS : FsAt w2 W0 funcs j po n c G wr) (hk5 : Kp (fun _ => False) wr w5) (hW : w2.heap.size ≤ W0) {f : Fn4} {p4 : Option Addr} {n4 c4 : Nat}
    (hT : FnAt (Own wr.heap.size w5) w5 f [.string f.name, .int .i64 f.args, .int .i64 f.slots, .slice p4 n4 c4]) (hj : funcs[j]? = some f) (hlen : funcs.length * 56 ≤ 140737488351232) :
    ∃ g cap w6, (Builtin.append_ #[31, 31] 31 #[.slice po n c, .slice (some ⟨w5.heap.size, 0, none⟩) 1 1]).run Tryd.prog (w5.alloc (.cells #[.string f.name, .int .i64 f.args, .int .i64 f.slots, .slice p4 n4 c4] 30)) = .ok (.slice (some ⟨g, 0, none⟩) (j + 1) cap) w6 ∧
      FsAt w2 W0 funcs (j + 1) (some ⟨g, 0, none⟩) (j + 1) cap (fun x => G x ∨ Own wr.heap.size w5 x) w6 := by
  have hjl := (List.getElem?_eq_some_iff.1 hj).1
  have hlj : (funcs.take j).length = j := by rw [List.length_take]; omega
  have hz5 := hk5.size
  have hw0 := hS.w0
  have hrow : FRowAt W0 (fun x => G x ∨ Own wr.heap.size w5 x) w5 (.slice po n c) (funcs.take j) := (hS.row.kp hk5 (fun g e e2 => e2) (fun x e e2 => e2)).le (fun _ e => .inl e)
  have hT' := FnAt.imp hT (G := fun x => G x ∨ Own wr.heap.size w5 x) (fun _ e => .inr e) (fun _ _ _ _ e => e)
  obtain ⟨g, cap, w6, h1, h2, h3, h4⟩ := fn_row hrow hT' (by omega) (by omega) (fun g e e2 => by
    rcases e2 with e2 | e2
    · exact hS.ap g e e2
    · have := (hS.lt g e).2; have := e2.1; omega)
  have hz6 := h3.size
  rw [hlj] at h1 h2
  refine ⟨g, cap, w6, h1, ?_, fun g' e e2 => ?_, fun x e => ?_, by omega, kp_new (hS.kp.trans' hk5) (h3.mono fun x _ e => .inr (by have := (hS.lt _ e).1; omega))⟩
  · rw [take_snoc hj]
    exact h2
  · have e := Option.some.inj e
    simp only at e
    subst e
    rcases e2 with e2 | e2
    · rcases h4 with h4 | h4
      · exact hS.ap g h4 e2
      · have := (hS.lo g e2).2; omega
    · rcases h4 with h4 | h4
      · have := (hS.lt g h4).2; have := e2.1; omega
      · have := e2.2; omega
  · rcases e with e | e
    · have := hS.lo x e; omega
    · have e1 := e.1; have e2 := e.2; omega
set_option maxRecDepth 100000 in
set_option maxHeartbeats 4000000 in
theorem copyModule_any {F : Nat → Prop} {w : World} {h : Nat} {m : Md} {cs : List Value} (hm : MdAt F w h m cs) :
    Calls Tryd.prog 14 #[.agg cs.toArray] w fun e w' => ∃ po n c po2 n2 c2, e = .returned (.agg #[.string m.name, .slice po n c, .slice po2 n2 c2]) ∧ MdAt (Own w.heap.size w') w' h m [.string m.name, .slice po n c, .slice po2 n2 c2] ∧ Kp (fun _ => False) w w' := by
  obtain ⟨name, lits, funcs⟩ := m
  obtain ⟨vl, vf, rfl, hn, li, fn⟩ := hm
  simp only at hn li fn ⊢
  obtain ⟨pl, nl, cl, rfl⟩ := li.form
  obtain ⟨pf, cf, rfl, k1, k2, ff⟩ := fn
  obtain ⟨w1, hw1⟩ : ∃ w1, (w.alloc (.cells #[.string name, .slice pl nl cl, .slice pf funcs.length cf] 33)).alloc (.cells #[.string ⟨#[]⟩, .slice none 0 0, .slice none 0 0] 33) = w1 := ⟨_, rfl⟩
  have hk1 : Kp (fun _ => False) w w1 := by rw [← hw1]; exact ((Kp.refl _ w).alloc _).alloc _
  have hz1 : w1.heap.size = w.heap.size + 2 := by rw [← hw1]; simp
  have bA : w1.heap[w.heap.size]? = some (.cells #[.string name, .slice pl nl cl, .slice pf funcs.length cf] 33 (0, 0)) := by
    rw [← hw1, Below.heap_alloc _ _ _ (by simp)]; exact heap_alloc_new w _
  have bB : w1.heap[w.heap.size + 1]? = some (.cells #[.string ⟨#[]⟩, .slice none 0 0, .slice none 0 0] 33 (0, 0)) := by
    rw [← hw1]
    have := heap_alloc_new (w.alloc (.cells #[.string name, .slice pl nl cl, .slice pf funcs.length cf] 33)) (.cells #[.string ⟨#[]⟩, .slice none 0 0, .slice none 0 0] 33)
    simpa using this
  have HC := copyAllB_of (copyB_any h) (li.kp hk1 fun _ _ e => e)
  rw [← hw1] at HC
  have HC := Lib.hid HC
  have HK := Lib.hid (And.intro hk1 (And.intro hw1 (And.intro bA (And.intro bB hz1))))
  have HF := Lib.hid (And.intro ff (And.intro k2 hn))
  clear hk1 hw1 bA bB li ff k1 hn hz1
  go_enter Tryd.func14, Tryd.ntmps14
  go_wp2_with fail
  refine HC.out.mono ?_
  rintro e w2 ⟨v2, rfl, hL2, hk2⟩
  rw [HK.out.2.1] at hL2 hk2
  obtain ⟨p2, n2, c2, rfl⟩ := hL2.form
  have bA := (hk2.block _ (Array.getElem?_eq_some_iff.1 HK.out.2.2.1).1 (fun e => e)).trans HK.out.2.2.1
  have bB := (hk2.block _ (Array.getElem?_eq_some_iff.1 HK.out.2.2.2.1).1 (fun e => e)).trans HK.out.2.2.2.1
  obtain ⟨a0, a1, a2, af⟩ := three_facts bA
  have bA' := heap_set_same (i := 1) bA (.slice p2 n2 c2)
  have hkS : Kp (fun q => q = w.heap.size) w2 (w2.setCell ⟨w.heap.size, 1, none⟩ (.slice p2 n2 c2)) := (Kp.refl (fun q => q = w.heap.size) w2).setCell _ _ (.inl rfl)
  have bB' := (hkS.block _ (Array.getElem?_eq_some_iff.1 bB).1 (by omega)).trans bB
  have hL3 := ListAt.kp hL2 hkS (fun q e e2 => by have h1 := e.1; have h2 := HK.out.2.2.2.2; omega)
  have hkw3 : Kp (fun q => q = w.heap.size) w1 (w2.setCell ⟨w.heap.size, 1, none⟩ (.slice p2 n2 c2)) := (hk2.mono fun _ _ e => e.elim).trans' hkS
  have hz3 : (w2.setCell ⟨w.heap.size, 1, none⟩ (.slice p2 n2 c2)).heap.size = w2.heap.size := by simp [World.setCell]
  have Hx := Lib.hid (And.intro bA' (And.intro bB' (And.intro hL3 (And.intro hkw3 (And.intro hz3 hk2.size)))))
  clear bA bB hL2 hk2 bA' bB' hkS hL3 hkw3 hz3 HC
  go_wp2_with fail
  obtain ⟨w3, hw3⟩ : ∃ w3, w2.setCell ⟨w.heap.size, 1, none⟩ (.slice p2 n2 c2) = w3 := ⟨_, rfl⟩
  rw [hw3]
  have HX := Hx.out
  rw [hw3] at HX
  have HX := Lib.hid HX
  clear hw3 Hx a0 a1 a2 af
  go_loopg [3, 4] funcs.length (fun gk ss jj wr => ∃ (j : Nat) (po : Option Addr) (n c : Nat) (G : Nat → Prop), j ≤ funcs.length ∧ gk = funcs.length - j ∧ ss = .slice po n c ∧ jj = .int .i64 j ∧ FsAt w3 w3.heap.size funcs j po n c G wr)
  case atStart => exact ⟨0, none, 0, 0, fun _ => False, by omega, rfl, rfl, rfl, ⟨⟨[], by simpa using World.ownsRow_nil _ _ _ _, fun i t hi => by simp at hi⟩, fun _ _ e => e, fun _ e => e.elim, Nat.le_refl _, Kp.refl _ _⟩⟩
  case round =>
    obtain ⟨j, po, n, c, G, hj, rfl, rfl, rfl, hS⟩ := hrel
    have bA := (hS.kp.block _ (Array.getElem?_eq_some_iff.1 HX.out.1).1 (fun e => e)).trans HX.out.1
    obtain ⟨a0, a1, a2, af⟩ := three_facts bA
    by_cases hlt : j < funcs.length
    · obtain ⟨f, hf⟩ : ∃ t, funcs[j]? = some t := ⟨funcs[j], List.getElem?_eq_getElem hlt⟩
      obtain ⟨b, off, d0, d1, d2, d3, rfl, hFb, x0, x1, x2, x3, hp⟩ := HF.out.1 j f hf
      obtain ⟨fn, fa, fs, fc⟩ := f
      obtain ⟨vc, hc1, i1, i2, i3, hco⟩ := hp
      simp only [List.cons.injEq, and_true] at hc1
      obtain ⟨rfl, rfl, rfl, rfl⟩ := hc1
      obtain ⟨pc, cc, hvc, -⟩ := id hco
      simp only at i1 i2 i3 hco hvc
      subst hvc
      -- what is old is as it was
      have kcell : ∀ b i u, w.cell? ⟨b, i, none⟩ = some u → wr.cell? ⟨b, i, none⟩ = some u := fun b i u e => by
        have hb := World.block_lt_of_cell? _ _ e
        have h1 := HK.out.2.2.2.2
        have h2 := HX.out.2.2.2.2.2
        have h3 := HX.out.2.2.2.2.1
        simp only at hb
        rw [hS.kp.cell (by simp only; omega) (fun e => e), HX.out.2.2.2.1.cell (by simp only; omega) (by simp only; omega), HK.out.1.cell hb (fun e => e)]
        exact e
      replace x0 := kcell _ _ _ x0
      replace x1 := kcell _ _ _ x1
      replace x2 := kcell _ _ _ x2
      replace x3 := kcell _ _ _ x3
      have hli : (j : Int) < funcs.length := by omega
      have hcr : CodeAt (fun _ => True) wr fc (.slice pc fc.length cc) := hco.imp (fun _ _ => trivial) (fun b j u _ e => kcell b j u e)
      obtain ⟨wa, hwa⟩ : ∃ wa, wr.alloc (.cells #[.string fn, .int .i64 fa, .int .i64 fs, .slice pc fc.length cc] 30) = wa := ⟨_, rfl⟩
      have hka : Kp (fun _ => False) wr wa := by rw [← hwa]; exact (Kp.refl _ wr).alloc _
      have bF : wa.heap[wr.heap.size]? = some (.cells #[.string fn, .int .i64 fa, .int .i64 fs, .slice pc fc.length cc] 30 (0, 0)) := by rw [← hwa]; exact heap_alloc_new wr _
      have hza : wa.heap.size = wr.heap.size + 1 := by rw [← hwa]; simp
      obtain ⟨p3, n3, c3, wb, hrun, hcb, hkb⟩ := code_copy (hcr.imp (G := fun _ => True) (fun _ e => e) (fun b j u _ e => cells_kp hka (F := fun _ => True) (fun _ _ e => e) b j u trivial e))
      have bF2 := (hkb.block _ (Array.getElem?_eq_some_iff.1 bF).1 (fun e => e)).trans bF
      obtain ⟨y0, y1, y2, y3, yf⟩ := four_facts bF2
      obtain ⟨wc, hwc⟩ : ∃ wc, wb.setCell ⟨wr.heap.size, 3, none⟩ (.slice p3 n3 c3) = wc := ⟨_, rfl⟩
      have hkc : Kp (fun q => q = wr.heap.size) wb wc := by rw [← hwc]; exact (Kp.refl (fun q => q = wr.heap.size) wb).setCell _ _ (.inl rfl)
      have bF3 : wc.heap[wr.heap.size]? = some (.cells #[.string fn, .int .i64 fa, .int .i64 fs, .slice p3 n3 c3] 30 (0, 0)) := by rw [← hwc]; exact heap_set_same bF2 _
      have hcc : CodeAt (Own wr.heap.size wc) wc fc (.slice p3 n3 c3) := hcb.imp (fun q e => ⟨by have := e.1; omega, Nat.lt_of_lt_of_le e.2 hkc.size⟩) (cells_kp hkc fun q e e2 => by have := e.1; omega)
      have hkrc : Kp (fun _ => False) wr wc := kp_new (hka.trans' hkb) (hkc.mono fun q _ e => .inr (by omega))
      have hzc : wc.heap.size = wb.heap.size := by rw [← hwc]; simp [World.setCell]
      obtain ⟨g, cap, w6, hrun2, hS2⟩ := fs_next (f := ⟨fn, fa, fs, fc⟩) hS hkrc (Nat.le_refl _) ⟨_, rfl, i1, i2, i3, hcc⟩ hf HF.out.2.1
      obtain ⟨z0, z1, z2, z3, -⟩ := four_facts bF3
      rw [hzc] at hrun2
      have Hr := Lib.hid (And.intro hrun hrun2)
      have HW := Lib.hid (And.intro hwa hwc)
      have HS := Lib.hid hS2
      clear hrun hrun2 hwa hwc hzc hS2 hS bF bF2 bF3 hkb hka hkc hcb hcc hkrc hcr hco hf kcell hza bA i1 i2 i3
      rw [← HW.out.2] at z0 z1 z2 z3
      go_upto_block 1 with fail
      go_cut [3, 4] (fun s3 s4 wx => s4 = .int .i64 j ∧ ∃ g cap G', s3 = .slice (some ⟨g, 0, none⟩) (j + 1) cap ∧ FsAt w3 w3.heap.size funcs (j + 1) (some ⟨g, 0, none⟩) (j + 1) cap G' wx)
      case first =>
        go_wp2_with (at_builtin; first
          | (refine wpList_run rfl (.const (.slice none 0 0)) (.tmp 23) 28 rfl (.slice none 0 0) (.slice pc fc.length cc) rfl rfl _ _ (by rw [HW.out.1]; exact Hr.out.1) ?_)
          | (refine wpList_run rfl (.tmp 26) (.tmp 28) 31 rfl (.slice po n c) (.slice (some ⟨wb.heap.size, 0, none⟩) 1 1) rfl rfl _ _ (by rw [HW.out.2]; exact Hr.out.2) ?_))
        go_meet
        exact ⟨rfl, _, _, _, rfl, HS.out⟩
      case rest =>
        obtain ⟨rfl, g', cap', G', rfl, hS'⟩ := hcut
        have HE := Lib.hid (And.intro hS' (show j + 1 ≤ funcs.length from hlt))
        clear hS'
        go_wp2_with fail
        go_roundg (funcs.length - (j + 1))
        case measure => have := HE.out.2; omega
        case rel => exact ⟨j + 1, _, _, _, _, HE.out.2, rfl, rfl, by simp, HE.out.1⟩
    · obtain rfl : j = funcs.length := by omega
      have bB := (hS.kp.block _ (Array.getElem?_eq_some_iff.1 HX.out.2.1).1 (fun e => e)).trans HX.out.2.1
      have bA2 := heap_set_same (i := 2) bA (.slice po n c)
      have hkS : Kp (fun q => q = w.heap.size) wr (wr.setCell ⟨w.heap.size, 2, none⟩ (.slice po n c)) := (Kp.refl (fun q => q = w.heap.size) wr).setCell _ _ (.inl rfl)
      have bB2 := (hkS.block _ (Array.getElem?_eq_some_iff.1 bB).1 (by omega)).trans bB
      obtain ⟨hr9, hk9⟩ := threeSet_any (c0 := .string name) (c1 := .slice p2 n2 c2) (c2 := .slice po n c) bB2
      obtain ⟨e0, e1, e2, ef⟩ := three_facts bB
      have HS := Lib.hid (And.intro hS (And.intro hkS (And.intro hr9 hk9)))
      clear hS bA bA2 hkS bB bB2 hr9 hk9
      go_wp2_with fail
      clear e0 e1 e2 ef a0 a1 a2 af
      obtain ⟨hS, hkS, hr9, hk9⟩ := HS.out
      obtain ⟨w8, hw8⟩ : ∃ w8, wr.setCell ⟨w.heap.size, 2, none⟩ (.slice po n c) = w8 := ⟨_, rfl⟩
      rw [hw8] at hkS hr9 hk9 ⊢
      change bodyPost _ _ _ _ _ (threeSet w8 (w.heap.size + 1) (.string name) (.slice p2 n2 c2) (.slice po n c))
      obtain ⟨w9, hw9⟩ : ∃ w9, threeSet w8 (w.heap.size + 1) (.string name) (.slice p2 n2 c2) (.slice po n c) = w9 := ⟨_, rfl⟩
      rw [hw9] at hr9 hk9 ⊢
      obtain ⟨i0, i1, i2, -⟩ := three_facts hr9
      have hk39 : Kp (fun q => q = w.heap.size ∨ q = w.heap.size + 1) wr w9 := (hkS.mono fun _ _ e => .inl e).trans' (hk9.mono fun _ _ e => .inr e)
      obtain ⟨-, -, hL3, hk13, hz3, hz12⟩ := HX.out
      obtain ⟨hk1, -, -, -, hz1⟩ := HK.out
      have hz39 := hk39.size
      have hzk := hS.kp.size
      have hL9 : ListAt (Own w.heap.size w9) w9 (TermAt (Own w.heap.size w9) w9 h) lits (.slice p2 n2 c2) :=
        ((hL3.kp hS.kp fun _ _ e => e).kp hk39 fun q e e2 => by have := e.1; omega).imp (fun q e => ⟨by have := e.1; omega, by have := e.2; omega⟩) (fun _ _ _ _ e => e) (fun t cs e => TermAt.imp (fun q e => ⟨by have := e.1; omega, by have := e.2; omega⟩) (fun _ _ _ _ e => e) _ t cs e)
      have hrow := hS.row.kp hk39 (fun g e e2 => by have := (hS.lt g e).1; omega) (fun q e e2 => by have := (hS.lo q e).1; omega)
      rw [List.take_length] at hrow
      have hF9 : FnsAt (Own w.heap.size w9) w9 funcs (.slice po n c) := hrow.fns HF.out.2.1 (fun q e => by have := hS.lo q e; exact ⟨by omega, by omega⟩) (fun g e => by have := hS.lt g e; exact ⟨by omega, by omega⟩)
      refine bodyPost_ret (v := .agg #[.string name, .slice p2 n2 c2, .slice po n c]) (by simp [results, Tryd.results14, go_sem, i0, i1, i2]) rfl ?_
      exact ⟨_, _, _, _, _, _, rfl, ⟨_, _, rfl, HF.out.2.2, hL9, hF9⟩, kp_new (kp_new hk1 (kp_new (hk13.mono fun q _ e => .inr (by omega)) (hS.kp.mono fun q _ e => e.elim))) (hk39.mono fun q _ e => .inr (by omega))⟩
end Go.Proofs.YtaeoohjgdkablaaDoor

/- A slice of bytes that came in. -/
namespace Go.Proofs.YtaeoohjgdkablaaDoor
open Go.RowKit

def BIn (w : World) (a : Option Addr) (len cap : Nat) (f : Nat → UInt8) : Prop :=
  len ≤ cap ∧ cap ≤ 9223372036854775807 ∧ ∀ k, k < len → ∃ b off, a = some ⟨b, off, none⟩ ∧ b < w.heap.size ∧ w.cell? ⟨b, off + k, none⟩ = some (.int .u8 (f k).toNat)

/-- the first m of them -/
def bl (f : Nat → UInt8) (m : Nat) : List UInt8 := (List.range m).map f
theorem bl_len (f : Nat → UInt8) (m : Nat) : (bl f m).length = m := by simp [bl]
theorem bl_get {f : Nat → UInt8} {m i : Nat} {c : UInt8} (h : (bl f m)[i]? = some c) : i < m ∧ c = f i := by
  have hl := (List.getElem?_eq_some_iff.1 h).1
  rw [bl_len] at hl
  refine ⟨hl, ?_⟩
  simp [bl, hl] at h
  exact h.symm

theorem bIn_of {w : World} {x : Addr} {len cap : Nat} {zs : List Int} (h1 : len ≤ cap) (h2 : cap ≤ maxLen) (h3 : len ≤ zs.length) (h4 : ∀ i, i < zs.length → w.cell? (x.add i) = some (.int .u8 (zs.getD i 0))) (h5 : ∀ n ∈ zs, (Lit.int .u8 n).wf = true) :
    BIn w (some x) len cap (fun k => UInt8.ofNat (zs.getD k 0).toNat) := by
  refine ⟨h1, by unfold maxLen at h2; omega, fun k hk => ?_⟩
  obtain ⟨b, off, rfl, hc⟩ := ints_at h4 (by omega)
  have hk' := hc k (by omega)
  refine ⟨b, off, rfl, World.block_lt_of_cell? _ _ hk', ?_⟩
  have hm : zs.getD k 0 ∈ zs := by
    have : k < zs.length := by omega
    rw [List.getD_eq_getElem?_getD, List.getElem?_eq_getElem this]
    exact List.getElem_mem this
  have hw := h5 _ hm
  obtain ⟨z, hz⟩ : ∃ z, zs.getD k 0 = z := ⟨_, rfl⟩
  show _ = some (Value.int .u8 (UInt8.ofNat (zs.getD k 0).toNat).toNat)
  rw [hz] at hk' hw ⊢
  have hb := bounds_u8 hw
  rw [hk']
  congr 2
  rw [UInt8.toNat_ofNat']
  omega

theorem BIn.at' {w : World} {a : Option Addr} {len cap : Nat} {f : Nat → UInt8} (h : BIn w a len cap f) {m c : Nat} (hm : m ≤ len) (hM : m ≤ 140737488351232) (hc : m ≤ c) : BytesAt (fun q => q < w.heap.size) w (bl f m) (.slice a m c) := by
  refine ⟨a, c, by rw [bl_len], by rw [bl_len]; exact hc, by rw [bl_len]; exact hM, fun i x hi => ?_⟩
  obtain ⟨him, rfl⟩ := bl_get hi
  obtain ⟨b, off, h1, h2, h3⟩ := h.2.2 i (by omega)
  exact ⟨b, off, h1, h2, h3⟩
theorem bIn_nil (w : World) (f : Nat → UInt8) : BIn w none 0 0 f := ⟨by omega, by omega, fun k hk => by omega⟩
end Go.Proofs.YtaeoohjgdkablaaDoor

/- A script of steps that came in: a slice of structs of six cells, each of which is one field (four numbers, a bool, bytes). -/
namespace Go.Proofs.YtaeoohjgdkablaaDoor
open Go.ChangeShapes Go.WideShapes Go.Deep Go.RowKit

/-- one step: its six cells from (b, off) on -/
def OpAt (w : World) (b off : Nat) : Prop :=
  ∃ (k h x y : Int) (raw : Bool) (po : Option Addr) (len cap : Nat) (f : Nat → UInt8),
    ((Lit.int .i64 k).wf = true ∧ (Lit.int .i64 h).wf = true ∧ (Lit.int .i64 x).wf = true ∧ (Lit.int .i64 y).wf = true) ∧
    w.cell? ⟨b, off, none⟩ = some (.int .i64 k) ∧ w.cell? ⟨b, off + 1, none⟩ = some (.int .i64 h) ∧
    w.cell? ⟨b, off + 2, none⟩ = some (.int .i64 x) ∧ w.cell? ⟨b, off + 3, none⟩ = some (.int .i64 y) ∧
    w.cell? ⟨b, off + 4, none⟩ = some (.bool raw) ∧ w.cell? ⟨b, off + 5, none⟩ = some (.slice po len cap) ∧ BIn w po len cap f ∧ len ≤ 140737488351232

/-- a slice of steps -/
def OpsIn (w : World) (a : Option Addr) (len cap : Nat) : Prop :=
  len ≤ cap ∧ cap ≤ maxLen ∧ len * 64 ≤ 140737488351232 ∧ ∀ i, i < len → ∃ b off, a = some ⟨b, off, none⟩ ∧ b < w.heap.size ∧ OpAt w b (off + i * 6)

section
variable {H : Type} {enc : TypeId × Value → H} {P : Program} {w : World} {base : Nat} {spare : Nat → Bool} {held : Bool}
theorem all_mem {e : TypeId} : ∀ {l : List (DataW H)} {d : DataW H}, d ∈ l → ∀ n ∈ d.weights P e, n ∈ DataW.weightsAll P e l
  | c :: l, d, hd, n, hn => by
    rw [DataW.weightsAll, List.mem_append]
    rcases List.mem_cons.1 hd with rfl | hd
    · exact .inl hn
    · exact .inr (all_mem hd n hn)

theorem opened_bytes {t e : TypeId} {fuel : Nat} {v : Value} {y : DataW H × List MemPlace} (ht : P.underlying t = some (.slice e)) (he : P.underlying e = some (.int .u8)) (hc : P.cellsOf e = 1) (hb : P.bytesOf e = 1)
    (hs : ∀ n ∈ y.1.weights P t, n ≤ reachBytes)
    (h : DataW.trod enc P w base spare held fuel t [v] = some y) : ∃ po len cap f, v = .slice po len cap ∧ BIn w po len cap f ∧ len ≤ 140737488351232 := by
  rcases open_ints ht he hc h with ⟨h1, _⟩ | ⟨a, len, cap, zs, h1, _, h3, h4, h5, hy, h6, h7⟩
  · injection h1 with h1
    exact ⟨none, 0, 0, fun _ => 0, h1, bIn_nil w _, by omega⟩
  · injection h1 with h1
    have hle : len ≤ zs.length := by rw [h5]; split <;> omega
    refine ⟨some a, len, cap, _, h1, bIn_of h3 h4 hle h6 h7, ?_⟩
    subst hy
    have := hs (((lits (H := H) .u8 (zs.take len)).length + (lits (H := H) .u8 (zs.drop len)).length) * P.bytesOf e) (by simp [DataW.weights, ht])
    rw [hb] at this
    have e1 : (lits (H := H) .u8 (zs.take len)).length = len := by simp [lits]; omega
    unfold reachBytes at this
    omega

theorem opened_ops {t e eu : TypeId} {f0 f1 f2 f3 f4 f5 : Field} {fuel : Nat} {cs : List Value} {x : DataW H × List MemPlace} (ht : P.underlying t = some (.slice e)) (he : P.underlying e = some (.struct #[f0, f1, f2, f3, f4, f5]))
    (hone : oneCellFields P #[f0, f1, f2, f3, f4, f5] = true) (hC : P.cellsOf e = 6)
    (u0 : P.underlying f0.type = some (.int .i64)) (u1 : P.underlying f1.type = some (.int .i64)) (u2 : P.underlying f2.type = some (.int .i64)) (u3 : P.underlying f3.type = some (.int .i64))
    (u4 : P.underlying f4.type = some .bool) (u5 : P.underlying f5.type = some (.slice eu)) (hu : P.underlying eu = some (.int .u8)) (huc : P.cellsOf eu = 1) (hbe : P.bytesOf e = 64) (hbu : P.bytesOf eu = 1) (hs : ∀ n ∈ x.1.weights P t, n ≤ reachBytes)
    (h : DataW.trod enc P w base spare held fuel t cs = some x) : ∃ po len cap, cs = [.slice po len cap] ∧ OpsIn w po len cap := by
  rcases open_slice ht h with ⟨h0, _⟩ | ⟨a, len, cap, m, n, D, Pl, hcs, hb, hl, hm, hmm, hx, hi⟩
  · exact ⟨none, 0, 0, h0, Nat.le_refl _, Nat.zero_le _, by omega, fun i hi => by omega⟩
  · subst hx
    have hn0 := hs ((((List.range len).map D).length + ((List.range (m - len)).map fun j => D (len + j)).length) * P.bytesOf e) (by simp [DataW.weights, ht])
    rw [hbe] at hn0
    simp only [List.length_map, List.length_range] at hn0
    unfold reachBytes at hn0
    have hsD : ∀ i, i < len → ∀ n ∈ (D i).weights P e, n ≤ reachBytes := fun i hi n hn => by
      refine hs n ?_
      simp only [DataW.weights, ht]
      exact List.mem_cons_of_mem _ (List.mem_append_left _ (all_mem (List.mem_map.2 ⟨i, List.mem_range.2 hi, rfl⟩) n hn))
    refine ⟨some a, len, cap, hcs, hl, hm, by omega, fun i hil => ?_⟩
    have hlm : len ≤ m := by rw [hmm]; split <;> omega
    obtain ⟨b, off, spot⟩ := a
    have hspot : spot = none := by
      obtain ⟨cs', hc, ht'⟩ := hi 0 (by omega)
      rw [hC] at hc
      obtain ⟨_, hcl, hat⟩ := World.cells?_some hc
      have h0 := hat 0 (by omega)
      rw [List.getElem?_eq_getElem (show 0 < cs'.length by omega)] at h0
      simpa [Addr.add] using World.cell?_spot h0
    subst hspot
    obtain ⟨cs', hc, ht'⟩ := hi i (by omega)
    rw [hC] at hc
    obtain ⟨ys, n', _, hagg, _, hyl, hf⟩ := DataW.trod_struct he ht'
    have hDi : D i = .agg (ys.map (·.1)) := congrArg Prod.fst hagg
    have hyl' : ys.length = 6 := hyl
    obtain ⟨_, hcl, hat⟩ := World.cells?_some hc
    have hat' : ∀ j, j < 6 → w.cell? ⟨b, off + i * 6 + j, none⟩ = cs'[j]? := fun j hj => by
      rw [← hat j hj, add_plain, add_plain]
    have r0 := hf 0 f0 rfl
    have r1 := hf 1 f1 rfl
    have r2 := hf 2 f2 rfl
    have r3 := hf 3 f3 rfl
    have r4 := hf 4 f4 rfl
    have r5 := hf 5 f5 rfl
    rw [(hone_of hone 0 f0 rfl).1, (hone_of hone 0 f0 rfl).2, List.getElem?_eq_getElem (by omega)] at r0
    rw [(hone_of hone 1 f1 rfl).1, (hone_of hone 1 f1 rfl).2, List.getElem?_eq_getElem (by omega)] at r1
    rw [(hone_of hone 2 f2 rfl).1, (hone_of hone 2 f2 rfl).2, List.getElem?_eq_getElem (by omega)] at r2
    rw [(hone_of hone 3 f3 rfl).1, (hone_of hone 3 f3 rfl).2, List.getElem?_eq_getElem (by omega)] at r3
    rw [(hone_of hone 4 f4 rfl).1, (hone_of hone 4 f4 rfl).2, List.getElem?_eq_getElem (by omega)] at r4
    rw [(hone_of hone 5 f5 rfl).1, (hone_of hone 5 f5 rfl).2, List.getElem?_eq_getElem (by omega)] at r5
    match cs', hcl with
    | [c0, c1, c2, c3, c4, c5], _ =>
      obtain ⟨k, e0, _, w0⟩ := DataW.trod_int u0 r0
      obtain ⟨hh, e1, _, w1⟩ := DataW.trod_int u1 r1
      obtain ⟨xx, e2, _, w2⟩ := DataW.trod_int u2 r2
      obtain ⟨yy, e3, _, w3⟩ := DataW.trod_int u3 r3
      obtain ⟨raw, e4, _⟩ := DataW.trod_bool u4 r4
      obtain ⟨po, len', cap', f, e5, hbin, hlen'⟩ := opened_bytes (v := c5) u5 hu huc hbu (fun n hn => by
        refine hsD i hil n ?_
        rw [hDi]
        simp only [DataW.weights, he]
        exact DataW.weights_mem_each (j := 5) (t := f5.type) rfl (by rw [List.getElem?_map, List.getElem?_eq_getElem (by omega)]; rfl) n hn) r5
      have e0' : c0 = .int .i64 k := by injection e0
      have e1' : c1 = .int .i64 hh := by injection e1
      have e2' : c2 = .int .i64 xx := by injection e2
      have e3' : c3 = .int .i64 yy := by injection e3
      have e4' : c4 = .bool raw := by injection e4
      subst e0' e1' e2' e3' e4' e5
      have hc0 : w.cell? ⟨b, off + i * 6, none⟩ = some (.int .i64 k) := hat' 0 (by omega)
      exact ⟨b, off, rfl, World.block_lt_of_cell? _ _ hc0, k, hh, xx, yy, raw, po, len', cap', f, ⟨w0, w1, w2, w3⟩, hc0, hat' 1 (by omega), hat' 2 (by omega), hat' 3 (by omega), hat' 4 (by omega), hat' 5 (by omega), hbin, hlen'⟩
end
end Go.Proofs.YtaeoohjgdkablaaDoor
