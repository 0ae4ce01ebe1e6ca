/- The reader: a module (the success path). -/
import Derived.Test.YtaeoohjgdkablaaDoorM28
import Derived.Deep.CutBlock
/- The reader: a module (the success path). -/
namespace Go.Proofs.YtaeoohjgdkablaaDoor
open Go.RowKit

theorem lit_ok {w : World} {R : Nat} {v : Value} {l : List UInt8} {p : Nat} (h : RAt w R v l p) (hl : l.length ≤ 1000000000) {T : Tm} {y : List UInt8} (hx : l.drop p = encT T ++ y) (hw : wfT T) (ho : okT T) :
    Calls Tryd.prog 41 #[.pointer (some ⟨R, 0, none⟩)] w fun e w' => ∃ h k n s a1 l1 c1 a2 l2 c2 a3 l3 c3 q, e = .returned (.agg #[.int .i64 k, .int .i64 n, .string s, .slice a1 l1 c1, .slice a2 l2 c2, .slice a3 l3 c3]) ∧ TermAt (Own w.heap.size w') w' h T [.int .i64 k, .int .i64 n, .string s, .slice a1 l1 c1, .slice a2 l2 c2, .slice a3 l3 c3] ∧ RAt w' R v l q ∧ l.drop q = y ∧ Kp (fun q => q = R) w w' := by
  refine (literal_any h hl).mono ?_
  rintro e w' (⟨T', h, k, n, s, a1, l1, c1, a2, l2, c2, a3, l3, c3, q, rfl, hT, _, hr, _, hruns, hk⟩ | ⟨_, hno⟩)
  · obtain ⟨rfl, hq⟩ := (hruns T y).1 ⟨hw, hx⟩
    exact ⟨h, k, n, s, a1, l1, c1, a2, l2, c2, a3, l3, c3, q, rfl, hT, hr, hq, hk⟩
  · exact absurd hx (hno T y hw ho)
theorem cf_literal (args : Array Value) (w : World) : (callFunc 41 args).run Tryd.prog w = .ok (.enter 41 args) w := by kernel_rfl
theorem encTs_len : ∀ l : List Tm, l.length ≤ (encTs l).length
  | [] => by simp
  | t :: l => by
    have h1 : 1 ≤ (encT t).length := by
      obtain ⟨k, n, s, it, re, bys⟩ := t
      rw [encT]; simp
    have := encTs_len l
    simp [encTs]; omega

theorem fn_ok {w : World} {R : Nat} {v : Value} {l : List UInt8} {p : Nat} (h : RAt w R v l p) (hl : l.length ≤ 1000000000) {f : Fn4} {y : List UInt8} (hx : l.drop p = encF f ++ y) (hf : fitsF f = true) :
    Calls Tryd.prog 42 #[.pointer (some ⟨R, 0, none⟩)] w fun e w' => ∃ po n c q, e = .returned (.agg #[.string f.name, .int .i64 f.args, .int .i64 f.slots, .slice po n c]) ∧ FnAt (Own w.heap.size w') w' f [.string f.name, .int .i64 f.args, .int .i64 f.slots, .slice po n c] ∧ RAt w' R v l q ∧ l.drop q = y ∧ Kp (fun q => q = R) w w' := by
  have y1 := drop_app hx
  have hn : f.name.size ≤ 1099511627776 := by
    have h1 := congrArg List.length hx
    simp only [List.length_drop, List.length_append, encF, encB] at h1
    have hns : f.name.data.toList.length = f.name.size := Array.length_toList
    omega
  rw [← y1] at hx
  refine (function_ok h hf hn hx rfl hl).mono ?_
  rintro e w' ⟨vc, rfl, hT, hr, hk⟩
  obtain ⟨vc', e2, h1, h2, h3, h4⟩ := id hT
  obtain ⟨po, cap, rfl, h5⟩ := h4
  obtain rfl : vc = _ := by simpa using e2
  exact ⟨_, _, _, _, rfl, hT, hr, y1, hk⟩
theorem cf_function (args : Array Value) (w : World) : (callFunc 42 args).run Tryd.prog w = .ok (.enter 42 args) w := by kernel_rfl
/-- the end of a module that is read -/
theorem md_of {w w1 wr w9 : World} {R : Nat} {v : Value} {l : List UInt8} {a4 W0 : Nat} {name : ByteArray} {vl : Value} {GL : Nat → Prop} {lits : List Tm} {hh : Nat} {funcs : List Fn4} {q : Nat} {po : Option Addr} {n c : Nat} {G : Nat → Prop}
    (hS : FunsAt w1 R v l a4 W0 name vl GL lits hh funcs funcs.length q po n c G wr) (hk : Kp (fun x => x = w.heap.size) wr w9) (hA : w.heap.size < a4) (hn : name.size ≤ maxLen) (hf : funcs.length ≤ 1000000000) :
    MdAt (Own w.heap.size w9) w9 hh ⟨name, lits, funcs⟩ [.string name, vl, .slice po n c] := by
  have hw0 := hS.w0
  have hz := hk.size
  have hrow := hS.row
  rw [List.take_length] at hrow
  have h1 := lits_kp hS.lits hk (fun x e e2 => by have := (hS.gl x e).1; omega)
  have h2 := hrow.kp hk (fun g e e2 => by have := (hS.lt g e).1; omega) (fun x e e2 => by have := (hS.lo x e).1; omega)
  refine ⟨vl, _, rfl, hn, h1.imp (fun x e => ?_) (fun _ _ _ _ e => e) (fun t cs e => TermAt.imp (fun x e => ?_) (fun _ _ _ _ e => e) _ t cs e), h2.fns (by omega) (fun x e => ?_) (fun g e => ?_)⟩
  · have := hS.gl x e; exact ⟨by omega, by omega⟩
  · have := hS.gl x e; exact ⟨by omega, by omega⟩
  · have := hS.lo x e; exact ⟨by omega, by omega⟩
  · have := hS.lt g e; exact ⟨by omega, by omega⟩

set_option maxRecDepth 100000 in
set_option maxHeartbeats 20000000 in
theorem module_ok {w : World} {R : Nat} {v : Value} {m : Md} (h : RAt w R v (encM m) 0) (hm : okM m) (hw : ∀ T ∈ m.lits, wfT T) (hn : m.name.size ≤ 1099511627776) (hl : (encM m).length ≤ 1000000000) :
    Calls Tryd.prog 27 #[.pointer (some ⟨R, 0, none⟩)] w fun e w' => ∃ hh vl vf, e = .returned (.agg #[.string m.name, vl, vf]) ∧ MdAt (Own w.heap.size w') w' hh m [.string m.name, vl, vf] ∧ Kp (fun q => q = R) w w' := by
  have hRl := (Array.getElem?_eq_some_iff.1 h.cells).1
  obtain ⟨w1, hw1⟩ : ∃ w1, w.alloc (.cells #[.string ⟨#[]⟩, .slice none 0 0, .slice none 0 0] 33) = w1 := ⟨_, rfl⟩
  have hk1 : Kp (fun _ => False) w w1 := by rw [← hw1]; exact (Kp.refl _ w).alloc _
  have hbx : w1.heap[w.heap.size]? = some (.cells #[.string ⟨#[]⟩, .slice none 0 0, .slice none 0 0] 33 (0, 0)) := by rw [← hw1]; exact heap_alloc_new w _
  have h1 := h.kp hk1
  have hz0 : w.heap.size + 1 = w1.heap.size := by rw [← hw1]; simp
  have H1 := Lib.hid (And.intro hk1 (And.intro hbx hRl))
  have Hz := Lib.hid hz0
  clear hz0
  have HM := Lib.hid (And.intro hm (And.intro hw (And.intro hn hl)))
  clear hk1 hbx hRl h hm hw hn hl
  go_enter Tryd.func27, Tryd.ntmps27
  go_wp2_with fail
  try rw [hw1]
  clear hw1
  go_loopg [3, 5] 4 (fun gk xx jj wr => ∃ (j : Nat), j ≤ 4 ∧ gk = 4 - j ∧ jj = .int .i64 j ∧ RAt wr R v (encM m) j ∧ Kp (fun q => q = R) w1 wr)
  case atStart => exact ⟨0, by omega, rfl, rfl, h1, Kp.refl _ _⟩
  case round =>
    clear h1
    obtain ⟨j, hj, rfl, rfl, hr, hk⟩ := hrel
    by_cases hlt : j < 4
    · have hj4 : j = 0 ∨ j = 1 ∨ j = 2 ∨ j = 3 := by omega
      clear hj hlt
      rcases hj4 with rfl | rfl | rfl | rfl
      · have H0 := Lib.hid (show ∀ (wx : World), Kp (fun _ => False) wr wx → Calls Tryd.prog 37 #[.pointer (some ⟨R, 0, none⟩)] wx fun e w' => e = .returned (.int .u8 84) ∧ RAt w' R v (encM m) 1 ∧ Kp (fun q => q = R) wx w' from fun wx k => next_ok (w := wx) (c := 84) (hr.kp k) rfl)
        have HK := Lib.hid hk
        clear hr hk
        go_wp2_with fail
        go_region_law (refine step_fn (by rfl) 37 #[.tmp 8] #[88] (by rfl) cf_next #[.pointer (some ⟨R, 0, none⟩)] (by first | (simp [Act.eval]; done) | simp [Act.eval, Act.put]) ?_; refine (H0.out _ (Kp.refl _ _).drew).mono ?_; rintro e w2 ⟨rfl, hr2, hk2⟩; refine ⟨_, rfl, ?_⟩; have H2 := Lib.hid (And.intro hr2 (HK.out.trans' (Kp.trans' (F := fun q => q = R) ((Kp.refl _ wr).drew) hk2))); clear hr2 hk2)
        all_goals
          go_wp2_with fail
          go_roundg 3
          case measure => omega
          case rel => exact ⟨1, by omega, by omega, by go_num, H2.out.1, H2.out.2⟩
      · have H0 := Lib.hid (show ∀ (wx : World), Kp (fun _ => False) wr wx → Calls Tryd.prog 37 #[.pointer (some ⟨R, 0, none⟩)] wx fun e w' => e = .returned (.int .u8 82) ∧ RAt w' R v (encM m) 2 ∧ Kp (fun q => q = R) wx w' from fun wx k => next_ok (w := wx) (c := 82) (hr.kp k) rfl)
        have HK := Lib.hid hk
        clear hr hk
        go_wp2_with fail
        go_region_law (refine step_fn (by rfl) 37 #[.tmp 8] #[88] (by rfl) cf_next #[.pointer (some ⟨R, 0, none⟩)] (by first | (simp [Act.eval]; done) | simp [Act.eval, Act.put]) ?_; refine (H0.out _ (Kp.refl _ _).drew).mono ?_; rintro e w2 ⟨rfl, hr2, hk2⟩; refine ⟨_, rfl, ?_⟩; have H2 := Lib.hid (And.intro hr2 (HK.out.trans' (Kp.trans' (F := fun q => q = R) ((Kp.refl _ wr).drew) hk2))); clear hr2 hk2)
        all_goals
          go_wp2_with fail
          go_roundg 2
          case measure => omega
          case rel => exact ⟨2, by omega, by omega, by go_num, H2.out.1, H2.out.2⟩
      · have H0 := Lib.hid (show ∀ (wx : World), Kp (fun _ => False) wr wx → Calls Tryd.prog 37 #[.pointer (some ⟨R, 0, none⟩)] wx fun e w' => e = .returned (.int .u8 80) ∧ RAt w' R v (encM m) 3 ∧ Kp (fun q => q = R) wx w' from fun wx k => next_ok (w := wx) (c := 80) (hr.kp k) rfl)
        have HK := Lib.hid hk
        clear hr hk
        go_wp2_with fail
        go_region_law (refine step_fn (by rfl) 37 #[.tmp 8] #[88] (by rfl) cf_next #[.pointer (some ⟨R, 0, none⟩)] (by first | (simp [Act.eval]; done) | simp [Act.eval, Act.put]) ?_; refine (H0.out _ (Kp.refl _ _).drew).mono ?_; rintro e w2 ⟨rfl, hr2, hk2⟩; refine ⟨_, rfl, ?_⟩; have H2 := Lib.hid (And.intro hr2 (HK.out.trans' (Kp.trans' (F := fun q => q = R) ((Kp.refl _ wr).drew) hk2))); clear hr2 hk2)
        all_goals
          go_wp2_with fail
          go_roundg 1
          case measure => omega
          case rel => exact ⟨3, by omega, by omega, by go_num, H2.out.1, H2.out.2⟩
      · have H0 := Lib.hid (show ∀ (wx : World), Kp (fun _ => False) wr wx → Calls Tryd.prog 37 #[.pointer (some ⟨R, 0, none⟩)] wx fun e w' => e = .returned (.int .u8 69) ∧ RAt w' R v (encM m) 4 ∧ Kp (fun q => q = R) wx w' from fun wx k => next_ok (w := wx) (c := 69) (hr.kp k) rfl)
        have HK := Lib.hid hk
        clear hr hk
        go_wp2_with fail
        go_region_law (refine step_fn (by rfl) 37 #[.tmp 8] #[88] (by rfl) cf_next #[.pointer (some ⟨R, 0, none⟩)] (by first | (simp [Act.eval]; done) | simp [Act.eval, Act.put]) ?_; refine (H0.out _ (Kp.refl _ _).drew).mono ?_; rintro e w2 ⟨rfl, hr2, hk2⟩; refine ⟨_, rfl, ?_⟩; have H2 := Lib.hid (And.intro hr2 (HK.out.trans' (Kp.trans' (F := fun q => q = R) ((Kp.refl _ wr).drew) hk2))); clear hr2 hk2)
        all_goals
          go_wp2_with fail
          go_roundg 0
          case measure => omega
          case rel => exact ⟨4, by omega, by omega, by go_num, H2.out.1, H2.out.2⟩
    · obtain rfl : j = 4 := by omega
      obtain ⟨name, lits, funcs⟩ := m
      obtain ⟨p1, hp1⟩ : ∃ p1, p1 = 4 + (encB name.data.toList).length := ⟨_, rfl⟩
      obtain ⟨p2, hp2⟩ : ∃ p2, p2 = p1 + (encNat lits.length).length := ⟨_, rfl⟩
      have hx : (encM ⟨name, lits, funcs⟩).drop 4 = encB name.data.toList ++ (encNat lits.length ++ (encTs lits ++ (encNat funcs.length ++ encFs funcs))) := by
        simp [encM, encL]
      have x1 := drop_app hx
      rw [← hp1] at x1
      have x2 := drop_app x1
      rw [← hp2] at x2
      rw [← x1] at hx
      rw [← x2] at x1
      have hR1 : R < w1.heap.size := by have h2 := H1.out.2.2; have := H1.out.1.size; omega
      have H2 := Lib.hid (And.intro hk (And.intro x2 hp2))
      have Hs := Lib.hid (some_ok hr (by simpa using HM.out.2.2.1) hx hp1)
      have Hx := Lib.hid (And.intro x1 hp2)
      clear hr hk hx x1 x2 hp1 hp2
      go_wp2_with fail
      refine Hs.out.mono ?_
      rintro e w3 ⟨po, n, c, rfl, hb3, hr3, hk3⟩
      obtain ⟨hcv, -⟩ := conv_two hb3
      have H3 := Lib.hid (And.intro hr3 (H2.out.1.trans' hk3))
      clear hr3 hk3 hb3 Hs
      go_wp2_with fail
      have hr4 := H3.out.1.kp ((Kp.refl (fun _ => False) w3).alloc (.cells #[.string name, .slice none 0 0, .slice none 0 0] 33))
      obtain ⟨w4, hw4⟩ : ∃ w4, w3.alloc (.cells #[.string name, .slice none 0 0, .slice none 0 0] 33) = w4 := ⟨_, rfl⟩
      have hb4 : w4.heap[w3.heap.size]? = some (.cells #[.string name, .slice none 0 0, .slice none 0 0] 33 (0, 0)) := by rw [← hw4]; exact heap_alloc_new w3 _
      have hk34 : Kp (fun _ => False) w3 w4 := by rw [← hw4]; exact (Kp.refl _ w3).alloc _
      rw [hw4] at hr4
      have hlen2 : p2 + lits.length ≤ (encM ⟨name, lits, funcs⟩).length ∧ lits.length ≤ 1000000000 := by
        have h1 := congrArg List.length H2.out.2.1
        have h2 := encTs_len lits
        have h3 := HM.out.2.2.2
        simp only [List.length_append, List.length_drop] at h1
        have h4 := encNat_pos funcs.length
        omega
      have Hc := Lib.hid (count_ok (q := p2) (n := lits.length) hr4 (by omega) Hx.out.1 H2.out.2.2 hlen2.1)
      have H4 := Lib.hid (And.intro hb4 (And.intro hk34 (And.intro (H3.out.2.trans' (hk34.mono fun _ _ e => e.elim)) (And.intro H3.out.2.size hlen2))))
      clear hr4 hb4 hk34 hlen2 hcv
      try rw [hw4]
      clear hw4
      refine Hc.out.mono ?_
      rintro e w5 ⟨rfl, hr5, hk5⟩
      have hb5 := (hk5.block _ (Array.getElem?_eq_some_iff.1 H4.out.1).1 (by have := H4.out.2.2.2.1; omega)).trans H4.out.1
      have H5 := Lib.hid (And.intro hr5 (And.intro (H4.out.2.2.1.trans' hk5) (And.intro hb5 H2.out.2.1)))
      clear hr5 hk5 hb5 Hc
      go_wp2_with fail
      go_loopg [22] lits.length (fun gk jj wr => ∃ (j q : Nat) (po : Option Addr) (n c hh : Nat) (G : Nat → Prop), j ≤ lits.length ∧ gk = lits.length - j ∧ jj = .int .i64 j ∧ (encM ⟨name, lits, funcs⟩).drop q = encTs (lits.drop j) ++ (encNat funcs.length ++ encFs funcs) ∧ LitsAt w1 R v (encM ⟨name, lits, funcs⟩) w3.heap.size name lits j q po n c hh G wr)
      case atStart => exact ⟨0, p2, none, 0, 0, 0, fun _ => False, by omega, rfl, rfl, H5.out.2.2.2, ⟨H5.out.2.2.1, ⟨Nat.le_refl _, by simp, [], by simpa using World.ownsRow_nil _ _ _ _, fun i t hi => by simp at hi⟩, fun _ _ e => e, fun _ e => e.elim, H5.out.1, H5.out.2.1⟩⟩
      case round =>
        obtain ⟨j, q, po, n, c, hh, G, hj, rfl, rfl, hq, hS⟩ := hrel
        have hlen := H4.out.2.2.2.2.2
        have hA := H4.out.2.2.2.1
        by_cases hlt : j < lits.length
        · obtain ⟨T, hjt⟩ : ∃ T, lits[j]? = some T := ⟨lits[j], List.getElem?_eq_getElem hlt⟩
          rw [encTs_take hjt, List.append_assoc] at hq
          have hTm := List.mem_of_getElem? hjt
          have HL := Lib.hid (fun (wx : World) (k : Kp (fun _ => False) wr wx) => lit_ok (w := wx) (hS.rd.kp k) HM.out.2.2.2 hq (HM.out.2.1 T hTm) (HM.out.1.1 T hTm))
          have g1 : wr.cell? ⟨w3.heap.size, 1, none⟩ = some (.slice po n c) := by rw [cell_of_row wr _ 1 _ _ _ hS.cells]; rfl
          have HS := Lib.hid (And.intro hS (And.intro hjt (And.intro hA hlen)))
          clear hS hjt hq hTm HM H1 H3 H4 H5 hA hlen
          go_upto_block 3 with fail
          go_cut [22] (fun s22 wx => s22 = .int .i64 j ∧ ∃ q' po' n' c' hh' G', (encM ⟨name, lits, funcs⟩).drop q' = encTs (lits.drop (j + 1)) ++ (encNat funcs.length ++ encFs funcs) ∧ LitsAt w1 R v (encM ⟨name, lits, funcs⟩) w3.heap.size name lits (j + 1) q' po' n' c' hh' G' wx)
          case first =>
            go_upto_region 10 with fail
            go_region_law (first
              | (refine step_fn (by rfl) 41 #[.tmp 26] #[88] (by rfl) cf_literal #[.pointer (some ⟨R, 0, none⟩)] (by first | (simp [Act.eval]; done) | simp [Act.eval, Act.put]) ?_; refine (HL.out _ ((Kp.refl _ _).drew)).mono ?_; rintro e w5 ⟨h5, k, m5, s, a1, l1, d1, a2, l2, d2, a3, l3, d3, q', rfl, hT, hr5, hq', hk5⟩; refine ⟨_, rfl, ?_⟩; have hN := lits_next HS.out.1 (Kp.trans' (F := fun x => x = R) ((Kp.refl _ wr).drew) hk5) hr5 hT HS.out.2.1 hR1 HS.out.2.2.1 (by have := HS.out.2.2.2; omega); obtain ⟨hb5, g, cap, w6, hN⟩ := hN; have g51 : w5.cell? ⟨w3.heap.size, 1, none⟩ = some (.slice po n c) := (by rw [cell_of_row w5 _ 1 _ _ _ hb5]; rfl); have g56 : (w5.alloc (.cells #[.int .i64 k, .int .i64 m5, .string s, .slice a1 l1 d1, .slice a2 l2 d2, .slice a3 l3 d3] 25)).cell? ⟨w3.heap.size, 1, none⟩ = some (.slice po n c) := (by rw [World.cell?_alloc_past _ _ _ (Array.getElem?_eq_some_iff.1 hb5).1]; exact g51); have HN := Lib.hid (And.intro hN hq'); have g61 := HN.out.1.2.1; have gf6 := HN.out.1.2.2.1; clear hN hT hr5 hk5 hb5 hq')
              | (refine step_run (by rfl) (.tmp 25) (.tmp 28) 22 (by rfl) (.slice po n c) (.slice (some ⟨w5.heap.size, 0, none⟩) 1 1) (by first | (simp [Act.eval]; done) | simp [Act.eval, Act.put]) (by first | (simp [Act.eval]; done) | simp [Act.eval, Act.put]) _ _ HN.out.1.1 ?_))
            all_goals
              refine Met.intro ?_
              go_step
              go_meet
              exact ⟨rfl, _, _, _, _, _, _, HN.out.2, HN.out.1.2.2.2⟩
          case rest =>
            obtain ⟨rfl, q', po', n', c', hh', G', hq', hS'⟩ := hcut
            have HE := Lib.hid (And.intro hq' (And.intro hS' (show j + 1 ≤ lits.length from hlt)))
            clear hq' hS'
            go_wp2_with fail
            go_roundg (lits.length - (j + 1))
            case measure => have := HE.out.2.2; omega
            case rel => exact ⟨j + 1, q', po', n', c', hh', G', HE.out.2.2, rfl, by rw [show wrap64 ((j : Int) + 1) = ((j + 1 : Nat) : Int) from by have := HS.out.2.2.2; have := HE.out.2.2; unfold wrap64; omega], HE.out.1, HE.out.2.1⟩
        · obtain rfl : j = lits.length := by omega
          rw [List.drop_length, encTs, List.nil_append] at hq
          obtain ⟨p3, hp3⟩ : ∃ p3, p3 = q + (encNat funcs.length).length := ⟨_, rfl⟩
          have x3 := drop_app hq
          rw [← hp3] at x3
          rw [← x3] at hq
          have hlen3 : p3 + funcs.length ≤ (encM ⟨name, lits, funcs⟩).length ∧ funcs.length ≤ 1000000000 := by
            have h1 := congrArg List.length x3
            have h2 := encFs_len funcs
            have h3 := HM.out.2.2.2
            have h4 := congrArg List.length hq
            have h5 := encNat_pos funcs.length
            simp only [List.length_drop, List.length_append] at h1 h4
            omega
          have Hc := Lib.hid (count_ok hS.rd (by omega) hq hp3 hlen3.1)
          have HS := Lib.hid (And.intro hS (And.intro x3 hlen3))
          clear hS hq x3 hp3 hlen3
          go_wp2_with fail
          refine Hc.out.mono ?_
          rintro e w6 ⟨rfl, hr6, hk6⟩
          have HF := Lib.hid (And.intro (funs_first (funcs := funcs) HS.out.1 hk6 hr6 hR1 hA) HS.out.2)
          clear hr6 hk6 HS Hc H2 H3 H5 hlen
          go_wp2_with fail
          go_loopg [34] funcs.length (fun gk jj wr => ∃ (j q : Nat) (po2 : Option Addr) (n2 c2 : Nat) (G2 : Nat → Prop), j ≤ funcs.length ∧ gk = funcs.length - j ∧ jj = .int .i64 j ∧ (encM ⟨name, lits, funcs⟩).drop q = encFs (funcs.drop j) ∧ FunsAt w1 R v (encM ⟨name, lits, funcs⟩) w3.heap.size w6.heap.size name (.slice po n c) (fun x => w3.heap.size + 1 ≤ x ∧ x < w6.heap.size) lits hh funcs j q po2 n2 c2 G2 wr)
          case atStart => exact ⟨0, p3, none, 0, 0, _, by omega, rfl, rfl, HF.out.2.1, HF.out.1⟩
          case round =>
            obtain ⟨j, q, po2, n2, c2, G2, hj, rfl, rfl, hq, hS⟩ := hrel
            have hlen := HF.out.2.2.2
            by_cases hlt : j < funcs.length
            · obtain ⟨f, hjf⟩ : ∃ f, funcs[j]? = some f := ⟨funcs[j], List.getElem?_eq_getElem hlt⟩
              rw [encFs_drop hjf] at hq
              have hfm := List.mem_of_getElem? hjf
              have HL := Lib.hid (fun (wx : World) (k : Kp (fun _ => False) wr wx) => fn_ok (w := wx) (hS.rd.kp k) HM.out.2.2.2 hq (HM.out.1.2 f hfm))
              have g1 : wr.cell? ⟨w3.heap.size, 2, none⟩ = some (.slice po2 n2 c2) := by rw [cell_of_row wr _ 2 _ _ _ hS.cells]; rfl
              have HS := Lib.hid (And.intro hS (And.intro hjf (And.intro hA hlen)))
              clear hS hjf hq hfm HM H1 H4 HF hA hlen Hx
              go_upto_block 5 with fail
              go_cut [34] (fun s34 wx => s34 = .int .i64 j ∧ ∃ q' po' n' c' G', (encM ⟨name, lits, funcs⟩).drop q' = encFs (funcs.drop (j + 1)) ∧ FunsAt w1 R v (encM ⟨name, lits, funcs⟩) w3.heap.size w6.heap.size name (.slice po n c) (fun x => w3.heap.size + 1 ≤ x ∧ x < w6.heap.size) lits hh funcs (j + 1) q' po' n' c' G' wx)
              case first =>
                go_upto_region 14 with fail
                go_region_law (first
                  | (refine step_fn (by rfl) 42 #[.tmp 38] #[88] (by rfl) cf_function #[.pointer (some ⟨R, 0, none⟩)] (by first | (simp [Act.eval]; done) | simp [Act.eval, Act.put]) ?_; refine (HL.out _ ((Kp.refl _ _).drew)).mono ?_; rintro e w5 ⟨p4, n4, c4, q', rfl, hT, hr5, hq', hk5⟩; refine ⟨_, rfl, ?_⟩; have hN := fns_next HS.out.1 (Kp.trans' (F := fun x => x = R) ((Kp.refl _ wr).drew) hk5) hr5 hT HS.out.2.1 hR1 HS.out.2.2.1 (by have := HS.out.2.2.2; omega); obtain ⟨hb5, g, cap, w9, hN⟩ := hN; have g51 : w5.cell? ⟨w3.heap.size, 2, none⟩ = some (.slice po2 n2 c2) := (by rw [cell_of_row w5 _ 2 _ _ _ hb5]; rfl); have g56 : (w5.alloc (.cells #[.string f.name, .int .i64 f.args, .int .i64 f.slots, .slice p4 n4 c4] 30)).cell? ⟨w3.heap.size, 2, none⟩ = some (.slice po2 n2 c2) := (by rw [World.cell?_alloc_past _ _ _ (Array.getElem?_eq_some_iff.1 hb5).1]; exact g51); have HN := Lib.hid (And.intro hN hq'); have g61 := HN.out.1.2.1; have gf6 := HN.out.1.2.2.1; clear hN hT hr5 hk5 hb5 hq')
                  | (refine step_run (by rfl) (.tmp 37) (.tmp 40) 31 (by rfl) (.slice po2 n2 c2) (.slice (some ⟨w5.heap.size, 0, none⟩) 1 1) (by first | (simp [Act.eval]; done) | simp [Act.eval, Act.put]) (by first | (simp [Act.eval]; done) | simp [Act.eval, Act.put]) _ _ HN.out.1.1 ?_))
                all_goals
                  refine Met.intro ?_
                  go_step
                  go_meet
                  exact ⟨rfl, _, _, _, _, _, HN.out.2, HN.out.1.2.2.2⟩
              case rest =>
                obtain ⟨rfl, q', po', n', c', G', hq', hS'⟩ := hcut
                have HE := Lib.hid (And.intro hq' (And.intro hS' (show j + 1 ≤ funcs.length from hlt)))
                clear hq' hS'
                go_wp2_with fail
                go_roundg (funcs.length - (j + 1))
                case measure => have := HE.out.2.2; omega
                case rel => exact ⟨j + 1, q', po', n', c', G', HE.out.2.2, rfl, by rw [show wrap64 ((j : Int) + 1) = ((j + 1 : Nat) : Int) from by have := HS.out.2.2.2; have := HE.out.2.2; unfold wrap64; omega], HE.out.1, HE.out.2.1⟩
            · obtain rfl : j = funcs.length := by omega
              have hend : q = (encM ⟨name, lits, funcs⟩).length := by
                have h1 := congrArg List.length hq
                have h2 := hS.rd.le
                simp [encFs] at h1
                omega
              obtain ⟨pv, cv, rfl, hv1, hv2, hv3⟩ := id hS.rd.bytes
              have c0 : wr.cell? ⟨R, 0, none⟩ = some (.slice pv (encM ⟨name, lits, funcs⟩).length cv) := by rw [cell_of_row wr R 0 _ _ _ hS.rd.cells]; rfl
              have c1 : wr.cell? ⟨R, 1, none⟩ = some (.int .i64 q) := by rw [cell_of_row wr R 1 _ _ _ hS.rd.cells]; rfl
              obtain ⟨L, hL⟩ : ∃ L, (encM ⟨name, lits, funcs⟩).length = L := ⟨_, rfl⟩
              rw [hL] at c0 hend
              have hqn : ¬ ((q : Int) < L) := by omega
              obtain ⟨y0, y1, y2, yf⟩ := three_facts hS.cells
              have hz1 := Hz.out
              have hbx := (hS.kp.block w.heap.size (by omega) (by have := H1.out.2.2; omega)).trans H1.out.2.1
              obtain ⟨e0, e1, e2, ef⟩ := three_facts hbx
              have HS := Lib.hid (And.intro hS (And.intro hbx (And.intro hz1 (And.intro hA hlen))))
              clear hS hbx hz1 hA hlen hv1 hv2 hv3 hL hend hq HF H4 Hx
              go_wp2_with fail
              go_quiet (fail)
              go_wp2_with fail
              change bodyPost _ _ _ _ _ (threeSet (wr.drewN nq) w.heap.size (.string name) (.slice po n c) (.slice po2 n2 c2))
              clear c0 c1 y0 y1 y2 yf e0 e1 e2 ef
              obtain ⟨hS, hbx, hz1, hA, hlen⟩ := HS.out
              obtain ⟨w8, hw8⟩ : ∃ w8, wr.drewN nq = w8 := ⟨_, rfl⟩
              have hk8 : Kp (fun _ => False) wr w8 := by rw [← hw8]; exact (Kp.refl _ wr).drewN nq
              obtain ⟨hr9, hk9⟩ := threeSet_any (c0 := .string name) (c1 := .slice po n c) (c2 := .slice po2 n2 c2) ((hk8.block _ (Array.getElem?_eq_some_iff.1 hbx).1 (fun e => e)).trans hbx)
              obtain ⟨w9, hw9⟩ : ∃ w9, threeSet w8 w.heap.size (.string name) (.slice po n c) (.slice po2 n2 c2) = w9 := ⟨_, rfl⟩
              rw [hw8, hw9]
              rw [hw9] at hr9 hk9
              obtain ⟨i0, i1, i2, -⟩ := three_facts hr9
              have hk89 : Kp (fun q => q = w.heap.size) wr w9 := (hk8.mono fun _ _ e => e.elim).trans' hk9
              refine bodyPost_ret (v := .agg #[.string name, .slice po n c, .slice po2 n2 c2]) (by simp [results, Tryd.results27, go_sem, i0, i1, i2]) rfl ?_
              exact ⟨hh, _, _, rfl, md_of hS hk89 (by omega) (by have := HM.out.2.2.1; unfold maxLen; omega) hlen, kp_new ((H1.out.1.mono fun _ _ e => e.elim : Kp (fun q => q = R) w w1).trans' hS.kp) (hk89.mono fun x _ e => .inr (by omega))⟩
end Go.Proofs.YtaeoohjgdkablaaDoor
