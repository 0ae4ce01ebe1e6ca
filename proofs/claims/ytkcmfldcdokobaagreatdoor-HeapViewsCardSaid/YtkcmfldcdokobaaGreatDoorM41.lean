/- HeapNothing: the walk. -/
import Derived.Test.YtkcmfldcdokobaaGreatDoorM06
import Derived.Test.YtkcmfldcdokobaaGreatDoorM39
import Derived.Test.YtkcmfldcdokobaaGreatDoorM40
import Derived.Deep.Onto
import Derived.Deep.DeepCutAuto
import Derived.Deep.CutBlock
/- HeapNothing: the walk. -/
namespace Go.Proofs.YtkcmfldcdokobaaGreatDoor
open Go.RowKit Go.Maps

/-- a row of integers, of no colour -/
structure IntsAt (W : World) (col : Nat → Nat) (v : Value) (l : List Value) : Prop where
  row : W.ownsRow 0 3 1 v l.length l
  rcol : ∀ g, v.ownBlock = some g → col g = 0
theorem IntsAt.go {W W' : World} {col col' : Nat → Nat} {v : Value} {l : List Value} (h : IntsAt W col v l) (hg : Go1 col W col' W') : IntsAt W' col' v l :=
  ⟨hg.2.row h.row (fun g hgo e => e (h.rcol g hgo)), fun g hgo => by
    obtain ⟨_, _, _, hh, _⟩ := row_blk h.row hgo
    exact (hg.1 g (Array.getElem?_eq_some_iff.1 hh).1).trans (h.rcol g hgo)⟩
theorem IntsAt.new {W W' : World} {col : Nat → Nat} {v : Value} {l : List Value} (h : W'.ownsRow W.heap.size 3 1 v l.length l) : IntsAt W' (recol col W 0) v l :=
  ⟨h.mono (Nat.zero_le _), fun g hgo => by
    have := (h.lt g hgo).1
    unfold recol
    rw [if_neg (by omega)]⟩
/-- the box of the statements' pair of heaps -/
structure BoxAt (W : World) (col : Nat → Nat) (o hb bb : Nat) (x : Option Addr) : Prop where
  box : W.heap[o]? = some (.cells #[.pointer (some ⟨hb, 0, none⟩), .pointer x, .pointer (some ⟨bb, 0, none⟩), .slice none 0 0] 36 (0, 0))
  ocol : col o = 0
theorem BoxAt.go {W W' : World} {col col' : Nat → Nat} {o hb bb : Nat} {x : Option Addr} (h : BoxAt W col o hb bb x) (hg : Go1 col W col' W') : BoxAt W' col' o hb bb x := by
  have ho := (Array.getElem?_eq_some_iff.1 h.box).1
  exact ⟨(hg.2.block o ho (fun e => e h.ocol)).trans h.box, (hg.1 o ho).trans h.ocol⟩

section
variable {w0 w : World} {col : Nat → Nat} {hb ab tb bb least N : Nat} {sv : Value} {sl : List (Int × Bool)} {names : List ByteArray} {A : Ar} {a : Bn}
/-- what a Store leaves, however it ends -/
def AnyTo (w0 w : World) (col : Nat → Nat) (hb ab tb bb : Nat) (sv : Value) (least : Nat) (sl : List (Int × Bool)) (N : Nat) (w' : World) : Prop :=
  ∃ col' A' names' a', Go1 col w col' w' ∧ Hs w0 w' col' hb ab tb bb sv least sl A' names' (N + 3000000) a'
/-- a Store that is done, or leaves all as it was -/
def OrNot (w0 w : World) (col : Nat → Nat) (hb ab tb bb : Nat) (sv : Value) (least : Nat) (sl : List (Int × Bool)) (A : Ar) (names : List ByteArray) (N : Nat) (a : Bn) (x y : Value) (w' : World) : Prop :=
  (y = .nilIface ∧ (∃ n, x = .int .u64 n) ∧ Kp (fun _ => False) w0 w') ∨ (x = .int .u64 0 ∧ (∃ g, y = .iface 95 (.pointer (some ⟨g, 0, none⟩))) ∧ ∃ col' A' a', Go1 col w col' w' ∧ ALike A A' ∧ BLike a a' ∧ Hs w0 w' col' hb ab tb bb sv least sl A' names (N + 3000000) a')
theorem StoreTo.any {h : Nat} {T : Tm} {e : Ending} {w' : World} (hS : StoreTo w0 w col hb ab tb bb sv least sl A names N a h T e w') : ∃ x y, e = .returned (.tuple #[.int .u64 x, y]) ∧ AnyTo w0 w col hb ab tb bb sv least sl N w' := by
  obtain ⟨col', hg, ⟨_, x, S', rfl, hx, hs, hl, hp, hK, hH⟩ | ⟨A', a', v, rfl, _, _, hH, _⟩⟩ := hS
  · exact ⟨_, _, rfl, col', _, _, _, hg, hH⟩
  · exact ⟨_, _, rfl, col', _, _, _, hg, hH⟩
theorem StoreTo.orNot {h : Nat} {T : Tm} {e : Ending} {w' : World} (hS : StoreTo w0 w col hb ab tb bb sv least sl A names N a h T e w') : ∃ x y, e = .returned (.tuple #[x, y]) ∧ OrNot w0 w col hb ab tb bb sv least sl A names N a x y w' := by
  obtain ⟨col', hg, ⟨_, x, S', rfl, hx, hs, hl, hp, hK, hH⟩ | ⟨A', a', v, rfl, h1, h2, hH, g, inner, rfl, _⟩⟩ := hS
  · exact ⟨_, _, rfl, .inl ⟨rfl, ⟨_, rfl⟩, hH.kp⟩⟩
  · exact ⟨_, _, rfl, .inr ⟨rfl, ⟨_, rfl⟩, col', A', a', hg, h1, h2, hH⟩⟩
theorem copy_store {F : Nat → Prop} {m : Nat} {T : Tm} {c0 c1 c2 c3 c4 c5 : Value} (h : Hs w0 w col hb ab tb bb sv least sl A names N a) (hT : TermAt F w m T [c0, c1, c2, c3, c4, c5]) (hN : N ≤ 70000000000000) (hN1 : 1 ≤ N) (hg : Laid0 w0) (W1 : World) (hk1 : Kp (fun _ => False) w W1) :
    Calls Tryz.prog 29 #[.agg #[c0, c1, c2, c3, c4, c5]] W1 fun e w1 => ∃ y0 y1 y2 y3 y4 y5, e = .returned (.agg #[y0, y1, y2, y3, y4, y5]) ∧ Kp (fun _ => False) w w1 ∧ ∀ W2, Kp (fun _ => False) w1 W2 →
      Calls Tryz.prog 14 #[.pointer (some ⟨hb, 0, none⟩), .agg #[y0, y1, y2, y3, y4, y5]] W2 fun e w2 => ∃ col1, Go1 col w col1 W2 ∧ StoreTo w0 W2 col1 hb ab tb bb sv least sl A names N a m T e w2 := by
  refine (copy_any _ _ _ _ _ (hT.kp hk1 (fun _ _ e => e))).mono ?_
  rintro e w1 ⟨cs, rfl, hT1, hk2⟩
  obtain ⟨k', n', s', q1, q2, q3, q4, q5, q6, q7, q8, q9, rfl⟩ := hT1.form
  have hk12 := hk1.trans' hk2
  refine ⟨_, _, _, _, _, _, rfl, hk12, fun W2 hk3 => ?_⟩
  have hk13 := hk12.trans' hk3
  have hz1 := hk1.size
  refine (store_any (hT1.kp hk3 (fun _ _ e => e)) (h.same hk13) (fun q hq _ => by unfold recol; rw [if_neg (by have := hq.1; omega)]) hN hN1 hg).mono ?_
  intro e w2 hS
  exact ⟨_, (Go0.same hk13).go1, hS⟩
theorem AnyTo.from {col1 : Nat → Nat} {W w' : World} (hg : Go1 col w col1 W) (h : AnyTo w0 W col1 hb ab tb bb sv least sl N w') : AnyTo w0 w col hb ab tb bb sv least sl N w' := by
  obtain ⟨col', A', n', a', h1, h2⟩ := h
  exact ⟨col', A', n', a', hg.trans h1, h2⟩
theorem OrNot.from {col1 : Nat → Nat} {W w' : World} {x y : Value} (hg : Go1 col w col1 W) (h : OrNot w0 W col1 hb ab tb bb sv least sl A names N a x y w') : OrNot w0 w col hb ab tb bb sv least sl A names N a x y w' := by
  rcases h with h | ⟨h1, h2, col', A', a', h3, h4⟩
  · exact .inl h
  · exact .inr ⟨h1, h2, col', A', a', hg.trans h3, h4⟩
theorem Laid0.kp {w w' : World} (h : Laid0 w) (hk : Kp (fun _ => False) w w') : Laid0 w' := (hk.cell (World.block_lt_of_cell? _ _ h) (fun e => e)).trans h
end

theorem six_cells {W : World} {b : Nat} {c0 c1 c2 c3 c4 c5 : Value} {T : TypeId} {f : Nat × Nat} (h : W.heap[b]? = some (.cells #[c0, c1, c2, c3, c4, c5] T f)) :
    W.cell? ⟨b, 0, none⟩ = some c0 ∧ W.cell? ⟨b, 1, none⟩ = some c1 ∧ W.cell? ⟨b, 2, none⟩ = some c2 ∧ W.cell? ⟨b, 3, none⟩ = some c3 ∧ W.cell? ⟨b, 4, none⟩ = some c4 ∧ W.cell? ⟨b, 5, none⟩ = some c5 :=
  ⟨cell_of_row W b 0 _ _ _ h, cell_of_row W b 1 _ _ _ h, cell_of_row W b 2 _ _ _ h, cell_of_row W b 3 _ _ _ h, cell_of_row W b 4 _ _ _ h, cell_of_row W b 5 _ _ _ h⟩

set_option maxHeartbeats 4000000 in
set_option maxRecDepth 100000 in
theorem nothing_walk (a0 a1 : Int) (r0 : -9223372036854775808 ≤ a0 ∧ a0 ≤ 9223372036854775807) (r1 : -9223372036854775808 ≤ a1 ∧ a1 ≤ 9223372036854775807) (T0 : Tm) (m0 : Nat) (c0 c1 c2 c3 c4 c5 : Value) (T1 : Tm) (m1 : Nat) (d0 d1 d2 d3 d4 d5 : Value) (w : World)
    (h0 : TermAt (fun q => q < w.heap.size) w m0 T0 [c0, c1, c2, c3, c4, c5]) (h1 : TermAt (fun q => q < w.heap.size) w m1 T1 [d0, d1, d2, d3, d4, d5]) (hg : Laid0 w) :
    Calls Tryz.prog 5 #[.int .i64 a0, .int .i64 a1, .agg #[c0, c1, c2, c3, c4, c5], .agg #[d0, d1, d2, d3, d4, d5]] w fun e w' => e = .returned (.bool true) ∧ Kp (fun _ => False) w w' := by
  have HI := Lib.hid (And.intro h0 (And.intro h1 hg))
  obtain ⟨p, hp, hp1⟩ : ∃ p : Nat, a0 % 60 = p ∧ p < 60 := ⟨(a0 % 60).toNat, by omega, by omega⟩
  obtain ⟨r, hr, hr1⟩ : ∃ r : Nat, a1 % 30 = r ∧ r < 30 := ⟨(a1 % 30).toNat, by omega, by omega⟩
  have hP := fun W => place_any W a0 60 r0.1 r0.2 (by omega) (by omega)
  have hR := fun W => place_any W a1 30 r1.1 r1.2 (by omega) (by omega)
  have hN : ∀ W, _ := fun W => on_new W (4 + p) (2 + p) 3 r (by omega) (by omega) (by omega) (by omega) (by omega) (by omega) (by omega)
  rw [show ((4 + p : Nat) : Int) = 4 + (p : Int) by omega, show ((2 + p : Nat) : Int) = 2 + (p : Int) by omega] at hN
  simp only [hp] at hP
  simp only [hr] at hR
  have HP := Lib.hid (And.intro hP (And.intro hR hN))
  clear h0 h1 hg hP hR hN hp hr r0 r1
  go_enter Tryz.func5, Tryz.ntmps5
  go_wp2_with fail
  refine (HP.out.1 _).mono ?_
  rintro e w' ⟨rfl, rfl⟩
  go_wp2_with fail
  refine (HP.out.1 _).mono ?_
  rintro e w' ⟨rfl, rfl⟩
  go_wp2_with fail
  refine (HP.out.2.1 _).mono ?_
  rintro e w' ⟨rfl, rfl⟩
  go_wp2_with fail
  refine (HP.out.2.2 _).mono ?_
  rintro e w1 ⟨o, hb, ab, tb, bb, xb, col, rfl, q1, q2, q3⟩
  have hb0 := heap_alloc_new w (.cells #[c0, c1, c2, c3, c4, c5] 41)
  have hb1 := heap_alloc_new (w.alloc (.cells #[c0, c1, c2, c3, c4, c5] 41)) (.cells #[d0, d1, d2, d3, d4, d5] 41)
  rw [World.size_alloc] at hb1
  have hb0' := (Below.heap_alloc (w.alloc (.cells #[c0, c1, c2, c3, c4, c5] 41)) (.cells #[d0, d1, d2, d3, d4, d5] 41) w.heap.size (by simp)).trans hb0
  have hkW : Kp (fun _ => False) w ((w.alloc (.cells #[c0, c1, c2, c3, c4, c5] 41)).alloc (.cells #[d0, d1, d2, d3, d4, d5] 41)) := ((Kp.refl _ w).alloc _).alloc _
  obtain ⟨W0, hW0⟩ : ∃ W, (w.alloc (.cells #[c0, c1, c2, c3, c4, c5] 41)).alloc (.cells #[d0, d1, d2, d3, d4, d5] 41) = W := ⟨_, rfl⟩
  rw [hW0] at hb0' hb1 hkW q1 q3
  have Hb := Lib.hid (And.intro hb0' (And.intro hb1 (And.intro hkW (HI.out.2.2.kp hkW))))
  have hcs := copy_store q3 (HI.out.1.kp (hkW.trans' q3.kp) (fun _ _ e => e)) (by omega) (by omega) Hb.out.2.2.2
  have e0 := cell_of q1.box 0
  obtain ⟨z0, z1, z2, z3, z4, z5⟩ := six_cells ((q3.kp.block _ (Array.getElem?_eq_some_iff.1 hb0').1 (fun e => e)).trans hb0')
  have H1 := Lib.hid (And.intro hcs (And.intro (BoxAt.mk q1.box q2) q3))
  clear hb0 hb1 hb0' hkW hW0 hcs q1 q2 q3
  go_upto_region 6 with (fail)
  go_cut [] (fun wx => AnyTo W0 w1 col hb ab tb bb (.slice none 0 0) 0 [] 1 wx)
  case first =>
    go_region_with (first
      | (go_at_call 29; refine (H1.out.1 _ (by first | exact Kp.refl _ _ | exact kp_drewN _ _ _ | exact (Kp.refl _ _).drew)).mono ?_; rintro e w2 ⟨y0, y1, y2, y3, y4, y5, rfl, hk2, hst⟩; have e0b := (hk2.cell (World.block_lt_of_cell? _ _ e0) (fun e => e)).trans e0; have Hst := Lib.hid hst; clear hst)
      | (go_at_call 14; refine (Hst.out _ (by first | exact Kp.refl _ _ | exact kp_drewN _ _ _ | exact (Kp.refl _ _).drew)).mono ?_; rintro e w3 ⟨col1, hg1, hS⟩; obtain ⟨x, y, rfl, hA⟩ := hS.any; have HA := Lib.hid (hA.from hg1); clear hA hg1 hS))
    all_goals (first | (go_wp2_with fail; go_meet; exact HA.out) | (simp [Act.put]; go_wp2_with fail; go_meet; exact HA.out))
  case rest =>
    obtain ⟨col1, A1, names1, a1, g1, s1⟩ := hcut
    have bx1 := H1.out.2.1.go g1
    have e1 := cell_of bx1.box 0
    have e2 := cell_of bx1.box 2
    have e3 := s1.hr.cells.1
    have Ha := Lib.hid (And.intro bx1 s1)
    clear bx1 s1 g1 e0 z0 z1 z2 z3 z4 z5
    go_wp2_with fail
    refine (arUsed_any Ha.out.2.ar.rep).mono ?_
    rintro e w' ⟨rfl, rfl⟩
    go_wp2_with fail
    refine (blocks_any Ha.out.2.ar.rep Ha.out.2.ar.lens.1).mono ?_
    rintro e w2 ⟨v1, rfl, hrow1, hk2⟩
    have gg2 := (Go0.same (col := col1) hk2).go1
    have s2 := Ha.out.2.same hk2
    have bx2 := Ha.out.1.go gg2
    have r2 : IntsAt w2 (recol col1 wc 0) v1 (A1.names.map fun (x : Nat) => Value.int .i64 x) := IntsAt.new (by rw [List.length_map]; exact hrow1)
    obtain ⟨col2, hcol2⟩ : ∃ c, recol col1 wc 0 = c := ⟨_, rfl⟩
    rw [hcol2] at s2 bx2 r2
    have e1' := cell_of bx2.box 0
    have e2' := cell_of bx2.box 2
    have Hb2 := Lib.hid (And.intro bx2 (And.intro s2 r2))
    clear s2 bx2 r2 gg2 hrow1 hk2 hcol2 e1 e2 e3 Ha
    go_wp2_with fail
    obtain ⟨ss, fs, ps, hB⟩ := Hb2.out.2.1.bn
    refine (handles_any hB (by have := Hb2.out.2.1.bi.len; have := Hb2.out.2.1.bi.most; omega) (fun i s hs => by have := Hb2.out.2.1.bi.bd i s hs; omega)).mono ?_
    rintro e w3 ⟨v2, rfl, hrow2, hk3⟩
    have gg3 := (Go0.same (col := col2) hk3).go1
    have s3 := Hb2.out.2.1.same hk3
    have bx3 := Hb2.out.1.go gg3
    have r3 := Hb2.out.2.2.go gg3
    have t3 : IntsAt w3 (recol col2 w2 0) v2 (ints a1.held) := IntsAt.new (by rw [ints_len]; exact hrow2)
    obtain ⟨col3, hcol3⟩ : ∃ c, recol col2 w2 0 = c := ⟨_, rfl⟩
    rw [hcol3] at s3 bx3 r3 t3
    have e1 := cell_of bx3.box 0
    have e2 := cell_of bx3.box 2
    have hcs := copy_store s3 (HI.out.2.1.kp (Hb.out.2.2.1.trans' s3.kp) (fun _ _ e => e)) (by omega) (by omega) Hb.out.2.2.2
    obtain ⟨z0, z1, z2, z3, z4, z5⟩ := six_cells ((s3.kp.block _ (Array.getElem?_eq_some_iff.1 Hb.out.2.1).1 (fun e => e)).trans Hb.out.2.1)
    have Hc := Lib.hid (And.intro bx3 (And.intro s3 (And.intro r3 (And.intro t3 hcs))))
    clear s3 bx3 r3 t3 gg3 hrow2 hk3 hcol3 hcs e1' e2' hB Hb2
    obtain ⟨ss3, fs3, ps3, hB3⟩ := Hc.out.2.1.bn
    have Hu := Lib.hid (used_any hB3)
    clear hB3
    go_wp2_with fail
    refine Hu.out.mono ?_
    rintro e w' ⟨rfl, rfl⟩
    go_upto_region 11 with (fail)
    go_cut [15, 16] (fun s15 s16 wx => OrNot W0 w3 col3 hb ab tb bb (.slice none 0 0) 0 [] A1 names1 (1 + 3000000) a1 s15 s16 wx)
    case first =>
      go_region_with (first
        | (go_at_call 29; refine (Hc.out.2.2.2.2 _ (by first | exact Kp.refl _ _ | exact kp_drewN _ _ _ | exact (Kp.refl _ _).drew)).mono ?_; rintro e w4 ⟨y0, y1, y2, y3, y4, y5, rfl, hk2, hst⟩; have e0b := (hk2.cell (World.block_lt_of_cell? _ _ e1) (fun e => e)).trans e1; have Hst := Lib.hid hst; clear hst)
        | (go_at_call 14; refine (Hst.out _ (by first | exact Kp.refl _ _ | exact kp_drewN _ _ _ | exact (Kp.refl _ _).drew)).mono ?_; rintro e w5 ⟨col4, hg1, hS⟩; obtain ⟨x, y, rfl, hA⟩ := hS.orNot; have HA := Lib.hid (hA.from hg1); clear hA hg1 hS))
      all_goals (first | (go_wp2_with fail; go_meet; exact HA.out) | (simp [Act.put]; go_wp2_with fail; go_meet; exact HA.out))
    case rest =>
      rcases hcut with ⟨rfl, ⟨n, rfl⟩, hk⟩ | ⟨rfl, ⟨g, rfl⟩, col4, A4, a4, g4, al, bl, s4⟩
      · have hkw := Hb.out.2.2.1.trans' hk
        have Hk := Lib.hid (And.intro hkw (Hb.out.2.2.2.kp hk))
        clear hk hkw e1 e2 z0 z1 z2 z3 z4 z5
        go_wp2_with (go_at_call 22; refine (hpAwake_any _ Hk.out.2).mono ?_; rintro e w6 ⟨rfl, hk6⟩)
        go_ret
        exact ⟨rfl, Hk.out.1.trans' hk6⟩
      · have hkw := Hb.out.2.2.1.trans' s4.kp
        have bx4 := Hc.out.1.go g4
        have r4 := (Hc.out.2.2.1.go g4).row
        have t4 := (Hc.out.2.2.2.1.go g4).row
        rw [List.length_map] at r4
        rw [ints_len] at t4
        have hnm : A4.names = A1.names := al.names Hc.out.2.1.ar.inv s4.ar.inv
        have hhd : a4.held = a1.held := bl.held
        have hlen : A1.names.length ≤ 1048576 := by
          have h1 := namesTo_len A1.taken A1.taken.length
          have h2 := Hc.out.2.1.ar.lens.1
          unfold Ar.names
          omega
        have hlen2 : a1.held.length ≤ 1048576 := by
          have h1 := heldN_le a1.slots a1.slots.length
          have h2 := Hc.out.2.1.bi.len
          have h3 := Hc.out.2.1.bi.most
          unfold Bn.held
          omega
        have hU : Calls Tryz.prog 27 #[.pointer (some ⟨ab, 0, none⟩)] wc fun e w' => e = .returned (.int .i64 A1.used) ∧ wc = w' := by
          have := arUsed_any s4.ar.rep
          rw [al.used] at this
          exact this
        have hBl : Calls Tryz.prog 20 #[.pointer (some ⟨ab, 0, none⟩)] wc fun e w' => ∃ v, e = .returned v ∧ w'.ownsRow 0 3 1 v A1.names.length (A1.names.map fun (x : Nat) => Value.int .i64 x) ∧ Kp (fun _ => False) wc w' := by
          refine (blocks_any s4.ar.rep s4.ar.lens.1).mono ?_
          rintro e w5 ⟨v, rfl, h1, h2⟩
          rw [hnm] at h1
          exact ⟨v, rfl, h1.mono (Nat.zero_le _), h2⟩
        have hS1 : ∀ W v, Kp (fun _ => False) wc W → W.ownsRow 0 3 1 v A1.names.length (A1.names.map fun (x : Nat) => Value.int .i64 x) → Calls Tryz.prog 31 #[v, v1] W fun e w' => e = .returned (.bool true) ∧ Kp (fun _ => False) wc w' := fun W v hk h5 => by
          have hmap : (A1.names.map fun (x : Nat) => Value.int .i64 x) = (A1.names.map fun (x : Nat) => (x : Int)).map (Value.int .i64) := by rw [List.map_map]; rfl
          have h6 := hk.row r4 (fun _ _ e => e)
          rw [hmap] at h5 h6
          have hl : (A1.names.map fun (x : Nat) => (x : Int)).length = A1.names.length := List.length_map _
          rw [← hl] at h5 h6
          refine (sameInts_any _ v v1 W 0 (by rw [hl]; exact hlen) h5 h6).mono ?_
          rintro e w' ⟨rfl, h7⟩
          exact ⟨rfl, hk.trans' h7⟩
        have hH : ∀ W, Kp (fun _ => False) wc W → Calls Tryz.prog 30 #[.pointer (some ⟨bb, 0, none⟩)] W fun e w' => ∃ v, e = .returned v ∧ w'.ownsRow 0 3 1 v a1.held.length (ints a1.held) ∧ Kp (fun _ => False) wc w' := fun W hk => by
          have s5 := s4.same hk
          obtain ⟨ss, fs, ps, hB⟩ := s5.bn
          refine (handles_any hB (by have := s5.bi.len; have := s5.bi.most; omega) (fun i s hs => by have := s5.bi.bd i s hs; omega)).mono ?_
          rintro e w5 ⟨v, rfl, h1, h2⟩
          rw [hhd] at h1
          exact ⟨v, rfl, h1.mono (Nat.zero_le _), hk.trans' h2⟩
        have hS2 : ∀ W v, Kp (fun _ => False) wc W → W.ownsRow 0 3 1 v a1.held.length (ints a1.held) → Calls Tryz.prog 31 #[v, v2] W fun e w' => e = .returned (.bool true) ∧ Kp (fun _ => False) wc w' := fun W v hk h5 => by
          refine (sameInts_any _ v v2 W 0 hlen2 h5 (hk.row t4 (fun _ _ e => e))).mono ?_
          rintro e w' ⟨rfl, h7⟩
          exact ⟨rfl, hk.trans' h7⟩
        have hU2 : ∀ W, Kp (fun _ => False) wc W → Calls Tryz.prog 25 #[.pointer (some ⟨bb, 0, none⟩)] W fun e w' => e = .returned (.int .i64 a1.used) ∧ W = w' := fun W hk => by
          obtain ⟨ss, fs, ps, hB⟩ := (s4.same hk).bn
          have := used_any hB
          rw [bl.used] at this
          exact this
        have hA : ∀ W, Kp (fun _ => False) wc W → Calls Tryz.prog 22 #[] W fun e w' => e = .returned (.bool true) ∧ Kp (fun _ => False) w w' := fun W hk => by
          refine (hpAwake_any W ((Hb.out.2.2.2.kp s4.kp).kp hk)).mono ?_
          rintro e w' ⟨rfl, h1⟩
          exact ⟨rfl, (hkw.trans' hk).trans' h1⟩
        have e3 := s4.hr.cells.1
        have e0 := cell_of bx4.box 0
        have e2w := cell_of bx4.box 2
        have HF := Lib.hid (And.intro hU (And.intro hBl (And.intro hS1 (And.intro hH (And.intro hS2 (And.intro hU2 hA))))))
        clear hU hBl hS1 hH hS2 hU2 hA hkw bx4 r4 t4 hnm hhd hlen hlen2 al bl s4 g4 e1 e2 z0 z1 z2 z3 z4 z5 Hc Hu
        go_wp2_with (first
          | (go_at_call 27; refine HF.out.1.mono ?_; rintro e w' ⟨rfl, rfl⟩)
          | (go_at_call 20; refine HF.out.2.1.mono ?_; rintro e w5 ⟨v5, rfl, hr5, hk5⟩; have H5 := Lib.hid (And.intro hr5 hk5); clear hr5 hk5)
          | (go_at_call 31; refine (HF.out.2.2.2.2.1 _ _ H7.out.2 H7.out.1).mono ?_; rintro e w8 ⟨rfl, hk8⟩; have e28 := (hk8.cell (World.block_lt_of_cell? _ _ e2w) (fun e => e)).trans e2w; have H8 := Lib.hid hk8; clear hk8)
          | (go_at_call 31; refine (HF.out.2.2.1 _ _ H5.out.2 H5.out.1).mono ?_; rintro e w6 ⟨rfl, hk6⟩; have e26 := (hk6.cell (World.block_lt_of_cell? _ _ e2w) (fun e => e)).trans e2w; have H6 := Lib.hid hk6; clear hk6)
          | (go_at_call 30; refine (HF.out.2.2.2.1 _ H6.out).mono ?_; rintro e w7 ⟨v7, rfl, hr7, hk7⟩; have H7 := Lib.hid (And.intro hr7 hk7); clear hr7 hk7)
          | (go_at_call 25; refine (HF.out.2.2.2.2.2.1 _ H8.out).mono ?_; rintro e w' ⟨rfl, rfl⟩)
          | (go_at_call 22; refine (HF.out.2.2.2.2.2.2 _ H8.out).mono ?_; rintro e w9 ⟨rfl, hk9⟩; have H9 := Lib.hid hk9; clear hk9))
        go_ret
        exact ⟨rfl, H9.out⟩
end Go.Proofs.YtkcmfldcdokobaaGreatDoor
